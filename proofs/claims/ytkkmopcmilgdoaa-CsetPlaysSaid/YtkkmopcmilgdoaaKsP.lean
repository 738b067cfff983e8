/- The document's own Put: a count more in a list: contracts.
   Conditions: the list is in memory, and short. -/
import Derived.Test.YtkkmopcmilgdoaaKsW
import Derived.Deep.AppendLies
import Derived.WalkSmall
import Derived.Deep.RegionLaw
namespace Go.Proofs.Ytkkmopcmilgdoaa
open Go.RowKit

/-- Numbers as values. -/
abbrev vals (l : List Int) : List Value := l.map (Value.int .i64)
/-- A list that the call made itself. -/
abbrev OwnI (w : World) (H : Nat) (v : Value) (l : List Int) : Prop := w.ownsRow H 2 1 v l.length (vals l)
theorem OwnI.row {w : World} {H : Nat} {v : Value} {l : List Int} (h : OwnI w H v l) : RowI w (fun k => H ≤ k) v l := by
  by_cases hl : 0 < l.length
  · obtain ⟨g, cap, hv, _, hg⟩ := World.ownsRow.form h hl
    refine ⟨_, cap, hv, fun i x hi => ⟨g, rfl, ?_, hg, ?_⟩⟩
    · exact (World.ownsRow.lt h g (by rw [hv]; rfl)).1
    · subst hv
      have hil := (List.getElem?_eq_some_iff.1 hi).1
      have h := World.ownsRow.cellAt h i (by simpa using hil)
      rw [h, List.getElem?_map, hi]
      rfl
  · obtain rfl : l = [] := List.length_eq_zero_iff.1 (by omega)
    rcases h.2 with ⟨h1, _⟩ | ⟨g, cap, cur, hv, _⟩
    · exact ⟨none, 0, h1, fun i x hi => by simp at hi⟩
    · exact ⟨some ⟨g, 0, none⟩, cap, hv, fun i x hi => by simp at hi⟩
theorem infoI64 : (Try.prog.info? 2).map (fun i => (i.zero, i.size, i.bytes)) = some (some (.int .i64 0), 1, 8) := by kernel_rfl
/-- One number of the list. -/
def pS (n : Int) (s : List Int × Bool) (x : Int) : List Int × Bool :=
  let a := if s.2 = false ∧ n ≤ x then (s.1 ++ [n], true) else s
  if x = n then a else (a.1 ++ [x], a.2)
def pF (n : Int) (l : List Int) : List Int × Bool := l.foldl (pS n) ([], false)
/-- The list with one more. -/
def pR (l : List Int) (n : Int) : List Int := if (pF n l).2 then (pF n l).1 else (pF n l).1 ++ [n]
/-- Ahead of a round of Put. -/
def PtI (w : World) (l : List Int) (n : Int) (q : Nat) (o d i : Value) (wr : World) : Prop :=
  ∃ (k : Nat) (c : List Int) (b : Bool), o = o ∧ d = .bool b ∧ i = .int .i64 (k : Int) ∧ q = l.length - k ∧ k ≤ l.length ∧ c.length ≤ k + b.toNat ∧ pF n (l.take k) = (c, b) ∧ OwnI wr w.heap.size o c ∧ Below w.heap.size w wr

theorem own_formI {w : World} {base : Nat} {e : TypeId} {size : Nat} {v : Value} {n : Nat} {xs : List Value} (h : w.ownsRow base e size v n xs) : ∃ A cp, v = .slice A n cp := by
  rcases h.2 with ⟨rfl, rfl⟩ | ⟨g, cap, cur, rfl, _⟩
  · exact ⟨none, 0, rfl⟩
  · exact ⟨_, _, rfl⟩
theorem own_push {w wr w2 : World} {H g cap : Nat} {x : Int} {acc : List Int} {v : Value} {o : Obj} (hown : OwnI wr H v acc) (hb : Below H w wr) (hH : H ≤ wr.heap.size) (h : w2.ownsRow H 2 1 (.slice (some ⟨g, 0, none⟩) (acc.length + 1) cap) (acc.length + 1) (vals acc ++ [.int .i64 x])) (hgrow : (wr.alloc o).grownBy w2 v.ownBlock) :
    OwnI w2 H (.slice (some ⟨g, 0, none⟩) (acc.length + 1) cap) (acc ++ [x]) ∧ Below H w w2 := by
  refine ⟨by show w2.ownsRow _ _ _ _ _ _; rw [List.length_append, vals, List.map_append]; exact h, ?_⟩
  have hc : Chg (fun k => H ≤ k) wr w2 := ((Chg.refl (fun k => H ≤ k) wr).alloc o).grown hgrow (fun k hk _ => (World.ownsRow.lt hown k hk).1)
  exact hb.trans (hc.below hH fun k hk e => by omega)
theorem pF_snoc {n x : Int} {l : List Int} {k : Nat} (h : l[k]? = some x) : pF n (l.take (k + 1)) = pS n (pF n (l.take k)) x := by
  unfold pF
  rw [List.take_add_one, h, List.foldl_append]
  rfl

set_option maxHeartbeats 8000000 in
set_option maxRecDepth 100000 in
theorem putR_any (w : World) (G : Nat → Prop) (v : Value) (l : List Int) (n : Int) (h : RowI w G v l) (hL : l.length < 1000000) :
    Calls Try.prog 29 #[v, .int .i64 n] w fun e w' => ∃ v', e = .returned v' ∧ OwnI w' w.heap.size v' (pR l n) ∧ Below w.heap.size w w' := by
  obtain ⟨A, c, rfl, hrow⟩ := h
  have HR := Lib.hid hrow
  have HLL := Lib.hid hL
  have hl0 : (0 : Int) ≤ (l.length : Int) := by omega
  obtain ⟨j0, hj0, hy0, hy1, hy2⟩ := info_parts infoI64
  clear hrow
  go_enter Try.func29, Try.ntmps29
  go_wp2_with fail
  go_loopw [5, 6, 7] (fun o d i wr => ∃ q, PtI w l n q o d i wr) (fun o d i wr => leastOf (fun q => PtI w l n q o d i wr))
  case atStart => exact ⟨_, 0, [], false, rfl, rfl, rfl, rfl, by omega, by simp, rfl, World.ownsRow_nil _ _ _ _, Below.refl _ _⟩
  case round =>
    have hls := (leastOf_spec hrel).1
    obtain ⟨k, acc, b, _, rfl, rfl, hq, hk, hacc, hf, hown, hb⟩ := hls
    have HQ := Lib.hid hq
    clear hrel hq
    obtain ⟨oA, oc, rfl⟩ := own_formI hown
    by_cases hlt : k < l.length
    · obtain ⟨x, hx0⟩ : ∃ x, l[k]? = some x := ⟨_, List.getElem?_eq_getElem hlt⟩
      obtain ⟨g, rfl, _, hg, hcell⟩ := HR.out k x hx0
      have hgr : g < wr.heap.size := by have := hb.size; omega
      have hcell' : wr.cell? ⟨g, k, none⟩ = some (.int .i64 x) := (hb.cell (p := ⟨g, k, none⟩) hg).trans hcell
      have HC := Lib.hid hcell
      have t1 : (0 : Int) ≤ (k : Int) := by omega
      have t2 : (k : Int) < (l.length : Int) := by omega
      have wk : IntKind.i64.wrap ((k : Int) + 1) = (k : Int) + 1 := by rw [IntKind.wrap_i64]; omega
      have HI := Lib.hid (And.intro hown (And.intro hb (And.intro hacc (And.intro hf (show k + 1 ≤ l.length from hlt)))))
      clear hown hb hacc hf hk hcell hlt
      by_cases hp : b = false ∧ n ≤ x
      · -- put now
        have g1 : n ≤ x := hp.2
        obtain rfl : b = false := hp.1
        by_cases he : x = n
        · have he' : (x != n) = false := by simp [he]
          go_wp2_with ((at_builtin; refine wpList_append_lies _ (by rfl) _ _ 32 (by rfl) w.heap.size 2 j0 _ 1 8 Try.underlying32 hj0 hy0 hy1 hy2 rfl (by decide) (.slice oA acc.length oc) (acc).length (vals (acc)) (by rfl) (World.ownsRow.alloc HI.out.1 _) ⟨(wr).heap.size, 0, none⟩ 1 1 [.int .i64 n] (by rfl) rfl (World.news_of_block (heap_alloc_new (wr) _)) (by simp [Value.oneCell']) (by decide) ?c31 ?c41 ?c51 _ rfl ?_))
          case c31 =>
            have h1 := HLL.out
            have h2 := HI.out.2.2.1
            try simp at h2
            unfold maxLen
            try simp only [List.length_append, List.length_singleton]
            omega
          case c41 =>
            have h1 := HLL.out
            have h2 := HI.out.2.2.1
            try simp at h2
            try simp only [List.length_append, List.length_singleton]
            omega
          case c51 =>
            have h1 := (HI.out.2.1).size
            simp
            omega
          intro gA cpA wA hown2 hgrow _ _
          have HA := Lib.hid (own_push HI.out.1 HI.out.2.1 (HI.out.2.1).size (x := n) (by simpa using hown2) hgrow)
          have hcA := (HA.out.2.cell (p := ⟨g, k, none⟩) hg).trans HC.out
          have hgA : g < wA.heap.size := by
            have := HA.out.2.size
            omega
          clear hown2 hgrow
          go_wp2_with fail
          have HP := Lib.hid (show PtI w l n (l.length - (k + 1)) (.slice (some ⟨gA, 0, none⟩) (acc.length + 1) cpA) (.bool true) (.int .i64 ((k : Int) + 1)) wA from ⟨k + 1, acc ++ [n], true, rfl, rfl, by push_cast; rfl, rfl, HI.out.2.2.2.2, by have := HI.out.2.2.1; simp at this ⊢; omega, by rw [pF_snoc hx0, HI.out.2.2.2.1]; simp [pS, he], HA.out.1, HA.out.2⟩)
          go_roundw
          case rel => exact ⟨_, HP.out⟩
          case measure =>
            rw [HQ.out]
            exact Nat.lt_of_le_of_lt ((leastOf_spec ⟨_, HP.out⟩).2 _ HP.out) (by have := HI.out.2.2.2.2; omega)
        · have he' : (x != n) = true := by simp [he]
          go_wp2_with ((at_builtin; refine wpList_append_lies _ (by rfl) _ _ 32 (by rfl) w.heap.size 2 j0 _ 1 8 Try.underlying32 hj0 hy0 hy1 hy2 rfl (by decide) (.slice oA acc.length oc) (acc).length (vals (acc)) (by rfl) (World.ownsRow.alloc HI.out.1 _) ⟨(wr).heap.size, 0, none⟩ 1 1 [.int .i64 n] (by rfl) rfl (World.news_of_block (heap_alloc_new (wr) _)) (by simp [Value.oneCell']) (by decide) ?c32 ?c42 ?c52 _ rfl ?_))
          case c32 =>
            have h1 := HLL.out
            have h2 := HI.out.2.2.1
            try simp at h2
            unfold maxLen
            try simp only [List.length_append, List.length_singleton]
            omega
          case c42 =>
            have h1 := HLL.out
            have h2 := HI.out.2.2.1
            try simp at h2
            try simp only [List.length_append, List.length_singleton]
            omega
          case c52 =>
            have h1 := (HI.out.2.1).size
            simp
            omega
          intro gA cpA wA hown2 hgrow _ _
          have HA := Lib.hid (own_push HI.out.1 HI.out.2.1 (HI.out.2.1).size (x := n) (by simpa using hown2) hgrow)
          have hcA := (HA.out.2.cell (p := ⟨g, k, none⟩) hg).trans HC.out
          have hgA : g < wA.heap.size := by
            have := HA.out.2.size
            omega
          clear hown2 hgrow
          go_wp2_with ((at_builtin; refine wpList_append_lies _ (by rfl) _ _ 32 (by rfl) w.heap.size 2 j0 _ 1 8 Try.underlying32 hj0 hy0 hy1 hy2 rfl (by decide) (.slice (some ⟨gA, 0, none⟩) (acc.length + 1) cpA) (acc ++ [n]).length (vals (acc ++ [n])) (by rfl) (World.ownsRow.alloc HA.out.1 _) ⟨(wA).heap.size, 0, none⟩ 1 1 [.int .i64 x] (by rfl) rfl (World.news_of_block (heap_alloc_new (wA) _)) (by simp [Value.oneCell']) (by decide) ?c33 ?c43 ?c53 _ rfl ?_))
          case c33 =>
            have h1 := HLL.out
            have h2 := HI.out.2.2.1
            try simp at h2
            unfold maxLen
            try simp only [List.length_append, List.length_singleton]
            omega
          case c43 =>
            have h1 := HLL.out
            have h2 := HI.out.2.2.1
            try simp at h2
            try simp only [List.length_append, List.length_singleton]
            omega
          case c53 =>
            have h1 := (HA.out.2).size
            simp
            omega
          intro gB cpB wB hown2 hgrow _ _
          have HB := Lib.hid (own_push HA.out.1 HA.out.2 (HA.out.2).size (x := x) (by simpa using hown2) hgrow)
          have hcB := (HB.out.2.cell (p := ⟨g, k, none⟩) hg).trans HC.out
          have hgB : g < wB.heap.size := by
            have := HB.out.2.size
            omega
          clear hown2 hgrow
          go_wp2_with fail
          have HP := Lib.hid (show PtI w l n (l.length - (k + 1)) (.slice (some ⟨gB, 0, none⟩) (acc.length + 1 + 1) cpB) (.bool true) (.int .i64 ((k : Int) + 1)) wB from ⟨k + 1, acc ++ [n] ++ [x], true, rfl, rfl, by push_cast; rfl, rfl, HI.out.2.2.2.2, by have := HI.out.2.2.1; simp at this ⊢; omega, by rw [pF_snoc hx0, HI.out.2.2.2.1]; simp [pS, he, g1], (by simpa using HB.out.1), HB.out.2⟩)
          go_roundw
          case rel => exact ⟨_, HP.out⟩
          case measure =>
            rw [HQ.out]
            exact Nat.lt_of_le_of_lt ((leastOf_spec ⟨_, HP.out⟩).2 _ HP.out) (by have := HI.out.2.2.2.2; omega)
      · by_cases he : x = n
        · have hbt : b = true := by
            cases b with
            | true => rfl
            | false => exact absurd ⟨rfl, by omega⟩ hp
          subst hbt
          have he' : (x != n) = false := by simp [he]
          go_wp2_with fail
          have HP := Lib.hid (show PtI w l n (l.length - (k + 1)) (.slice oA acc.length oc) (.bool true) (.int .i64 ((k : Int) + 1)) wr from ⟨k + 1, acc, true, rfl, rfl, by push_cast; rfl, rfl, HI.out.2.2.2.2, by have := HI.out.2.2.1; simp at this ⊢; omega, by rw [pF_snoc hx0, HI.out.2.2.2.1]; simp [pS, he], HI.out.1, HI.out.2.1⟩)
          go_roundw
          case rel => exact ⟨_, HP.out⟩
          case measure =>
            rw [HQ.out]
            exact Nat.lt_of_le_of_lt ((leastOf_spec ⟨_, HP.out⟩).2 _ HP.out) (by have := HI.out.2.2.2.2; omega)
        · have he' : (x != n) = true := by simp [he]
          cases b with
          | true =>
            go_wp2_with ((at_builtin; refine wpList_append_lies _ (by rfl) _ _ 32 (by rfl) w.heap.size 2 j0 _ 1 8 Try.underlying32 hj0 hy0 hy1 hy2 rfl (by decide) (.slice oA acc.length oc) (acc).length (vals (acc)) (by rfl) (World.ownsRow.alloc HI.out.1 _) ⟨(wr).heap.size, 0, none⟩ 1 1 [.int .i64 x] (by rfl) rfl (World.news_of_block (heap_alloc_new (wr) _)) (by simp [Value.oneCell']) (by decide) ?c34 ?c44 ?c54 _ rfl ?_))
            case c34 =>
              have h1 := HLL.out
              have h2 := HI.out.2.2.1
              try simp at h2
              unfold maxLen
              try simp only [List.length_append, List.length_singleton]
              omega
            case c44 =>
              have h1 := HLL.out
              have h2 := HI.out.2.2.1
              try simp at h2
              try simp only [List.length_append, List.length_singleton]
              omega
            case c54 =>
              have h1 := (HI.out.2.1).size
              simp
              omega
            intro gB cpB wB hown2 hgrow _ _
            have HB := Lib.hid (own_push HI.out.1 HI.out.2.1 (HI.out.2.1).size (x := x) (by simpa using hown2) hgrow)
            have hcB := (HB.out.2.cell (p := ⟨g, k, none⟩) hg).trans HC.out
            have hgB : g < wB.heap.size := by
              have := HB.out.2.size
              omega
            clear hown2 hgrow
            go_wp2_with fail
            have HP := Lib.hid (show PtI w l n (l.length - (k + 1)) (.slice (some ⟨gB, 0, none⟩) (acc.length + 1) cpB) (.bool true) (.int .i64 ((k : Int) + 1)) wB from ⟨k + 1, acc ++ [x], true, rfl, rfl, by push_cast; rfl, rfl, HI.out.2.2.2.2, by have := HI.out.2.2.1; simp at this ⊢; omega, by rw [pF_snoc hx0, HI.out.2.2.2.1]; simp [pS, he], (by simpa using HB.out.1), HB.out.2⟩)
            go_roundw
            case rel => exact ⟨_, HP.out⟩
            case measure =>
              rw [HQ.out]
              exact Nat.lt_of_le_of_lt ((leastOf_spec ⟨_, HP.out⟩).2 _ HP.out) (by have := HI.out.2.2.2.2; omega)
          | false =>
            have g1 : ¬ n ≤ x := fun h => hp ⟨rfl, h⟩
            go_wp2_with ((at_builtin; refine wpList_append_lies _ (by rfl) _ _ 32 (by rfl) w.heap.size 2 j0 _ 1 8 Try.underlying32 hj0 hy0 hy1 hy2 rfl (by decide) (.slice oA acc.length oc) (acc).length (vals (acc)) (by rfl) (World.ownsRow.alloc HI.out.1 _) ⟨(wr).heap.size, 0, none⟩ 1 1 [.int .i64 x] (by rfl) rfl (World.news_of_block (heap_alloc_new (wr) _)) (by simp [Value.oneCell']) (by decide) ?c35 ?c45 ?c55 _ rfl ?_))
            case c35 =>
              have h1 := HLL.out
              have h2 := HI.out.2.2.1
              try simp at h2
              unfold maxLen
              try simp only [List.length_append, List.length_singleton]
              omega
            case c45 =>
              have h1 := HLL.out
              have h2 := HI.out.2.2.1
              try simp at h2
              try simp only [List.length_append, List.length_singleton]
              omega
            case c55 =>
              have h1 := (HI.out.2.1).size
              simp
              omega
            intro gB cpB wB hown2 hgrow _ _
            have HB := Lib.hid (own_push HI.out.1 HI.out.2.1 (HI.out.2.1).size (x := x) (by simpa using hown2) hgrow)
            have hcB := (HB.out.2.cell (p := ⟨g, k, none⟩) hg).trans HC.out
            have hgB : g < wB.heap.size := by
              have := HB.out.2.size
              omega
            clear hown2 hgrow
            go_wp2_with fail
            have HP := Lib.hid (show PtI w l n (l.length - (k + 1)) (.slice (some ⟨gB, 0, none⟩) (acc.length + 1) cpB) (.bool false) (.int .i64 ((k : Int) + 1)) wB from ⟨k + 1, acc ++ [x], false, rfl, rfl, by push_cast; rfl, rfl, HI.out.2.2.2.2, by have := HI.out.2.2.1; simp at this ⊢; omega, by rw [pF_snoc hx0, HI.out.2.2.2.1]; simp only [pS]; rw [if_neg he, if_neg (fun h => absurd h.2 (by omega))], (by simpa using HB.out.1), HB.out.2⟩)
            go_roundw
            case rel => exact ⟨_, HP.out⟩
            case measure =>
              rw [HQ.out]
              exact Nat.lt_of_le_of_lt ((leastOf_spec ⟨_, HP.out⟩).2 _ HP.out) (by have := HI.out.2.2.2.2; omega)
    · have t1 : (0 : Int) ≤ (k : Int) := by omega
      have t2 : ¬ (k : Int) < (l.length : Int) := by omega
      obtain rfl : k = l.length := by omega
      rw [List.take_length] at hf
      have HI := Lib.hid (And.intro hown (And.intro hb (And.intro hacc hf)))
      clear hown hb hacc hf
      cases b with
      | true =>
        go_wp2_with fail
        go_ret
        refine ⟨_, rfl, ?_, HI.out.2.1⟩
        rw [pR, HI.out.2.2.2]
        exact HI.out.1
      | false =>
        go_wp2_with ((at_builtin; refine wpList_append_lies _ (by rfl) _ _ 32 (by rfl) w.heap.size 2 j0 _ 1 8 Try.underlying32 hj0 hy0 hy1 hy2 rfl (by decide) (.slice oA acc.length oc) (acc).length (vals (acc)) (by rfl) (World.ownsRow.alloc HI.out.1 _) ⟨(wr).heap.size, 0, none⟩ 1 1 [.int .i64 n] (by rfl) rfl (World.news_of_block (heap_alloc_new (wr) _)) (by simp [Value.oneCell']) (by decide) ?c36 ?c46 ?c56 _ rfl ?_))
        case c36 =>
          have h1 := HLL.out
          have h2 := HI.out.2.2.1
          try simp at h2
          unfold maxLen
          try simp only [List.length_append, List.length_singleton]
          omega
        case c46 =>
          have h1 := HLL.out
          have h2 := HI.out.2.2.1
          try simp at h2
          try simp only [List.length_append, List.length_singleton]
          omega
        case c56 =>
          have h1 := (HI.out.2.1).size
          simp
          omega
        intro gA cpA wA hown2 hgrow _ _
        have HA := Lib.hid (own_push HI.out.1 HI.out.2.1 (HI.out.2.1).size (x := n) (by simpa using hown2) hgrow)
        clear hown2 hgrow
        go_wp2_with fail
        go_ret
        refine ⟨_, rfl, ?_, HA.out.2⟩
        rw [pR, HI.out.2.2.2]
        exact HA.out.1

end Go.Proofs.Ytkkmopcmilgdoaa
