/- What the document's Pack comes to: a contract.
   Conditions: the word lies in memory. -/
import Derived.Test.YtgdblnppeeknpaaDoorRnM
namespace Go.Proofs.YtgdblnppeeknpaaDoor
open Go.RowKit

/-- A word in memory. -/
def BytW (w : World) (v : Value) (l : List Nat) : Prop :=
  ∃ A c, v = .slice A l.length c ∧ ∀ (i x : Nat), l[i]? = some x → x < 256 ∧ ∃ g o, A = some ⟨g, o, none⟩ ∧ g < w.heap.size ∧ w.cell? ⟨g, o + i, none⟩ = some (.int .u8 (x : Int))
theorem own_keep {w w' : World} {base : Nat} {e : TypeId} {size n : Nat} {v : Value} {xs : List Value} (h : w.ownsRow base e size v n xs) (hb : Below w.heap.size w w') : w'.ownsRow base e size v n xs :=
  h.kept (w' := w') (row := none) ⟨hb.os, hb.tape, hb.output, hb.size, fun k hk _ => hb.block k hk⟩ (by cases v.ownBlock <;> simp)
theorem own_formR {w : World} {base : Nat} {e : TypeId} {size : Nat} {v : Value} {n : Nat} {xs : List Value} (h : w.ownsRow base e size v n xs) : ∃ A cp, v = .slice A n cp := by
  rcases h.2 with ⟨rfl, rfl⟩ | ⟨g, cap, cur, rfl, _⟩
  · exact ⟨none, 0, rfl⟩
  · exact ⟨_, _, rfl⟩
theorem own_pushR {w wr w2 : World} {H g cap : Nat} {q : Rn} {acc : List Rn} {v : Value} {o : Obj} (hown : OwnR wr H v acc) (hb : Below H w wr) (hH : H ≤ wr.heap.size) (h : w2.ownsRow H 42 2 (.slice (some ⟨g, 0, none⟩) (acc.length + 1) cap) (acc.length + 1) (acc.flatMap rnc ++ rnc q)) (hgrow : (wr.alloc o).grownBy w2 v.ownBlock) :
    OwnR w2 H (.slice (some ⟨g, 0, none⟩) (acc.length + 1) cap) (acc ++ [q]) ∧ Below H w w2 := by
  refine ⟨by show w2.ownsRow _ _ _ _ _ _; rw [List.length_append, List.flatMap_append]; simpa using h, ?_⟩
  have hc : Chg (fun k => H ≤ k) wr w2 := ((Chg.refl (fun k => H ≤ k) wr).alloc o).grown hgrow (fun k hk _ => (World.ownsRow.lt hown k hk).1)
  exact hb.trans (hc.below hH fun k hk e => by omega)
theorem infoRn : (Tryd.prog.info? 42).map (fun i => (i.zero, i.size, i.bytes)) = some (some (.agg #[.int .u8 0, .int .i64 0]), 2, 16) := by kernel_rfl
/-- A row of one byte, as far as it goes. -/
theorem rep_add {l : List Nat} {b i : Nat} : ∀ {d : Nat}, i + d ≤ l.length → (∀ j, i ≤ j → j < i + d → l[j]? = some b) → l.drop i = List.replicate d b ++ l.drop (i + d)
  | 0, _, _ => by simp
  | d + 1, hk, h => by
    rw [rep_add (d := d) (by omega) fun j h1 h2 => h j h1 (by omega)]
    have hx := h (i + d) (by omega) (by omega)
    rw [List.drop_eq_getElem_cons (show i + d < l.length by omega), (List.getElem?_eq_some_iff.1 hx).2, List.replicate_succ']
    simp [Nat.add_assoc]
theorem rep_drop {l : List Nat} {b i k : Nat} (hik : i ≤ k) (hk : k ≤ l.length) (h : ∀ j, i ≤ j → j < k → l[j]? = some b) : l.drop i = List.replicate (k - i) b ++ l.drop k := by
  have := rep_add (l := l) (b := b) (i := i) (d := k - i) (by omega) fun j h1 h2 => h j h1 (by omega)
  rwa [show i + (k - i) = k by omega] at this
theorem pack_take {l : List Nat} {b i k : Nat} (hik : i < k) (hk : k ≤ l.length) (h : ∀ j, i ≤ j → j < k → l[j]? = some b) (hn : l[k]? ≠ some b) : packL (l.drop i) = (b, (k : Int) - (i : Int)) :: packL (l.drop k) := by
  rw [rep_drop (by omega) hk h, show k - i = (k - i - 1) + 1 by omega, pack_rep (by rw [List.head?_drop]; exact hn)]
  congr 2
  omega
/-- Ahead of a round of the document's Pack. -/
def PkI (w : World) (l : List Nat) (i : Nat) (v : Value) (wr : World) : Prop :=
  ∃ acc : List Rn, i ≤ l.length ∧ acc.length ≤ i ∧ packL l = acc ++ packL (l.drop i) ∧ OwnR wr w.heap.size v acc ∧ Below w.heap.size w wr
set_option maxHeartbeats 8000000 in
set_option maxRecDepth 100000 in
theorem packR12_any (w : World) (v : Value) (l : List Nat) (h : BytW w v l) (hL : l.length ≤ 1000000) :
    Calls Tryd.prog 8 #[v] w fun e w' => ∃ v', e = .returned v' ∧ OwnR w' w.heap.size v' (packL l) ∧ Below w.heap.size w w' := by
  obtain ⟨A, c, rfl, hrow⟩ := h
  have HR := Lib.hid (And.intro hrow hL)
  obtain ⟨ln, hln⟩ : ∃ n, n = l.length := ⟨_, rfl⟩
  have HLN := Lib.hid hln
  rw [← hln] at hL ⊢
  obtain ⟨j0, hj0, hy0, hy1, hy2⟩ := info_parts infoRn
  clear hrow hln
  go_enter Tryd.func8, Tryd.ntmps8
  go_wp2_with fail
  go_loopw [3, 4] (fun o x wr => ∃ i : Nat, x = .int .i64 i ∧ PkI w l i o wr) (fun _ x _ => match x with | .int _ z => l.length - z.toNat | _ => 0)
  case atStart => exact ⟨0, rfl, [], by omega, by simp, by simp, World.ownsRow_nil _ _ _ _, Below.refl _ _⟩
  case round =>
    obtain ⟨i, rfl, acc, hi, hacc, hp, hown, hb⟩ := hrel
    have HB := Lib.hid (And.intro hb (And.intro hacc (And.intro hp hown)))
    obtain ⟨oA, oc, rfl⟩ := own_formR hown
    obtain ⟨w5, rfl⟩ : ∃ w5, w5 = wr := ⟨_, rfl⟩
    by_cases hlt : i < ln
    · have hlt' : i < l.length := by have := HLN.out; omega
      obtain ⟨b, hx⟩ : ∃ x, l[i]? = some x := ⟨_, List.getElem?_eq_getElem hlt'⟩
      obtain ⟨hb8, g, o, rfl, hg, c0⟩ := HR.out.1 i b hx
      have s1 : (0 : Int) ≤ (i : Int) := by omega
      have s2 : (i : Int) < (ln : Int) := by omega
      have s3 : ((i : Int)).toNat = i := by omega
      have HX := Lib.hid (And.intro hx (And.intro hlt' (And.intro hb8 (And.intro hg c0))))
      clear hx hb hi hp hown hacc hb8 hlt'
      go_wp2_with fail
      go_loopw [5] (fun x wq => ∃ k : Nat, x = .int .i64 k ∧ i ≤ k ∧ k ≤ l.length ∧ (∀ j, i ≤ j → j < k → l[j]? = some b) ∧ Below w5.heap.size w5 wq) (fun x _ => match x with | .int _ z => l.length - z.toNat | _ => 0)
      case atStart => exact ⟨i, rfl, by omega, by have := HX.out.2.1; omega, fun j h1 h2 => by omega, Below.refl _ _⟩
      case round =>
        obtain ⟨k, rfl, hik, hkl, hall, hbq⟩ := hrel
        have HQ := Lib.hid (And.intro hik (And.intro hkl (And.intro hall hbq)))
        have hb2 := bhop HB.out.1 hbq
        have c0' := (hb2.cell (p := ⟨g, o + i, none⟩) hg).trans HX.out.2.2.2.2
        have k1 : (0 : Int) ≤ (k : Int) := by omega
        have k3 : ((k : Int)).toNat = k := by omega
        clear hall hbq hkl c0
        by_cases hkt : k < ln
        · have k2 : (k : Int) < (ln : Int) := by omega
          obtain ⟨b2, hx2⟩ : ∃ x, l[k]? = some x := ⟨_, List.getElem?_eq_getElem (by have := HLN.out; omega)⟩
          obtain ⟨_, g', o', hA', _, c2⟩ := HR.out.1 k b2 hx2
          simp only [Option.some.injEq, Addr.mk.injEq, and_true] at hA'
          obtain ⟨rfl, rfl⟩ := hA'
          have c2' := (hb2.cell (p := ⟨g, o + k, none⟩) hg).trans c2
          have wk : IntKind.i64.wrap ((k : Int) + 1) = (k : Int) + 1 := by rw [IntKind.wrap_i64]; omega
          by_cases he : b2 = b
          · have he' : ((b2 : Int) == (b : Int)) = true := by simp [he]
            have HN := Lib.hid (fun (d : Nat) => show ∃ k' : Nat, Value.int .i64 ((k : Int) + 1) = .int .i64 (k' : Nat) ∧ i ≤ k' ∧ k' ≤ l.length ∧ (∀ j, i ≤ j → j < k' → l[j]? = some b) ∧ Below w5.heap.size w5 (wr.drewN d) from ⟨k + 1, by push_cast; rfl, by omega, by have := HLN.out; omega, fun j h1 h2 => by
              by_cases e : j = k
              · rw [e, hx2, he]
              · exact HQ.out.2.2.1 j h1 (by omega), below_drewN HQ.out.2.2.2 d⟩)
            have HK := Lib.hid (show k < l.length by have := HLN.out; omega)
            clear hb2 hx2 c2 he
            go_wp2_with fail
            go_quiet (fail)
            go_wp2_with fail
            go_roundw
            case rel => exact HN.out _
            case measure => have := HK.out; simp; omega
          · have he' : ((b2 : Int) == (b : Int)) = false := by simp; omega
            have hne : l[k]? ≠ some b := by rw [hx2]; exact fun e => he (Option.some.inj e)
            have HK := Lib.hid (show i < k ∧ packL l = (acc ++ [(b, (k : Int) - (i : Int))]) ++ packL (l.drop k) from by
              have hik' : i < k := by
                rcases Nat.lt_or_ge i k with h | h
                · exact h
                · obtain rfl : k = i := by omega
                  exact absurd HX.out.1 hne
              refine ⟨hik', ?_⟩
              rw [HB.out.2.2.1, pack_take hik' HQ.out.2.1 HQ.out.2.2.1 hne, List.append_assoc]
              rfl)
            clear hb2 hx2 c2 hne
            go_wp2_with fail
            go_quiet (fail)
            obtain ⟨w6, hw6⟩ : ∃ w6, wr.drewN nq = w6 := ⟨_, rfl⟩
            rw [hw6]
            have hb6 : Below w5.heap.size w5 w6 := hw6 ▸ below_drewN HQ.out.2.2.2 nq
            have c06 := ((bhop HB.out.1 hb6).cell (p := ⟨g, o + i, none⟩) HX.out.2.2.2.1).trans HX.out.2.2.2.2
            have H6 := Lib.hid (And.intro (own_keep HB.out.2.2.2 hb6) (bhop HB.out.1 hb6))
            have wki : IntKind.i64.wrap ((k : Int) - (i : Int)) = (k : Int) - (i : Int) := by have := HQ.out.2.1; have := HLN.out; rw [IntKind.wrap_i64]; omega
            clear hw6 hb6 c0'
            go_wp2_with ((at_builtin; refine wpList_append_lies _ (by rfl) _ _ 24 (by rfl) w.heap.size 42 j0 _ 2 16 Tryd.underlying24 hj0 hy0 hy1 hy2 rfl (by decide) (.slice oA acc.length oc) acc.length (acc.flatMap rnc) (by rfl) (World.ownsRow.alloc H6.out.1 _) ⟨w6.heap.size, 0, none⟩ 1 1 [.int .u8 (b : Int), .int .i64 ((k : Int) - (i : Int))] (by rfl) rfl (World.news_of_block (heap_alloc_new w6 _)) (by simp [Value.oneCell']) (by decide) ?c31 ?c41 ?c51 _ rfl ?_))
            case c31 =>
              have h1 := HR.out.2
              have h2 := HB.out.2.1
              have h3 := HX.out.2.1
              unfold maxLen
              try simp only [List.length_append, List.length_singleton]
              omega
            case c41 =>
              have h1 := HR.out.2
              have h2 := HB.out.2.1
              have h3 := HX.out.2.1
              try simp only [List.length_append, List.length_singleton]
              omega
            case c51 =>
              have h1 := H6.out.2.size
              simp
              omega
            intro gA cpA wA hown2 hgrow _ _
            have HA := Lib.hid (own_pushR H6.out.1 H6.out.2 H6.out.2.size (q := (b, (k : Int) - (i : Int))) (by simpa using hown2) hgrow)
            clear hown2 hgrow
            go_wp2_with fail
            have HD := Lib.hid (show PkI w l k (.slice (some ⟨gA, 0, none⟩) (acc.length + 1) cpA) wA from ⟨acc ++ [(b, (k : Int) - (i : Int))], HQ.out.2.1, by have := HB.out.2.1; have := HK.out.1; simp; omega, HK.out.2, HA.out.1, HA.out.2⟩)
            go_roundw
            case rel => exact ⟨k, rfl, HD.out⟩
            case measure => have := HK.out.1; have := HQ.out.2.1; simp; omega
        · have k2 : ¬ (k : Int) < (ln : Int) := by omega
          have hne : l[k]? ≠ some b := by rw [List.getElem?_eq_none (by have := HLN.out; omega)]; exact fun e => by cases e
          have HK := Lib.hid (show i < k ∧ packL l = (acc ++ [(b, (k : Int) - (i : Int))]) ++ packL (l.drop k) from by
            have hik' : i < k := by
              rcases Nat.lt_or_ge i k with h | h
              · exact h
              · obtain rfl : k = i := by omega
                exact absurd HX.out.1 hne
            refine ⟨hik', ?_⟩
            rw [HB.out.2.2.1, pack_take hik' HQ.out.2.1 HQ.out.2.2.1 hne, List.append_assoc]
            rfl)
          clear hne
          go_wp2_with fail
          go_quiet (fail)
          obtain ⟨w6, hw6⟩ : ∃ w6, wr.drewN nq = w6 := ⟨_, rfl⟩
          rw [hw6]
          have hb6 : Below w5.heap.size w5 w6 := hw6 ▸ below_drewN HQ.out.2.2.2 nq
          have c06 := ((bhop HB.out.1 hb6).cell (p := ⟨g, o + i, none⟩) HX.out.2.2.2.1).trans HX.out.2.2.2.2
          have H6 := Lib.hid (And.intro (own_keep HB.out.2.2.2 hb6) (bhop HB.out.1 hb6))
          have wki : IntKind.i64.wrap ((k : Int) - (i : Int)) = (k : Int) - (i : Int) := by have := HQ.out.2.1; have := HLN.out; rw [IntKind.wrap_i64]; omega
          clear hw6 hb6 c0'
          go_wp2_with ((at_builtin; refine wpList_append_lies _ (by rfl) _ _ 24 (by rfl) w.heap.size 42 j0 _ 2 16 Tryd.underlying24 hj0 hy0 hy1 hy2 rfl (by decide) (.slice oA acc.length oc) acc.length (acc.flatMap rnc) (by rfl) (World.ownsRow.alloc H6.out.1 _) ⟨w6.heap.size, 0, none⟩ 1 1 [.int .u8 (b : Int), .int .i64 ((k : Int) - (i : Int))] (by rfl) rfl (World.news_of_block (heap_alloc_new w6 _)) (by simp [Value.oneCell']) (by decide) ?c32 ?c42 ?c52 _ rfl ?_))
          case c32 =>
            have h1 := HR.out.2
            have h2 := HB.out.2.1
            have h3 := HX.out.2.1
            unfold maxLen
            try simp only [List.length_append, List.length_singleton]
            omega
          case c42 =>
            have h1 := HR.out.2
            have h2 := HB.out.2.1
            have h3 := HX.out.2.1
            try simp only [List.length_append, List.length_singleton]
            omega
          case c52 =>
            have h1 := H6.out.2.size
            simp
            omega
          intro gA cpA wA hown2 hgrow _ _
          have HA := Lib.hid (own_pushR H6.out.1 H6.out.2 H6.out.2.size (q := (b, (k : Int) - (i : Int))) (by simpa using hown2) hgrow)
          clear hown2 hgrow
          go_wp2_with fail
          have HD := Lib.hid (show PkI w l k (.slice (some ⟨gA, 0, none⟩) (acc.length + 1) cpA) wA from ⟨acc ++ [(b, (k : Int) - (i : Int))], HQ.out.2.1, by have := HB.out.2.1; have := HK.out.1; simp; omega, HK.out.2, HA.out.1, HA.out.2⟩)
          go_roundw
          case rel => exact ⟨k, rfl, HD.out⟩
          case measure => have := HK.out.1; have := HQ.out.2.1; simp; omega
    · have s2 : ¬ (i : Int) < (ln : Int) := by omega
      have hil : i = l.length := by have := HLN.out; omega
      have HE := Lib.hid (show packL l = acc by rw [HB.out.2.2.1, hil, List.drop_length]; exact List.append_nil _)
      clear hb hi hp hown hacc hil
      go_wp2_with fail
      go_ret
      exact ⟨_, rfl, by rw [HE.out]; exact HB.out.2.2.2, HB.out.1⟩

end Go.Proofs.YtgdblnppeeknpaaDoor
