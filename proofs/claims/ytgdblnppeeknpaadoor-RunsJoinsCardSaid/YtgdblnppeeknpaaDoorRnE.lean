/- What the program's Unpack comes to: a contract.
   Conditions: the word lies in memory; at most a million bytes are asked. -/
import Derived.Test.YtgdblnppeeknpaaDoorRnD
import Derived.Laws.MakeOwn
namespace Go.Proofs.YtgdblnppeeknpaaDoor
open Go.RowKit

/-- Bytes that the call made itself. -/
abbrev vb (x : Nat) : Value := .int .u8 (x : Int)
abbrev OwnB (w : World) (H : Nat) (v : Value) (l : List Nat) : Prop := w.ownsRow H 5 1 v l.length (l.map vb)
theorem infoB : (Tryd.prog.info? 5).map (fun i => (i.zero, i.size, i.bytes)) = some (some (.int .u8 0), 1, 1) := by kernel_rfl
theorem own_neB {w : World} {H bx : Nat} {v : Value} {n : Nat} {xs : List Value} {cs : Array Value} (h : w.ownsRow H 5 1 v n xs) (hb : w.heap[bx]? = some (.cells cs 42 (0, 0))) : v.ownBlock ≠ some bx := by
  rcases h.2 with ⟨rfl, _⟩ | ⟨g, cap, cur, rfl, hg, hh, _⟩
  · simp [Value.ownBlock]
  · intro e
    obtain rfl : g = bx := by simpa [Value.ownBlock] using e
    rw [hb] at hh
    simp at hh
theorem own_pushB {w wr w2 : World} {H g cap b : Nat} {acc : List Nat} {v : Value} {o : Obj} (hown : OwnB wr H v acc) (hb : Below H w wr) (hH : H ≤ wr.heap.size) (h : w2.ownsRow H 5 1 (.slice (some ⟨g, 0, none⟩) (acc.length + 1) cap) (acc.length + 1) (acc.map vb ++ [vb b])) (hgrow : (wr.alloc o).grownBy w2 v.ownBlock) :
    OwnB w2 H (.slice (some ⟨g, 0, none⟩) (acc.length + 1) cap) (acc ++ [b]) ∧ Below H w w2 ∧ ∀ (bx : Nat) (cs : Array Value), wr.heap[bx]? = some (Obj.cells cs 42 (0, 0)) → w2.heap[bx]? = some (Obj.cells cs 42 (0, 0)) := by
  refine ⟨by show w2.ownsRow _ _ _ _ _ _; rw [List.length_append, List.map_append]; simpa using h, ?_, fun bx cs hx => ?_⟩
  · have hc : Chg (fun k => H ≤ k) wr w2 := ((Chg.refl (fun k => H ≤ k) wr).alloc o).grown hgrow (fun k hk _ => (World.ownsRow.lt hown k hk).1)
    exact hb.trans (hc.below hH fun k hk e => by omega)
  · have hl := (Array.getElem?_eq_some_iff.1 hx).1
    exact (hgrow.block bx (by simp; omega) fun e => own_neB hown hx e.symm).trans ((Below.heap_alloc wr _ _ hl).trans hx)
theorem OwnB.byt {w : World} {H : Nat} {v : Value} {l : List Nat} (h : OwnB w H v l) (h8 : ∀ x ∈ l, x < 256) : BytW w v l := by
  by_cases hl : 0 < l.length
  · obtain ⟨g, cap, hv, _, hg⟩ := World.ownsRow.form h hl
    refine ⟨_, cap, hv, fun i x hi => ⟨h8 x (List.mem_of_getElem? hi), g, 0, rfl, (World.ownsRow.lt h g (by rw [hv]; rfl)).2, ?_⟩⟩
    subst hv
    have hil := (List.getElem?_eq_some_iff.1 hi).1
    rw [Nat.zero_add]
    refine (World.ownsRow.cellAt h i (by omega)).trans ?_
    rw [List.getElem?_map, hi]
    rfl
  · obtain rfl : l = [] := List.length_eq_zero_iff.1 (by omega)
    obtain ⟨A, c, rfl⟩ := own_formR h
    exact ⟨A, c, rfl, fun i x hi => by simp at hi⟩
theorem run_makeB (n : Nat) (hn : n ≤ 1000000) (W : World) : (Instr.makeSlice 22 (.int .i64 0) (.int .i64 (n : Int))).run Tryd.prog W = .ok (.slice (some ⟨W.heap.size, 0, none⟩) 0 n) (W.alloc (.cells (madeCells #[.int .u8 0] n) 5)) := by
  obtain ⟨i, hi, hz, hs, hb⟩ := info_parts infoB
  have := run_make (P := Tryd.prog) W 22 5 i _ Tryd.underlying22 hi hz .i64 .i64 0 n (by omega) (by omega) (by rw [hb]; omega) (by omega)
  rw [hs, show (Value.int .u8 0).cells = #[.int .u8 0] by simp [Value.cells]] at this
  simpa using this
theorem own_made (n : Nat) (hn : n ≤ 1000000) (W : World) (base : Nat) (hbase : base ≤ W.heap.size) : OwnB (W.alloc (.cells (madeCells #[.int .u8 0] n) 5)) base (.slice (some ⟨W.heap.size, 0, none⟩) 0 n) [] := by
  obtain ⟨i, hi, hz, hs, hb⟩ := info_parts infoB
  obtain ⟨w', hrun, r1, _⟩ := run_make_own (P := Tryd.prog) W base 22 5 i _ 1 Tryd.underlying22 hi hz hs .i64 .i64 n (by rw [hb]; omega) (by unfold maxLen; omega) hbase
  rw [run_makeB n hn W] at hrun
  simp only [Result.ok.injEq, true_and] at hrun
  rw [hrun]
  exact r1
theorem unpL_succ {l : List Rn} {i b : Nat} {t : Int} (h : l[i]? = some (b, t)) : unpL (l.take (i + 1)) = unpL (l.take i) ++ List.replicate t.toNat b := by
  unfold unpL
  rw [List.take_add_one, h, List.flatMap_append]
  simp
theorem unpL_take {l : List Rn} : ∀ (n i : Nat), i + n = l.length → (unpL (l.take i)).length ≤ (unpL l).length
  | 0, i, h => by rw [List.take_of_length_le (by omega)]; exact Nat.le_refl _
  | n + 1, i, h => by
    have h1 := unpL_take (l := l) n (i + 1) (by omega)
    rw [unpL_succ (List.getElem?_eq_getElem (by omega : i < l.length)), List.length_append] at h1
    omega
theorem unp_lt {l : List Rn} (h : ∀ q ∈ l, q.1 < 256) : ∀ x ∈ unpL l, x < 256 := fun x hx => by
  obtain ⟨q, h1, h2⟩ := List.mem_flatMap.1 hx
  rw [List.eq_of_mem_replicate h2]
  exact h q h1
set_option maxHeartbeats 8000000 in
set_option maxRecDepth 100000 in
theorem unpack12_any (w : World) (G : Nat → Prop) (v : Value) (l : List Rn) (k : Int) (h : RunsR w G v l) (h8 : ∀ q ∈ l, q.1 < 256) (hk : k ≤ 1000000) :
    Calls Tryd.prog 9 #[v, .int .i64 k] w (UnO l k w) := by
  have HM := Lib.hid (measured_any w G v l h)
  obtain ⟨A, c, rfl, hrow⟩ := h
  have HR := Lib.hid (And.intro hrow h8)
  obtain ⟨ln, hln⟩ : ∃ n, n = l.length := ⟨_, rfl⟩
  have HLN := Lib.hid hln
  rw [← hln] at HM ⊢
  clear hrow hln h8
  go_enter Tryd.func9, Tryd.ntmps9
  go_wp2_with fail
  go_at_call 19
  refine HM.out.mono ?_
  rintro e w1 ⟨rfl, hb1⟩
  have HB1 := Lib.hid hb1
  clear hb1
  cases hf : fmO l with
  | false =>
    have HF := Lib.hid hf
    clear hf
    go_wp2_with fail
    go_ret2
    exact ⟨_, _, rfl, HB1.out, fun _ => ⟨rfl, _, _, rfl⟩, fun h => (by rw [HF.out] at h; cases h), fun h => (by rw [HF.out] at h; cases h)⟩
  | true =>
    have h200 : ln ≤ 200 := by have := fmO_len hf; have := HLN.out; omega
    obtain ⟨y1, y2, _, y4⟩ := fm_yes hf
    obtain ⟨N, hN⟩ : ∃ N : Nat, fmN l = (N : Int) := ⟨(fmN l).toNat, by omega⟩
    have HF := Lib.hid (And.intro hf (And.intro hN (And.intro (show ∀ q ∈ l, 1 ≤ q.2 from fun q hq => (y4 q hq).1) (show (unpL l).length = N by have := unp_len (l := l) fun q hq => (y4 q hq).1; omega))))
    rw [hN]
    clear hf hN y1 y2 y4
    have km : min k 2147483647 = k := by omega
    by_cases g1 : k < (N : Int)
    · go_wp2_with fail
      go_ret2
      exact ⟨_, _, rfl, HB1.out, fun h => (by rw [HF.out.1] at h; cases h), fun _ _ => ⟨rfl, _, _, rfl⟩, fun _ h => (by have := HF.out.2.1; omega)⟩
    · have hN6 : N ≤ 1000000 := by omega
      have hmk := run_makeB N hN6
      have hs1 := HB1.out.size
      obtain ⟨j0, hj0, hy0, hy1, hy2⟩ := info_parts infoB
      have HO := Lib.hid (And.intro (own_made N hN6 w1 w.heap.size hs1) (HB1.out.alloc hs1 (.cells (madeCells #[.int .u8 0] N) 5)))
      go_wp2_with fail
      obtain ⟨w2, hw2⟩ : ∃ w2, w1.alloc (.cells (madeCells #[.int .u8 0] N) 5) = w2 := ⟨_, rfl⟩
      rw [hw2] at HO ⊢
      clear hmk hs1 hw2
      go_loopw [8, 26] (fun u x wr => ∃ i : Nat, x = .int .i64 i ∧ i ≤ l.length ∧ OwnB wr w.heap.size u (unpL (l.take i)) ∧ Below w.heap.size w wr) (fun _ x _ => match x with | .int _ z => l.length - z.toNat | _ => 0)
      case atStart => exact ⟨0, rfl, by omega, HO.out.1, HO.out.2⟩
      case round =>
        obtain ⟨i, rfl, hi, hown, hb⟩ := hrel
        by_cases hlt : i < ln
        · have hlt' : i < l.length := by have := HLN.out; omega
          obtain ⟨⟨b, t⟩, hx⟩ : ∃ x, l[i]? = some x := ⟨_, List.getElem?_eq_getElem hlt'⟩
          obtain ⟨g, o, rfl, _, hg, c0, c1⟩ := HR.out.1 i b t hx
          rw [← hb.cell (p := ⟨g, o + i * 2, none⟩) hg] at c0
          rw [← hb.cell (p := ⟨g, o + i * 2 + 1, none⟩) hg] at c1
          have ht1 : 1 ≤ t := HF.out.2.2.1 (b, t) (List.mem_of_getElem? hx)
          obtain ⟨m, rfl⟩ : ∃ m : Nat, t = (m : Int) := ⟨t.toNat, by omega⟩
          have hun := unpL_succ hx
          rw [show ((m : Int)).toNat = m by omega] at hun
          have hlen := unpL_take (l := l) (l.length - (i + 1)) (i + 1) (by omega)
          rw [hun, List.length_append, List.length_replicate, HF.out.2.2.2] at hlen
          have s1 : (0 : Int) ≤ (i : Int) := by omega
          have s2 : (i : Int) < (ln : Int) := by omega
          have s3 : ((i : Int)).toNat = i := by omega
          have wk : IntKind.i64.wrap ((i : Int) + 1) = (i : Int) + 1 := by rw [IntKind.wrap_i64]; omega
          obtain ⟨w7, hw7, hb7, hq7⟩ : ∃ w7, wr.alloc (.cells #[.int .u8 (b : Int), .int .i64 (m : Int)] 42) = w7 ∧ Below wr.heap.size wr w7 ∧ w7.heap[wr.heap.size]? = some (.cells #[.int .u8 (b : Int), .int .i64 (m : Int)] 42 (0, 0)) := ⟨_, rfl, (Below.refl _ wr).alloc (Nat.le_refl _) _, heap_alloc_new wr _⟩
          obtain ⟨y0, y1, _⟩ := two_cells hq7
          have HX := Lib.hid (And.intro hlt' (And.intro hun (And.intro hlen (And.intro (bhop hb hb7) (And.intro (own_keep hown hb7) hq7)))))
          obtain ⟨bx, hbx⟩ : ∃ n, n = wr.heap.size := ⟨_, rfl⟩
          rw [← hbx] at HX y0 y1
          clear hun hlen hb hown hb7 hq7 hx hi ht1
          go_upto_region 10 with fail
          rw [← hbx]
          clear hw7 c0 c1 hbx
          go_wp2_with fail
          clear y0 y1
          go_loopw [8, 32] (fun u x wq => ∃ j : Nat, x = .int .i64 j ∧ j ≤ m ∧ OwnB wq w.heap.size u (unpL (l.take i) ++ List.replicate j b) ∧ wq.heap[bx]? = some (.cells #[.int .u8 (b : Int), .int .i64 (m : Int)] 42 (0, 0)) ∧ Below w.heap.size w wq) (fun _ x _ => match x with | .int _ z => m - z.toNat | _ => 0)
          case atStart => exact ⟨0, rfl, by omega, by simpa using HX.out.2.2.2.2.1, HX.out.2.2.2.2.2, HX.out.2.2.2.1⟩
          case round =>
            obtain ⟨j, rfl, hj, hown, hq, hb⟩ := hrel
            by_cases hjm : j < m
            · have k2 : (j : Int) < (m : Int) := by omega
              have wk2 : IntKind.i64.wrap ((j : Int) + 1) = (j : Int) + 1 := by have := HX.out.2.2.1; rw [IntKind.wrap_i64]; omega
              obtain ⟨y0, y1, _⟩ := two_cells hq
              obtain ⟨acc, hac⟩ : ∃ a, a = unpL (l.take i) ++ List.replicate j b := ⟨_, rfl⟩
              have hrep : unpL (l.take i) ++ List.replicate (j + 1) b = acc ++ [b] := by rw [hac, List.replicate_succ', List.append_assoc]
              have hal : acc.length ≤ 1000000 := by have := HX.out.2.2.1; rw [hac, List.length_append, List.length_replicate]; omega
              rw [← hac] at hown
              obtain ⟨uA, uc, rfl⟩ := own_formR hown
              have HQ := Lib.hid (And.intro hrep (And.intro hal (And.intro hown (And.intro hb (And.intro hq (show j + 1 ≤ m by omega))))))
              have HSz := Lib.hid hb.size
              clear hac hrep hown hb hq hj
              go_wp2_with ((at_builtin; refine wpList_append_lies _ (by rfl) _ _ 22 (by rfl) w.heap.size 5 j0 _ 1 1 Tryd.underlying22 hj0 hy0 hy1 hy2 rfl (by decide) (.slice uA acc.length uc) acc.length (acc.map vb) (by rfl) (World.ownsRow.alloc HQ.out.2.2.1 _) ⟨wr.heap.size, 0, none⟩ 1 1 [.int .u8 (b : Int)] (by rfl) rfl (World.news_of_block (heap_alloc_new wr _)) (by simp [Value.oneCell']) (by decide) ?c3 ?c4 ?c5 _ rfl ?_))
              case c3 => unfold maxLen; omega
              case c4 => omega
              case c5 => have := HSz.out; simp; omega
              intro gB cpB wB hown2 hgrow _ _
              have HA := Lib.hid (own_pushB (b := b) HQ.out.2.2.1 HQ.out.2.2.2.1 HSz.out hown2 hgrow)
              clear hown2 hgrow y0 y1
              go_wp2_with fail
              go_roundw
              case rel => exact ⟨j + 1, by push_cast; rfl, HQ.out.2.2.2.2.2, by rw [HQ.out.1]; exact HA.out.1, HA.out.2.2 _ _ HQ.out.2.2.2.2.1, HA.out.2.1⟩
              case measure => have := HQ.out.2.2.2.2.2; simp; omega
            · have k2 : ¬ (j : Int) < (m : Int) := by omega
              obtain rfl : j = m := by omega
              rw [← HX.out.2.1] at hown
              have HE := Lib.hid (And.intro hown hb)
              clear hown hq hb hj
              go_wp2_with fail
              go_roundw
              case rel => exact ⟨i + 1, by push_cast; rfl, HX.out.1, HE.out.1, HE.out.2⟩
              case measure => have := HX.out.1; simp; omega
        · have s2 : ¬ (i : Int) < (ln : Int) := by omega
          have hil : l.take i = l := List.take_of_length_le (by have := HLN.out; omega)
          rw [hil] at hown
          have HE := Lib.hid (And.intro (hown.byt (unp_lt HR.out.2)) hb)
          clear hil hown hb hi
          go_wp2_with fail
          go_ret2
          exact ⟨_, _, rfl, HE.out.2, fun h => (by rw [HF.out.1] at h; cases h), fun _ h => (by have := HF.out.2.1; omega), fun _ _ => ⟨rfl, HE.out.1⟩⟩

end Go.Proofs.YtgdblnppeeknpaaDoor
