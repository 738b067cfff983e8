/- The walk of the statement SpanLong: called with three numbers it returns true and changes nothing that was there.
   Conditions: the library's table lies in memory. -/
import Derived.Test.YtdjddmkmcdfmiaaDoorNN

namespace Go.Proofs.YtdjddmkmcdfmiaaDoor
open Go.RowKit Go.Shelf
attribute [local go_sem] nodeAgg

theorem cells8N {w : World} {b : Nat} {a0 a1 a2 a3 a4 a5 a6 a7 : Value} {e : TypeId} (h : w.heap[b]? = some (.cells #[a0, a1, a2, a3, a4, a5, a6, a7] e (0, 0))) : w.cell? ⟨b, 0, none⟩ = some a0 ∧ w.cell? ⟨b, 1, none⟩ = some a1 ∧ w.cell? ⟨b, 2, none⟩ = some a2 ∧ w.cell? ⟨b, 3, none⟩ = some a3 ∧ w.cell? ⟨b, 4, none⟩ = some a4 ∧ w.cell? ⟨b, 5, none⟩ = some a5 ∧ w.cell? ⟨b, 6, none⟩ = some a6 ∧ w.cell? ⟨b, 7, none⟩ = some a7 := by
  have q := (row_cells h).1
  exact ⟨q 0, q 1, q 2, q 3, q 4, q 5, q 6, q 7⟩
theorem pow_bytes {L : List Nat → Prop} {C : Nat → Nat} (h : ∀ v, L v ↔ ∃ b, b < 256 ∧ hasB C b = true ∧ v = [b]) : ∀ (k : Nat) (w : List Nat), PowL L k w ↔ w.length = k ∧ ∀ b ∈ w, b < 256 ∧ hasB C b = true
  | 0, w => by
    constructor
    · intro e
      have e : w = [] := e
      subst e
      exact ⟨rfl, fun b hb => by cases hb⟩
    · rintro ⟨e, _⟩
      exact List.eq_nil_of_length_eq_zero e
  | k + 1, w => by
    constructor
    · rintro ⟨a, b, rfl, ha, hb⟩
      obtain ⟨x, hx, hC, rfl⟩ := (h a).1 ha
      obtain ⟨h1, h2⟩ := (pow_bytes h k b).1 hb
      refine ⟨by simp [h1], fun y hy => ?_⟩
      rcases List.mem_append.1 hy with q | q
      · rw [List.mem_singleton.1 q]; exact ⟨hx, hC⟩
      · exact h2 y q
    · rintro ⟨e, h2⟩
      cases w with
      | nil => simp at e
      | cons x w =>
        have := h2 x (by simp)
        exact ⟨[x], w, rfl, (h _).2 ⟨x, this.1, this.2, rfl⟩, (pow_bytes h k w).2 ⟨by simpa using e, fun y hy => h2 y (by simp [hy])⟩⟩
/-- The set of the one byte 65. -/
def C65 (i : Nat) : Nat := if i = 1 then 2 else 0
theorem cl65 : Cl C65 := fun i => by unfold C65; split <;> decide
abbrev t65 (lo hi : Int) : T := .node 4 zeros lo hi [.node 1 C65 0 0 []]
theorem lg65 {lo hi : Int} (_ : 0 ≤ lo) (hh : 0 ≤ hi) (m : Nat) : Lg (t65 lo hi) (List.replicate m 65) ↔ lo ≤ (m : Int) ∧ (m : Int) ≤ hi := by
  rw [lg_four (by decide) (by decide) (by decide) (by decide)]
  have hp := pow_bytes (L := LgC [.node 1 C65 0 0 []]) (C := C65) (fun v => by rw [lgc_one, lg_one rfl])
  constructor
  · rintro ⟨n, h1, h2, h3⟩
    have := ((hp n _).1 h3).1
    rw [List.length_replicate] at this
    subst this
    omega
  · rintro ⟨h1, h2⟩
    refine ⟨m, h1, .inr h2, (hp m _).2 ⟨List.length_replicate, fun b hb => ?_⟩⟩
    rw [(List.mem_replicate.1 hb).2]
    exact ⟨by decide, by decide⟩
theorem info_u8 : (Tryd.prog.info? 5).map (fun i => (i.zero, i.size, i.bytes)) = some (some (.int .u8 0), 1, 1) := by kernel_rfl
/-- The first bytes are 65, the others 0. -/
def b65 (m i : Nat) : Array Value := ((List.range m).map fun j => Value.int .u8 (if j < i then 65 else 0)).toArray
theorem b65_zero (m : Nat) : madeCells #[.int .u8 0] m = b65 m 0 := by
  apply Array.ext_getElem?
  intro j
  unfold madeCells b65
  simp only [List.getElem?_toArray, List.getElem?_map, Array.getElem?_map]
  by_cases hj : j < m
  · rw [List.getElem?_range hj, Array.getElem?_range, if_pos hj]
    simp [Nat.mod_one]
  · rw [List.getElem?_eq_none (by simp; omega), Array.getElem?_eq_none (by simp; omega)]
    rfl
theorem b65_set (m i : Nat) : (b65 m i).setIfInBounds i (.int .u8 65) = b65 m (i + 1) := by
  apply Array.ext_getElem?
  intro j
  rw [Array.getElem?_setIfInBounds]
  unfold b65
  simp only [List.getElem?_toArray, List.getElem?_map, List.size_toArray, List.length_map, List.length_range]
  by_cases hj : j < m
  · rw [List.getElem?_range hj]
    by_cases e : i = j
    · subst e; simp [hj]
    · rw [if_neg e]
      have : (j < i + 1) ↔ (j < i) := by omega
      simp [this]
  · rw [List.getElem?_eq_none (by simp; omega)]
    split
    · rw [if_neg (by omega)]; rfl
    · rfl
abbrev v65 (lo hi : Int) (pb : Nat) : V := .node 4 zeros lo hi (.slice (some ⟨pb, 0, none⟩) 1 1) [.node 1 C65 0 0 (.slice none 0 0) []]
theorem er65 (lo hi : Int) (pb : Nat) : erase (v65 lo hi pb) = t65 lo hi := by
  show T.node 4 zeros lo hi (erases _) = _
  rw [erases, erases, erase, erases]
theorem ok65 {lo hi : Int} (h : bnd lo hi = true) : okT (t65 lo hi) = true := by
  have h1 : okT (.node 1 C65 0 0 []) = true := by decide
  have h2 : okA 4 (z4 zeros) lo hi 1 = true := by
    unfold okA
    exact decide_eq_true (.inr (.inr (.inr ⟨rfl, by decide, rfl, h⟩)))
  rw [okT, oksT, oksT, h1]
  rw [show okA 4 (z4 zeros) lo hi [T.node 1 C65 0 0 []].length = true from h2]
  rfl
theorem clN65 (lo hi : Int) : ClN (t65 lo hi) := by
  unfold ClN ClNs ClN ClNs
  exact ⟨clN_zero, ⟨cl65, trivial⟩, trivial⟩
theorem sz65 (lo hi : Int) : szT (t65 lo hi) ≤ 1000000 := by
  show szT (.node 4 zeros lo hi [.node 1 C65 0 0 []]) ≤ _
  simp [szT, szsT]
theorem laid65 {W : World} {lo hi : Int} {pb : Nat} (a0 : W.heap[pb]? = some (.cells #[.int .i64 1, .int .u64 0, .int .u64 2, .int .u64 0, .int .u64 0, .slice none 0 0, .int .i64 0, .int .i64 0] 27 (0, 0))) : Laid W (fun _ => True) (v65 lo hi pb) := by
  refine .some 4 zeros lo hi [.node 1 C65 0 0 (.slice none 0 0) []] pb 0 1 trivial (Array.getElem?_eq_some_iff.1 a0).1 (Nat.le_refl _) (fun j t ht k u hu => ?_) (fun t ht => by rw [List.mem_singleton.1 ht]; exact .none _ _ _ _ _ _)
  cases j with
  | zero =>
    rw [← Option.some.inj ht] at hu
    rw [show 0 + 0 * 8 + k = k by omega, (row_cells a0).1, List.getElem?_toArray]
    exact hu
  | succ j => simp at ht
theorem wrd65 {W : World} {b i : Nat} (h : W.heap[b]? = some (.cells (b65 i i) 5 (0, 0))) : WrdA W (some ⟨b, 0, none⟩) (List.replicate i 65) := by
  refine ⟨b, 0, ⟨fun j x hx => ?_, fun x hx => by rw [(List.mem_replicate.1 hx).2]; decide, fun _ => (Array.getElem?_eq_some_iff.1 h).1⟩, fun _ => rfl⟩
  have hj := (List.getElem?_eq_some_iff.1 hx).1
  rw [List.length_replicate] at hj
  rw [Nat.zero_add, (row_cells h).1]
  unfold b65
  rw [List.getElem?_toArray, List.getElem?_map, List.getElem?_range hj, Option.map_some, if_pos hj, (List.mem_replicate.1 (List.mem_of_getElem? hx)).2]
  rfl
set_option maxHeartbeats 8000000 in
set_option maxRecDepth 100000 in
theorem long11_walk (lo hi sz : Int) (hl : 0 ≤ lo ∧ lo ≤ 65535) (hh : 0 ≤ hi ∧ hi ≤ 65535) (hs : 0 ≤ sz ∧ sz ≤ 65535) (w : World) (hT : TabW w) :
    Calls Tryd.prog 8 #[.int .u16 lo, .int .u16 hi, .int .u16 sz] w fun e w' => e = .returned (.bool true) ∧ Below w.heap.size w w' := by
  have HAw := Lib.hid (awake11_any w hT)
  have HT := Lib.hid hT
  clear hT
  obtain ⟨m, hm⟩ : ∃ m : Nat, sz % 260 = (m : Int) := ⟨(sz % 260).toNat, by omega⟩
  have hm1 : m < 260 := by omega
  have hmk : ∀ W : World, (Instr.makeSlice 28 (.int .i64 (m : Int)) (.int .i64 (m : Int))).run Tryd.prog W = .ok (.slice (some ⟨W.heap.size, 0, none⟩) m m) (W.alloc (.cells (madeCells #[.int .u8 0] m) 5)) := fun W => run_make_row' (P := Tryd.prog) 28 5 (.int .u8 0) 1 Tryd.underlying28 info_u8 rfl .i64 .i64 m (by omega) (by omega) W
  by_cases c1 : lo < hi
  · go_enter Tryd.func8, Tryd.ntmps8
    go_wp2_with fail
    go_at_call 9
    refine HAw.out.mono ?_
    rintro e w1 ⟨rfl, hb1⟩
    have HB1 := Lib.hid hb1
    clear hb1
    go_wp2_with fail
    obtain ⟨pb, hpb⟩ : ∃ pb, pb = w1.heap.size := ⟨_, rfl⟩
    obtain ⟨w2, hw2⟩ : ∃ w2, ((w1.alloc (.cells #[.int .i64 1, .int .u64 0, .int .u64 2, .int .u64 0, .int .u64 0, .slice none 0 0, .int .i64 0, .int .i64 0] 27)).alloc (.cells #[.int .i64 4, .int .u64 0, .int .u64 0, .int .u64 0, .int .u64 0, .slice (some ⟨w1.heap.size, 0, none⟩) 1 1, .int .i64 lo, .int .i64 hi] 27)).alloc (.cells (madeCells #[.int .u8 0] m) 5) = w2 := ⟨_, rfl⟩
    have hb2 : Below w1.heap.size w1 w2 := by rw [← hw2]; exact (((Below.refl _ _).alloc (Nat.le_refl _) _).alloc (by simp) _).alloc (by simp; omega) _
    have e0 : w2.heap[pb]? = some (.cells #[.int .i64 1, .int .u64 0, .int .u64 2, .int .u64 0, .int .u64 0, .slice none 0 0, .int .i64 0, .int .i64 0] 27 (0, 0)) := by
      rw [← hw2, hpb]
      exact (Below.heap_alloc _ _ _ (by simp; omega)).trans ((Below.heap_alloc _ _ _ (by simp)).trans (heap_alloc_new w1 _))
    have e1 : w2.heap[pb + 1]? = some (.cells #[.int .i64 4, .int .u64 0, .int .u64 0, .int .u64 0, .int .u64 0, .slice (some ⟨w1.heap.size, 0, none⟩) 1 1, .int .i64 lo, .int .i64 hi] 27 (0, 0)) := by
      rw [← hw2, hpb]
      have := heap_alloc_new (w1.alloc (.cells #[.int .i64 1, .int .u64 0, .int .u64 2, .int .u64 0, .int .u64 0, .slice none 0 0, .int .i64 0, .int .i64 0] 27)) (.cells #[.int .i64 4, .int .u64 0, .int .u64 0, .int .u64 0, .int .u64 0, .slice (some ⟨w1.heap.size, 0, none⟩) 1 1, .int .i64 lo, .int .i64 hi] 27)
      rw [World.size_alloc] at this
      exact (Below.heap_alloc _ _ _ (by simp)).trans this
    have e2 : w2.heap[pb + 2]? = some (.cells (b65 m 0) 5 (0, 0)) := by
      rw [← hw2, hpb, ← b65_zero]
      have := heap_alloc_new ((w1.alloc (.cells #[.int .i64 1, .int .u64 0, .int .u64 2, .int .u64 0, .int .u64 0, .slice none 0 0, .int .i64 0, .int .i64 0] 27)).alloc (.cells #[.int .i64 4, .int .u64 0, .int .u64 0, .int .u64 0, .int .u64 0, .slice (some ⟨w1.heap.size, 0, none⟩) 1 1, .int .i64 lo, .int .i64 hi] 27)) (.cells (madeCells #[.int .u8 0] m) 5)
      rw [World.size_alloc, World.size_alloc] at this
      exact this
    rw [← hpb] at e1
    have hs2 : w2.heap.size = pb + 3 := by rw [← hw2, hpb]; simp
    rw [hw2, ← hpb]
    have HB2 := Lib.hid (And.intro hb2 (And.intro e0 (And.intro e1 (And.intro hs2 hpb))))
    have HM := Lib.hid (And.intro hmk hm1)
    clear hw2 hb2 e0 e1 hs2 hpb hmk
    go_loopw [9] (fun v wr => ∃ i : Nat, v = .int .i64 (i : Nat) ∧ i ≤ m ∧ wr.heap[pb + 1 + 1]? = some (.cells (b65 m i) 5 (0, 0)) ∧ Chg (fun k => k = pb + 1 + 1) w2 wr) (fun v _ => match v with | .int _ i => m - i.toNat | _ => 0)
    case atStart => exact ⟨0, rfl, by omega, e2, Chg.refl _ _⟩
    case round =>
      clear e2
      obtain ⟨i, rfl, hi1, hce, hc⟩ := hrel
      have HJ := Lib.hid (And.intro hce hc)
      by_cases him : i < m
      · have g1 : (i : Int) < m := by omega
        have i1 : 0 ≤ (i : Int) ∧ (i : Int) < m := by omega
        have f1 := (row_cells hce).2 i
        obtain ⟨v0, hv0⟩ : ∃ v0, wr.cell? ⟨pb + 1 + 1, i, none⟩ = some v0 := by
          rw [(row_cells hce).1 i]
          exact ⟨_, Array.getElem?_eq_getElem (by unfold b65; simp; omega)⟩
        have hsz := (Array.getElem?_eq_some_iff.1 hce).1
        have hw1 : IntKind.i64.wrap ((i : Int) + 1) = ((i + 1 : Nat) : Int) := by rw [IntKind.wrap_i64]; omega
        clear hce hc
        go_wp2_with fail
        go_roundw
        case rel =>
          refine ⟨i + 1, by simp, by omega, ?_, HJ.out.2.trans (chg_set wr _ _ _) fun _ _ e => e⟩
          rw [heap_setCell_same wr _ _ _ _ _ HJ.out.1, b65_set]
        case measure =>
          show m - ((i : Int) + 1).toNat < m - ((i : Int)).toNat
          omega
      · have g1 : ¬ (i : Int) < m := by omega
        have hE : i = m := by omega
        subst hE
        obtain ⟨hb2, e0, e1, hs2, hpb⟩ := HB2.out
        have a0 := (hc.block pb (by omega) (by omega)).trans e0
        have a1 := (hc.block (pb + 1) (by omega) (by omega)).trans e1
        obtain ⟨y0, y1, y2, y3, y4, y5, y6, y7⟩ := cells8N a1
        have hR : Below w.heap.size w wr := bhop HB1.out (hb2.trans (hc.below hb2.size fun k hk e => by omega))
        have hl : Laid wr (fun _ => True) (v65 lo hi pb) := laid65 a0
        have hok : okT (t65 lo hi) = true := ok65 (decide_eq_true (by omega))
        have hW := wrd65 hce
        by_cases hbig : 200 < i
        · have his := Lib.hid (isS_long _ wr _ i i (some ⟨pb + 1 + 1, 0, none⟩) hl (by rw [er65]; exact hok) (by rw [er65]; exact sz65 _ _) hbig)
          have g2 : (200 : Int) < (i : Int) := by omega
          have HRB := Lib.hid hR
          clear hl hok hW hbig a0 a1 e0 e1 hb2 hs2 hpb hR
          go_wp2_with fail
          go_at_call 16
          refine his.out.mono ?_
          rintro e w4 ⟨rfl, hb4⟩
          have HB4 := Lib.hid (bhop HRB.out hb4)
          clear hb4
          go_wp2_with fail
          go_ret
          exact ⟨rfl, HB4.out⟩
        · have his := Lib.hid (isB_any _ wr _ (List.replicate i 65) i i (some ⟨pb + 1 + 1, 0, none⟩) hl (by rw [er65]; exact hok) (by rw [er65]; exact sz65 _ _) (by rw [er65]; exact clN65 _ _) hW List.length_replicate.symm (by rw [List.length_replicate]; omega) (HT.out.below hR))
          rw [er65] at his
          have g2 : ¬ (200 : Int) < (i : Int) := by omega
          have HRB := Lib.hid (And.intro hR (And.intro (lg65 (lo := lo) (hi := hi) (by omega) (by omega) i) a1))
          clear hl hok hW hbig a0 a1 e0 e1 hb2 hs2 hpb hR
          go_wp2_with fail
          go_at_call 16
          refine his.out.mono ?_
          rintro e w4 ⟨rfl, hb4⟩
          have HB4 := Lib.hid (bhop HRB.out.1 hb4)
          obtain ⟨z0, z1, z2, z3, z4, z5, z6, z7⟩ := cells8N ((hb4.block (pb + 1) (Array.getElem?_eq_some_iff.1 HRB.out.2.2).1).trans HRB.out.2.2)
          clear hb4 y0 y1 y2 y3 y4 y5 y6 y7
          have hbb : lgB (t65 lo hi) (List.replicate i 65) = (decide (lo ≤ (i : Int)) && decide ((i : Int) ≤ hi)) := by
            rw [Bool.eq_iff_iff, lgB_iff, HRB.out.2.1]
            simp
          rw [hbb]
          clear hbb
          by_cases d1 : lo ≤ (i : Int)
          · by_cases d2 : (i : Int) ≤ hi
            · rw [decide_eq_true d1, decide_eq_true d2]
              go_wp2_with fail
              go_ret
              exact ⟨rfl, HB4.out⟩
            · rw [decide_eq_true d1, decide_eq_false d2]
              go_wp2_with fail
              go_ret
              refine ⟨?_, HB4.out⟩
              show Ending.returned (Value.bool (!decide ((i : Int) ≤ hi))) = _
              rw [decide_eq_false (by omega)]
              rfl
          · rw [decide_eq_false d1]
            go_wp2_with fail
            go_ret
            exact ⟨rfl, HB4.out⟩
  · by_cases c2 : hi < lo
    · go_enter Tryd.func8, Tryd.ntmps8
      go_wp2_with fail
      go_at_call 9
      refine HAw.out.mono ?_
      rintro e w1 ⟨rfl, hb1⟩
      have HB1 := Lib.hid hb1
      clear hb1
      go_wp2_with fail
      obtain ⟨pb, hpb⟩ : ∃ pb, pb = w1.heap.size := ⟨_, rfl⟩
      obtain ⟨w2, hw2⟩ : ∃ w2, ((w1.alloc (.cells #[.int .i64 1, .int .u64 0, .int .u64 2, .int .u64 0, .int .u64 0, .slice none 0 0, .int .i64 0, .int .i64 0] 27)).alloc (.cells #[.int .i64 4, .int .u64 0, .int .u64 0, .int .u64 0, .int .u64 0, .slice (some ⟨w1.heap.size, 0, none⟩) 1 1, .int .i64 hi, .int .i64 lo] 27)).alloc (.cells (madeCells #[.int .u8 0] m) 5) = w2 := ⟨_, rfl⟩
      have hb2 : Below w1.heap.size w1 w2 := by rw [← hw2]; exact (((Below.refl _ _).alloc (Nat.le_refl _) _).alloc (by simp) _).alloc (by simp; omega) _
      have e0 : w2.heap[pb]? = some (.cells #[.int .i64 1, .int .u64 0, .int .u64 2, .int .u64 0, .int .u64 0, .slice none 0 0, .int .i64 0, .int .i64 0] 27 (0, 0)) := by
        rw [← hw2, hpb]
        exact (Below.heap_alloc _ _ _ (by simp; omega)).trans ((Below.heap_alloc _ _ _ (by simp)).trans (heap_alloc_new w1 _))
      have e1 : w2.heap[pb + 1]? = some (.cells #[.int .i64 4, .int .u64 0, .int .u64 0, .int .u64 0, .int .u64 0, .slice (some ⟨w1.heap.size, 0, none⟩) 1 1, .int .i64 hi, .int .i64 lo] 27 (0, 0)) := by
        rw [← hw2, hpb]
        have := heap_alloc_new (w1.alloc (.cells #[.int .i64 1, .int .u64 0, .int .u64 2, .int .u64 0, .int .u64 0, .slice none 0 0, .int .i64 0, .int .i64 0] 27)) (.cells #[.int .i64 4, .int .u64 0, .int .u64 0, .int .u64 0, .int .u64 0, .slice (some ⟨w1.heap.size, 0, none⟩) 1 1, .int .i64 hi, .int .i64 lo] 27)
        rw [World.size_alloc] at this
        exact (Below.heap_alloc _ _ _ (by simp)).trans this
      have e2 : w2.heap[pb + 2]? = some (.cells (b65 m 0) 5 (0, 0)) := by
        rw [← hw2, hpb, ← b65_zero]
        have := heap_alloc_new ((w1.alloc (.cells #[.int .i64 1, .int .u64 0, .int .u64 2, .int .u64 0, .int .u64 0, .slice none 0 0, .int .i64 0, .int .i64 0] 27)).alloc (.cells #[.int .i64 4, .int .u64 0, .int .u64 0, .int .u64 0, .int .u64 0, .slice (some ⟨w1.heap.size, 0, none⟩) 1 1, .int .i64 hi, .int .i64 lo] 27)) (.cells (madeCells #[.int .u8 0] m) 5)
        rw [World.size_alloc, World.size_alloc] at this
        exact this
      rw [← hpb] at e1
      have hs2 : w2.heap.size = pb + 3 := by rw [← hw2, hpb]; simp
      rw [hw2, ← hpb]
      have HB2 := Lib.hid (And.intro hb2 (And.intro e0 (And.intro e1 (And.intro hs2 hpb))))
      have HM := Lib.hid (And.intro hmk hm1)
      clear hw2 hb2 e0 e1 hs2 hpb hmk
      go_loopw [9] (fun v wr => ∃ i : Nat, v = .int .i64 (i : Nat) ∧ i ≤ m ∧ wr.heap[pb + 1 + 1]? = some (.cells (b65 m i) 5 (0, 0)) ∧ Chg (fun k => k = pb + 1 + 1) w2 wr) (fun v _ => match v with | .int _ i => m - i.toNat | _ => 0)
      case atStart => exact ⟨0, rfl, by omega, e2, Chg.refl _ _⟩
      case round =>
        clear e2
        obtain ⟨i, rfl, hi1, hce, hc⟩ := hrel
        have HJ := Lib.hid (And.intro hce hc)
        by_cases him : i < m
        · have g1 : (i : Int) < m := by omega
          have i1 : 0 ≤ (i : Int) ∧ (i : Int) < m := by omega
          have f1 := (row_cells hce).2 i
          obtain ⟨v0, hv0⟩ : ∃ v0, wr.cell? ⟨pb + 1 + 1, i, none⟩ = some v0 := by
            rw [(row_cells hce).1 i]
            exact ⟨_, Array.getElem?_eq_getElem (by unfold b65; simp; omega)⟩
          have hsz := (Array.getElem?_eq_some_iff.1 hce).1
          have hw1 : IntKind.i64.wrap ((i : Int) + 1) = ((i + 1 : Nat) : Int) := by rw [IntKind.wrap_i64]; omega
          clear hce hc
          go_wp2_with fail
          go_roundw
          case rel =>
            refine ⟨i + 1, by simp, by omega, ?_, HJ.out.2.trans (chg_set wr _ _ _) fun _ _ e => e⟩
            rw [heap_setCell_same wr _ _ _ _ _ HJ.out.1, b65_set]
          case measure =>
            show m - ((i : Int) + 1).toNat < m - ((i : Int)).toNat
            omega
        · have g1 : ¬ (i : Int) < m := by omega
          have hE : i = m := by omega
          subst hE
          obtain ⟨hb2, e0, e1, hs2, hpb⟩ := HB2.out
          have a0 := (hc.block pb (by omega) (by omega)).trans e0
          have a1 := (hc.block (pb + 1) (by omega) (by omega)).trans e1
          obtain ⟨y0, y1, y2, y3, y4, y5, y6, y7⟩ := cells8N a1
          have hR : Below w.heap.size w wr := bhop HB1.out (hb2.trans (hc.below hb2.size fun k hk e => by omega))
          have hl : Laid wr (fun _ => True) (v65 hi lo pb) := laid65 a0
          have hok : okT (t65 hi lo) = true := ok65 (decide_eq_true (by omega))
          have hW := wrd65 hce
          by_cases hbig : 200 < i
          · have los := Lib.hid (isS_long _ wr _ i i (some ⟨pb + 1 + 1, 0, none⟩) hl (by rw [er65]; exact hok) (by rw [er65]; exact sz65 _ _) hbig)
            have g2 : (200 : Int) < (i : Int) := by omega
            have HRB := Lib.hid hR
            clear hl hok hW hbig a0 a1 e0 e1 hb2 hs2 hpb hR
            go_wp2_with fail
            go_at_call 16
            refine los.out.mono ?_
            rintro e w4 ⟨rfl, hb4⟩
            have HB4 := Lib.hid (bhop HRB.out hb4)
            clear hb4
            go_wp2_with fail
            go_ret
            exact ⟨rfl, HB4.out⟩
          · have los := Lib.hid (isB_any _ wr _ (List.replicate i 65) i i (some ⟨pb + 1 + 1, 0, none⟩) hl (by rw [er65]; exact hok) (by rw [er65]; exact sz65 _ _) (by rw [er65]; exact clN65 _ _) hW List.length_replicate.symm (by rw [List.length_replicate]; omega) (HT.out.below hR))
            rw [er65] at los
            have g2 : ¬ (200 : Int) < (i : Int) := by omega
            have HRB := Lib.hid (And.intro hR (And.intro (lg65 (lo := hi) (hi := lo) (by omega) (by omega) i) a1))
            clear hl hok hW hbig a0 a1 e0 e1 hb2 hs2 hpb hR
            go_wp2_with fail
            go_at_call 16
            refine los.out.mono ?_
            rintro e w4 ⟨rfl, hb4⟩
            have HB4 := Lib.hid (bhop HRB.out.1 hb4)
            obtain ⟨z0, z1, z2, z3, z4, z5, z6, z7⟩ := cells8N ((hb4.block (pb + 1) (Array.getElem?_eq_some_iff.1 HRB.out.2.2).1).trans HRB.out.2.2)
            clear hb4 y0 y1 y2 y3 y4 y5 y6 y7
            have hbb : lgB (t65 hi lo) (List.replicate i 65) = (decide (hi ≤ (i : Int)) && decide ((i : Int) ≤ lo)) := by
              rw [Bool.eq_iff_iff, lgB_iff, HRB.out.2.1]
              simp
            rw [hbb]
            clear hbb
            by_cases d1 : hi ≤ (i : Int)
            · by_cases d2 : (i : Int) ≤ lo
              · rw [decide_eq_true d1, decide_eq_true d2]
                go_wp2_with fail
                go_ret
                exact ⟨rfl, HB4.out⟩
              · rw [decide_eq_true d1, decide_eq_false d2]
                go_wp2_with fail
                go_ret
                refine ⟨?_, HB4.out⟩
                show Ending.returned (Value.bool (!decide ((i : Int) ≤ lo))) = _
                rw [decide_eq_false (by omega)]
                rfl
            · rw [decide_eq_false d1]
              go_wp2_with fail
              go_ret
              exact ⟨rfl, HB4.out⟩
    · have c3 : lo = hi := by omega
      subst c3
      go_enter Tryd.func8, Tryd.ntmps8
      go_wp2_with fail
      go_at_call 9
      refine HAw.out.mono ?_
      rintro e w1 ⟨rfl, hb1⟩
      have HB1 := Lib.hid hb1
      clear hb1
      go_wp2_with fail
      obtain ⟨pb, hpb⟩ : ∃ pb, pb = w1.heap.size := ⟨_, rfl⟩
      obtain ⟨w2, hw2⟩ : ∃ w2, ((w1.alloc (.cells #[.int .i64 1, .int .u64 0, .int .u64 2, .int .u64 0, .int .u64 0, .slice none 0 0, .int .i64 0, .int .i64 0] 27)).alloc (.cells #[.int .i64 4, .int .u64 0, .int .u64 0, .int .u64 0, .int .u64 0, .slice (some ⟨w1.heap.size, 0, none⟩) 1 1, .int .i64 lo, .int .i64 lo] 27)).alloc (.cells (madeCells #[.int .u8 0] m) 5) = w2 := ⟨_, rfl⟩
      have hb2 : Below w1.heap.size w1 w2 := by rw [← hw2]; exact (((Below.refl _ _).alloc (Nat.le_refl _) _).alloc (by simp) _).alloc (by simp; omega) _
      have e0 : w2.heap[pb]? = some (.cells #[.int .i64 1, .int .u64 0, .int .u64 2, .int .u64 0, .int .u64 0, .slice none 0 0, .int .i64 0, .int .i64 0] 27 (0, 0)) := by
        rw [← hw2, hpb]
        exact (Below.heap_alloc _ _ _ (by simp; omega)).trans ((Below.heap_alloc _ _ _ (by simp)).trans (heap_alloc_new w1 _))
      have e1 : w2.heap[pb + 1]? = some (.cells #[.int .i64 4, .int .u64 0, .int .u64 0, .int .u64 0, .int .u64 0, .slice (some ⟨w1.heap.size, 0, none⟩) 1 1, .int .i64 lo, .int .i64 lo] 27 (0, 0)) := by
        rw [← hw2, hpb]
        have := heap_alloc_new (w1.alloc (.cells #[.int .i64 1, .int .u64 0, .int .u64 2, .int .u64 0, .int .u64 0, .slice none 0 0, .int .i64 0, .int .i64 0] 27)) (.cells #[.int .i64 4, .int .u64 0, .int .u64 0, .int .u64 0, .int .u64 0, .slice (some ⟨w1.heap.size, 0, none⟩) 1 1, .int .i64 lo, .int .i64 lo] 27)
        rw [World.size_alloc] at this
        exact (Below.heap_alloc _ _ _ (by simp)).trans this
      have e2 : w2.heap[pb + 2]? = some (.cells (b65 m 0) 5 (0, 0)) := by
        rw [← hw2, hpb, ← b65_zero]
        have := heap_alloc_new ((w1.alloc (.cells #[.int .i64 1, .int .u64 0, .int .u64 2, .int .u64 0, .int .u64 0, .slice none 0 0, .int .i64 0, .int .i64 0] 27)).alloc (.cells #[.int .i64 4, .int .u64 0, .int .u64 0, .int .u64 0, .int .u64 0, .slice (some ⟨w1.heap.size, 0, none⟩) 1 1, .int .i64 lo, .int .i64 lo] 27)) (.cells (madeCells #[.int .u8 0] m) 5)
        rw [World.size_alloc, World.size_alloc] at this
        exact this
      rw [← hpb] at e1
      have hs2 : w2.heap.size = pb + 3 := by rw [← hw2, hpb]; simp
      rw [hw2, ← hpb]
      have HB2 := Lib.hid (And.intro hb2 (And.intro e0 (And.intro e1 (And.intro hs2 hpb))))
      have HM := Lib.hid (And.intro hmk hm1)
      clear hw2 hb2 e0 e1 hs2 hpb hmk
      go_loopw [9] (fun v wr => ∃ i : Nat, v = .int .i64 (i : Nat) ∧ i ≤ m ∧ wr.heap[pb + 1 + 1]? = some (.cells (b65 m i) 5 (0, 0)) ∧ Chg (fun k => k = pb + 1 + 1) w2 wr) (fun v _ => match v with | .int _ i => m - i.toNat | _ => 0)
      case atStart => exact ⟨0, rfl, by omega, e2, Chg.refl _ _⟩
      case round =>
        clear e2
        obtain ⟨i, rfl, hi1, hce, hc⟩ := hrel
        have HJ := Lib.hid (And.intro hce hc)
        by_cases him : i < m
        · have g1 : (i : Int) < m := by omega
          have i1 : 0 ≤ (i : Int) ∧ (i : Int) < m := by omega
          have f1 := (row_cells hce).2 i
          obtain ⟨v0, hv0⟩ : ∃ v0, wr.cell? ⟨pb + 1 + 1, i, none⟩ = some v0 := by
            rw [(row_cells hce).1 i]
            exact ⟨_, Array.getElem?_eq_getElem (by unfold b65; simp; omega)⟩
          have hsz := (Array.getElem?_eq_some_iff.1 hce).1
          have hw1 : IntKind.i64.wrap ((i : Int) + 1) = ((i + 1 : Nat) : Int) := by rw [IntKind.wrap_i64]; omega
          clear hce hc
          go_wp2_with fail
          go_roundw
          case rel =>
            refine ⟨i + 1, by simp, by omega, ?_, HJ.out.2.trans (chg_set wr _ _ _) fun _ _ e => e⟩
            rw [heap_setCell_same wr _ _ _ _ _ HJ.out.1, b65_set]
          case measure =>
            show m - ((i : Int) + 1).toNat < m - ((i : Int)).toNat
            omega
        · have g1 : ¬ (i : Int) < m := by omega
          have hE : i = m := by omega
          subst hE
          obtain ⟨hb2, e0, e1, hs2, hpb⟩ := HB2.out
          have a0 := (hc.block pb (by omega) (by omega)).trans e0
          have a1 := (hc.block (pb + 1) (by omega) (by omega)).trans e1
          obtain ⟨y0, y1, y2, y3, y4, y5, y6, y7⟩ := cells8N a1
          have hR : Below w.heap.size w wr := bhop HB1.out (hb2.trans (hc.below hb2.size fun k hk e => by omega))
          have hl : Laid wr (fun _ => True) (v65 lo lo pb) := laid65 a0
          have hok : okT (t65 lo lo) = true := ok65 (decide_eq_true (by omega))
          have hW := wrd65 hce
          by_cases hbig : 200 < i
          · have los := Lib.hid (isS_long _ wr _ i i (some ⟨pb + 1 + 1, 0, none⟩) hl (by rw [er65]; exact hok) (by rw [er65]; exact sz65 _ _) hbig)
            have g2 : (200 : Int) < (i : Int) := by omega
            have HRB := Lib.hid hR
            clear hl hok hW hbig a0 a1 e0 e1 hb2 hs2 hpb hR
            go_wp2_with fail
            go_at_call 16
            refine los.out.mono ?_
            rintro e w4 ⟨rfl, hb4⟩
            have HB4 := Lib.hid (bhop HRB.out hb4)
            clear hb4
            go_wp2_with fail
            go_ret
            exact ⟨rfl, HB4.out⟩
          · have los := Lib.hid (isB_any _ wr _ (List.replicate i 65) i i (some ⟨pb + 1 + 1, 0, none⟩) hl (by rw [er65]; exact hok) (by rw [er65]; exact sz65 _ _) (by rw [er65]; exact clN65 _ _) hW List.length_replicate.symm (by rw [List.length_replicate]; omega) (HT.out.below hR))
            rw [er65] at los
            have g2 : ¬ (200 : Int) < (i : Int) := by omega
            have HRB := Lib.hid (And.intro hR (And.intro (lg65 (lo := lo) (hi := lo) (by omega) (by omega) i) a1))
            clear hl hok hW hbig a0 a1 e0 e1 hb2 hs2 hpb hR
            go_wp2_with fail
            go_at_call 16
            refine los.out.mono ?_
            rintro e w4 ⟨rfl, hb4⟩
            have HB4 := Lib.hid (bhop HRB.out.1 hb4)
            obtain ⟨z0, z1, z2, z3, z4, z5, z6, z7⟩ := cells8N ((hb4.block (pb + 1) (Array.getElem?_eq_some_iff.1 HRB.out.2.2).1).trans HRB.out.2.2)
            clear hb4 y0 y1 y2 y3 y4 y5 y6 y7
            have hbb : lgB (t65 lo lo) (List.replicate i 65) = (decide (lo ≤ (i : Int)) && decide ((i : Int) ≤ lo)) := by
              rw [Bool.eq_iff_iff, lgB_iff, HRB.out.2.1]
              simp
            rw [hbb]
            clear hbb
            by_cases d1 : lo ≤ (i : Int)
            · by_cases d2 : (i : Int) ≤ lo
              · rw [decide_eq_true d1, decide_eq_true d2]
                go_wp2_with fail
                go_ret
                exact ⟨rfl, HB4.out⟩
              · rw [decide_eq_true d1, decide_eq_false d2]
                go_wp2_with fail
                go_ret
                refine ⟨?_, HB4.out⟩
                show Ending.returned (Value.bool (!decide ((i : Int) ≤ lo))) = _
                rw [decide_eq_false (by omega)]
                rfl
            · rw [decide_eq_false d1]
              go_wp2_with fail
              go_ret
              exact ⟨rfl, HB4.out⟩

end Go.Proofs.YtdjddmkmcdfmiaaDoor
