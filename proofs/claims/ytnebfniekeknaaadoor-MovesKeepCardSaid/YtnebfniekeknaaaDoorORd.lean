/- Layer 7's Order, the program's and the document's: contracts.
   No conditions. -/
import Derived.Test.YtnebfniekeknaaaDoorNA
import Derived.Test.YtnebfniekeknaaaDoorMBase
import Derived.Deep.RegionWith
import Derived.Deep.RegionLaw

namespace Go.Proofs.YtnebfniekeknaaaDoor
open Go.RowKit

theorem bhopO {w w1 w2 : World} (h1 : Below w.heap.size w w1) (h2 : Below w1.heap.size w1 w2) : Below w.heap.size w w2 := h1.trans (h2.mono h1.size)
theorem cells5 {w : World} {b : Nat} {a0 a1 a2 a3 a4 : Value} {e : TypeId} (h : w.heap[b]? = some (.cells #[a0, a1, a2, a3, a4] e (0, 0))) : w.cell? ⟨b, 0, none⟩ = some a0 ∧ w.cell? ⟨b, 1, none⟩ = some a1 ∧ w.cell? ⟨b, 2, none⟩ = some a2 ∧ w.cell? ⟨b, 3, none⟩ = some a3 ∧ w.cell? ⟨b, 4, none⟩ = some a4 :=
  have p := (row_cells h).1
  ⟨p 0, p 1, p 2, p 3, p 4⟩
theorem lex_pair (a b : Int) (l m : List Int) : lexI (a :: l) (b :: m) = orI (cmpI a b) (lexI l m) := rfl
theorem four_at {w : World} {b : Nat} {a0 a1 a2 a3 a4 : Int} {e : TypeId} (h : w.heap[b]? = some (.cells #[.int .i64 a0, .int .i64 a1, .int .i64 a2, .int .i64 a3, .int .i64 a4] e (0, 0))) : ∀ i x, [a1, a2, a3, a4][i]? = some x → w.cell? ⟨b, 1 + i, none⟩ = some (.int .i64 x) := by
  intro i x hx
  obtain ⟨c0, c1, c2, c3, c4⟩ := cells5 h
  match i, hx with
  | 0, hx => obtain rfl : a1 = x := Option.some.inj hx; exact c1
  | 1, hx => obtain rfl : a2 = x := Option.some.inj hx; exact c2
  | 2, hx => obtain rfl : a3 = x := Option.some.inj hx; exact c3
  | 3, hx => obtain rfl : a4 = x := Option.some.inj hx; exact c4
  | i + 4, hx => simp at hx

set_option maxHeartbeats 4000000 in
set_option maxRecDepth 100000 in
theorem order_any (a0 a1 a2 a3 a4 b0 b1 b2 b3 b4 : Int) (w : World) :
    Calls Tryd.prog 28 #[.agg #[.int .i64 a0, .int .i64 a1, .int .i64 a2, .int .i64 a3, .int .i64 a4], .agg #[.int .i64 b0, .int .i64 b1, .int .i64 b2, .int .i64 b3, .int .i64 b4]] w fun e w' => e = .returned (.int .i64 (lexI [a0, a1, a2, a3, a4] [b0, b1, b2, b3, b4])) ∧ Below w.heap.size w w' := by
  obtain ⟨w2, hw2⟩ : ∃ w2, (w.alloc (.cells #[.int .i64 a0, .int .i64 a1, .int .i64 a2, .int .i64 a3, .int .i64 a4] 61)).alloc (.cells #[.int .i64 b0, .int .i64 b1, .int .i64 b2, .int .i64 b3, .int .i64 b4] 61) = w2 := ⟨_, rfl⟩
  have hb2 : Below w.heap.size w w2 := hw2 ▸ ((Below.refl _ w).alloc (Nat.le_refl _) _).alloc (by simp) _
  have e1 : w2.heap[w.heap.size]? = some (.cells #[.int .i64 a0, .int .i64 a1, .int .i64 a2, .int .i64 a3, .int .i64 a4] 61 (0, 0)) := by rw [← hw2]; exact (Below.heap_alloc _ _ _ (by simp)).trans (heap_alloc_new w _)
  have e2 : w2.heap[w.heap.size + 1]? = some (.cells #[.int .i64 b0, .int .i64 b1, .int .i64 b2, .int .i64 b3, .int .i64 b4] 61 (0, 0)) := by
    rw [← hw2]
    have := heap_alloc_new (w.alloc (.cells #[.int .i64 a0, .int .i64 a1, .int .i64 a2, .int .i64 a3, .int .i64 a4] 61)) (.cells #[.int .i64 b0, .int .i64 b1, .int .i64 b2, .int .i64 b3, .int .i64 b4] 61)
    rw [World.size_alloc] at this
    exact this
  obtain ⟨c0, _⟩ := cells5 e1
  obtain ⟨d0, _⟩ := cells5 e2
  have HB := Lib.hid (And.intro hb2 (And.intro (four_at e1) (four_at e2)))
  have HS := Lib.hid (fun (W : World) (hW : ∀ p, W.cell? p = w2.cell? p) => slicesCompare_any W 4 w.heap.size 1 4 (w.heap.size + 1) 1 4 [a1, a2, a3, a4] [b1, b2, b3, b4] (by omega) rfl rfl (fun i x hx => (hW _).trans (HB.out.2.1 i x hx)) (fun i x hx => (hW _).trans (HB.out.2.2 i x hx)))
  clear hb2 e1 e2
  go_enter Tryd.func28, Tryd.ntmps28
  go_upto_region 1 with fail
  clear hw2
  go_region_with (first
    | (go_at_call 45; refine (compare_int _ _ _).mono ?_; rintro e w1 ⟨rfl, rfl⟩)
    | (go_at_call 46; refine (HS.out _ (by intro p; rfl)).mono ?_; rintro e w1 ⟨rfl, rfl⟩)
    | (go_at_call 44; refine (or_two w2.heap.size (cmpI a0 b0) (lexI [a1, a2, a3, a4] [b1, b2, b3, b4]) _ (by first | exact (row_cells (heap_alloc_new _ _)).1 0) (by first | exact (row_cells (heap_alloc_new _ _)).1 1)).mono ?_; rintro e w1 ⟨rfl, rfl⟩))
  all_goals
    go_wp2_with fail
    go_ret
    refine ⟨by rw [lex_pair]; rfl, ?_⟩
    first | exact HB.out.1.alloc HB.out.1.size _ | exact (HB.out.1.alloc HB.out.1.size _).drew | exact below_drewN (HB.out.1.alloc HB.out.1.size _) _ | exact (HB.out.1.drew).alloc HB.out.1.size _

theorem five_at {w : World} {b : Nat} {a0 a1 a2 a3 a4 : Int} {e : TypeId} (h : w.heap[b]? = some (.cells #[.int .i64 a0, .int .i64 a1, .int .i64 a2, .int .i64 a3, .int .i64 a4] e (0, 0))) : ∀ i x, [a0, a1, a2, a3, a4][i]? = some x → w.cell? ⟨b, i, none⟩ = some (.int .i64 x) := by
  intro i x hx
  obtain ⟨c0, c1, c2, c3, c4⟩ := cells5 h
  match i, hx with
  | 0, hx => obtain rfl : a0 = x := Option.some.inj hx; exact c0
  | 1, hx => obtain rfl : a1 = x := Option.some.inj hx; exact c1
  | 2, hx => obtain rfl : a2 = x := Option.some.inj hx; exact c2
  | 3, hx => obtain rfl : a3 = x := Option.some.inj hx; exact c3
  | 4, hx => obtain rfl : a4 = x := Option.some.inj hx; exact c4
  | i + 5, hx => simp at hx
/-- Ahead of a round of the document's Order. -/
def OrdI (w : World) (xs ys : List Int) (m : Nat) (x : Value) (wr : World) : Prop := ∃ i : Nat, x = .int .i64 i ∧ m = 5 - i ∧ i ≤ 5 ∧ lexI (xs.drop i) (ys.drop i) = lexI xs ys ∧ Below w.heap.size w wr
set_option maxHeartbeats 4000000 in
set_option maxRecDepth 100000 in
theorem refOrder_any (a0 a1 a2 a3 a4 b0 b1 b2 b3 b4 : Int) (w : World) :
    Calls Tryd.prog 29 #[.agg #[.int .i64 a0, .int .i64 a1, .int .i64 a2, .int .i64 a3, .int .i64 a4], .agg #[.int .i64 b0, .int .i64 b1, .int .i64 b2, .int .i64 b3, .int .i64 b4]] w fun e w' => e = .returned (.int .i64 (lexI [a0, a1, a2, a3, a4] [b0, b1, b2, b3, b4])) ∧ Below w.heap.size w w' := by
  obtain ⟨w2, hw2⟩ : ∃ w2, (w.alloc (.cells #[.int .i64 a0, .int .i64 a1, .int .i64 a2, .int .i64 a3, .int .i64 a4] 61)).alloc (.cells #[.int .i64 b0, .int .i64 b1, .int .i64 b2, .int .i64 b3, .int .i64 b4] 61) = w2 := ⟨_, rfl⟩
  have hb2 : Below w.heap.size w w2 := hw2 ▸ ((Below.refl _ w).alloc (Nat.le_refl _) _).alloc (by simp) _
  have e1 : w2.heap[w.heap.size]? = some (.cells #[.int .i64 a0, .int .i64 a1, .int .i64 a2, .int .i64 a3, .int .i64 a4] 61 (0, 0)) := by rw [← hw2]; exact (Below.heap_alloc _ _ _ (by simp)).trans (heap_alloc_new w _)
  have e2 : w2.heap[w.heap.size + 1]? = some (.cells #[.int .i64 b0, .int .i64 b1, .int .i64 b2, .int .i64 b3, .int .i64 b4] 61 (0, 0)) := by
    rw [← hw2]
    have := heap_alloc_new (w.alloc (.cells #[.int .i64 a0, .int .i64 a1, .int .i64 a2, .int .i64 a3, .int .i64 a4] 61)) (.cells #[.int .i64 b0, .int .i64 b1, .int .i64 b2, .int .i64 b3, .int .i64 b4] 61)
    rw [World.size_alloc] at this
    exact this
  obtain ⟨w3, hw3⟩ : ∃ w3, w2.alloc (.cells #[.int .i64 a0, .int .i64 a1, .int .i64 a2, .int .i64 a3, .int .i64 a4] 100) = w3 := ⟨_, rfl⟩
  have hb3 : Below w2.heap.size w2 w3 := hw3 ▸ (Below.refl _ w2).alloc (Nat.le_refl _) _
  have e3 : w3.heap[w2.heap.size]? = some (.cells #[.int .i64 a0, .int .i64 a1, .int .i64 a2, .int .i64 a3, .int .i64 a4] 100 (0, 0)) := hw3 ▸ heap_alloc_new w2 _
  have e2' := (hb3.block _ (Array.getElem?_eq_some_iff.1 e2).1).trans e2
  obtain ⟨w4, hw4⟩ : ∃ w4, w3.alloc (.cells #[.int .i64 b0, .int .i64 b1, .int .i64 b2, .int .i64 b3, .int .i64 b4] 100) = w4 := ⟨_, rfl⟩
  have hb4 : Below w3.heap.size w3 w4 := hw4 ▸ (Below.refl _ w3).alloc (Nat.le_refl _) _
  have e4 : w4.heap[w3.heap.size]? = some (.cells #[.int .i64 b0, .int .i64 b1, .int .i64 b2, .int .i64 b3, .int .i64 b4] 100 (0, 0)) := hw4 ▸ heap_alloc_new w3 _
  have e3' := (hb4.block _ (Array.getElem?_eq_some_iff.1 e3).1).trans e3
  obtain ⟨c0, c1, c2, c3, c4⟩ := cells5 e1
  obtain ⟨d0, d1, d2, d3, d4⟩ := cells5 e2'
  have l3 := (Array.getElem?_eq_some_iff.1 e3').1
  have l4 := (Array.getElem?_eq_some_iff.1 e4).1
  have HB := Lib.hid (And.intro (hb2.trans ((hb3.mono hb2.size).trans (hb4.mono (Nat.le_trans hb2.size hb3.size)))) (And.intro (five_at e3') (five_at e4)))
  clear hb2 e1 e2 hb3 e3 e2' hb4 e4 e3'
  go_enter Tryd.func29, Tryd.ntmps29
  go_upto_region 1 with fail
  clear hw2
  go_upto_region 2 with fail
  clear hw3
  go_upto_region 3 with fail
  clear hw4
  go_wp2_with fail
  go_loopw [7] (fun x wr => ∃ m, OrdI w4 [a0, a1, a2, a3, a4] [b0, b1, b2, b3, b4] m x wr) (fun x wr => leastOf (fun m => OrdI w4 [a0, a1, a2, a3, a4] [b0, b1, b2, b3, b4] m x wr))
  case atStart => exact ⟨_, 0, rfl, rfl, Nat.zero_le _, rfl, Below.refl _ _⟩
  case round =>
    have hls := (leastOf_spec hrel).1
    obtain ⟨i, rfl, hN, hi, hlx, hb⟩ := hls
    have s1 : (0 : Int) ≤ (i : Int) := by omega
    by_cases g : i < 5
    · have s2 : (i : Int) < 5 := by omega
      obtain ⟨x, hx⟩ : ∃ x, [a0, a1, a2, a3, a4][i]? = some x := ⟨_, List.getElem?_eq_getElem (by simp; omega)⟩
      obtain ⟨y, hy⟩ : ∃ y, [b0, b1, b2, b3, b4][i]? = some y := ⟨_, List.getElem?_eq_getElem (by simp; omega)⟩
      have y1 : wr.cell? ⟨w2.heap.size, i, none⟩ = some (.int .i64 x) := (hb.cell (p := ⟨w2.heap.size, i, none⟩) l3).trans (HB.out.2.1 i x hx)
      have y2 : wr.cell? ⟨w3.heap.size, i, none⟩ = some (.int .i64 y) := (hb.cell (p := ⟨w3.heap.size, i, none⟩) l4).trans (HB.out.2.2 i y hy)
      have hd : lexI ([a0, a1, a2, a3, a4].drop i) ([b0, b1, b2, b3, b4].drop i) = orI (cmpI x y) (lexI ([a0, a1, a2, a3, a4].drop (i + 1)) ([b0, b1, b2, b3, b4].drop (i + 1))) := by
        have e1 : [a0, a1, a2, a3, a4].drop i = x :: [a0, a1, a2, a3, a4].drop (i + 1) := by
          obtain ⟨hl, he⟩ := List.getElem?_eq_some_iff.1 hx
          rw [List.drop_eq_getElem_cons hl, he]
        have e2 : [b0, b1, b2, b3, b4].drop i = y :: [b0, b1, b2, b3, b4].drop (i + 1) := by
          obtain ⟨hl, he⟩ := List.getElem?_eq_some_iff.1 hy
          rw [List.drop_eq_getElem_cons hl, he]
        rw [e1, e2, lexI]
        rfl
      have HD := Lib.hid (hd.symm.trans hlx)
      have HN := Lib.hid hN
      have HBr := Lib.hid hb
      have hi5 : i + 1 ≤ 5 := g
      clear hN hlx hd hrel hx hy hi hb
      rcases cmpI_cases x y with ⟨h, hlt⟩ | ⟨h, hlt⟩ | ⟨h, hlt⟩
      · have HC := Lib.hid (show lexI [a0, a1, a2, a3, a4] [b0, b1, b2, b3, b4] = -1 by have := HD.out; rw [h] at this; exact this.symm)
        clear h
        go_wp2_with fail
        go_quiet (fail)
        go_wp2_with fail
        go_ret
        exact ⟨by rw [HC.out]; rfl, below_drewN (bhopO HB.out.1 HBr.out) _⟩
      · have HC := Lib.hid (show lexI [a0, a1, a2, a3, a4] [b0, b1, b2, b3, b4] = 1 by have := HD.out; rw [h] at this; exact this.symm)
        have hng : ¬ x < y := by omega
        clear h
        go_wp2_with fail
        go_quiet (fail)
        go_wp2_with fail
        go_quiet (fail)
        go_wp2_with fail
        go_ret
        exact ⟨by rw [HC.out]; rfl, below_drewN (below_drewN (bhopO HB.out.1 HBr.out) _) _⟩
      · have HP := Lib.hid (show ∀ W, Below wr.heap.size wr W → OrdI w4 [a0, a1, a2, a3, a4] [b0, b1, b2, b3, b4] (5 - (i + 1)) (.int .i64 ((i : Int) + 1)) W from fun W hW => ⟨i + 1, by push_cast; rfl, rfl, hi5, by have := HD.out; rw [h] at this; exact this, bhopO HBr.out hW⟩)
        have HLT := Lib.hid (show 5 - (i + 1) < 5 - i by omega)
        have hng : ¬ x < y := by omega
        have hng2 : ¬ y < x := by omega
        clear h hlt
        go_wp2_with fail
        go_quiet (fail)
        go_wp2_with fail
        go_quiet (fail)
        go_wp2_with fail
        go_roundw
        case rel => exact ⟨_, HP.out _ (below_drewN (Below.refl _ _) _)⟩
        case measure =>
          rw [HN.out]
          exact Nat.lt_of_le_of_lt ((leastOf_spec ⟨_, HP.out _ (below_drewN (Below.refl _ _) _)⟩).2 _ (HP.out _ (below_drewN (Below.refl _ _) _))) HLT.out
    · have s2 : ¬ (i : Int) < 5 := by omega
      have HE := Lib.hid (show lexI [a0, a1, a2, a3, a4] [b0, b1, b2, b3, b4] = 0 by
        rw [← hlx, show i = 5 by omega]
        rfl)
      have HBr := Lib.hid hb
      clear hlx hN hrel hi hb
      go_wp2_with fail
      go_ret
      exact ⟨by rw [HE.out]; rfl, bhopO HB.out.1 HBr.out⟩

end Go.Proofs.YtnebfniekeknaaaDoor
