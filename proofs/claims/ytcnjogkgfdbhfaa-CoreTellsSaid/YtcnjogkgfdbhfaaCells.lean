/- Classes that lie in memory: four cells of a block, read, stored into, and carried on. Plain facts on worlds.
   Conditions: those that each theorem states. -/
import Derived.Test.YtcnjogkgfdbhfaaMade
namespace Go.Proofs.Ytcnjogkgfdbhfaa
open Go.RowKit

def Cells (w : World) (b : Nat) (C : Nat → Nat) : Prop := ∀ j, j < 4 → w.cell? ⟨b, j, none⟩ = some (.int .u64 (C j : Nat))
def Free (w : World) (b : Nat) : Prop := ∀ j, j < 4 → w.frozen? ⟨b, j, none⟩ = false
def IsVar (w : World) (H : Nat) (x : Value) (b : Nat) (E : Nat → Nat) : Prop := x = .pointer (some ⟨b, 0, none⟩) ∧ H ≤ b ∧ b < w.heap.size ∧ Cells w b E ∧ Free w b
theorem Cells.lt {w : World} {b : Nat} {C : Nat → Nat} (h : Cells w b C) : b < w.heap.size := World.block_lt_of_cell? _ _ (h 0 (by decide))
theorem Cells.below {w w' : World} {b : Nat} {C : Nat → Nat} (h : Cells w b C) (hb : Below w.heap.size w w') : Cells w' b C := fun j hj => (hb.cell (p := ⟨b, j, none⟩) h.lt).trans (h j hj)
theorem Free.below {w w' : World} {b : Nat} (h : Free w b) (hl : b < w.heap.size) (hb : Below w.heap.size w w') : Free w' b := fun j hj => (hb.frozen (p := ⟨b, j, none⟩) hl).trans (h j hj)
theorem IsVar.below {w w' : World} {H b : Nat} {x : Value} {E : Nat → Nat} (h : IsVar w H x b E) (hb : Below w.heap.size w w') : IsVar w' H x b E :=
  ⟨h.1, h.2.1, Nat.lt_of_lt_of_le h.2.2.1 hb.size, h.2.2.2.1.below hb, h.2.2.2.2.below h.2.2.1 hb⟩
def store4 (w : World) (b : Nat) (C : Nat → Nat) : World := (((w.setCell ⟨b, 0, none⟩ (.int .u64 (C 0 : Nat))).setCell ⟨b, 1, none⟩ (.int .u64 (C 1 : Nat))).setCell ⟨b, 2, none⟩ (.int .u64 (C 2 : Nat))).setCell ⟨b, 3, none⟩ (.int .u64 (C 3 : Nat))
theorem addr_ne {b b' j k : Nat} (h : b ≠ b' ∨ j ≠ k) : (⟨b, j, none⟩ : Addr) ≠ ⟨b', k, none⟩ := by
  intro e
  injection e with e1 e2 _
  rcases h with h | h
  · exact h e1
  · exact h e2
theorem store4_same {w : World} {b : Nat} {C E : Nat → Nat} (h : Cells w b E) : Cells (store4 w b C) b C := by
  intro j hj
  have e0 := h 0 (by decide)
  have e1 := h 1 (by decide)
  have e2 := h 2 (by decide)
  have e3 := h 3 (by decide)
  unfold store4
  match j, hj with
  | 0, _ =>
    rw [World.cell?_setCell_other (h := addr_ne (.inr (by decide))), World.cell?_setCell_other (h := addr_ne (.inr (by decide))), World.cell?_setCell_other (h := addr_ne (.inr (by decide))), World.cell?_setCell_same (h := e0)]
  | 1, _ =>
    rw [World.cell?_setCell_other (h := addr_ne (.inr (by decide))), World.cell?_setCell_other (h := addr_ne (.inr (by decide))), World.cell?_setCell_same (h := by rw [World.cell?_setCell_other (h := addr_ne (.inr (by decide)))]; exact e1)]
  | 2, _ =>
    rw [World.cell?_setCell_other (h := addr_ne (.inr (by decide))), World.cell?_setCell_same (h := by rw [World.cell?_setCell_other (h := addr_ne (.inr (by decide))), World.cell?_setCell_other (h := addr_ne (.inr (by decide)))]; exact e2)]
  | 3, _ =>
    rw [World.cell?_setCell_same (h := by rw [World.cell?_setCell_other (h := addr_ne (.inr (by decide))), World.cell?_setCell_other (h := addr_ne (.inr (by decide))), World.cell?_setCell_other (h := addr_ne (.inr (by decide)))]; exact e3)]
theorem store4_other {w : World} {b b' : Nat} {C E : Nat → Nat} (h : Cells w b' E) (hne : b ≠ b') : Cells (store4 w b C) b' E := by
  intro j hj
  unfold store4
  rw [World.cell?_setCell_other (h := addr_ne (.inl hne)), World.cell?_setCell_other (h := addr_ne (.inl hne)), World.cell?_setCell_other (h := addr_ne (.inl hne)), World.cell?_setCell_other (h := addr_ne (.inl hne))]
  exact h j hj
theorem store4_free {w : World} {b b' : Nat} {C : Nat → Nat} (h : Free w b') : Free (store4 w b C) b' := by
  intro j hj
  unfold store4
  simp [h j hj]
theorem store4_size (w : World) (b : Nat) (C : Nat → Nat) : (store4 w b C).heap.size = w.heap.size := by
  unfold store4
  simp
theorem store4_below {w0 w : World} {b : Nat} {C : Nat → Nat} (h : Below w0.heap.size w0 w) (hb : w0.heap.size ≤ b) : Below w0.heap.size w0 (store4 w b C) :=
  (((h.setCell hb _).setCell hb _).setCell hb _).setCell hb _
theorem store4_var {w : World} {b b' H : Nat} {x : Value} {C E : Nat → Nat} (h : IsVar w H x b' E) (hne : b ≠ b') : IsVar (store4 w b C) H x b' E :=
  ⟨h.1, h.2.1, by rw [store4_size]; exact h.2.2.1, store4_other h.2.2.2.1 hne, store4_free h.2.2.2.2⟩
theorem store4_this {w : World} {b H : Nat} {x : Value} {C E : Nat → Nat} (h : IsVar w H x b E) : IsVar (store4 w b C) H x b C :=
  ⟨h.1, h.2.1, by rw [store4_size]; exact h.2.2.1, store4_same h.2.2.2.1, store4_free h.2.2.2.2⟩
theorem alloc_var {w : World} {H : Nat} (hH : H ≤ w.heap.size) : IsVar (w.alloc (.cells #[.int .u64 0, .int .u64 0, .int .u64 0, .int .u64 0] 24)) H (.pointer (some ⟨w.heap.size, 0, none⟩)) w.heap.size zeros := by
  refine ⟨rfl, hH, by simp, fun j hj => ?_, fun j hj => by simp⟩
  match j, hj with
  | 0, _ => simp [zeros]
  | 1, _ => simp [zeros]
  | 2, _ => simp [zeros]
  | 3, _ => simp [zeros]
theorem below_alloc (w : World) (o : Obj) : Below w.heap.size w (w.alloc o) := (Below.refl _ _).alloc (Nat.le_refl _) _

theorem Cells.four {w : World} {b : Nat} {C : Nat → Nat} (h : Cells w b C) : w.cell? ⟨b, 0, none⟩ = some (.int .u64 (C 0 : Nat)) ∧ w.cell? ⟨b, 1, none⟩ = some (.int .u64 (C 1 : Nat)) ∧ w.cell? ⟨b, 2, none⟩ = some (.int .u64 (C 2 : Nat)) ∧ w.cell? ⟨b, 3, none⟩ = some (.int .u64 (C 3 : Nat)) :=
  ⟨h 0 (by decide), h 1 (by decide), h 2 (by decide), h 3 (by decide)⟩

end Go.Proofs.Ytcnjogkgfdbhfaa
