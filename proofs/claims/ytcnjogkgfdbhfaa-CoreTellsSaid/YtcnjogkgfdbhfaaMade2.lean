/- What the document's own making of a class out of 256 bools comes to: contracts for the proofs of the statements.
   Conditions: the array holds 256 bools, as the theorem states. -/
import Derived.Test.YtcnjogkgfdbhfaaCells
import Derived.Deep.MidRow
namespace Go.Proofs.Ytcnjogkgfdbhfaa
open Go.RowKit

def Bools (w : World) (b : Nat) (s : Nat → Bool) : Prop := ∀ i, i < 256 → w.cell? ⟨b, i, none⟩ = some (.bool (s i))
theorem Bools.below {w w' : World} {b : Nat} {s : Nat → Bool} (h : Bools w b s) (hb : Below w.heap.size w w') : Bools w' b s := fun i hi =>
  (hb.cell (p := ⟨b, i, none⟩) (World.block_lt_of_cell? _ _ (h i hi))).trans (h i hi)
theorem Bools.store {w : World} {b b' : Nat} {s : Nat → Bool} {C : Nat → Nat} (h : Bools w b s) (hne : b' ≠ b) : Bools (store4 w b' C) b s := by
  intro i hi
  unfold store4
  rw [World.cell?_setCell_other (h := addr_ne (.inl hne)), World.cell?_setCell_other (h := addr_ne (.inl hne)), World.cell?_setCell_other (h := addr_ne (.inl hne)), World.cell?_setCell_other (h := addr_ne (.inl hne))]
  exact h i hi
def MS (s : Nat → Bool) (w : World) (C : Nat → Nat) (wr : World) : Prop :=
  Bools wr w.heap.size s ∧ Cells wr (w.heap.size + 1) zeros ∧ Free wr (w.heap.size + 1) ∧ Cells wr (w.heap.size + 2) C ∧ Free wr (w.heap.size + 2) ∧ w.heap.size + 3 ≤ wr.heap.size ∧ Below w.heap.size w wr
theorem MS.below {s : Nat → Bool} {w wr w' : World} {C : Nat → Nat} (h : MS s w C wr) (hb : Below wr.heap.size wr w') : MS s w C w' :=
  ⟨h.1.below hb, h.2.1.below hb, h.2.2.1.below (by have := h.2.2.2.2.2.1; omega) hb, h.2.2.2.1.below hb, h.2.2.2.2.1.below (by have := h.2.2.2.2.2.1; omega) hb, Nat.le_trans h.2.2.2.2.2.1 hb.size, h.2.2.2.2.2.2.trans (hb.mono h.2.2.2.2.2.2.size)⟩
theorem MS.store {s : Nat → Bool} {w wr : World} {C D : Nat → Nat} (h : MS s w C wr) : MS s w D (store4 wr (w.heap.size + 2) D) :=
  ⟨h.1.store (by omega), store4_other h.2.1 (by omega), store4_free h.2.2.1, store4_same h.2.2.2.1, store4_free h.2.2.2.2.1, by rw [store4_size]; exact h.2.2.2.2.2.1, store4_below h.2.2.2.2.2.2 (by omega)⟩
theorem cells_zero (w : World) : Cells (w.alloc (.cells #[.int .u64 0, .int .u64 0, .int .u64 0, .int .u64 0] 24)) w.heap.size zeros := by
  intro j hj
  match j, hj with
  | 0, _ => simp [zeros]
  | 1, _ => simp [zeros]
  | 2, _ => simp [zeros]
  | 3, _ => simp [zeros]
theorem free_zero (w : World) : Free (w.alloc (.cells #[.int .u64 0, .int .u64 0, .int .u64 0, .int .u64 0] 24)) w.heap.size := fun j hj => by simp
end Go.Proofs.Ytcnjogkgfdbhfaa
