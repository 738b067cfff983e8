/- What Parse comes to: the tree, the place and the error's number that the plain function tells.
   Conditions: the text is no longer than memory may be. -/
import Derived.Test.YtcnjogkgfdbhfaaWhole
import Derived.Test.YtcnjogkgfdbhfaaPlaces
import Derived.Test.YtcnjogkgfdbhfaaSize
namespace Go.Proofs.Ytcnjogkgfdbhfaa
open Go.RowKit

def Parsed (s : ByteArray) (w : World) (e : Ending) (w' : World) : Prop :=
  ∃ (v : V) (sa : Option Addr) (sn sc : Nat), v.v = .slice sa sn sc ∧ e = .returned (.tuple #[.agg #[.int .i64 v.kind, .int .u64 (v.set 0 : Nat), .int .u64 (v.set 1 : Nat), .int .u64 (v.set 2 : Nat), .int .u64 (v.set 3 : Nat), .slice sa sn sc, .int .i64 v.lo, .int .i64 v.hi], .int .i64 ((pparse (txt s)).2.1 : Nat), .int .i64 ((pparse (txt s)).2.2 : Nat)]) ∧
    erase v = (pparse (txt s)).1 ∧ Laid w' (fun b => w.heap.size ≤ b) v ∧ Below w.heap.size w w'
theorem parsed_zero {s : ByteArray} {w w' : World} {at' c : Nat} (h : pparse (txt s) = (zeroT, at', c)) (hb : Below w.heap.size w w') :
    Parsed s w (.returned (.tuple #[.agg #[.int .i64 0, .int .u64 0, .int .u64 0, .int .u64 0, .int .u64 0, .slice none 0 0, .int .i64 0, .int .i64 0], .int .i64 at', .int .i64 c])) w' := by
  refine ⟨zeroV, none, 0, 0, rfl, ?_, by rw [h]; rfl, zeroV_laid _ _, hb⟩
  rw [h]
  rfl
theorem chg_below {w w' : World} {R : Nat → Prop} (h : Chg R w w') (hR : ∀ k, k < w.heap.size → ¬ R k) : Below w.heap.size w w' := h.below (Nat.le_refl _) hR

end Go.Proofs.Ytcnjogkgfdbhfaa
