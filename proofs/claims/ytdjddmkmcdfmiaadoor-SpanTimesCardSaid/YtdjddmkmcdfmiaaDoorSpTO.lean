/- A tree, so many times: the contract of what the statements call.
   Conditions: the tree lies in memory. -/
import Derived.Test.YtdjddmkmcdfmiaaDoorSpMW
import Derived.Test.YtdjddmkmcdfmiaaDoorSpEW

namespace Go.Proofs.YtdjddmkmcdfmiaaDoor
open Go.RowKit Go.Shelf
attribute [local go_sem] nodeAgg

/-- A node of one part that is repeated so many times, just made. -/
def RpP (c : Array Value) (z : Int) (w : World) (y : Value) : Prop := ∃ b, y = .agg #[.int .i64 4, .int .u64 0, .int .u64 0, .int .u64 0, .int .u64 0, .slice (some ⟨b, 0, none⟩) 1 1, .int .i64 z, .int .i64 z] ∧ w.heap[b]? = some (.cells c 27 (0, 0))
theorem RpP.keep {c : Array Value} {z : Int} {w w' : World} {y : Value} (h : RpP c z w y) (hb : Below w.heap.size w w') : RpP c z w' y := by
  obtain ⟨b, e, h⟩ := h
  exact ⟨b, e, (hb.block b (Array.getElem?_eq_some_iff.1 h).1).trans h⟩
set_option maxHeartbeats 4000000 in
set_option maxRecDepth 100000 in
theorem often_any (t : V) (v : Value) (sa : Option Addr) (sn sc : Nat) (hv : v = .slice sa sn sc) (z : Int) (w : World) :
    Calls Tryd.prog 12 #[.agg #[.int .i64 t.kind, .int .u64 (t.set 0 : Nat), .int .u64 (t.set 1 : Nat), .int .u64 (t.set 2 : Nat), .int .u64 (t.set 3 : Nat), v, .int .i64 t.lo, .int .i64 t.hi], .int .i64 z] w fun e w' => ∃ y, e = .returned y ∧ RpP #[.int .i64 t.kind, .int .u64 (t.set 0 : Nat), .int .u64 (t.set 1 : Nat), .int .u64 (t.set 2 : Nat), .int .u64 (t.set 3 : Nat), v, .int .i64 t.lo, .int .i64 t.hi] z w' y ∧ Below w.heap.size w w' := by
  subst hv
  go_enter Tryd.func12, Tryd.ntmps12
  go_wp2_with fail
  obtain ⟨W, hW, bW, pW, qW, sW⟩ := two_new (w.alloc (.cells #[.int .i64 t.kind, .int .u64 (t.set 0 : Nat), .int .u64 (t.set 1 : Nat), .int .u64 (t.set 2 : Nat), .int .u64 (t.set 3 : Nat), .slice sa sn sc, .int .i64 t.lo, .int .i64 t.hi] 27)) #[.int .i64 4, .int .u64 0, .int .u64 0, .int .u64 0, .int .u64 0, .slice (some ⟨w.heap.size + 1 + 1, 0, none⟩) 1 1, .int .i64 z, .int .i64 z] #[.int .i64 t.kind, .int .u64 (t.set 0 : Nat), .int .u64 (t.set 1 : Nat), .int .u64 (t.set 2 : Nat), .int .u64 (t.set 3 : Nat), .slice sa sn sc, .int .i64 t.lo, .int .i64 t.hi] 27 27
  rw [hW]
  rw [World.size_alloc] at pW qW
  obtain ⟨x0, x1, x2, x3, x4, x5, x6, x7⟩ := cells8M pW
  refine bodyPost_ret (v := .agg #[.int .i64 4, .int .u64 0, .int .u64 0, .int .u64 0, .int .u64 0, .slice (some ⟨w.heap.size + 1 + 1, 0, none⟩) 1 1, .int .i64 z, .int .i64 z]) (by simp [results, Tryd.results12, go_sem, x0, x1, x2, x3, x4, x5, x6, x7]) rfl ?_
  exact ⟨_, rfl, ⟨_, rfl, qW⟩, ((Below.refl _ _).alloc (Nat.le_refl _) _).trans (bW.mono (by simp))⟩

end Go.Proofs.YtdjddmkmcdfmiaaDoor
