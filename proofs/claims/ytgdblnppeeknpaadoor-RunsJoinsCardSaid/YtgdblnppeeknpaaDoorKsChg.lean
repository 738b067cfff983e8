/- What a call may change of memory: plain facts, for a seat that has no trees (else these stand in Rd, Cells, Shut, CFoldP, Loops).
   No conditions but those that each theorem states. -/
import Derived.Test.YtgdblnppeeknpaaDoorRows
import Derived.KernelRfl
import Derived.WalkKit
import Derived.WalkSpells
import Derived.WalkLawsBesides
import Derived.ChangeKeysEq
import Derived.Lib.Hide
import Derived.Deep.LoopGhost
import Derived.Deep.QuietTactic
import Derived.Deep.DeepCutAuto
import Derived.BigQuiet
import Derived.BigRegion
import Derived.RegionTactic
import Derived.IntWalk
import Derived.StillTailTactics
import Derived.ChangeAlike
namespace Go.Proofs.YtgdblnppeeknpaaDoor
open Go.RowKit

/-- The blocks that may have changed are of R; new ones may have come. -/
structure Chg (R : Nat → Prop) (w w' : World) : Prop where
  os : w'.os = w.os
  tape : w'.tape = w.tape
  output : w'.output = w.output
  size : w.heap.size ≤ w'.heap.size
  block : ∀ k, k < w.heap.size → ¬ R k → w'.heap[k]? = w.heap[k]?

theorem Chg.refl (R : Nat → Prop) (w : World) : Chg R w w := ⟨rfl, rfl, rfl, Nat.le_refl _, fun _ _ _ => rfl⟩
theorem Chg.trans {R R' : Nat → Prop} {a b c : World} (h : Chg R a b) (k : Chg R' b c) (hR : ∀ x, x < a.heap.size → R' x → R x) : Chg R a c :=
  ⟨k.os.trans h.os, k.tape.trans h.tape, k.output.trans h.output, Nat.le_trans h.size k.size, fun i hi hn => (k.block i (Nat.lt_of_lt_of_le hi h.size) (fun h' => hn (hR i hi h'))).trans (h.block i hi hn)⟩
theorem Chg.mono {R R' : Nat → Prop} {w w' : World} (h : Chg R w w') (hR : ∀ x, x < w.heap.size → R x → R' x) : Chg R' w w' := ⟨h.os, h.tape, h.output, h.size, fun k hk hn => h.block k hk (fun h' => hn (hR k hk h'))⟩
theorem Chg.alloc {R : Nat → Prop} {a w : World} (h : Chg R a w) (o : Obj) : Chg R a (w.alloc o) :=
  h.trans (R' := fun _ => False) ⟨rfl, rfl, rfl, by simp, fun k hk _ => Below.heap_alloc _ _ _ hk⟩ (fun _ _ h => h.elim)
theorem Chg.setCell {R : Nat → Prop} {a w : World} (h : Chg R a w) {p : Addr} (hp : p.block < a.heap.size → R p.block) (u : Value) : Chg R a (w.setCell p u) :=
  h.trans (R' := fun x => x = p.block) ⟨rfl, rfl, rfl, by simp [World.setCell], fun k _ hn => Below.heap_setCell _ _ _ _ hn⟩ (fun x hx e => by subst e; exact hp hx)
theorem Chg.drewN {R : Nat → Prop} {a w : World} (h : Chg R a w) (n : Nat) : Chg R a (w.drewN n) := ⟨h.os, h.tape, h.output, h.size, h.block⟩
theorem Chg.drew {R : Nat → Prop} {a w : World} (h : Chg R a w) : Chg R a w.drew := ⟨h.os, h.tape, h.output, h.size, h.block⟩
theorem Chg.of_below {R : Nat → Prop} {w w' : World} (h : Below w.heap.size w w') : Chg R w w' := ⟨h.os, h.tape, h.output, h.size, fun k hk _ => h.block k hk⟩
theorem Chg.below {R : Nat → Prop} {w w' : World} (h : Chg R w w') {B : Nat} (hB : B ≤ w.heap.size) (hR : ∀ k, k < B → ¬ R k) : Below B w w' := ⟨h.os, h.tape, h.output, h.size, fun k hk => h.block k (by omega) (hR k hk)⟩
theorem Chg.grown {R : Nat → Prop} {a w w' : World} {row : Option Nat} (h : Chg R a w) (hg : w.grownBy w' row) (hr : ∀ k, row = some k → k < a.heap.size → R k) : Chg R a w' :=
  h.trans (R' := fun x => row = some x) ⟨hg.os, hg.tape, hg.output, hg.size, fun k hk hn => hg.block k hk (fun e => hn e.symm)⟩ (fun x hx e => hr x e hx)
theorem Chg.cell {R : Nat → Prop} {w w' : World} (h : Chg R w w') {b : Nat} (o : Nat) (hb : b < w.heap.size) (hn : ¬ R b) : w'.cell? ⟨b, o, none⟩ = w.cell? ⟨b, o, none⟩ := World.cell?_of_block (w := w) (h.block b hb hn)
theorem Chg.frozen {R : Nat → Prop} {w w' : World} (h : Chg R w w') {b : Nat} (o : Nat) (hb : b < w.heap.size) (hn : ¬ R b) : w'.frozen? ⟨b, o, none⟩ = w.frozen? ⟨b, o, none⟩ := World.frozen?_of_block (w := w) (h.block b hb hn)
theorem Chg.grownBy {w w' : World} {b : Nat} (h : Chg (· = b) w w') : w.grownBy w' (some b) := ⟨h.os, h.tape, h.output, h.size, fun k hk hn => h.block k hk (fun e => hn (by rw [e]))⟩

theorem bhop {a b c : World} (h : Below a.heap.size a b) (k : Below b.heap.size b c) : Below a.heap.size a c := h.trans (k.mono h.size)
theorem row_cells {w : World} {b : Nat} {cur : Array Value} {e : TypeId} (h : w.heap[b]? = some (.cells cur e (0, 0))) : (∀ j, w.cell? ⟨b, j, none⟩ = cur[j]?) ∧ (∀ j, w.frozen? ⟨b, j, none⟩ = false) :=
  ⟨fun j => cell_of_row w b j cur e (0, 0) h, fun j => frozen_of_row w b j cur e h⟩

theorem addr_ne {b b' j k : Nat} (h : b ≠ b' ∨ j ≠ k) : (⟨b, j, none⟩ : Addr) ≠ ⟨b', k, none⟩ := by
  intro e
  injection e with e1 e2 _
  rcases h with h | h
  · exact h e1
  · exact h e2
theorem ret_bool {a b : Bool} (h : a = b) : Ending.returned (.bool a) = .returned (.bool b) := by rw [h]
theorem ret_int {k : IntKind} {a b : Int} (h : a = b) : Ending.returned (.int k a) = .returned (.int k b) := by rw [h]

end Go.Proofs.YtgdblnppeeknpaaDoor
