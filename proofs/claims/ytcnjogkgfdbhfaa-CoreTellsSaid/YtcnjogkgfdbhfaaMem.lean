/- How the reader's groups lie in memory, each apart from the others and from the trees: plain facts.
   Conditions: those that each theorem states. -/
import Derived.Test.YtcnjogkgfdbhfaaJoin
namespace Go.Proofs.Ytcnjogkgfdbhfaa
open Go.RowKit

/-- Nothing has changed but the reader and what came since block number 'base'. -/
def Bel (base rb : Nat) (w w' : World) : Prop := Chg (fun b => b = rb ∨ base ≤ b) w w'
theorem Bel.refl (base rb : Nat) (w : World) : Bel base rb w w := Chg.refl _ w
theorem Bel.trans {base rb : Nat} {a b c : World} (h : Bel base rb a b) (k : Bel base rb b c) : Bel base rb a c := Chg.trans h k fun _ _ h => h
theorem Bel.alloc {base rb : Nat} {a b : World} (h : Bel base rb a b) (o : Obj) : Bel base rb a (b.alloc o) := Chg.alloc h o
theorem Bel.drew {base rb : Nat} {a b : World} (h : Bel base rb a b) : Bel base rb a b.drew := Chg.drew h
theorem Bel.below {base rb : Nat} {w w' : World} (h : Bel base rb w w') {B : Nat} (hB : B ≤ base) (hr : B ≤ rb) (hw : B ≤ w.heap.size) : Below B w w' := Chg.below h hw fun k hk => by
  rintro (e | e) <;> omega

structure Grp where
  rows : List V
  row : List V
  v1 : Value
  v2 : Value
def gcells (gs : List Grp) : List Value := gs.flatMap fun g => [g.v1, g.v2]
def blocksOf (g : Grp) : List Nat := g.v1.ownBlock.toList ++ g.v2.ownBlock.toList
def live (rb ob : Nat) (gs : List Grp) : List Nat := rb :: ob :: gs.flatMap blocksOf
/-- The blocks that trees may lie in. -/
def Rl (base rb ob : Nat) (gs : List Grp) (b : Nat) : Prop := base ≤ b ∧ ¬ b ∈ live rb ob gs
theorem gcells_snoc (fr : List Grp) (g : Grp) : gcells (fr ++ [g]) = gcells fr ++ [g.v1, g.v2] := by unfold gcells; simp
theorem gcells_length (gs : List Grp) : (gcells gs).length = gs.length * 2 := by
  induction gs with
  | nil => rfl
  | cons g gs ih =>
    have e : gcells (g :: gs) = [g.v1, g.v2] ++ gcells gs := by unfold gcells; rw [List.flatMap_cons]
    rw [e, List.length_append, ih, List.length_cons]
    simp
    omega
theorem live_snoc (rb ob : Nat) (fr : List Grp) (g : Grp) : live rb ob (fr ++ [g]) = live rb ob fr ++ blocksOf g := by unfold live; simp
theorem mem_blocks {g : Grp} {b : Nat} : b ∈ blocksOf g ↔ g.v1.ownBlock = some b ∨ g.v2.ownBlock = some b := by
  unfold blocksOf
  simp [Option.mem_toList]
/-- What is left of what lived: the innermost group's blocks may have gone, or be new. -/
theorem live_new {w : World} {rb ob : Nat} {fr : List Grp} {g g' : Grp}
    (f1 : ∀ b, g'.v1.ownBlock = some b → g.v1.ownBlock = some b ∨ w.heap.size ≤ b) (f2 : ∀ b, g'.v2.ownBlock = some b → g.v2.ownBlock = some b ∨ w.heap.size ≤ b) :
    ∀ b, b < w.heap.size → ¬ b ∈ live rb ob (fr ++ [g]) → ¬ b ∈ live rb ob (fr ++ [g']) := by
  intro b hb hn hm
  rw [live_snoc, List.mem_append] at hm hn
  rcases hm with hm | hm
  · exact hn (.inl hm)
  · rcases mem_blocks.1 hm with e | e
    · rcases f1 b e with e' | e'
      · exact hn (.inr (mem_blocks.2 (.inl e')))
      · omega
    · rcases f2 b e with e' | e'
      · exact hn (.inr (mem_blocks.2 (.inr e')))
      · omega
theorem live_kept {w w' : World} {base rb ob : Nat} {fr : List Grp} {g g' : Grp}
    (hc : Chg (fun b => b = ob ∨ g.v1.ownBlock = some b ∨ g.v2.ownBlock = some b) w w')
    (f1 : ∀ b, g'.v1.ownBlock = some b → g.v1.ownBlock = some b ∨ w.heap.size ≤ b) (f2 : ∀ b, g'.v2.ownBlock = some b → g.v2.ownBlock = some b ∨ w.heap.size ≤ b)
    {t : V} (ht : Laid w (Rl base rb ob (fr ++ [g])) t) : Laid w' (Rl base rb ob (fr ++ [g'])) t := by
  refine ht.keep (fun b hb hn => ⟨hn.1, live_new f1 f2 b hb hn.2⟩) hc.size fun b hb hn => hc.block b hb ?_
  rintro (rfl | e | e)
  · exact hn.2 (by unfold live; simp)
  · exact hn.2 (by rw [live_snoc, List.mem_append]; exact .inr (mem_blocks.2 (.inl e)))
  · exact hn.2 (by rw [live_snoc, List.mem_append]; exact .inr (mem_blocks.2 (.inr e)))
end Go.Proofs.Ytcnjogkgfdbhfaa
