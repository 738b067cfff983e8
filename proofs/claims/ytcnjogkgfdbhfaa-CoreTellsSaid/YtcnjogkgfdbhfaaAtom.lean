/- What the reader's calls that read an atom, and repeat the last one, come to: contracts.
   Conditions: the memory is as 'Mem' says, and rows have at most 1000 parts. -/
import Derived.Test.YtcnjogkgfdbhfaaShut
import Derived.Test.YtcnjogkgfdbhfaaRun
import Derived.Deep.RegionWith
namespace Go.Proofs.Ytcnjogkgfdbhfaa
open Go.RowKit
attribute [local go_sem] clsOk clsEr pairOk pairEr

def patom (g : G) (frs : List G) (r : List Nat) : Out (G × List G) := match pset r with
  | .er r' c => .er r' c
  | .ok S r' => .ok (⟨g.rows, g.row ++ [atomT S]⟩, frs) r'
theorem patom_er {g : G} {frs : List G} {r r' : List Nat} {c : Nat} (h : pset r = .er r' c) : patom g frs r = .er r' c := by unfold patom; rw [h]
theorem patom_ok {g : G} {frs : List G} {r r' : List Nat} {S : Nat → Bool} (h : pset r = .ok S r') : patom g frs r = .ok (⟨g.rows, g.row ++ [atomT S]⟩, frs) r' := by unfold patom; rw [h]

end Go.Proofs.Ytcnjogkgfdbhfaa
