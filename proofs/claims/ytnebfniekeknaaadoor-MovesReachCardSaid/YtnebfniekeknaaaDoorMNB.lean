/- What the call that opens a group comes to: a contract.
   Conditions: the node lies in memory. -/
import Derived.Test.YtnebfniekeknaaaDoorMMelt
import Derived.Deep.LoopGhost
import Derived.Deep.RegionLaw

/- What the call for a group's next part comes to: a contract.
   Conditions: those that the theorem states. -/
namespace Go.Proofs.YtnebfniekeknaaaDoor
open Go.RowKit Go.Shelf

end Go.Proofs.YtnebfniekeknaaaDoor

/- What the call that opens a group comes to: a contract.
   Conditions: the node lies in memory. -/
namespace Go.Proofs.YtnebfniekeknaaaDoor
open Go.RowKit Go.Shelf

def OpenedRB (B : Nat) (W : World) (nb no : Nat) (t : V) (e : Ending) (w' : World) : Prop :=
  ∃ rv st, e = .returned (.agg #[.pointer (some ⟨nb, no, none⟩), .slice none 0 0, rv]) ∧ w'.ownsRow W.heap.size 25 1 rv st.length (st.map Prod.fst).reverse ∧
    (∀ p ∈ st, Laid w' (fun x => x < B) (.node 0 zeros 0 0 p.1 p.2)) ∧ todoF t.kind st = flatsV t.kind t.ps ∧ wF st ≤ 3 * szsT (erases t.ps) + 1 ∧ Below W.heap.size W w'

end Go.Proofs.YtnebfniekeknaaaDoor
