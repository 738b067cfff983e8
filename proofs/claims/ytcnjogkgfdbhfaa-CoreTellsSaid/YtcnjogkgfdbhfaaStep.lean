/- What one step of the reader comes to: a contract.
   Conditions: the memory is as 'Mem' says, and rows have at most 1000 parts. -/
import Derived.Test.YtcnjogkgfdbhfaaRep
import Derived.Test.YtcnjogkgfdbhfaaPush
namespace Go.Proofs.Ytcnjogkgfdbhfaa
open Go.RowKit

theorem one_nils : ∀ u ∈ [Value.slice none 0 0, Value.slice none 0 0], u.oneCell' = true := by
  intro u hu
  simp at hu
  subst hu
  rfl

end Go.Proofs.Ytcnjogkgfdbhfaa
