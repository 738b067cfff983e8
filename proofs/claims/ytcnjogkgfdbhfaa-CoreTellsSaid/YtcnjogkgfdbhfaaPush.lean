/- A new group is put on the reader's stack: what the memory is then. Plain facts.
   Conditions: those that the theorem states. -/
import Derived.Test.YtcnjogkgfdbhfaaAtom
namespace Go.Proofs.Ytcnjogkgfdbhfaa
open Go.RowKit

end Go.Proofs.Ytcnjogkgfdbhfaa
