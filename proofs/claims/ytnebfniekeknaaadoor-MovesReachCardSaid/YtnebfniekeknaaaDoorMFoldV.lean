/- What folding a tree by voidOf comes to: a contract.
   Conditions: the tree lies in memory; what the function gives, of a node and of what it gave of the node's parts, is taken as known. -/
import Derived.Test.YtnebfniekeknaaaDoorMMelt
import Derived.Test.YtnebfniekeknaaaDoorMNB
import Derived.Deep.RegionWith
import Derived.Deep.AppendLies

/- What folding a tree by voidOf comes to: a contract.
   Conditions: the tree lies in memory; what the function gives, of a node and of what it gave of the node's parts, is taken as known. -/
namespace Go.Proofs.YtnebfniekeknaaaDoor
open Go.RowKit Go.Shelf

theorem infoBoolV : (Tryd.prog.info? 4).map (fun i => (i.zero, i.size, i.bytes)) = some (some (.bool false), 1, 1) := by kernel_rfl

end Go.Proofs.YtnebfniekeknaaaDoor
