/- What folding a tree by simpleOf comes to, where each of its nodes comes to the same, a node of Kind 0: a contract.
   Conditions: the tree lies in memory; what the function gives, of a node and of what it gave of the node's parts, is taken as known. -/
import Derived.Test.YtbohmcfplgdlpaaDoorMMelt
import Derived.Test.YtbohmcfplgdlpaaDoorMNS
import Derived.Deep.RegionWith
import Derived.Deep.RegionLaw
import Derived.Deep.AppendLies

/- What folding a tree by simpleOf comes to, where each of its nodes comes to the same, a node of Kind 0: a contract.
   Conditions: the tree lies in memory; what the function gives, of a node and of what it gave of the node's parts, is taken as known. -/
namespace Go.Proofs.YtbohmcfplgdlpaaDoor
open Go.RowKit Go.Shelf
theorem infoGrpS:(Tryd.prog.info? 145).map (fun i=>(i.zero,i.size,i.bytes))=some (some (.agg #[.pointer none,.slice none 0 0,.slice none 0 0]),3,56):=by kernel_rfl
theorem infoSimpleS:(Tryd.prog.info? 117).map (fun i=>(i.zero,i.size,i.bytes))=some (some (.agg #[.int .i64 0,.int .u64 0,.int .u64 0,.int .u64 0,.int .u64 0,.slice none 0 0,.int .i64 0,.int .i64 0,.bool false]),9,88):=by kernel_rfl
def BoxS (bx:Nat) (W:World):Prop:=W.heap[bx]? = some (.cells #[.int .i64 0,.int .u64 0,.int .u64 0,.int .u64 0,.int .u64 0,.slice none 0 0,.int .i64 0,.int .i64 0,.bool true] 117 (0,0))
theorem BoxS.cells {bx:Nat} {W:World} (h:BoxS bx W):W.cell? ⟨bx,0,none⟩=some (.int .i64 0)∧W.cell? ⟨bx,1,none⟩=some (.int .u64 0)∧W.cell? ⟨bx,2,none⟩=some (.int .u64 0)∧W.cell? ⟨bx,3,none⟩=some (.int .u64 0)∧W.cell? ⟨bx,4,none⟩=some (.int .u64 0)∧W.cell? ⟨bx,5,none⟩=some (.slice none 0 0)∧W.cell? ⟨bx,6,none⟩=some (.int .i64 0)∧W.cell? ⟨bx,7,none⟩=some (.int .i64 0)∧W.cell? ⟨bx,8,none⟩=some (.bool true):=by
 have q:=(row_cells h).1
 exact ⟨q 0,q 1,q 2,q 3,q 4,q 5,q 6,q 7,q 8⟩
end Go.Proofs.YtbohmcfplgdlpaaDoor
