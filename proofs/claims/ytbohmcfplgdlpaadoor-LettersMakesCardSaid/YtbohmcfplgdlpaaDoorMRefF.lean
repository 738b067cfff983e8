/- What the document's own telling whether a tree is formed comes to: a contract.
   Conditions: the tree lies in memory, and has at most 1000000 nodes. -/
import Derived.Test.YtbohmcfplgdlpaaDoorMRef
import Derived.Deep.DeepCutAuto
import Derived.Deep.CutBlock

/- What the document's own telling whether a tree is formed comes to: a contract.
   Conditions: the tree lies in memory, and has at most 1000000 nodes. -/
namespace Go.Proofs.YtbohmcfplgdlpaaDoor
open Go.RowKit
attribute [local go_sem] nodeAgg
theorem equal_zero (C:Nat→Nat) (w:World):(Op.equalIn 10000 24 (.agg #[.int .u64 (C 0:Nat),.int .u64 (C 1:Nat),.int .u64 (C 2:Nat),.int .u64 (C 3:Nat)]) (.agg #[.int .u64 0,.int .u64 0,.int .u64 0,.int .u64 0])).run Tryd.prog w=.ok (z4 C) w:=by
 rw [run_equal4]
 unfold z4
 congr 1
 rw [Bool.eq_iff_iff]
 simp
end Go.Proofs.YtbohmcfplgdlpaaDoor
