/- What the document's own comparing of two trees comes to: a contract, whether they are alike or not.
   Conditions: both trees lie in memory, the first one has at most 1000000 nodes. -/
import Derived.Test.YtbohmcfplgdlpaaDoorMRef
import Derived.StillTailTactics

/- What the document's own comparing of two trees comes to: a contract, whether they are alike or not.
   Conditions: both trees lie in memory, the first one has at most 1000000 nodes. -/
namespace Go.Proofs.YtbohmcfplgdlpaaDoor
open Go.RowKit
attribute [local go_sem] nodeAgg
theorem equal_four (A B:Nat→Nat) (w:World):(Op.equalIn 10000 24 (.agg #[.int .u64 (A 0:Nat),.int .u64 (A 1:Nat),.int .u64 (A 2:Nat),.int .u64 (A 3:Nat)]) (.agg #[.int .u64 (B 0:Nat),.int .u64 (B 1:Nat),.int .u64 (B 2:Nat),.int .u64 (B 3:Nat)])).run Tryd.prog w=.ok (eq4 A B) w:=by
 rw [run_equal4]
 unfold eq4
 congr 1
 rw [Bool.eq_iff_iff]
 simp
 omega
theorem beq_no {a b:Int} (h:¬ a=b):(a == b)=false:=by simp [h]
end Go.Proofs.YtbohmcfplgdlpaaDoor
