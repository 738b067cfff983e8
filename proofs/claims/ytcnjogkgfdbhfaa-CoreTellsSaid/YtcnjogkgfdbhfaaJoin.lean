/- What the reader's call that joins the parts of a row comes to, and which group is the innermost: contracts.
   Conditions: those that the theorems state. -/
import Derived.Test.YtcnjogkgfdbhfaaPut
namespace Go.Proofs.Ytcnjogkgfdbhfaa
open Go.RowKit

/-- The node of that kind that several parts make, v being their slice. -/
def joinV (kind : Int) (v : Value) : List V → V
  | [] => zeroV
  | [p] => p
  | ps => .node kind zeros 0 0 v ps

def nodeAgg (t : V) : Value := .agg #[.int .i64 t.kind, .int .u64 (t.set 0 : Nat), .int .u64 (t.set 1 : Nat), .int .u64 (t.set 2 : Nat), .int .u64 (t.set 3 : Nat), t.v, .int .i64 t.lo, .int .i64 t.hi]

end Go.Proofs.Ytcnjogkgfdbhfaa
