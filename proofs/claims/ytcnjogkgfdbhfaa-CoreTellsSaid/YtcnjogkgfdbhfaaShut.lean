/- What the call that ends the innermost group comes to: a contract.
   Conditions: the memory is as 'Mem' says, and rows have at most 1000 parts. -/
import Derived.Test.YtcnjogkgfdbhfaaGrow
namespace Go.Proofs.Ytcnjogkgfdbhfaa
open Go.RowKit

abbrev zcells : Array Value := #[.int .i64 0, .int .u64 0, .int .u64 0, .int .u64 0, .int .u64 0, .slice none 0 0, .int .i64 0, .int .i64 0]

theorem row_cells {w : World} {b : Nat} {cur : Array Value} {e : TypeId} (h : w.heap[b]? = some (.cells cur e (0, 0))) : (∀ j, w.cell? ⟨b, j, none⟩ = cur[j]?) ∧ (∀ j, w.frozen? ⟨b, j, none⟩ = false) :=
  ⟨fun j => cell_of_row w b j cur e (0, 0) h, fun j => frozen_of_row w b j cur e h⟩

end Go.Proofs.Ytcnjogkgfdbhfaa
