/- What the call that ends a row of a group comes to: a contract.
   Conditions: those that the theorem states. -/
import Derived.Test.YtcnjogkgfdbhfaaPut
namespace Go.Proofs.Ytcnjogkgfdbhfaa
open Go.RowKit

theorem news_kept {w wj : World} (h : Below ((w.alloc (.cells #[.int .i64 0, .int .u64 0, .int .u64 0, .int .u64 0, .int .u64 0, .slice none 0 0, .int .i64 0, .int .i64 0] 27)).drew).heap.size ((w.alloc (.cells #[.int .i64 0, .int .u64 0, .int .u64 0, .int .u64 0, .int .u64 0, .slice none 0 0, .int .i64 0, .int .i64 0] 27)).drew) wj) :
    ∀ j u, zndc[j]? = some u → wj.cell? ((⟨w.heap.size, 0, none⟩ : Addr).add j) = some u := by
  intro j u hu
  rw [← news_zero w _ rfl j u hu]
  refine World.cell?_of_block (w := (w.alloc (.cells #[.int .i64 0, .int .u64 0, .int .u64 0, .int .u64 0, .int .u64 0, .slice none 0 0, .int .i64 0, .int .i64 0] 27)).drew) (h.block _ ?_)
  have e : ((⟨w.heap.size, 0, none⟩ : Addr).add j).block = w.heap.size := by unfold Addr.add; split <;> rfl
  rw [e]
  simp

end Go.Proofs.Ytcnjogkgfdbhfaa
