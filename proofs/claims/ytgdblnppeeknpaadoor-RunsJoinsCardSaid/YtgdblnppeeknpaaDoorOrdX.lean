/- An operation whose guard is false passes.
   No conditions. -/
import Derived.Test.YtgdblnppeeknpaaDoorOrder
namespace Go.Proofs.YtgdblnppeeknpaaDoor
open Go.RowKit

theorem wpOq_off {P : Program} {ops : Array Oper} {Q : Exit → Act → World → Prop} {i : Nat} {o : Oper} {I : Act → World → Prop} {a : Act} {w : World} (hi : ops[i]? = some o) (hg : Region.wanted o (yielded ops a.tmps) = false)
    (h : I (a.put o.dst undef) w) : wpOp P ops Q i I a w := by
  unfold wpOp
  simp only [hi]
  rw [if_neg (by simp [hg])]
  exact h
end Go.Proofs.YtgdblnppeeknpaaDoor
