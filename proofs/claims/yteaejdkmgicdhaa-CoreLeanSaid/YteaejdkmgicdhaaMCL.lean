/- Of every tree the statement CoreLean returns true, and it reads afterwards as before.
   No condition. -/
import Derived.Test.YteaejdkmgicdhaaMLean
import Derived.Test.YteaejdkmgicdhaaMWk
import Derived.Test.YteaejdkmgicdhaaMForm
import Derived.Test.YteaejdkmgicdhaaMRefF
import Derived.Deep.DeepCutAuto
import Derived.ProofKit
import Derived.OpenShut
import Derived.ChangeOld
import Derived.Below

/- The walk of the statement CoreLean: called with a tree it returns true and changes nothing that was there.
   Conditions: the tree lies in memory. -/
namespace Go.Proofs.Yteaejdkmgicdhaa
open Go.RowKit Go.Shelf
attribute [local go_sem] nodeAgg

end Go.Proofs.Yteaejdkmgicdhaa

/- Of every tree the statement CoreLean returns true, and it reads afterwards as before.
   No condition. -/
namespace Go.Proofs.Yteaejdkmgicdhaa
open Go.ChangeShapes Go.WideShapes Go.ChangeAt Go.RowKit

theorem trOwn : ownKnob Try.prog.godebug = none := by kernel_rfl
theorem trLaidOut : laidOutB Try.prog = true := by kernel_rfl
theorem nodeAgg_ndc (t : V) : nodeAgg t = .agg (ndc t).toArray := rfl

end Go.Proofs.Yteaejdkmgicdhaa
