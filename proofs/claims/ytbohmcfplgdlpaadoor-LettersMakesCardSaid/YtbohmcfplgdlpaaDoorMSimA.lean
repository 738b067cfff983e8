/- The simple tree's own simple tree is it; it is void, and nullable, as the tree is; it has no more places, and isn't deeper: plain facts.
   Conditions: the trees are formed. -/
import Derived.Test.YtbohmcfplgdlpaaDoorMSim

/- The simple tree's own simple tree is it; it is void, and nullable, as the tree is; it has no more places, and isn't deeper: plain facts.
   Conditions: the trees are formed. -/
namespace Go.Proofs.YtbohmcfplgdlpaaDoor
open Go.RowKit
inductive PwT:T→Prop
 | mk (k:Int) (C:Nat→Nat) (lo hi:Int) (ps:List T) (h:k=3→leftT 3 [] ps=ps) (hp:∀ p∈ps,PwT p):PwT (.node k C lo hi ps)
theorem PwT.part {t:T} (h:PwT t):∀ p∈t.ps,PwT p:=by
 cases h with
 | mk k C lo hi ps _ hp=>exact hp
end Go.Proofs.YtbohmcfplgdlpaaDoor
