/- The walk of the statement PlaceSimple: called with a tree it returns true and changes nothing that was there.
   Conditions: the tree lies in memory. -/
import Derived.Test.YtjcfmbmepmlckaaDoorMPof
import Derived.Test.YtjcfmbmepmlckaaDoorMPi
import Derived.Test.YtjcfmbmepmlckaaDoorMRefS
import Derived.Test.YtjcfmbmepmlckaaDoorMSim
import Derived.Deep.DeepCutAuto
import Derived.Deep.RegionHeld3
import Derived.StillTailTactics

/- The walk of the statement PlaceSimple: called with a tree it returns true and changes nothing that was there.
   Conditions: the tree lies in memory. -/
namespace Go.Proofs.YtjcfmbmepmlckaaDoor
open Go.RowKit Go.Shelf
attribute [local go_sem] nodeAgg
def pmE:PM:=⟨[],[],[]⟩
structure POu (B:Nat) (w':World) (o:Option PM) (s:T) (r:V) (sv cv av:Value):Prop where
 tree:erase r=(match o with | none=>noT | some _=>s)
 laid:Laid w' (fun x=>x<w'.heap.size) r
 lists:MapL w' B (o.getD pmE) sv cv av
 ars:(o.getD pmE).ars.length=(o.getD pmE).sets.length
 sets:(o.getD pmE).sets.length≤41
 scs:(o.getD pmE).scs.length≤700000
def codeP (o:Option PM):Int:=if o.isSome then 0 else 3
end Go.Proofs.YtjcfmbmepmlckaaDoor
