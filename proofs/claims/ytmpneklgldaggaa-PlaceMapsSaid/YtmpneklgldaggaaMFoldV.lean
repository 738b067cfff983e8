/- What folding a tree by voidOf comes to: a contract.
   Conditions: the tree lies in memory; what the function gives, of a node and of what it gave of the node's parts, is taken as known. -/
import Derived.Test.YtmpneklgldaggaaMMelt
import Derived.Test.YtmpneklgldaggaaMNB
import Derived.Deep.RegionWith
import Derived.Deep.AppendLies

/- What folding a tree by voidOf comes to: a contract.
   Conditions: the tree lies in memory; what the function gives, of a node and of what it gave of the node's parts, is taken as known. -/
namespace Go.Proofs.Ytmpneklgldaggaa
open Go.RowKit Go.Shelf

def LFoldV (w : World) (B : Nat) (F : V → List Value) (S : V → Prop) (root : V) (n : Nat) (ov : Value) (wr : World) : Prop :=
  ∃ f fs, StkI w B 84 4 1 F S (f :: fs) ov wr ∧ flatsV f.t.kind f.t.ps = f.ds ++ todoF f.t.kind f.st ∧ ChainB root f.t fs ∧ n = wFs (f :: fs) ∧ n ≤ 1000000
theorem infoGrpV : (Try.prog.info? 84).map (fun i => (i.zero, i.size, i.bytes)) = some (some (.agg #[.pointer none, .slice none 0 0, .slice none 0 0]), 3, 56) := by kernel_rfl
theorem infoBoolV : (Try.prog.info? 4).map (fun i => (i.zero, i.size, i.bytes)) = some (some (.bool false), 1, 1) := by kernel_rfl

end Go.Proofs.Ytmpneklgldaggaa
