/-
  NARROWER THAN 'FOR EVERY INPUT', by the rows' own cells (each row's printed sentence says how): CoreSimple: loops · PlaceMaps: loops.
  DERIVED. THE GIVEN ROWS OF THIS SEAT. 2 by the template 'for every input the law returns true; each argument reads behind the call as it read before'; 0 by the template 'total and deterministic' (their statements: YtmpneklgldaggaaTotals.lean).
  GIVEN WITH THE SEED: the statements are not yours to turn. If you find one false, say at which input.
  Laid BY PROGRAM, IN A SANDBOX (cutbox-rows.mjs): the forced cells as the released guide's own fill.sh prints them over the translation e1e663fe9c3d54e2… (all of the seat's roots in one cut). By AI agents, Wed Nov 11 2026. No macro, syntax, notation, axiom, sorry.
-/
import Derived.Test.YtmpneklgldaggaaChecked
import GoSem.Claim
import GoSem.ClaimJoined
import GoSem.ClaimMapViews
import Derived.JoinedTies
import Derived.KernelRfl
namespace Go.Proofs.Ytmpneklgldaggaa
/- THE CELL 'sum', in the pinned program and in every row, IS THE sha256 OF THE DUMP (.gsa) THAT YtmpneklgldaggaaProg.lean LOADS. Nothing in Lean hashes anything: it is a label: what it is worth is what the hold of that sum in a sandbox is worth. -/
noncomputable def Try.pinned : Pinned := { name := "ytmpneklgldaggaa", sum := "e1e663fe9c3d54e2c7ac9a85909586f7a6a333ef38869373ce93910023a2123e", checked := Try.checked }
namespace Rows
def none {H : Type} : Left H := { results := [], args := [] }

/-- 'ostinatolaw04.CoreSimple': WHATEVER THE INPUT: true; the input reads as it did. -/
def coreSimpleSpec : ChangeSpec := { name := "coreSimple", fn := fun _ => fun
  | [d] => { results := [.lit (.bool true)], args := [d] }
  | _ => none }
def coreSimpleRow : OpenClaim := { program := "ytmpneklgldaggaa", sum := "e1e663fe9c3d54e2c7ac9a85909586f7a6a333ef38869373ce93910023a2123e", func := "ostinato/ostinatolaw04.CoreSimple", spec := "coreSimple", unfollowed := true, recurses := true, loops := true, apart := false }
def CoreSimpleSaid : Prop := coreSimpleRow.holds Try.pinned (OpenSpec.ofChange coreSimpleSpec)

/-- ITS FALSE NEIGHBOUR: 'it returns false'. Refute it at one input. -/
def coreSimpleWrong : ChangeSpec := { name := "coreSimple", fn := fun _ => fun
  | [d] => { results := [.lit (.bool false)], args := [d] }
  | _ => none }
def CoreSimpleWrongFalsely : Prop := coreSimpleRow.holds Try.pinned (OpenSpec.ofChange coreSimpleWrong)

/-- 'ostinatolaw05.PlaceMaps': WHATEVER THE INPUT: true; the input reads as it did. -/
def placeMapsSpec : ChangeSpec := { name := "placeMaps", fn := fun _ => fun
  | [d] => { results := [.lit (.bool true)], args := [d] }
  | _ => none }
def placeMapsRow : OpenClaim := { program := "ytmpneklgldaggaa", sum := "e1e663fe9c3d54e2c7ac9a85909586f7a6a333ef38869373ce93910023a2123e", func := "ostinato/ostinatolaw05.PlaceMaps", spec := "placeMaps", unfollowed := true, recurses := true, loops := true, apart := false }
def PlaceMapsSaid : Prop := placeMapsRow.holds Try.pinned (OpenSpec.ofChange placeMapsSpec)

/-- ITS FALSE NEIGHBOUR: 'it returns false'. Refute it at one input. -/
def placeMapsWrong : ChangeSpec := { name := "placeMaps", fn := fun _ => fun
  | [d] => { results := [.lit (.bool false)], args := [d] }
  | _ => none }
def PlaceMapsWrongFalsely : Prop := placeMapsRow.holds Try.pinned (OpenSpec.ofChange placeMapsWrong)

/- THE SECOND FORM. 'bulk': how many values and letters a reading holds, each counted each time it is reached (what is shared counts as often as it is met; a slice's spare places count too). A statement '..UptoSaid' is the law's where the arguments, and the package variables that the reading takes, are together of bulk at most 1048576: NARROWER than '..Said'. Prove '..Said' where nothing that the law and all that it calls make is longer than what came in: it says more and counts as full. Else prove '..UptoSaid'. A law counts once. -/
mutual
def uptoBulk {H : Type} : DataW H → Nat
  | .lit (.string bytes) => bytes.length + 1
  | .lit _ => 1
  | .nil => 1
  | .ptr d => uptoBulk d + 1
  | .slice elems spare => uptoBulkAll elems + uptoBulkAll spare + 1
  | .agg parts => uptoBulkAll parts + 1
  | .iface _ d => uptoBulk d + 1
  | .map entries => uptoBulkEntries entries + 1
  | .held _ => 1
def uptoBulkAll {H : Type} : List (DataW H) → Nat
  | [] => 0
  | d :: r => uptoBulk d + uptoBulkAll r
def uptoBulkEntries {H : Type} : List (Lit × DataW H) → Nat
  | [] => 0
  | x :: r => uptoBulkEntry x + uptoBulkEntries r
def uptoBulkEntry {H : Type} : Lit × DataW H → Nat
  | (.string bytes, d) => bytes.length + uptoBulk d + 1
  | (_, d) => uptoBulk d + 1
 end
def uptoSmall : (H : Type) → List (DataW H) → Bool := fun _ ds => decide (uptoBulkAll ds ≤ 1048576)
def OpenSpec.upto (s : _root_.Go.ChangeSpec) : _root_.Go.OpenSpec := { _root_.Go.OpenSpec.ofChange s with cond := some uptoSmall }

/-- 'ostinatolaw04.CoreSimple', WHERE WHAT IT READS IS OF BULK AT MOST 1048576: true; the input reads as it did. -/
def coreSimpleUptoRow : OpenClaim := { program := "ytmpneklgldaggaa", sum := "e1e663fe9c3d54e2c7ac9a85909586f7a6a333ef38869373ce93910023a2123e", func := "ostinato/ostinatolaw04.CoreSimple", spec := "coreSimple", unfollowed := true, recurses := true, loops := true, apart := false, narrowed := true }
def CoreSimpleUptoSaid : Prop := coreSimpleUptoRow.holds Try.pinned (OpenSpec.upto coreSimpleSpec)

/-- 'ostinatolaw05.PlaceMaps', WHERE WHAT IT READS IS OF BULK AT MOST 1048576: true; the input reads as it did. -/
def placeMapsUptoRow : OpenClaim := { program := "ytmpneklgldaggaa", sum := "e1e663fe9c3d54e2c7ac9a85909586f7a6a333ef38869373ce93910023a2123e", func := "ostinato/ostinatolaw05.PlaceMaps", spec := "placeMaps", unfollowed := true, recurses := true, loops := true, apart := false, narrowed := true }
def PlaceMapsUptoSaid : Prop := placeMapsUptoRow.holds Try.pinned (OpenSpec.upto placeMapsSpec)

end Rows
end Go.Proofs.Ytmpneklgldaggaa
