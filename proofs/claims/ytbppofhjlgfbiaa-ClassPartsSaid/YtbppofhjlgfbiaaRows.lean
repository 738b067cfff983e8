/-
  No cell of these rows narrows 'for every input' (looked for: loops, veiled, ifaces, maps, wideKeys, modest, calm, conditions, laid).
  DERIVED. THE GIVEN ROWS OF THIS SEAT. 6 by the template 'for every input the law returns true; each argument reads behind the call as it read before'; 0 by the template 'total and deterministic' (their statements: YtbppofhjlgfbiaaTotals.lean).
  GIVEN WITH THE SEED: the statements are not yours to turn. If you find one false, say at which input.
  Laid BY PROGRAM, IN A SANDBOX (cutbox-rows.mjs): the forced cells as the released guide's own fill.sh prints them over the translation fd8fb7a7002aa370… (all of the seat's roots in one cut). By AI agents, Wed Nov 11 2026. No macro, syntax, notation, axiom, sorry.
-/
import Derived.Test.YtbppofhjlgfbiaaChecked
import GoSem.Claim
import GoSem.ClaimJoined
import GoSem.ClaimMapViews
import Derived.JoinedTies
import Derived.KernelRfl
namespace Go.Proofs.Ytbppofhjlgfbiaa
/- THE CELL 'sum', in the pinned program and in every row, IS THE sha256 OF THE DUMP (.gsa) THAT YtbppofhjlgfbiaaProg.lean LOADS. Nothing in Lean hashes anything: it is a label: what it is worth is what the hold of that sum in a sandbox is worth. -/
noncomputable def Try.pinned : Pinned := { name := "ytbppofhjlgfbiaa", sum := "fd8fb7a7002aa3702894b9c40e92ec6a27eaf7e739603387a4401fa1b9570a8d", checked := Try.checked }
namespace Rows
def none {H : Type} : Left H := { results := [], args := [] }

/-- 'ostinatolaw01.ClassTwice': WHATEVER THE INPUT: true; the input reads as it did. -/
def classTwiceSpec : ChangeSpec := { name := "classTwice", fn := fun _ => fun
  | [d1, d2] => { results := [.lit (.bool true)], args := [d1, d2] }
  | _ => none }
def classTwiceRow : OpenClaim := { program := "ytbppofhjlgfbiaa", sum := "fd8fb7a7002aa3702894b9c40e92ec6a27eaf7e739603387a4401fa1b9570a8d", func := "ostinato/ostinatolaw01.ClassTwice", spec := "classTwice", unfollowed := true, recurses := true, plainKeys := false, apart := false }
def ClassTwiceSaid : Prop := classTwiceRow.holds Try.pinned (OpenSpec.ofChange classTwiceSpec)

/-- ITS FALSE NEIGHBOUR: 'it returns false'. Refute it at one input. -/
def classTwiceWrong : ChangeSpec := { name := "classTwice", fn := fun _ => fun
  | [d1, d2] => { results := [.lit (.bool false)], args := [d1, d2] }
  | _ => none }
def ClassTwiceWrongFalsely : Prop := classTwiceRow.holds Try.pinned (OpenSpec.ofChange classTwiceWrong)

/-- 'ostinatolaw01.ClassBytes': WHATEVER THE INPUT: true; the input reads as it did. -/
def classBytesSpec : ChangeSpec := { name := "classBytes", fn := fun _ => fun
  | [d1, d2] => { results := [.lit (.bool true)], args := [d1, d2] }
  | _ => none }
def classBytesRow : OpenClaim := { program := "ytbppofhjlgfbiaa", sum := "fd8fb7a7002aa3702894b9c40e92ec6a27eaf7e739603387a4401fa1b9570a8d", func := "ostinato/ostinatolaw01.ClassBytes", spec := "classBytes", plainKeys := false, apart := false }
def ClassBytesSaid : Prop := classBytesRow.holds Try.pinned (OpenSpec.ofChange classBytesSpec)

/-- ITS FALSE NEIGHBOUR: 'it returns false'. Refute it at one input. -/
def classBytesWrong : ChangeSpec := { name := "classBytes", fn := fun _ => fun
  | [d1, d2] => { results := [.lit (.bool false)], args := [d1, d2] }
  | _ => none }
def ClassBytesWrongFalsely : Prop := classBytesRow.holds Try.pinned (OpenSpec.ofChange classBytesWrong)

/-- 'ostinatolaw01.ClassMakes': WHATEVER THE INPUT: true; the input reads as it did. -/
def classMakesSpec : ChangeSpec := { name := "classMakes", fn := fun _ => fun
  | [d1, d2, d3] => { results := [.lit (.bool true)], args := [d1, d2, d3] }
  | _ => none }
def classMakesRow : OpenClaim := { program := "ytbppofhjlgfbiaa", sum := "fd8fb7a7002aa3702894b9c40e92ec6a27eaf7e739603387a4401fa1b9570a8d", func := "ostinato/ostinatolaw01.ClassMakes", spec := "classMakes", plainKeys := false, apart := false }
def ClassMakesSaid : Prop := classMakesRow.holds Try.pinned (OpenSpec.ofChange classMakesSpec)

/-- ITS FALSE NEIGHBOUR: 'it returns false'. Refute it at one input. -/
def classMakesWrong : ChangeSpec := { name := "classMakes", fn := fun _ => fun
  | [d1, d2, d3] => { results := [.lit (.bool false)], args := [d1, d2, d3] }
  | _ => none }
def ClassMakesWrongFalsely : Prop := classMakesRow.holds Try.pinned (OpenSpec.ofChange classMakesWrong)

/-- 'ostinatolaw01.ClassParts': WHATEVER THE INPUT: true; the input reads as it did. -/
def classPartsSpec : ChangeSpec := { name := "classParts", fn := fun _ => fun
  | [d] => { results := [.lit (.bool true)], args := [d] }
  | _ => none }
def classPartsRow : OpenClaim := { program := "ytbppofhjlgfbiaa", sum := "fd8fb7a7002aa3702894b9c40e92ec6a27eaf7e739603387a4401fa1b9570a8d", func := "ostinato/ostinatolaw01.ClassParts", spec := "classParts", unfollowed := true, recurses := true, plainKeys := false, apart := false }
def ClassPartsSaid : Prop := classPartsRow.holds Try.pinned (OpenSpec.ofChange classPartsSpec)

/-- ITS FALSE NEIGHBOUR: 'it returns false'. Refute it at one input. -/
def classPartsWrong : ChangeSpec := { name := "classParts", fn := fun _ => fun
  | [d] => { results := [.lit (.bool false)], args := [d] }
  | _ => none }
def ClassPartsWrongFalsely : Prop := classPartsRow.holds Try.pinned (OpenSpec.ofChange classPartsWrong)

/-- 'ostinatolaw01.ClassWhole': WHATEVER THE INPUT: true; the input reads as it did. -/
def classWholeSpec : ChangeSpec := { name := "classWhole", fn := fun _ => fun
  | [d] => { results := [.lit (.bool true)], args := [d] }
  | _ => none }
def classWholeRow : OpenClaim := { program := "ytbppofhjlgfbiaa", sum := "fd8fb7a7002aa3702894b9c40e92ec6a27eaf7e739603387a4401fa1b9570a8d", func := "ostinato/ostinatolaw01.ClassWhole", spec := "classWhole", unfollowed := true, recurses := true, plainKeys := false, apart := false }
def ClassWholeSaid : Prop := classWholeRow.holds Try.pinned (OpenSpec.ofChange classWholeSpec)

/-- ITS FALSE NEIGHBOUR: 'it returns false'. Refute it at one input. -/
def classWholeWrong : ChangeSpec := { name := "classWhole", fn := fun _ => fun
  | [d] => { results := [.lit (.bool false)], args := [d] }
  | _ => none }
def ClassWholeWrongFalsely : Prop := classWholeRow.holds Try.pinned (OpenSpec.ofChange classWholeWrong)

/-- 'ostinatolaw01.ClassLaws': WHATEVER THE INPUT: true; the input reads as it did. -/
def classLawsSpec : ChangeSpec := { name := "classLaws", fn := fun _ => fun
  | [d1, d2] => { results := [.lit (.bool true)], args := [d1, d2] }
  | _ => none }
def classLawsRow : OpenClaim := { program := "ytbppofhjlgfbiaa", sum := "fd8fb7a7002aa3702894b9c40e92ec6a27eaf7e739603387a4401fa1b9570a8d", func := "ostinato/ostinatolaw01.ClassLaws", spec := "classLaws", plainKeys := false, apart := false }
def ClassLawsSaid : Prop := classLawsRow.holds Try.pinned (OpenSpec.ofChange classLawsSpec)

/-- ITS FALSE NEIGHBOUR: 'it returns false'. Refute it at one input. -/
def classLawsWrong : ChangeSpec := { name := "classLaws", fn := fun _ => fun
  | [d1, d2] => { results := [.lit (.bool false)], args := [d1, d2] }
  | _ => none }
def ClassLawsWrongFalsely : Prop := classLawsRow.holds Try.pinned (OpenSpec.ofChange classLawsWrong)

/- THE SECOND FORM. 'bulk': how many values and letters a reading holds, each counted each time it is reached (what is shared counts as often as it is met; a slice's spare places count too). A statement '..UptoSaid' is the law's where the arguments, and the package variables that the reading takes, are together of bulk at most 1048576: NARROWER than '..Said'. Prove '..Said' where nothing that the law and all that it calls make is longer than what came in: it says more and counts as full. Else prove '..UptoSaid'. A law counts once. -/
mutual
def uptoBulk {H : Type} : DataW H → Nat
  | .lit (.string bytes) => bytes.length + 1
  | .lit _ => 1
  | .nil => 1
  | .ptr d => uptoBulk d + 1
  | .slice elems spare => uptoBulkAll elems + uptoBulkAll spare + 1
  | .agg parts => uptoBulkAll parts + 1
  | .iface _ d => uptoBulk d + 1
  | .map entries => uptoBulkEntries entries + 1
  | .held _ => 1
def uptoBulkAll {H : Type} : List (DataW H) → Nat
  | [] => 0
  | d :: r => uptoBulk d + uptoBulkAll r
def uptoBulkEntries {H : Type} : List (Lit × DataW H) → Nat
  | [] => 0
  | x :: r => uptoBulkEntry x + uptoBulkEntries r
def uptoBulkEntry {H : Type} : Lit × DataW H → Nat
  | (.string bytes, d) => bytes.length + uptoBulk d + 1
  | (_, d) => uptoBulk d + 1
 end
def uptoSmall : (H : Type) → List (DataW H) → Bool := fun _ ds => decide (uptoBulkAll ds ≤ 1048576)
def OpenSpec.upto (s : _root_.Go.ChangeSpec) : _root_.Go.OpenSpec := { _root_.Go.OpenSpec.ofChange s with cond := some uptoSmall }

/-- 'ostinatolaw01.ClassTwice', WHERE WHAT IT READS IS OF BULK AT MOST 1048576: true; the input reads as it did. -/
def classTwiceUptoRow : OpenClaim := { program := "ytbppofhjlgfbiaa", sum := "fd8fb7a7002aa3702894b9c40e92ec6a27eaf7e739603387a4401fa1b9570a8d", func := "ostinato/ostinatolaw01.ClassTwice", spec := "classTwice", unfollowed := true, recurses := true, plainKeys := false, apart := false, narrowed := true }
def ClassTwiceUptoSaid : Prop := classTwiceUptoRow.holds Try.pinned (OpenSpec.upto classTwiceSpec)

/-- 'ostinatolaw01.ClassBytes', WHERE WHAT IT READS IS OF BULK AT MOST 1048576: true; the input reads as it did. -/
def classBytesUptoRow : OpenClaim := { program := "ytbppofhjlgfbiaa", sum := "fd8fb7a7002aa3702894b9c40e92ec6a27eaf7e739603387a4401fa1b9570a8d", func := "ostinato/ostinatolaw01.ClassBytes", spec := "classBytes", plainKeys := false, apart := false, narrowed := true }
def ClassBytesUptoSaid : Prop := classBytesUptoRow.holds Try.pinned (OpenSpec.upto classBytesSpec)

/-- 'ostinatolaw01.ClassMakes', WHERE WHAT IT READS IS OF BULK AT MOST 1048576: true; the input reads as it did. -/
def classMakesUptoRow : OpenClaim := { program := "ytbppofhjlgfbiaa", sum := "fd8fb7a7002aa3702894b9c40e92ec6a27eaf7e739603387a4401fa1b9570a8d", func := "ostinato/ostinatolaw01.ClassMakes", spec := "classMakes", plainKeys := false, apart := false, narrowed := true }
def ClassMakesUptoSaid : Prop := classMakesUptoRow.holds Try.pinned (OpenSpec.upto classMakesSpec)

/-- 'ostinatolaw01.ClassParts', WHERE WHAT IT READS IS OF BULK AT MOST 1048576: true; the input reads as it did. -/
def classPartsUptoRow : OpenClaim := { program := "ytbppofhjlgfbiaa", sum := "fd8fb7a7002aa3702894b9c40e92ec6a27eaf7e739603387a4401fa1b9570a8d", func := "ostinato/ostinatolaw01.ClassParts", spec := "classParts", unfollowed := true, recurses := true, plainKeys := false, apart := false, narrowed := true }
def ClassPartsUptoSaid : Prop := classPartsUptoRow.holds Try.pinned (OpenSpec.upto classPartsSpec)

/-- 'ostinatolaw01.ClassWhole', WHERE WHAT IT READS IS OF BULK AT MOST 1048576: true; the input reads as it did. -/
def classWholeUptoRow : OpenClaim := { program := "ytbppofhjlgfbiaa", sum := "fd8fb7a7002aa3702894b9c40e92ec6a27eaf7e739603387a4401fa1b9570a8d", func := "ostinato/ostinatolaw01.ClassWhole", spec := "classWhole", unfollowed := true, recurses := true, plainKeys := false, apart := false, narrowed := true }
def ClassWholeUptoSaid : Prop := classWholeUptoRow.holds Try.pinned (OpenSpec.upto classWholeSpec)

/-- 'ostinatolaw01.ClassLaws', WHERE WHAT IT READS IS OF BULK AT MOST 1048576: true; the input reads as it did. -/
def classLawsUptoRow : OpenClaim := { program := "ytbppofhjlgfbiaa", sum := "fd8fb7a7002aa3702894b9c40e92ec6a27eaf7e739603387a4401fa1b9570a8d", func := "ostinato/ostinatolaw01.ClassLaws", spec := "classLaws", plainKeys := false, apart := false, narrowed := true }
def ClassLawsUptoSaid : Prop := classLawsUptoRow.holds Try.pinned (OpenSpec.upto classLawsSpec)

end Rows
end Go.Proofs.Ytbppofhjlgfbiaa
