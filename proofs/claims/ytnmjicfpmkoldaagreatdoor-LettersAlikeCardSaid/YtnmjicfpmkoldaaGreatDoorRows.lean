/-
  NARROWER THAN 'FOR EVERY INPUT', by the rows' own cells (each row's printed sentence says how): NaiveDead: loops, laid · NaiveEither: loops, laid · NaiveBehind: loops, laid · NaiveMatch: loops, laid · NaiveOn: loops, laid · LettersAlike: loops, laid.
  DERIVED. THE GIVEN ROWS OF THIS SEAT. 6 by the template 'for every input the law returns true; each argument reads behind the call as it read before'; 0 by the template 'total and deterministic' (their statements: YtnmjicfpmkoldaaGreatDoorTotals.lean).
  GIVEN WITH THE SEED: the statements are not yours to turn. If you find one false, say at which input.
  Laid BY PROGRAM, IN A SANDBOX (cutbox-rows.mjs): the forced cells as the released guide's own fill.sh prints them over the translation b3fe7f2609bdbe06… (all of the seat's roots in one cut). By AI agents, Wed Nov 11 2026. No macro, syntax, notation, axiom, sorry.
-/
import Derived.Test.YtnmjicfpmkoldaaGreatDoorChecked
import GoSem.Claim
import GoSem.ClaimJoined
import GoSem.ClaimMapViews
import Derived.JoinedTies
import Derived.KernelRfl
namespace Go.Proofs.YtnmjicfpmkoldaaGreatDoor
/- THE CELL 'sum', in the pinned program and in every row, IS THE sha256 OF THE DUMP (.gsa) THAT YtnmjicfpmkoldaaGreatDoorProg.lean LOADS. Nothing in Lean hashes anything: it is a label: what it is worth is what the hold of that sum in a sandbox is worth. -/
noncomputable def Tryz.pinned : Pinned := { name := "ytnmjicfpmkoldaagreatdoor", sum := "b3fe7f2609bdbe069db5c13aeb599bc3264cd5bfebf5c5bdbd9200a2f09a8513", checked := Tryz.checked }
namespace Rows
def none {H : Type} : Left H := { results := [], args := [] }

/- WHAT THE LISTED PACKAGE-LEVEL VARIABLES READ AS WHEN THE CALL BEGINS. Each datum BY PROGRAM (the guide's laid-datum.mjs) off the statement by which the dump's own 'gosem.cut.vars' lays the variable. In a bare row this is a premise. The card (YtnmjicfpmkoldaaGreatDoorCards.lean) ties it to the program's text. -/
def laid_math_bits_deBruijn64tab {H : Type} : DataW H := .agg [.lit (.int .u8 0), .lit (.int .u8 1), .lit (.int .u8 56), .lit (.int .u8 2), .lit (.int .u8 57), .lit (.int .u8 49), .lit (.int .u8 28), .lit (.int .u8 3), .lit (.int .u8 61), .lit (.int .u8 58), .lit (.int .u8 42), .lit (.int .u8 50), .lit (.int .u8 38), .lit (.int .u8 29), .lit (.int .u8 17), .lit (.int .u8 4), .lit (.int .u8 62), .lit (.int .u8 47), .lit (.int .u8 59), .lit (.int .u8 36), .lit (.int .u8 45), .lit (.int .u8 43), .lit (.int .u8 51), .lit (.int .u8 22), .lit (.int .u8 53), .lit (.int .u8 39), .lit (.int .u8 33), .lit (.int .u8 30), .lit (.int .u8 24), .lit (.int .u8 18), .lit (.int .u8 12), .lit (.int .u8 5), .lit (.int .u8 63), .lit (.int .u8 55), .lit (.int .u8 48), .lit (.int .u8 27), .lit (.int .u8 60), .lit (.int .u8 41), .lit (.int .u8 37), .lit (.int .u8 16), .lit (.int .u8 46), .lit (.int .u8 35), .lit (.int .u8 44), .lit (.int .u8 21), .lit (.int .u8 52), .lit (.int .u8 32), .lit (.int .u8 23), .lit (.int .u8 11), .lit (.int .u8 54), .lit (.int .u8 26), .lit (.int .u8 40), .lit (.int .u8 15), .lit (.int .u8 34), .lit (.int .u8 20), .lit (.int .u8 31), .lit (.int .u8 10), .lit (.int .u8 25), .lit (.int .u8 14), .lit (.int .u8 19), .lit (.int .u8 9), .lit (.int .u8 13), .lit (.int .u8 8), .lit (.int .u8 7), .lit (.int .u8 6)]

/-- 'ostinatolaw08.NaiveDead': WHATEVER THE INPUT: true; the input reads as it did. -/
def naiveDeadSpec : ChangeSpec := { name := "naiveDead", fn := fun _ => fun
  | [d1, d2, d3] => { results := [.lit (.bool true)], args := [d1, d2, d3] }
  | _ => none }
def naiveDeadRow : OpenClaim := { program := "ytnmjicfpmkoldaagreatdoor", sum := "b3fe7f2609bdbe069db5c13aeb599bc3264cd5bfebf5c5bdbd9200a2f09a8513", func := "ostinato/ostinatolaw08.NaiveDead", spec := "naiveDead", unfollowed := true, recurses := true, named := ["math/bits.deBruijn64tab"], loops := true, plainKeys := false, apart := false, laid := [("math/bits.deBruijn64tab", laid_math_bits_deBruijn64tab)] }
def NaiveDeadSaid : Prop := naiveDeadRow.holds Tryz.pinned (OpenSpec.ofChange naiveDeadSpec)

/-- ITS FALSE NEIGHBOUR: 'it returns false'. Refute it at one input. -/
def naiveDeadWrong : ChangeSpec := { name := "naiveDead", fn := fun _ => fun
  | [d1, d2, d3] => { results := [.lit (.bool false)], args := [d1, d2, d3] }
  | _ => none }
def NaiveDeadWrongFalsely : Prop := naiveDeadRow.holds Tryz.pinned (OpenSpec.ofChange naiveDeadWrong)

/-- 'ostinatolaw08.NaiveEither': WHATEVER THE INPUT: true; the input reads as it did. -/
def naiveEitherSpec : ChangeSpec := { name := "naiveEither", fn := fun _ => fun
  | [d1, d2, d3] => { results := [.lit (.bool true)], args := [d1, d2, d3] }
  | _ => none }
def naiveEitherRow : OpenClaim := { program := "ytnmjicfpmkoldaagreatdoor", sum := "b3fe7f2609bdbe069db5c13aeb599bc3264cd5bfebf5c5bdbd9200a2f09a8513", func := "ostinato/ostinatolaw08.NaiveEither", spec := "naiveEither", unfollowed := true, recurses := true, named := ["math/bits.deBruijn64tab"], loops := true, plainKeys := false, apart := false, laid := [("math/bits.deBruijn64tab", laid_math_bits_deBruijn64tab)] }
def NaiveEitherSaid : Prop := naiveEitherRow.holds Tryz.pinned (OpenSpec.ofChange naiveEitherSpec)

/-- ITS FALSE NEIGHBOUR: 'it returns false'. Refute it at one input. -/
def naiveEitherWrong : ChangeSpec := { name := "naiveEither", fn := fun _ => fun
  | [d1, d2, d3] => { results := [.lit (.bool false)], args := [d1, d2, d3] }
  | _ => none }
def NaiveEitherWrongFalsely : Prop := naiveEitherRow.holds Tryz.pinned (OpenSpec.ofChange naiveEitherWrong)

/-- 'ostinatolaw08.NaiveBehind': WHATEVER THE INPUT: true; the input reads as it did. -/
def naiveBehindSpec : ChangeSpec := { name := "naiveBehind", fn := fun _ => fun
  | [d1, d2] => { results := [.lit (.bool true)], args := [d1, d2] }
  | _ => none }
def naiveBehindRow : OpenClaim := { program := "ytnmjicfpmkoldaagreatdoor", sum := "b3fe7f2609bdbe069db5c13aeb599bc3264cd5bfebf5c5bdbd9200a2f09a8513", func := "ostinato/ostinatolaw08.NaiveBehind", spec := "naiveBehind", unfollowed := true, recurses := true, named := ["math/bits.deBruijn64tab"], loops := true, plainKeys := false, apart := false, laid := [("math/bits.deBruijn64tab", laid_math_bits_deBruijn64tab)] }
def NaiveBehindSaid : Prop := naiveBehindRow.holds Tryz.pinned (OpenSpec.ofChange naiveBehindSpec)

/-- ITS FALSE NEIGHBOUR: 'it returns false'. Refute it at one input. -/
def naiveBehindWrong : ChangeSpec := { name := "naiveBehind", fn := fun _ => fun
  | [d1, d2] => { results := [.lit (.bool false)], args := [d1, d2] }
  | _ => none }
def NaiveBehindWrongFalsely : Prop := naiveBehindRow.holds Tryz.pinned (OpenSpec.ofChange naiveBehindWrong)

/-- 'ostinatolaw08.NaiveMatch': WHATEVER THE INPUT: true; the input reads as it did. -/
def naiveMatchSpec : ChangeSpec := { name := "naiveMatch", fn := fun _ => fun
  | [d1, d2] => { results := [.lit (.bool true)], args := [d1, d2] }
  | _ => none }
def naiveMatchRow : OpenClaim := { program := "ytnmjicfpmkoldaagreatdoor", sum := "b3fe7f2609bdbe069db5c13aeb599bc3264cd5bfebf5c5bdbd9200a2f09a8513", func := "ostinato/ostinatolaw08.NaiveMatch", spec := "naiveMatch", unfollowed := true, recurses := true, named := ["math/bits.deBruijn64tab"], loops := true, plainKeys := false, apart := false, laid := [("math/bits.deBruijn64tab", laid_math_bits_deBruijn64tab)] }
def NaiveMatchSaid : Prop := naiveMatchRow.holds Tryz.pinned (OpenSpec.ofChange naiveMatchSpec)

/-- ITS FALSE NEIGHBOUR: 'it returns false'. Refute it at one input. -/
def naiveMatchWrong : ChangeSpec := { name := "naiveMatch", fn := fun _ => fun
  | [d1, d2] => { results := [.lit (.bool false)], args := [d1, d2] }
  | _ => none }
def NaiveMatchWrongFalsely : Prop := naiveMatchRow.holds Tryz.pinned (OpenSpec.ofChange naiveMatchWrong)

/-- 'ostinatolaw08.NaiveOn': WHATEVER THE INPUT: true; the input reads as it did. -/
def naiveOnSpec : ChangeSpec := { name := "naiveOn", fn := fun _ => fun
  | [d1, d2] => { results := [.lit (.bool true)], args := [d1, d2] }
  | _ => none }
def naiveOnRow : OpenClaim := { program := "ytnmjicfpmkoldaagreatdoor", sum := "b3fe7f2609bdbe069db5c13aeb599bc3264cd5bfebf5c5bdbd9200a2f09a8513", func := "ostinato/ostinatolaw08.NaiveOn", spec := "naiveOn", unfollowed := true, recurses := true, named := ["math/bits.deBruijn64tab"], loops := true, plainKeys := false, apart := false, laid := [("math/bits.deBruijn64tab", laid_math_bits_deBruijn64tab)] }
def NaiveOnSaid : Prop := naiveOnRow.holds Tryz.pinned (OpenSpec.ofChange naiveOnSpec)

/-- ITS FALSE NEIGHBOUR: 'it returns false'. Refute it at one input. -/
def naiveOnWrong : ChangeSpec := { name := "naiveOn", fn := fun _ => fun
  | [d1, d2] => { results := [.lit (.bool false)], args := [d1, d2] }
  | _ => none }
def NaiveOnWrongFalsely : Prop := naiveOnRow.holds Tryz.pinned (OpenSpec.ofChange naiveOnWrong)

/-- 'ostinatolaw13.LettersAlike': WHATEVER THE INPUT: true; the input reads as it did. -/
def lettersAlikeSpec : ChangeSpec := { name := "lettersAlike", fn := fun _ => fun
  | [d1, d2, d3] => { results := [.lit (.bool true)], args := [d1, d2, d3] }
  | _ => none }
def lettersAlikeRow : OpenClaim := { program := "ytnmjicfpmkoldaagreatdoor", sum := "b3fe7f2609bdbe069db5c13aeb599bc3264cd5bfebf5c5bdbd9200a2f09a8513", func := "ostinato/ostinatolaw13.LettersAlike", spec := "lettersAlike", unfollowed := true, recurses := true, named := ["math/bits.deBruijn64tab"], loops := true, plainKeys := false, apart := false, laid := [("math/bits.deBruijn64tab", laid_math_bits_deBruijn64tab)] }
def LettersAlikeSaid : Prop := lettersAlikeRow.holds Tryz.pinned (OpenSpec.ofChange lettersAlikeSpec)

/-- ITS FALSE NEIGHBOUR: 'it returns false'. Refute it at one input. -/
def lettersAlikeWrong : ChangeSpec := { name := "lettersAlike", fn := fun _ => fun
  | [d1, d2, d3] => { results := [.lit (.bool false)], args := [d1, d2, d3] }
  | _ => none }
def LettersAlikeWrongFalsely : Prop := lettersAlikeRow.holds Tryz.pinned (OpenSpec.ofChange lettersAlikeWrong)

/- THE SECOND FORM. 'bulk': how many values and letters a reading holds, each counted each time it is reached (what is shared counts as often as it is met; a slice's spare places count too). A statement '..UptoSaid' is the law's where the arguments, and the package variables that the reading takes, are together of bulk at most 1048576: NARROWER than '..Said'. Prove '..Said' where nothing that the law and all that it calls make is longer than what came in: it says more and counts as full. Else prove '..UptoSaid'. A law counts once. -/
mutual
def uptoBulk {H : Type} : DataW H → Nat
  | .lit (.string bytes) => bytes.length + 1
  | .lit _ => 1
  | .nil => 1
  | .ptr d => uptoBulk d + 1
  | .slice elems spare => uptoBulkAll elems + uptoBulkAll spare + 1
  | .agg parts => uptoBulkAll parts + 1
  | .iface _ d => uptoBulk d + 1
  | .map entries => uptoBulkEntries entries + 1
  | .held _ => 1
def uptoBulkAll {H : Type} : List (DataW H) → Nat
  | [] => 0
  | d :: r => uptoBulk d + uptoBulkAll r
def uptoBulkEntries {H : Type} : List (Lit × DataW H) → Nat
  | [] => 0
  | x :: r => uptoBulkEntry x + uptoBulkEntries r
def uptoBulkEntry {H : Type} : Lit × DataW H → Nat
  | (.string bytes, d) => bytes.length + uptoBulk d + 1
  | (_, d) => uptoBulk d + 1
 end
def uptoSmall : (H : Type) → List (DataW H) → Bool := fun _ ds => decide (uptoBulkAll ds ≤ 1048576)
def OpenSpec.upto (s : _root_.Go.ChangeSpec) : _root_.Go.OpenSpec := { _root_.Go.OpenSpec.ofChange s with cond := some uptoSmall }

/-- 'ostinatolaw08.NaiveDead', WHERE WHAT IT READS IS OF BULK AT MOST 1048576: true; the input reads as it did. -/
def naiveDeadUptoRow : OpenClaim := { program := "ytnmjicfpmkoldaagreatdoor", sum := "b3fe7f2609bdbe069db5c13aeb599bc3264cd5bfebf5c5bdbd9200a2f09a8513", func := "ostinato/ostinatolaw08.NaiveDead", spec := "naiveDead", unfollowed := true, recurses := true, named := ["math/bits.deBruijn64tab"], loops := true, plainKeys := false, apart := false, laid := [("math/bits.deBruijn64tab", laid_math_bits_deBruijn64tab)], narrowed := true }
def NaiveDeadUptoSaid : Prop := naiveDeadUptoRow.holds Tryz.pinned (OpenSpec.upto naiveDeadSpec)

/-- 'ostinatolaw08.NaiveEither', WHERE WHAT IT READS IS OF BULK AT MOST 1048576: true; the input reads as it did. -/
def naiveEitherUptoRow : OpenClaim := { program := "ytnmjicfpmkoldaagreatdoor", sum := "b3fe7f2609bdbe069db5c13aeb599bc3264cd5bfebf5c5bdbd9200a2f09a8513", func := "ostinato/ostinatolaw08.NaiveEither", spec := "naiveEither", unfollowed := true, recurses := true, named := ["math/bits.deBruijn64tab"], loops := true, plainKeys := false, apart := false, laid := [("math/bits.deBruijn64tab", laid_math_bits_deBruijn64tab)], narrowed := true }
def NaiveEitherUptoSaid : Prop := naiveEitherUptoRow.holds Tryz.pinned (OpenSpec.upto naiveEitherSpec)

/-- 'ostinatolaw08.NaiveBehind', WHERE WHAT IT READS IS OF BULK AT MOST 1048576: true; the input reads as it did. -/
def naiveBehindUptoRow : OpenClaim := { program := "ytnmjicfpmkoldaagreatdoor", sum := "b3fe7f2609bdbe069db5c13aeb599bc3264cd5bfebf5c5bdbd9200a2f09a8513", func := "ostinato/ostinatolaw08.NaiveBehind", spec := "naiveBehind", unfollowed := true, recurses := true, named := ["math/bits.deBruijn64tab"], loops := true, plainKeys := false, apart := false, laid := [("math/bits.deBruijn64tab", laid_math_bits_deBruijn64tab)], narrowed := true }
def NaiveBehindUptoSaid : Prop := naiveBehindUptoRow.holds Tryz.pinned (OpenSpec.upto naiveBehindSpec)

/-- 'ostinatolaw08.NaiveMatch', WHERE WHAT IT READS IS OF BULK AT MOST 1048576: true; the input reads as it did. -/
def naiveMatchUptoRow : OpenClaim := { program := "ytnmjicfpmkoldaagreatdoor", sum := "b3fe7f2609bdbe069db5c13aeb599bc3264cd5bfebf5c5bdbd9200a2f09a8513", func := "ostinato/ostinatolaw08.NaiveMatch", spec := "naiveMatch", unfollowed := true, recurses := true, named := ["math/bits.deBruijn64tab"], loops := true, plainKeys := false, apart := false, laid := [("math/bits.deBruijn64tab", laid_math_bits_deBruijn64tab)], narrowed := true }
def NaiveMatchUptoSaid : Prop := naiveMatchUptoRow.holds Tryz.pinned (OpenSpec.upto naiveMatchSpec)

/-- 'ostinatolaw08.NaiveOn', WHERE WHAT IT READS IS OF BULK AT MOST 1048576: true; the input reads as it did. -/
def naiveOnUptoRow : OpenClaim := { program := "ytnmjicfpmkoldaagreatdoor", sum := "b3fe7f2609bdbe069db5c13aeb599bc3264cd5bfebf5c5bdbd9200a2f09a8513", func := "ostinato/ostinatolaw08.NaiveOn", spec := "naiveOn", unfollowed := true, recurses := true, named := ["math/bits.deBruijn64tab"], loops := true, plainKeys := false, apart := false, laid := [("math/bits.deBruijn64tab", laid_math_bits_deBruijn64tab)], narrowed := true }
def NaiveOnUptoSaid : Prop := naiveOnUptoRow.holds Tryz.pinned (OpenSpec.upto naiveOnSpec)

/-- 'ostinatolaw13.LettersAlike', WHERE WHAT IT READS IS OF BULK AT MOST 1048576: true; the input reads as it did. -/
def lettersAlikeUptoRow : OpenClaim := { program := "ytnmjicfpmkoldaagreatdoor", sum := "b3fe7f2609bdbe069db5c13aeb599bc3264cd5bfebf5c5bdbd9200a2f09a8513", func := "ostinato/ostinatolaw13.LettersAlike", spec := "lettersAlike", unfollowed := true, recurses := true, named := ["math/bits.deBruijn64tab"], loops := true, plainKeys := false, apart := false, laid := [("math/bits.deBruijn64tab", laid_math_bits_deBruijn64tab)], narrowed := true }
def LettersAlikeUptoSaid : Prop := lettersAlikeUptoRow.holds Tryz.pinned (OpenSpec.upto lettersAlikeSpec)

end Rows
end Go.Proofs.YtnmjicfpmkoldaaGreatDoor
