/-
  DERIVED. GIVEN WITH THE SEED: THE CARDS: each row of YtnmjicfpmkoldaaGreatDoorRows.lean that lists a variable, with what it lists TIED to the program's text (the seventh form; the later family's looks); each row that meets fmt, with fmt's text TOLD by the authors' own Lean function (tested against real Go, not proved from fmt's source: count such statements apart). THE CARD IS WHAT COUNTS. Prove the row's statement (the work); the ties are given (YtnmjicfpmkoldaaGreatDoorTie.lean); close each card by the builder's one call (the guide's Derived/Test/ToyasCard.lean, 'card_holds'). Laid BY PROGRAM, IN A SANDBOX (cutbox-door.mjs). By AI agents, Wed Nov 11 2026. No macro, syntax, notation, axiom, sorry.
-/
import Derived.Test.YtnmjicfpmkoldaaGreatDoorRows
import GoSem.ClaimSeven
namespace Go.Proofs.YtnmjicfpmkoldaaGreatDoor
namespace Rows

/-- THE TIED CARD OF 'ostinatolaw08.NaiveDead'. -/
def naiveDeadCard : Claim7 := { stood := { row := naiveDeadRow, standIns := [], harness := (true, "96c9e804d65a048d701326095c73b0cce2e5dc2a8fd773f8cab79cb2502dc1c0"), looks := false }, kinds := [], alts := [], laidByText := true, laidKinds := [.data], laidTests := true, laidLooks := .later }
def NaiveDeadCardSaid : Prop := Claim7.holds Tryz.pinned (.plain (OpenSpec.ofChange naiveDeadSpec)) naiveDeadCard

/-- THE TIED CARD OF 'ostinatolaw08.NaiveEither'. -/
def naiveEitherCard : Claim7 := { stood := { row := naiveEitherRow, standIns := [], harness := (true, "96c9e804d65a048d701326095c73b0cce2e5dc2a8fd773f8cab79cb2502dc1c0"), looks := false }, kinds := [], alts := [], laidByText := true, laidKinds := [.data], laidTests := true, laidLooks := .later }
def NaiveEitherCardSaid : Prop := Claim7.holds Tryz.pinned (.plain (OpenSpec.ofChange naiveEitherSpec)) naiveEitherCard

/-- THE TIED CARD OF 'ostinatolaw08.NaiveBehind'. -/
def naiveBehindCard : Claim7 := { stood := { row := naiveBehindRow, standIns := [], harness := (true, "96c9e804d65a048d701326095c73b0cce2e5dc2a8fd773f8cab79cb2502dc1c0"), looks := false }, kinds := [], alts := [], laidByText := true, laidKinds := [.data], laidTests := true, laidLooks := .later }
def NaiveBehindCardSaid : Prop := Claim7.holds Tryz.pinned (.plain (OpenSpec.ofChange naiveBehindSpec)) naiveBehindCard

/-- THE TIED CARD OF 'ostinatolaw08.NaiveMatch'. -/
def naiveMatchCard : Claim7 := { stood := { row := naiveMatchRow, standIns := [], harness := (true, "96c9e804d65a048d701326095c73b0cce2e5dc2a8fd773f8cab79cb2502dc1c0"), looks := false }, kinds := [], alts := [], laidByText := true, laidKinds := [.data], laidTests := true, laidLooks := .later }
def NaiveMatchCardSaid : Prop := Claim7.holds Tryz.pinned (.plain (OpenSpec.ofChange naiveMatchSpec)) naiveMatchCard

/-- THE TIED CARD OF 'ostinatolaw08.NaiveOn'. -/
def naiveOnCard : Claim7 := { stood := { row := naiveOnRow, standIns := [], harness := (true, "96c9e804d65a048d701326095c73b0cce2e5dc2a8fd773f8cab79cb2502dc1c0"), looks := false }, kinds := [], alts := [], laidByText := true, laidKinds := [.data], laidTests := true, laidLooks := .later }
def NaiveOnCardSaid : Prop := Claim7.holds Tryz.pinned (.plain (OpenSpec.ofChange naiveOnSpec)) naiveOnCard

/-- THE TIED CARD OF 'ostinatolaw13.LettersAlike'. -/
def lettersAlikeCard : Claim7 := { stood := { row := lettersAlikeRow, standIns := [], harness := (true, "96c9e804d65a048d701326095c73b0cce2e5dc2a8fd773f8cab79cb2502dc1c0"), looks := false }, kinds := [], alts := [], laidByText := true, laidKinds := [.data], laidTests := true, laidLooks := .later }
def LettersAlikeCardSaid : Prop := Claim7.holds Tryz.pinned (.plain (OpenSpec.ofChange lettersAlikeSpec)) lettersAlikeCard

/-- THE SECOND FORM's CARD OF 'ostinatolaw08.NaiveDead'. -/
def naiveDeadUptoCard : Claim7 := { stood := { row := naiveDeadUptoRow, standIns := [], harness := (true, "96c9e804d65a048d701326095c73b0cce2e5dc2a8fd773f8cab79cb2502dc1c0"), looks := false }, kinds := [], alts := [], laidByText := true, laidKinds := [.data], laidTests := true, laidLooks := .later }
def NaiveDeadUptoCardSaid : Prop := Claim7.holds Tryz.pinned (.plain (OpenSpec.upto naiveDeadSpec)) naiveDeadUptoCard

/-- THE SECOND FORM's CARD OF 'ostinatolaw08.NaiveEither'. -/
def naiveEitherUptoCard : Claim7 := { stood := { row := naiveEitherUptoRow, standIns := [], harness := (true, "96c9e804d65a048d701326095c73b0cce2e5dc2a8fd773f8cab79cb2502dc1c0"), looks := false }, kinds := [], alts := [], laidByText := true, laidKinds := [.data], laidTests := true, laidLooks := .later }
def NaiveEitherUptoCardSaid : Prop := Claim7.holds Tryz.pinned (.plain (OpenSpec.upto naiveEitherSpec)) naiveEitherUptoCard

/-- THE SECOND FORM's CARD OF 'ostinatolaw08.NaiveBehind'. -/
def naiveBehindUptoCard : Claim7 := { stood := { row := naiveBehindUptoRow, standIns := [], harness := (true, "96c9e804d65a048d701326095c73b0cce2e5dc2a8fd773f8cab79cb2502dc1c0"), looks := false }, kinds := [], alts := [], laidByText := true, laidKinds := [.data], laidTests := true, laidLooks := .later }
def NaiveBehindUptoCardSaid : Prop := Claim7.holds Tryz.pinned (.plain (OpenSpec.upto naiveBehindSpec)) naiveBehindUptoCard

/-- THE SECOND FORM's CARD OF 'ostinatolaw08.NaiveMatch'. -/
def naiveMatchUptoCard : Claim7 := { stood := { row := naiveMatchUptoRow, standIns := [], harness := (true, "96c9e804d65a048d701326095c73b0cce2e5dc2a8fd773f8cab79cb2502dc1c0"), looks := false }, kinds := [], alts := [], laidByText := true, laidKinds := [.data], laidTests := true, laidLooks := .later }
def NaiveMatchUptoCardSaid : Prop := Claim7.holds Tryz.pinned (.plain (OpenSpec.upto naiveMatchSpec)) naiveMatchUptoCard

/-- THE SECOND FORM's CARD OF 'ostinatolaw08.NaiveOn'. -/
def naiveOnUptoCard : Claim7 := { stood := { row := naiveOnUptoRow, standIns := [], harness := (true, "96c9e804d65a048d701326095c73b0cce2e5dc2a8fd773f8cab79cb2502dc1c0"), looks := false }, kinds := [], alts := [], laidByText := true, laidKinds := [.data], laidTests := true, laidLooks := .later }
def NaiveOnUptoCardSaid : Prop := Claim7.holds Tryz.pinned (.plain (OpenSpec.upto naiveOnSpec)) naiveOnUptoCard

/-- THE SECOND FORM's CARD OF 'ostinatolaw13.LettersAlike'. -/
def lettersAlikeUptoCard : Claim7 := { stood := { row := lettersAlikeUptoRow, standIns := [], harness := (true, "96c9e804d65a048d701326095c73b0cce2e5dc2a8fd773f8cab79cb2502dc1c0"), looks := false }, kinds := [], alts := [], laidByText := true, laidKinds := [.data], laidTests := true, laidLooks := .later }
def LettersAlikeUptoCardSaid : Prop := Claim7.holds Tryz.pinned (.plain (OpenSpec.upto lettersAlikeSpec)) lettersAlikeUptoCard
end Rows
end Go.Proofs.YtnmjicfpmkoldaaGreatDoor
