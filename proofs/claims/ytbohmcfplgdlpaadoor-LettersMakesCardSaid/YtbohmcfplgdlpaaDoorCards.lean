/-
  DERIVED. GIVEN WITH THE SEED: THE CARDS: each row of YtbohmcfplgdlpaaDoorRows.lean that lists a variable, with what it lists TIED to the program's text (the seventh form; the later family's looks); each row that meets fmt, with fmt's text TOLD by the authors' own Lean function (tested against real Go, not proved from fmt's source: count such statements apart). THE CARD IS WHAT COUNTS. Prove the row's statement (the work); the ties are given (YtbohmcfplgdlpaaDoorTie.lean); close each card by the builder's one call (the guide's Derived/Test/ToyasCard.lean, 'card_holds'). Laid BY PROGRAM, IN A SANDBOX (cutbox-door.mjs). By AI agents, Wed Nov 11 2026. No macro, syntax, notation, axiom, sorry.
-/
import Derived.Test.YtbohmcfplgdlpaaDoorRows
import GoSem.ClaimSeven
namespace Go.Proofs.YtbohmcfplgdlpaaDoor
namespace Rows

/-- THE TIED CARD OF 'ostinatolaw13.LettersMakes'. -/
def lettersMakesCard : Claim7 := { stood := { row := lettersMakesRow, standIns := [], harness := (true, "955d260f77ca8d42e962fc0db71737089e72668cf3900b72db32d1747b5ccb40"), looks := false }, kinds := [], alts := [], laidByText := true, laidKinds := [.data], laidTests := true, laidLooks := .later }
def LettersMakesCardSaid : Prop := Claim7.holds Tryd.pinned (.plain (OpenSpec.ofChange lettersMakesSpec)) lettersMakesCard

/-- THE SECOND FORM's CARD OF 'ostinatolaw13.LettersMakes'. -/
def lettersMakesUptoCard : Claim7 := { stood := { row := lettersMakesUptoRow, standIns := [], harness := (true, "955d260f77ca8d42e962fc0db71737089e72668cf3900b72db32d1747b5ccb40"), looks := false }, kinds := [], alts := [], laidByText := true, laidKinds := [.data], laidTests := true, laidLooks := .later }
def LettersMakesUptoCardSaid : Prop := Claim7.holds Tryd.pinned (.plain (OpenSpec.upto lettersMakesSpec)) lettersMakesUptoCard
end Rows
end Go.Proofs.YtbohmcfplgdlpaaDoor
