/-
  DERIVED. GIVEN WITH THE SEED: THE CARDS: each row of YtgdblnppeeknpaaDoorRows.lean that lists a variable, with what it lists TIED to the program's text (the seventh form; the later family's looks); each row that meets fmt, with fmt's text TOLD by the authors' own Lean function (tested against real Go, not proved from fmt's source: count such statements apart). THE CARD IS WHAT COUNTS. Prove the row's statement (the work); the ties are given (YtgdblnppeeknpaaDoorTie.lean); close each card by the builder's one call (the guide's Derived/Test/ToyasCard.lean, 'card_holds'). Laid BY PROGRAM, IN A SANDBOX (cutbox-door.mjs). By AI agents, Wed Nov 11 2026. No macro, syntax, notation, axiom, sorry.
-/
import Derived.Test.YtgdblnppeeknpaaDoorRows
import GoSem.ClaimSeven
namespace Go.Proofs.YtgdblnppeeknpaaDoor
namespace Rows

/-- THE TIED CARD OF 'ostinatolaw12.RunsPacks'. -/
def runsPacksCard : Claim7 := { stood := { row := runsPacksRow, standIns := [], harness := (true, "dd4aa30f35922a3805b35050b0627ec8889a1b660f3eed90403cd7bb1324135b"), looks := false }, kinds := [], alts := [], laidByText := true, laidKinds := [.data, .data, .data], laidTests := true, laidLooks := .later }
def RunsPacksCardSaid : Prop := Claim7.holds Tryd.pinned (.plain (OpenSpec.ofChange runsPacksSpec)) runsPacksCard

/-- THE TIED CARD OF 'ostinatolaw12.RunsTells'. -/
def runsTellsCard : Claim7 := { stood := { row := runsTellsRow, standIns := [], harness := (true, "dd4aa30f35922a3805b35050b0627ec8889a1b660f3eed90403cd7bb1324135b"), looks := false }, kinds := [], alts := [], laidByText := true, laidKinds := [.data, .data, .data], laidTests := true, laidLooks := .later }
def RunsTellsCardSaid : Prop := Claim7.holds Tryd.pinned (.plain (OpenSpec.ofChange runsTellsSpec)) runsTellsCard

/-- THE TIED CARD OF 'ostinatolaw12.RunsJoins'. -/
def runsJoinsCard : Claim7 := { stood := { row := runsJoinsRow, standIns := [], harness := (true, "dd4aa30f35922a3805b35050b0627ec8889a1b660f3eed90403cd7bb1324135b"), looks := false }, kinds := [], alts := [], laidByText := true, laidKinds := [.data, .data, .data], laidTests := true, laidLooks := .later }
def RunsJoinsCardSaid : Prop := Claim7.holds Tryd.pinned (.plain (OpenSpec.ofChange runsJoinsSpec)) runsJoinsCard

/-- THE SECOND FORM's CARD OF 'ostinatolaw12.RunsPacks'. -/
def runsPacksUptoCard : Claim7 := { stood := { row := runsPacksUptoRow, standIns := [], harness := (true, "dd4aa30f35922a3805b35050b0627ec8889a1b660f3eed90403cd7bb1324135b"), looks := false }, kinds := [], alts := [], laidByText := true, laidKinds := [.data, .data, .data], laidTests := true, laidLooks := .later }
def RunsPacksUptoCardSaid : Prop := Claim7.holds Tryd.pinned (.plain (OpenSpec.upto runsPacksSpec)) runsPacksUptoCard

/-- THE SECOND FORM's CARD OF 'ostinatolaw12.RunsTells'. -/
def runsTellsUptoCard : Claim7 := { stood := { row := runsTellsUptoRow, standIns := [], harness := (true, "dd4aa30f35922a3805b35050b0627ec8889a1b660f3eed90403cd7bb1324135b"), looks := false }, kinds := [], alts := [], laidByText := true, laidKinds := [.data, .data, .data], laidTests := true, laidLooks := .later }
def RunsTellsUptoCardSaid : Prop := Claim7.holds Tryd.pinned (.plain (OpenSpec.upto runsTellsSpec)) runsTellsUptoCard

/-- THE SECOND FORM's CARD OF 'ostinatolaw12.RunsJoins'. -/
def runsJoinsUptoCard : Claim7 := { stood := { row := runsJoinsUptoRow, standIns := [], harness := (true, "dd4aa30f35922a3805b35050b0627ec8889a1b660f3eed90403cd7bb1324135b"), looks := false }, kinds := [], alts := [], laidByText := true, laidKinds := [.data, .data, .data], laidTests := true, laidLooks := .later }
def RunsJoinsUptoCardSaid : Prop := Claim7.holds Tryd.pinned (.plain (OpenSpec.upto runsJoinsSpec)) runsJoinsUptoCard
end Rows
end Go.Proofs.YtgdblnppeeknpaaDoor
