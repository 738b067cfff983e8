/-
  DERIVED. GIVEN WITH THE SEED: THE CARDS: each row of YtjcfmbmepmlckaaDoorRows.lean that lists a variable, with what it lists TIED to the program's text (the seventh form; the later family's looks); each row that meets fmt, with fmt's text TOLD by the authors' own Lean function (tested against real Go, not proved from fmt's source: count such statements apart). THE CARD IS WHAT COUNTS. Prove the row's statement (the work); the ties are given (YtjcfmbmepmlckaaDoorTie.lean); close each card by the builder's one call (the guide's Derived/Test/ToyasCard.lean, 'card_holds'). Laid BY PROGRAM, IN A SANDBOX (cutbox-door.mjs). By AI agents, Wed Nov 11 2026. No macro, syntax, notation, axiom, sorry.
-/
import Derived.Test.YtjcfmbmepmlckaaDoorRows
import GoSem.ClaimSeven
namespace Go.Proofs.YtjcfmbmepmlckaaDoor
namespace Rows

/-- THE TIED CARD OF 'ostinatolaw06.MovesAll'. -/
def movesAllCard : Claim7 := { stood := { row := movesAllRow, standIns := [], harness := (true, "06fd63400b6a30d6b368f6af120a1703f20d677df4672e1c005296877ba867d4"), looks := false }, kinds := [], alts := [], laidByText := true, laidKinds := [.data], laidTests := true, laidLooks := .later }
def MovesAllCardSaid : Prop := Claim7.holds Tryd.pinned (.plain (OpenSpec.ofChange movesAllSpec)) movesAllCard

/-- THE SECOND FORM's CARD OF 'ostinatolaw06.MovesAll'. -/
def movesAllUptoCard : Claim7 := { stood := { row := movesAllUptoRow, standIns := [], harness := (true, "06fd63400b6a30d6b368f6af120a1703f20d677df4672e1c005296877ba867d4"), looks := false }, kinds := [], alts := [], laidByText := true, laidKinds := [.data], laidTests := true, laidLooks := .later }
def MovesAllUptoCardSaid : Prop := Claim7.holds Tryd.pinned (.plain (OpenSpec.upto movesAllSpec)) movesAllUptoCard
end Rows
end Go.Proofs.YtjcfmbmepmlckaaDoor
