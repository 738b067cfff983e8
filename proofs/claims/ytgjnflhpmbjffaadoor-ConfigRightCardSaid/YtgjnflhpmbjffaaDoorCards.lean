/-
  DERIVED. GIVEN WITH THE SEED: THE CARDS: each row of YtgjnflhpmbjffaaDoorRows.lean that lists a variable, with what it lists TIED to the program's text (the seventh form; the later family's looks); each row that meets fmt, with fmt's text TOLD by the authors' own Lean function (tested against real Go, not proved from fmt's source: count such statements apart). THE CARD IS WHAT COUNTS. Prove the row's statement (the work); the ties are given (YtgjnflhpmbjffaaDoorTie.lean); close each card by the builder's one call (the guide's Derived/Test/ToyasCard.lean, 'card_holds'). Laid BY PROGRAM, IN A SANDBOX (cutbox-door.mjs). By AI agents, Wed Nov 11 2026. No macro, syntax, notation, axiom, sorry.
-/
import Derived.Test.YtgjnflhpmbjffaaDoorRows
import GoSem.ClaimSeven
namespace Go.Proofs.YtgjnflhpmbjffaaDoor
namespace Rows

/-- THE TIED CARD OF 'ostinatolaw06.MovesEnds'. -/
def movesEndsCard : Claim7 := { stood := { row := movesEndsRow, standIns := [], harness := (true, "283dbda80b8269c12d1065eacb1f056d1fb86ddc5a5de0f27b3f4eb17d30cc9b"), looks := false }, kinds := [], alts := [], laidByText := true, laidKinds := [.data], laidTests := true, laidLooks := .later }
def MovesEndsCardSaid : Prop := Claim7.holds Tryd.pinned (.plain (OpenSpec.ofChange movesEndsSpec)) movesEndsCard

/-- THE TIED CARD OF 'ostinatolaw06.MovesAll'. -/
def movesAllCard : Claim7 := { stood := { row := movesAllRow, standIns := [], harness := (true, "283dbda80b8269c12d1065eacb1f056d1fb86ddc5a5de0f27b3f4eb17d30cc9b"), looks := false }, kinds := [], alts := [], laidByText := true, laidKinds := [.data], laidTests := true, laidLooks := .later }
def MovesAllCardSaid : Prop := Claim7.holds Tryd.pinned (.plain (OpenSpec.ofChange movesAllSpec)) movesAllCard

/-- THE TIED CARD OF 'ostinatolaw07.ConfigRight'. -/
def configRightCard : Claim7 := { stood := { row := configRightRow, standIns := [], harness := (true, "283dbda80b8269c12d1065eacb1f056d1fb86ddc5a5de0f27b3f4eb17d30cc9b"), looks := false }, kinds := [], alts := [], laidByText := true, laidKinds := [.data], laidTests := true, laidLooks := .later }
def ConfigRightCardSaid : Prop := Claim7.holds Tryd.pinned (.plain (OpenSpec.ofChange configRightSpec)) configRightCard

/-- THE TIED CARD OF 'ostinatolaw07.ConfigOrders'. -/
def configOrdersCard : Claim7 := { stood := { row := configOrdersRow, standIns := [], harness := (true, "283dbda80b8269c12d1065eacb1f056d1fb86ddc5a5de0f27b3f4eb17d30cc9b"), looks := false }, kinds := [], alts := [], laidByText := true, laidKinds := [.data], laidTests := true, laidLooks := .later }
def ConfigOrdersCardSaid : Prop := Claim7.holds Tryd.pinned (.plain (OpenSpec.ofChange configOrdersSpec)) configOrdersCard

/-- THE SECOND FORM's CARD OF 'ostinatolaw06.MovesEnds'. -/
def movesEndsUptoCard : Claim7 := { stood := { row := movesEndsUptoRow, standIns := [], harness := (true, "283dbda80b8269c12d1065eacb1f056d1fb86ddc5a5de0f27b3f4eb17d30cc9b"), looks := false }, kinds := [], alts := [], laidByText := true, laidKinds := [.data], laidTests := true, laidLooks := .later }
def MovesEndsUptoCardSaid : Prop := Claim7.holds Tryd.pinned (.plain (OpenSpec.upto movesEndsSpec)) movesEndsUptoCard

/-- THE SECOND FORM's CARD OF 'ostinatolaw06.MovesAll'. -/
def movesAllUptoCard : Claim7 := { stood := { row := movesAllUptoRow, standIns := [], harness := (true, "283dbda80b8269c12d1065eacb1f056d1fb86ddc5a5de0f27b3f4eb17d30cc9b"), looks := false }, kinds := [], alts := [], laidByText := true, laidKinds := [.data], laidTests := true, laidLooks := .later }
def MovesAllUptoCardSaid : Prop := Claim7.holds Tryd.pinned (.plain (OpenSpec.upto movesAllSpec)) movesAllUptoCard

/-- THE SECOND FORM's CARD OF 'ostinatolaw07.ConfigRight'. -/
def configRightUptoCard : Claim7 := { stood := { row := configRightUptoRow, standIns := [], harness := (true, "283dbda80b8269c12d1065eacb1f056d1fb86ddc5a5de0f27b3f4eb17d30cc9b"), looks := false }, kinds := [], alts := [], laidByText := true, laidKinds := [.data], laidTests := true, laidLooks := .later }
def ConfigRightUptoCardSaid : Prop := Claim7.holds Tryd.pinned (.plain (OpenSpec.upto configRightSpec)) configRightUptoCard

/-- THE SECOND FORM's CARD OF 'ostinatolaw07.ConfigOrders'. -/
def configOrdersUptoCard : Claim7 := { stood := { row := configOrdersUptoRow, standIns := [], harness := (true, "283dbda80b8269c12d1065eacb1f056d1fb86ddc5a5de0f27b3f4eb17d30cc9b"), looks := false }, kinds := [], alts := [], laidByText := true, laidKinds := [.data], laidTests := true, laidLooks := .later }
def ConfigOrdersUptoCardSaid : Prop := Claim7.holds Tryd.pinned (.plain (OpenSpec.upto configOrdersSpec)) configOrdersUptoCard
end Rows
end Go.Proofs.YtgjnflhpmbjffaaDoor
