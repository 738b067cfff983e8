/-
  DERIVED. GIVEN WITH THE SEED: THE CARDS: each row of YtnebfniekeknaaaDoorRows.lean that lists a variable, with what it lists TIED to the program's text (the seventh form; the later family's looks); each row that meets fmt, with fmt's text TOLD by the authors' own Lean function (tested against real Go, not proved from fmt's source: count such statements apart). THE CARD IS WHAT COUNTS. Prove the row's statement (the work); the ties are given (YtnebfniekeknaaaDoorTie.lean); close each card by the builder's one call (the guide's Derived/Test/ToyasCard.lean, 'card_holds'). Laid BY PROGRAM, IN A SANDBOX (cutbox-door.mjs). By AI agents, Wed Nov 11 2026. No macro, syntax, notation, axiom, sorry.
-/
import Derived.Test.YtnebfniekeknaaaDoorRows
import GoSem.ClaimSeven
namespace Go.Proofs.YtnebfniekeknaaaDoor
namespace Rows

/-- THE TIED CARD OF 'ostinatolaw06.MovesReach'. -/
def movesReachCard : Claim7 := { stood := { row := movesReachRow, standIns := [], harness := (true, "bdbef3cf814306306832d1fffc96362a48230bc4f21e978a68f3a5140abb47be"), looks := false }, kinds := [], alts := [], laidByText := true, laidKinds := [.data], laidTests := true, laidLooks := .later }
def MovesReachCardSaid : Prop := Claim7.holds Tryd.pinned (.plain (OpenSpec.ofChange movesReachSpec)) movesReachCard

/-- THE TIED CARD OF 'ostinatolaw06.MovesEnds'. -/
def movesEndsCard : Claim7 := { stood := { row := movesEndsRow, standIns := [], harness := (true, "bdbef3cf814306306832d1fffc96362a48230bc4f21e978a68f3a5140abb47be"), looks := false }, kinds := [], alts := [], laidByText := true, laidKinds := [.data], laidTests := true, laidLooks := .later }
def MovesEndsCardSaid : Prop := Claim7.holds Tryd.pinned (.plain (OpenSpec.ofChange movesEndsSpec)) movesEndsCard

/-- THE TIED CARD OF 'ostinatolaw06.MovesAll'. -/
def movesAllCard : Claim7 := { stood := { row := movesAllRow, standIns := [], harness := (true, "bdbef3cf814306306832d1fffc96362a48230bc4f21e978a68f3a5140abb47be"), looks := false }, kinds := [], alts := [], laidByText := true, laidKinds := [.data], laidTests := true, laidLooks := .later }
def MovesAllCardSaid : Prop := Claim7.holds Tryd.pinned (.plain (OpenSpec.ofChange movesAllSpec)) movesAllCard

/-- THE TIED CARD OF 'ostinatolaw06.MovesKeep'. -/
def movesKeepCard : Claim7 := { stood := { row := movesKeepRow, standIns := [], harness := (true, "bdbef3cf814306306832d1fffc96362a48230bc4f21e978a68f3a5140abb47be"), looks := false }, kinds := [], alts := [], laidByText := true, laidKinds := [.data], laidTests := true, laidLooks := .later }
def MovesKeepCardSaid : Prop := Claim7.holds Tryd.pinned (.plain (OpenSpec.ofChange movesKeepSpec)) movesKeepCard

/-- THE TIED CARD OF 'ostinatolaw06.MovesPlain'. -/
def movesPlainCard : Claim7 := { stood := { row := movesPlainRow, standIns := [], harness := (true, "bdbef3cf814306306832d1fffc96362a48230bc4f21e978a68f3a5140abb47be"), looks := false }, kinds := [], alts := [], laidByText := true, laidKinds := [.data], laidTests := true, laidLooks := .later }
def MovesPlainCardSaid : Prop := Claim7.holds Tryd.pinned (.plain (OpenSpec.ofChange movesPlainSpec)) movesPlainCard

/-- THE TIED CARD OF 'ostinatolaw07.ConfigRight'. -/
def configRightCard : Claim7 := { stood := { row := configRightRow, standIns := [], harness := (true, "bdbef3cf814306306832d1fffc96362a48230bc4f21e978a68f3a5140abb47be"), looks := false }, kinds := [], alts := [], laidByText := true, laidKinds := [.data], laidTests := true, laidLooks := .later }
def ConfigRightCardSaid : Prop := Claim7.holds Tryd.pinned (.plain (OpenSpec.ofChange configRightSpec)) configRightCard

/-- THE TIED CARD OF 'ostinatolaw07.ConfigOrders'. -/
def configOrdersCard : Claim7 := { stood := { row := configOrdersRow, standIns := [], harness := (true, "bdbef3cf814306306832d1fffc96362a48230bc4f21e978a68f3a5140abb47be"), looks := false }, kinds := [], alts := [], laidByText := true, laidKinds := [.data], laidTests := true, laidLooks := .later }
def ConfigOrdersCardSaid : Prop := Claim7.holds Tryd.pinned (.plain (OpenSpec.ofChange configOrdersSpec)) configOrdersCard

/-- THE SECOND FORM's CARD OF 'ostinatolaw06.MovesReach'. -/
def movesReachUptoCard : Claim7 := { stood := { row := movesReachUptoRow, standIns := [], harness := (true, "bdbef3cf814306306832d1fffc96362a48230bc4f21e978a68f3a5140abb47be"), looks := false }, kinds := [], alts := [], laidByText := true, laidKinds := [.data], laidTests := true, laidLooks := .later }
def MovesReachUptoCardSaid : Prop := Claim7.holds Tryd.pinned (.plain (OpenSpec.upto movesReachSpec)) movesReachUptoCard

/-- THE SECOND FORM's CARD OF 'ostinatolaw06.MovesEnds'. -/
def movesEndsUptoCard : Claim7 := { stood := { row := movesEndsUptoRow, standIns := [], harness := (true, "bdbef3cf814306306832d1fffc96362a48230bc4f21e978a68f3a5140abb47be"), looks := false }, kinds := [], alts := [], laidByText := true, laidKinds := [.data], laidTests := true, laidLooks := .later }
def MovesEndsUptoCardSaid : Prop := Claim7.holds Tryd.pinned (.plain (OpenSpec.upto movesEndsSpec)) movesEndsUptoCard

/-- THE SECOND FORM's CARD OF 'ostinatolaw06.MovesAll'. -/
def movesAllUptoCard : Claim7 := { stood := { row := movesAllUptoRow, standIns := [], harness := (true, "bdbef3cf814306306832d1fffc96362a48230bc4f21e978a68f3a5140abb47be"), looks := false }, kinds := [], alts := [], laidByText := true, laidKinds := [.data], laidTests := true, laidLooks := .later }
def MovesAllUptoCardSaid : Prop := Claim7.holds Tryd.pinned (.plain (OpenSpec.upto movesAllSpec)) movesAllUptoCard

/-- THE SECOND FORM's CARD OF 'ostinatolaw06.MovesKeep'. -/
def movesKeepUptoCard : Claim7 := { stood := { row := movesKeepUptoRow, standIns := [], harness := (true, "bdbef3cf814306306832d1fffc96362a48230bc4f21e978a68f3a5140abb47be"), looks := false }, kinds := [], alts := [], laidByText := true, laidKinds := [.data], laidTests := true, laidLooks := .later }
def MovesKeepUptoCardSaid : Prop := Claim7.holds Tryd.pinned (.plain (OpenSpec.upto movesKeepSpec)) movesKeepUptoCard

/-- THE SECOND FORM's CARD OF 'ostinatolaw06.MovesPlain'. -/
def movesPlainUptoCard : Claim7 := { stood := { row := movesPlainUptoRow, standIns := [], harness := (true, "bdbef3cf814306306832d1fffc96362a48230bc4f21e978a68f3a5140abb47be"), looks := false }, kinds := [], alts := [], laidByText := true, laidKinds := [.data], laidTests := true, laidLooks := .later }
def MovesPlainUptoCardSaid : Prop := Claim7.holds Tryd.pinned (.plain (OpenSpec.upto movesPlainSpec)) movesPlainUptoCard

/-- THE SECOND FORM's CARD OF 'ostinatolaw07.ConfigRight'. -/
def configRightUptoCard : Claim7 := { stood := { row := configRightUptoRow, standIns := [], harness := (true, "bdbef3cf814306306832d1fffc96362a48230bc4f21e978a68f3a5140abb47be"), looks := false }, kinds := [], alts := [], laidByText := true, laidKinds := [.data], laidTests := true, laidLooks := .later }
def ConfigRightUptoCardSaid : Prop := Claim7.holds Tryd.pinned (.plain (OpenSpec.upto configRightSpec)) configRightUptoCard

/-- THE SECOND FORM's CARD OF 'ostinatolaw07.ConfigOrders'. -/
def configOrdersUptoCard : Claim7 := { stood := { row := configOrdersUptoRow, standIns := [], harness := (true, "bdbef3cf814306306832d1fffc96362a48230bc4f21e978a68f3a5140abb47be"), looks := false }, kinds := [], alts := [], laidByText := true, laidKinds := [.data], laidTests := true, laidLooks := .later }
def ConfigOrdersUptoCardSaid : Prop := Claim7.holds Tryd.pinned (.plain (OpenSpec.upto configOrdersSpec)) configOrdersUptoCard
end Rows
end Go.Proofs.YtnebfniekeknaaaDoor
