/-
  DERIVED. GIVEN WITH THE SEED: THE CARDS: each row of YtdjddmkmcdfmiaaDoorRows.lean that lists a variable, with what it lists TIED to the program's text (the seventh form; the later family's looks); each row that meets fmt, with fmt's text TOLD by the authors' own Lean function (tested against real Go, not proved from fmt's source: count such statements apart). THE CARD IS WHAT COUNTS. Prove the row's statement (the work); the ties are given (YtdjddmkmcdfmiaaDoorTie.lean); close each card by the builder's one call (the guide's Derived/Test/ToyasCard.lean, 'card_holds'). Laid BY PROGRAM, IN A SANDBOX (cutbox-door.mjs). By AI agents, Wed Nov 11 2026. No macro, syntax, notation, axiom, sorry.
-/
import Derived.Test.YtdjddmkmcdfmiaaDoorRows
import GoSem.ClaimSeven
namespace Go.Proofs.YtdjddmkmcdfmiaaDoor
namespace Rows

/-- THE TIED CARD OF 'ostinatolaw11.SpanCuts'. -/
def spanCutsCard : Claim7 := { stood := { row := spanCutsRow, standIns := [], harness := (true, "62cdd6e5ad195d9a05166ed8e3d0dbaa8e2c775f4b237ecc18529d37710a9610"), looks := false }, kinds := [], alts := [], laidByText := true, laidKinds := [.data], laidTests := true, laidLooks := .later }
def SpanCutsCardSaid : Prop := Claim7.holds Tryd.pinned (.plain (OpenSpec.ofChange spanCutsSpec)) spanCutsCard

/-- THE TIED CARD OF 'ostinatolaw11.SpanEither'. -/
def spanEitherCard : Claim7 := { stood := { row := spanEitherRow, standIns := [], harness := (true, "62cdd6e5ad195d9a05166ed8e3d0dbaa8e2c775f4b237ecc18529d37710a9610"), looks := false }, kinds := [], alts := [], laidByText := true, laidKinds := [.data], laidTests := true, laidLooks := .later }
def SpanEitherCardSaid : Prop := Claim7.holds Tryd.pinned (.plain (OpenSpec.ofChange spanEitherSpec)) spanEitherCard

/-- THE TIED CARD OF 'ostinatolaw11.SpanTimes'. -/
def spanTimesCard : Claim7 := { stood := { row := spanTimesRow, standIns := [], harness := (true, "62cdd6e5ad195d9a05166ed8e3d0dbaa8e2c775f4b237ecc18529d37710a9610"), looks := false }, kinds := [], alts := [], laidByText := true, laidKinds := [.data], laidTests := true, laidLooks := .later }
def SpanTimesCardSaid : Prop := Claim7.holds Tryd.pinned (.plain (OpenSpec.ofChange spanTimesSpec)) spanTimesCard

/-- THE TIED CARD OF 'ostinatolaw11.SpanMore'. -/
def spanMoreCard : Claim7 := { stood := { row := spanMoreRow, standIns := [], harness := (true, "62cdd6e5ad195d9a05166ed8e3d0dbaa8e2c775f4b237ecc18529d37710a9610"), looks := false }, kinds := [], alts := [], laidByText := true, laidKinds := [.data], laidTests := true, laidLooks := .later }
def SpanMoreCardSaid : Prop := Claim7.holds Tryd.pinned (.plain (OpenSpec.ofChange spanMoreSpec)) spanMoreCard

/-- THE TIED CARD OF 'ostinatolaw11.SpanSimple'. -/
def spanSimpleCard : Claim7 := { stood := { row := spanSimpleRow, standIns := [], harness := (true, "62cdd6e5ad195d9a05166ed8e3d0dbaa8e2c775f4b237ecc18529d37710a9610"), looks := false }, kinds := [], alts := [], laidByText := true, laidKinds := [.data], laidTests := true, laidLooks := .later }
def SpanSimpleCardSaid : Prop := Claim7.holds Tryd.pinned (.plain (OpenSpec.ofChange spanSimpleSpec)) spanSimpleCard

/-- THE TIED CARD OF 'ostinatolaw11.SpanLong'. -/
def spanLongCard : Claim7 := { stood := { row := spanLongRow, standIns := [], harness := (true, "62cdd6e5ad195d9a05166ed8e3d0dbaa8e2c775f4b237ecc18529d37710a9610"), looks := false }, kinds := [], alts := [], laidByText := true, laidKinds := [.data], laidTests := true, laidLooks := .later }
def SpanLongCardSaid : Prop := Claim7.holds Tryd.pinned (.plain (OpenSpec.ofChange spanLongSpec)) spanLongCard

/-- THE SECOND FORM's CARD OF 'ostinatolaw11.SpanCuts'. -/
def spanCutsUptoCard : Claim7 := { stood := { row := spanCutsUptoRow, standIns := [], harness := (true, "62cdd6e5ad195d9a05166ed8e3d0dbaa8e2c775f4b237ecc18529d37710a9610"), looks := false }, kinds := [], alts := [], laidByText := true, laidKinds := [.data], laidTests := true, laidLooks := .later }
def SpanCutsUptoCardSaid : Prop := Claim7.holds Tryd.pinned (.plain (OpenSpec.upto spanCutsSpec)) spanCutsUptoCard

/-- THE SECOND FORM's CARD OF 'ostinatolaw11.SpanEither'. -/
def spanEitherUptoCard : Claim7 := { stood := { row := spanEitherUptoRow, standIns := [], harness := (true, "62cdd6e5ad195d9a05166ed8e3d0dbaa8e2c775f4b237ecc18529d37710a9610"), looks := false }, kinds := [], alts := [], laidByText := true, laidKinds := [.data], laidTests := true, laidLooks := .later }
def SpanEitherUptoCardSaid : Prop := Claim7.holds Tryd.pinned (.plain (OpenSpec.upto spanEitherSpec)) spanEitherUptoCard

/-- THE SECOND FORM's CARD OF 'ostinatolaw11.SpanTimes'. -/
def spanTimesUptoCard : Claim7 := { stood := { row := spanTimesUptoRow, standIns := [], harness := (true, "62cdd6e5ad195d9a05166ed8e3d0dbaa8e2c775f4b237ecc18529d37710a9610"), looks := false }, kinds := [], alts := [], laidByText := true, laidKinds := [.data], laidTests := true, laidLooks := .later }
def SpanTimesUptoCardSaid : Prop := Claim7.holds Tryd.pinned (.plain (OpenSpec.upto spanTimesSpec)) spanTimesUptoCard

/-- THE SECOND FORM's CARD OF 'ostinatolaw11.SpanMore'. -/
def spanMoreUptoCard : Claim7 := { stood := { row := spanMoreUptoRow, standIns := [], harness := (true, "62cdd6e5ad195d9a05166ed8e3d0dbaa8e2c775f4b237ecc18529d37710a9610"), looks := false }, kinds := [], alts := [], laidByText := true, laidKinds := [.data], laidTests := true, laidLooks := .later }
def SpanMoreUptoCardSaid : Prop := Claim7.holds Tryd.pinned (.plain (OpenSpec.upto spanMoreSpec)) spanMoreUptoCard

/-- THE SECOND FORM's CARD OF 'ostinatolaw11.SpanSimple'. -/
def spanSimpleUptoCard : Claim7 := { stood := { row := spanSimpleUptoRow, standIns := [], harness := (true, "62cdd6e5ad195d9a05166ed8e3d0dbaa8e2c775f4b237ecc18529d37710a9610"), looks := false }, kinds := [], alts := [], laidByText := true, laidKinds := [.data], laidTests := true, laidLooks := .later }
def SpanSimpleUptoCardSaid : Prop := Claim7.holds Tryd.pinned (.plain (OpenSpec.upto spanSimpleSpec)) spanSimpleUptoCard

/-- THE SECOND FORM's CARD OF 'ostinatolaw11.SpanLong'. -/
def spanLongUptoCard : Claim7 := { stood := { row := spanLongUptoRow, standIns := [], harness := (true, "62cdd6e5ad195d9a05166ed8e3d0dbaa8e2c775f4b237ecc18529d37710a9610"), looks := false }, kinds := [], alts := [], laidByText := true, laidKinds := [.data], laidTests := true, laidLooks := .later }
def SpanLongUptoCardSaid : Prop := Claim7.holds Tryd.pinned (.plain (OpenSpec.upto spanLongSpec)) spanLongUptoCard
end Rows
end Go.Proofs.YtdjddmkmcdfmiaaDoor
