/-
  DERIVED. GIVEN WITH THE SEED: THE CARDS: each row of YtabgelmmjpjejaaDoorRows.lean that lists a variable, with what it lists TIED to the program's text (the seventh form; the later family's looks); each row that meets fmt, with fmt's text TOLD by the authors' own Lean function (tested against real Go, not proved from fmt's source: count such statements apart). THE CARD IS WHAT COUNTS. Prove the row's statement (the work); the ties are given (YtabgelmmjpjejaaDoorTie.lean); close each card by the builder's one call (the guide's Derived/Test/ToyasCard.lean, 'card_holds'). Laid BY PROGRAM, IN A SANDBOX (cutbox-door.mjs). By AI agents, Wed Nov 11 2026. No macro, syntax, notation, axiom, sorry.
-/
import Derived.Test.YtabgelmmjpjejaaDoorRows
import GoSem.ClaimSeven
namespace Go.Proofs.YtabgelmmjpjejaaDoor
namespace Rows

/-- THE TIED CARD OF 'tiklaw15.RecTells'. -/
def recTellsCard : Claim7 := { stood := { row := recTellsRow, standIns := [], harness := (true, "f2ffc3f236a0c8a2e3d5fc43d833d45db2a06451149656777ea5f282fec162da"), looks := true }, kinds := [], alts := [], laidByText := true, laidKinds := [.data], laidTests := true, laidLooks := .later }
def RecTellsCardSaid : Prop := Claim7.holds Tryd.pinned (.plain (OpenSpec.ofChange recTellsSpec)) recTellsCard

/-- THE TIED CARD OF 'tiklaw15.RecBack'. -/
def recBackCard : Claim7 := { stood := { row := recBackRow, standIns := [], harness := (true, "f2ffc3f236a0c8a2e3d5fc43d833d45db2a06451149656777ea5f282fec162da"), looks := true }, kinds := [], alts := [], laidByText := true, laidKinds := [.data], laidTests := true, laidLooks := .later }
def RecBackCardSaid : Prop := Claim7.holds Tryd.pinned (.plain (OpenSpec.ofChange recBackSpec)) recBackCard

/-- THE TIED CARD OF 'tiklaw15.RecApart'. -/
def recApartCard : Claim7 := { stood := { row := recApartRow, standIns := [], harness := (true, "f2ffc3f236a0c8a2e3d5fc43d833d45db2a06451149656777ea5f282fec162da"), looks := true }, kinds := [], alts := [], laidByText := true, laidKinds := [.data], laidTests := true, laidLooks := .later }
def RecApartCardSaid : Prop := Claim7.holds Tryd.pinned (.plain (OpenSpec.ofChange recApartSpec)) recApartCard

/-- THE TIED CARD OF 'tiklaw16.SegTells'. -/
def segTellsCard : Claim7 := { stood := { row := segTellsRow, standIns := [], harness := (true, "f2ffc3f236a0c8a2e3d5fc43d833d45db2a06451149656777ea5f282fec162da"), looks := true }, kinds := [], alts := [], laidByText := true, laidKinds := [.data, .data, .data, .data, .sentinel, .sentinel], laidTests := true, laidLooks := .later }
def SegTellsCardSaid : Prop := Claim7.holds Tryd.pinned (.plain (OpenSpec.ofChange segTellsSpec)) segTellsCard

/-- THE TIED CARD OF 'tiklaw16.SegBack'. -/
def segBackCard : Claim7 := { stood := { row := segBackRow, standIns := [], harness := (true, "f2ffc3f236a0c8a2e3d5fc43d833d45db2a06451149656777ea5f282fec162da"), looks := true }, kinds := [], alts := [], laidByText := true, laidKinds := [.data, .data, .data, .data, .sentinel, .sentinel], laidTests := true, laidLooks := .later }
def SegBackCardSaid : Prop := Claim7.holds Tryd.pinned (.plain (OpenSpec.ofChange segBackSpec)) segBackCard

/-- THE TIED CARD OF 'tiklaw16.SegStops'. -/
def segStopsCard : Claim7 := { stood := { row := segStopsRow, standIns := [], harness := (true, "f2ffc3f236a0c8a2e3d5fc43d833d45db2a06451149656777ea5f282fec162da"), looks := true }, kinds := [], alts := [], laidByText := true, laidKinds := [.data, .data, .data, .data, .sentinel, .sentinel], laidTests := true, laidLooks := .later }
def SegStopsCardSaid : Prop := Claim7.holds Tryd.pinned (.plain (OpenSpec.ofChange segStopsSpec)) segStopsCard

/-- THE TIED CARD OF 'tiklaw16.SegNames'. -/
def segNamesCard : Claim7 := { stood := { row := segNamesRow, standIns := [], harness := (true, "f2ffc3f236a0c8a2e3d5fc43d833d45db2a06451149656777ea5f282fec162da"), looks := true }, kinds := [], alts := [], laidByText := true, laidKinds := [.data, .data, .data, .data, .sentinel, .sentinel], laidTests := true, laidLooks := .later }
def SegNamesCardSaid : Prop := Claim7.holds Tryd.pinned (.plain (OpenSpec.ofChange segNamesSpec)) segNamesCard

/-- THE SECOND FORM's CARD OF 'tiklaw15.RecTells'. -/
def recTellsUptoCard : Claim7 := { stood := { row := recTellsUptoRow, standIns := [], harness := (true, "f2ffc3f236a0c8a2e3d5fc43d833d45db2a06451149656777ea5f282fec162da"), looks := true }, kinds := [], alts := [], laidByText := true, laidKinds := [.data], laidTests := true, laidLooks := .later }
def RecTellsUptoCardSaid : Prop := Claim7.holds Tryd.pinned (.plain (OpenSpec.upto recTellsSpec)) recTellsUptoCard

/-- THE SECOND FORM's CARD OF 'tiklaw15.RecBack'. -/
def recBackUptoCard : Claim7 := { stood := { row := recBackUptoRow, standIns := [], harness := (true, "f2ffc3f236a0c8a2e3d5fc43d833d45db2a06451149656777ea5f282fec162da"), looks := true }, kinds := [], alts := [], laidByText := true, laidKinds := [.data], laidTests := true, laidLooks := .later }
def RecBackUptoCardSaid : Prop := Claim7.holds Tryd.pinned (.plain (OpenSpec.upto recBackSpec)) recBackUptoCard

/-- THE SECOND FORM's CARD OF 'tiklaw15.RecApart'. -/
def recApartUptoCard : Claim7 := { stood := { row := recApartUptoRow, standIns := [], harness := (true, "f2ffc3f236a0c8a2e3d5fc43d833d45db2a06451149656777ea5f282fec162da"), looks := true }, kinds := [], alts := [], laidByText := true, laidKinds := [.data], laidTests := true, laidLooks := .later }
def RecApartUptoCardSaid : Prop := Claim7.holds Tryd.pinned (.plain (OpenSpec.upto recApartSpec)) recApartUptoCard

/-- THE SECOND FORM's CARD OF 'tiklaw16.SegTells'. -/
def segTellsUptoCard : Claim7 := { stood := { row := segTellsUptoRow, standIns := [], harness := (true, "f2ffc3f236a0c8a2e3d5fc43d833d45db2a06451149656777ea5f282fec162da"), looks := true }, kinds := [], alts := [], laidByText := true, laidKinds := [.data, .data, .data, .data, .sentinel, .sentinel], laidTests := true, laidLooks := .later }
def SegTellsUptoCardSaid : Prop := Claim7.holds Tryd.pinned (.plain (OpenSpec.upto segTellsSpec)) segTellsUptoCard

/-- THE SECOND FORM's CARD OF 'tiklaw16.SegBack'. -/
def segBackUptoCard : Claim7 := { stood := { row := segBackUptoRow, standIns := [], harness := (true, "f2ffc3f236a0c8a2e3d5fc43d833d45db2a06451149656777ea5f282fec162da"), looks := true }, kinds := [], alts := [], laidByText := true, laidKinds := [.data, .data, .data, .data, .sentinel, .sentinel], laidTests := true, laidLooks := .later }
def SegBackUptoCardSaid : Prop := Claim7.holds Tryd.pinned (.plain (OpenSpec.upto segBackSpec)) segBackUptoCard

/-- THE SECOND FORM's CARD OF 'tiklaw16.SegStops'. -/
def segStopsUptoCard : Claim7 := { stood := { row := segStopsUptoRow, standIns := [], harness := (true, "f2ffc3f236a0c8a2e3d5fc43d833d45db2a06451149656777ea5f282fec162da"), looks := true }, kinds := [], alts := [], laidByText := true, laidKinds := [.data, .data, .data, .data, .sentinel, .sentinel], laidTests := true, laidLooks := .later }
def SegStopsUptoCardSaid : Prop := Claim7.holds Tryd.pinned (.plain (OpenSpec.upto segStopsSpec)) segStopsUptoCard

/-- THE SECOND FORM's CARD OF 'tiklaw16.SegNames'. -/
def segNamesUptoCard : Claim7 := { stood := { row := segNamesUptoRow, standIns := [], harness := (true, "f2ffc3f236a0c8a2e3d5fc43d833d45db2a06451149656777ea5f282fec162da"), looks := true }, kinds := [], alts := [], laidByText := true, laidKinds := [.data, .data, .data, .data, .sentinel, .sentinel], laidTests := true, laidLooks := .later }
def SegNamesUptoCardSaid : Prop := Claim7.holds Tryd.pinned (.plain (OpenSpec.upto segNamesSpec)) segNamesUptoCard
end Rows
end Go.Proofs.YtabgelmmjpjejaaDoor
