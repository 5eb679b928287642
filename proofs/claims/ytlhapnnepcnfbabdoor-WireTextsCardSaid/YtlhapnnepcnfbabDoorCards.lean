/-
  DERIVED. GIVEN WITH THE SEED: THE CARDS: each row of YtlhapnnepcnfbabDoorRows.lean that lists a variable, with what it lists TIED to the program's text (the seventh form; the later family's looks); each row that meets fmt, with fmt's text TOLD by the authors' own Lean function (tested against real Go, not proved from fmt's source: count such statements apart). THE CARD IS WHAT COUNTS. Prove the row's statement (the work); the ties are given (YtlhapnnepcnfbabDoorTie.lean); close each card by the builder's one call (the guide's Derived/Test/ToyasCard.lean, 'card_holds'). Laid BY PROGRAM, IN A SANDBOX (cutbox-door.mjs). By AI agents, Wed Nov 11 2026. No macro, syntax, notation, axiom, sorry.
-/
import Derived.Test.YtlhapnnepcnfbabDoorRows
import GoSem.ClaimSeven
namespace Go.Proofs.YtlhapnnepcnfbabDoor
namespace Rows

/-- THE TIED CARD OF 'tiklaw2.WireFronts'. -/
def wireFrontsCard : Claim7 := { stood := { row := wireFrontsRow, standIns := [], harness := (true, "968442c3064c61cd86411b4107e111652e2bab04613f762873f71cc8aad044e1"), looks := true }, kinds := [], alts := [], laidByText := true, laidKinds := [.data], laidTests := true, laidLooks := .later }
def WireFrontsCardSaid : Prop := Claim7.holds Tryd.pinned (.plain (OpenSpec.ofChange wireFrontsSpec)) wireFrontsCard

/-- THE TIED CARD OF 'tiklaw2.WireTexts'. -/
def wireTextsCard : Claim7 := { stood := { row := wireTextsRow, standIns := [], harness := (true, "968442c3064c61cd86411b4107e111652e2bab04613f762873f71cc8aad044e1"), looks := true }, kinds := [], alts := [], laidByText := true, laidKinds := [.data], laidTests := true, laidLooks := .later }
def WireTextsCardSaid : Prop := Claim7.holds Tryd.pinned (.plain (OpenSpec.ofChange wireTextsSpec)) wireTextsCard

/-- THE TIED CARD OF 'tiklaw4.MacSums'. -/
def macSumsCard : Claim7 := { stood := { row := macSumsRow, standIns := [], harness := (true, "968442c3064c61cd86411b4107e111652e2bab04613f762873f71cc8aad044e1"), looks := true }, kinds := [], alts := [], laidByText := true, laidKinds := [.data, .data], laidTests := true, laidLooks := .later }
def MacSumsCardSaid : Prop := Claim7.holds Tryd.pinned (.plain (OpenSpec.ofChange macSumsSpec)) macSumsCard

/-- THE TIED CARD OF 'tiklaw4.MacCuts'. -/
def macCutsCard : Claim7 := { stood := { row := macCutsRow, standIns := [], harness := (true, "968442c3064c61cd86411b4107e111652e2bab04613f762873f71cc8aad044e1"), looks := true }, kinds := [], alts := [], laidByText := true, laidKinds := [.data, .data], laidTests := true, laidLooks := .later }
def MacCutsCardSaid : Prop := Claim7.holds Tryd.pinned (.plain (OpenSpec.ofChange macCutsSpec)) macCutsCard

/-- THE TIED CARD OF 'tiklaw4.MacLong'. -/
def macLongCard : Claim7 := { stood := { row := macLongRow, standIns := [], harness := (true, "968442c3064c61cd86411b4107e111652e2bab04613f762873f71cc8aad044e1"), looks := true }, kinds := [], alts := [], laidByText := true, laidKinds := [.data, .data], laidTests := true, laidLooks := .later }
def MacLongCardSaid : Prop := Claim7.holds Tryd.pinned (.plain (OpenSpec.ofChange macLongSpec)) macLongCard

/-- THE SECOND FORM's CARD OF 'tiklaw2.WireFronts'. -/
def wireFrontsUptoCard : Claim7 := { stood := { row := wireFrontsUptoRow, standIns := [], harness := (true, "968442c3064c61cd86411b4107e111652e2bab04613f762873f71cc8aad044e1"), looks := true }, kinds := [], alts := [], laidByText := true, laidKinds := [.data], laidTests := true, laidLooks := .later }
def WireFrontsUptoCardSaid : Prop := Claim7.holds Tryd.pinned (.plain (OpenSpec.upto wireFrontsSpec)) wireFrontsUptoCard

/-- THE SECOND FORM's CARD OF 'tiklaw2.WireTexts'. -/
def wireTextsUptoCard : Claim7 := { stood := { row := wireTextsUptoRow, standIns := [], harness := (true, "968442c3064c61cd86411b4107e111652e2bab04613f762873f71cc8aad044e1"), looks := true }, kinds := [], alts := [], laidByText := true, laidKinds := [.data], laidTests := true, laidLooks := .later }
def WireTextsUptoCardSaid : Prop := Claim7.holds Tryd.pinned (.plain (OpenSpec.upto wireTextsSpec)) wireTextsUptoCard

/-- THE SECOND FORM's CARD OF 'tiklaw4.MacSums'. -/
def macSumsUptoCard : Claim7 := { stood := { row := macSumsUptoRow, standIns := [], harness := (true, "968442c3064c61cd86411b4107e111652e2bab04613f762873f71cc8aad044e1"), looks := true }, kinds := [], alts := [], laidByText := true, laidKinds := [.data, .data], laidTests := true, laidLooks := .later }
def MacSumsUptoCardSaid : Prop := Claim7.holds Tryd.pinned (.plain (OpenSpec.upto macSumsSpec)) macSumsUptoCard

/-- THE SECOND FORM's CARD OF 'tiklaw4.MacCuts'. -/
def macCutsUptoCard : Claim7 := { stood := { row := macCutsUptoRow, standIns := [], harness := (true, "968442c3064c61cd86411b4107e111652e2bab04613f762873f71cc8aad044e1"), looks := true }, kinds := [], alts := [], laidByText := true, laidKinds := [.data, .data], laidTests := true, laidLooks := .later }
def MacCutsUptoCardSaid : Prop := Claim7.holds Tryd.pinned (.plain (OpenSpec.upto macCutsSpec)) macCutsUptoCard

/-- THE SECOND FORM's CARD OF 'tiklaw4.MacLong'. -/
def macLongUptoCard : Claim7 := { stood := { row := macLongUptoRow, standIns := [], harness := (true, "968442c3064c61cd86411b4107e111652e2bab04613f762873f71cc8aad044e1"), looks := true }, kinds := [], alts := [], laidByText := true, laidKinds := [.data, .data], laidTests := true, laidLooks := .later }
def MacLongUptoCardSaid : Prop := Claim7.holds Tryd.pinned (.plain (OpenSpec.upto macLongSpec)) macLongUptoCard
end Rows
end Go.Proofs.YtlhapnnepcnfbabDoor
