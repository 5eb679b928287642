/-
  DERIVED. GIVEN WITH THE SEED: THE CARDS: each row of YtkogmjbiedpbnaaDoorRows.lean that lists a variable, with what it lists TIED to the program's text (the seventh form; the later family's looks); each row that meets fmt, with fmt's text TOLD by the authors' own Lean function (tested against real Go, not proved from fmt's source: count such statements apart). THE CARD IS WHAT COUNTS. Prove the row's statement (the work); the ties are given (YtkogmjbiedpbnaaDoorTie.lean); close each card by the builder's one call (the guide's Derived/Test/ToyasCard.lean, 'card_holds'). Laid BY PROGRAM, IN A SANDBOX (cutbox-door.mjs). By AI agents, Wed Nov 11 2026. No macro, syntax, notation, axiom, sorry.
-/
import Derived.Test.YtkogmjbiedpbnaaDoorRows
import GoSem.ClaimSeven
namespace Go.Proofs.YtkogmjbiedpbnaaDoor
namespace Rows

/-- THE TIED CARD OF 'tiklaw23.DeckPlays'. -/
def deckPlaysCard : Claim7 := { stood := { row := deckPlaysRow, standIns := [], harness := (true, "aa912eac6dca2ea4c51af20cccd596ced8a0bb48697d508d16dcb92428b0a439"), looks := false }, kinds := [], alts := [], laidByText := true, laidKinds := [.data], laidTests := true, laidLooks := .later }
def DeckPlaysCardSaid : Prop := Claim7.holds Tryd.pinned (.plain (OpenSpec.ofChange deckPlaysSpec)) deckPlaysCard

/-- THE TIED CARD OF 'tiklaw23.DeckForward'. -/
def deckForwardCard : Claim7 := { stood := { row := deckForwardRow, standIns := [], harness := (true, "aa912eac6dca2ea4c51af20cccd596ced8a0bb48697d508d16dcb92428b0a439"), looks := false }, kinds := [], alts := [], laidByText := true, laidKinds := [.data], laidTests := true, laidLooks := .later }
def DeckForwardCardSaid : Prop := Claim7.holds Tryd.pinned (.plain (OpenSpec.ofChange deckForwardSpec)) deckForwardCard

/-- THE TIED CARD OF 'tiklaw23.DeckStands'. -/
def deckStandsCard : Claim7 := { stood := { row := deckStandsRow, standIns := [], harness := (true, "aa912eac6dca2ea4c51af20cccd596ced8a0bb48697d508d16dcb92428b0a439"), looks := false }, kinds := [], alts := [], laidByText := true, laidKinds := [.data], laidTests := true, laidLooks := .later }
def DeckStandsCardSaid : Prop := Claim7.holds Tryd.pinned (.plain (OpenSpec.ofChange deckStandsSpec)) deckStandsCard

/-- THE TIED CARD OF 'tiklaw23.DeckRates'. -/
def deckRatesCard : Claim7 := { stood := { row := deckRatesRow, standIns := [], harness := (true, "aa912eac6dca2ea4c51af20cccd596ced8a0bb48697d508d16dcb92428b0a439"), looks := false }, kinds := [], alts := [], laidByText := true, laidKinds := [.data], laidTests := true, laidLooks := .later }
def DeckRatesCardSaid : Prop := Claim7.holds Tryd.pinned (.plain (OpenSpec.ofChange deckRatesSpec)) deckRatesCard

/-- THE TIED CARD OF 'tiklaw23.DeckAir'. -/
def deckAirCard : Claim7 := { stood := { row := deckAirRow, standIns := [], harness := (true, "aa912eac6dca2ea4c51af20cccd596ced8a0bb48697d508d16dcb92428b0a439"), looks := false }, kinds := [], alts := [], laidByText := true, laidKinds := [.data], laidTests := true, laidLooks := .later }
def DeckAirCardSaid : Prop := Claim7.holds Tryd.pinned (.plain (OpenSpec.ofChange deckAirSpec)) deckAirCard

/-- THE SECOND FORM's CARD OF 'tiklaw23.DeckPlays'. -/
def deckPlaysUptoCard : Claim7 := { stood := { row := deckPlaysUptoRow, standIns := [], harness := (true, "aa912eac6dca2ea4c51af20cccd596ced8a0bb48697d508d16dcb92428b0a439"), looks := false }, kinds := [], alts := [], laidByText := true, laidKinds := [.data], laidTests := true, laidLooks := .later }
def DeckPlaysUptoCardSaid : Prop := Claim7.holds Tryd.pinned (.plain (OpenSpec.upto deckPlaysSpec)) deckPlaysUptoCard

/-- THE SECOND FORM's CARD OF 'tiklaw23.DeckForward'. -/
def deckForwardUptoCard : Claim7 := { stood := { row := deckForwardUptoRow, standIns := [], harness := (true, "aa912eac6dca2ea4c51af20cccd596ced8a0bb48697d508d16dcb92428b0a439"), looks := false }, kinds := [], alts := [], laidByText := true, laidKinds := [.data], laidTests := true, laidLooks := .later }
def DeckForwardUptoCardSaid : Prop := Claim7.holds Tryd.pinned (.plain (OpenSpec.upto deckForwardSpec)) deckForwardUptoCard

/-- THE SECOND FORM's CARD OF 'tiklaw23.DeckStands'. -/
def deckStandsUptoCard : Claim7 := { stood := { row := deckStandsUptoRow, standIns := [], harness := (true, "aa912eac6dca2ea4c51af20cccd596ced8a0bb48697d508d16dcb92428b0a439"), looks := false }, kinds := [], alts := [], laidByText := true, laidKinds := [.data], laidTests := true, laidLooks := .later }
def DeckStandsUptoCardSaid : Prop := Claim7.holds Tryd.pinned (.plain (OpenSpec.upto deckStandsSpec)) deckStandsUptoCard

/-- THE SECOND FORM's CARD OF 'tiklaw23.DeckRates'. -/
def deckRatesUptoCard : Claim7 := { stood := { row := deckRatesUptoRow, standIns := [], harness := (true, "aa912eac6dca2ea4c51af20cccd596ced8a0bb48697d508d16dcb92428b0a439"), looks := false }, kinds := [], alts := [], laidByText := true, laidKinds := [.data], laidTests := true, laidLooks := .later }
def DeckRatesUptoCardSaid : Prop := Claim7.holds Tryd.pinned (.plain (OpenSpec.upto deckRatesSpec)) deckRatesUptoCard

/-- THE SECOND FORM's CARD OF 'tiklaw23.DeckAir'. -/
def deckAirUptoCard : Claim7 := { stood := { row := deckAirUptoRow, standIns := [], harness := (true, "aa912eac6dca2ea4c51af20cccd596ced8a0bb48697d508d16dcb92428b0a439"), looks := false }, kinds := [], alts := [], laidByText := true, laidKinds := [.data], laidTests := true, laidLooks := .later }
def DeckAirUptoCardSaid : Prop := Claim7.holds Tryd.pinned (.plain (OpenSpec.upto deckAirSpec)) deckAirUptoCard
end Rows
end Go.Proofs.YtkogmjbiedpbnaaDoor
