/-
  DERIVED. GIVEN WITH THE SEED: THE CARDS: each row of YtjfeejoplchmpaaDoorRows.lean that lists a variable, with what it lists TIED to the program's text (the seventh form; the later family's looks); each row that meets fmt, with fmt's text TOLD by the authors' own Lean function (tested against real Go, not proved from fmt's source: count such statements apart). THE CARD IS WHAT COUNTS. Prove the row's statement (the work); the ties are given (YtjfeejoplchmpaaDoorTie.lean); close each card by the builder's one call (the guide's Derived/Test/ToyasCard.lean, 'card_holds'). Laid BY PROGRAM, IN A SANDBOX (cutbox-door.mjs). By AI agents, Wed Nov 11 2026. No macro, syntax, notation, axiom, sorry.
-/
import Derived.Test.YtjfeejoplchmpaaDoorRows
import GoSem.ClaimSeven
namespace Go.Proofs.YtjfeejoplchmpaaDoor
namespace Rows

/-- THE TIED CARD OF 'tiklaw11.ScreenOwn'. -/
def screenOwnCard : Claim7 := { stood := { row := screenOwnRow, standIns := [], harness := (true, "c73867e65366b6d23300d376520475f7d1702e971cc54670cc620db597ef88df"), looks := false }, kinds := [], alts := [], laidByText := true, laidKinds := [.data, .pinned], laidTests := true, laidLooks := .later }
def ScreenOwnCardSaid : Prop := Claim7.holds Tryd.pinned (.plain (OpenSpec.ofChange screenOwnSpec)) screenOwnCard

/-- THE TIED CARD OF 'tiklaw11.ScreenText'. -/
def screenTextCard : Claim7 := { stood := { row := screenTextRow, standIns := [], harness := (true, "c73867e65366b6d23300d376520475f7d1702e971cc54670cc620db597ef88df"), looks := false }, kinds := [], alts := [], laidByText := true, laidKinds := [.data, .pinned], laidTests := true, laidLooks := .later }
def ScreenTextCardSaid : Prop := Claim7.holds Tryd.pinned (.plain (OpenSpec.ofChange screenTextSpec)) screenTextCard

/-- THE TIED CARD OF 'tiklaw11.ScreenMay'. -/
def screenMayCard : Claim7 := { stood := { row := screenMayRow, standIns := [], harness := (true, "c73867e65366b6d23300d376520475f7d1702e971cc54670cc620db597ef88df"), looks := false }, kinds := [], alts := [], laidByText := true, laidKinds := [.data, .pinned], laidTests := true, laidLooks := .later }
def ScreenMayCardSaid : Prop := Claim7.holds Tryd.pinned (.plain (OpenSpec.ofChange screenMaySpec)) screenMayCard

/-- THE SECOND FORM's CARD OF 'tiklaw11.ScreenOwn'. -/
def screenOwnUptoCard : Claim7 := { stood := { row := screenOwnUptoRow, standIns := [], harness := (true, "c73867e65366b6d23300d376520475f7d1702e971cc54670cc620db597ef88df"), looks := false }, kinds := [], alts := [], laidByText := true, laidKinds := [.data, .pinned], laidTests := true, laidLooks := .later }
def ScreenOwnUptoCardSaid : Prop := Claim7.holds Tryd.pinned (.plain (OpenSpec.upto screenOwnSpec)) screenOwnUptoCard

/-- THE SECOND FORM's CARD OF 'tiklaw11.ScreenText'. -/
def screenTextUptoCard : Claim7 := { stood := { row := screenTextUptoRow, standIns := [], harness := (true, "c73867e65366b6d23300d376520475f7d1702e971cc54670cc620db597ef88df"), looks := false }, kinds := [], alts := [], laidByText := true, laidKinds := [.data, .pinned], laidTests := true, laidLooks := .later }
def ScreenTextUptoCardSaid : Prop := Claim7.holds Tryd.pinned (.plain (OpenSpec.upto screenTextSpec)) screenTextUptoCard

/-- THE SECOND FORM's CARD OF 'tiklaw11.ScreenMay'. -/
def screenMayUptoCard : Claim7 := { stood := { row := screenMayUptoRow, standIns := [], harness := (true, "c73867e65366b6d23300d376520475f7d1702e971cc54670cc620db597ef88df"), looks := false }, kinds := [], alts := [], laidByText := true, laidKinds := [.data, .pinned], laidTests := true, laidLooks := .later }
def ScreenMayUptoCardSaid : Prop := Claim7.holds Tryd.pinned (.plain (OpenSpec.upto screenMaySpec)) screenMayUptoCard
end Rows
end Go.Proofs.YtjfeejoplchmpaaDoor
