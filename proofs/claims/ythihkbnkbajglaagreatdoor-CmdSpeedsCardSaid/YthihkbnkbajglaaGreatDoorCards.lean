/-
  DERIVED. GIVEN WITH THE SEED: THE CARDS: each row of YthihkbnkbajglaaGreatDoorRows.lean that lists a variable, with what it lists TIED to the program's text (the seventh form; the later family's looks); each row that meets fmt, with fmt's text TOLD by the authors' own Lean function (tested against real Go, not proved from fmt's source: count such statements apart). THE CARD IS WHAT COUNTS. Prove the row's statement (the work); the ties are given (YthihkbnkbajglaaGreatDoorTie.lean); close each card by the builder's one call (the guide's Derived/Test/ToyasCard.lean, 'card_holds'). Laid BY PROGRAM, IN A SANDBOX (cutbox-door.mjs). By AI agents, Wed Nov 11 2026. No macro, syntax, notation, axiom, sorry.
-/
import Derived.Test.YthihkbnkbajglaaGreatDoorRows
import GoSem.ClaimSeven
namespace Go.Proofs.YthihkbnkbajglaaGreatDoor
namespace Rows

/-- THE TIED CARD OF 'tiklaw24.CmdDoes'. -/
def cmdDoesCard : Claim7 := { stood := { row := cmdDoesRow, standIns := [], harness := (true, "18c87feca0015ce93e81afb9ef5a2d6b3dd91a6b40c87a9c932af459eac537dd"), looks := true }, kinds := [], alts := [], laidByText := true, laidKinds := [.data, .data, .data, .sentinel, .sentinel], laidTests := true, laidLooks := .later }
def CmdDoesCardSaid : Prop := Claim7.holds Tryz.pinned (.plain (OpenSpec.ofChange cmdDoesSpec)) cmdDoesCard

/-- THE TIED CARD OF 'tiklaw24.CmdSpeeds'. -/
def cmdSpeedsCard : Claim7 := { stood := { row := cmdSpeedsRow, standIns := [], harness := (true, "18c87feca0015ce93e81afb9ef5a2d6b3dd91a6b40c87a9c932af459eac537dd"), looks := true }, kinds := [], alts := [], laidByText := true, laidKinds := [.data, .data, .data, .sentinel, .sentinel], laidTests := true, laidLooks := .later }
def CmdSpeedsCardSaid : Prop := Claim7.holds Tryz.pinned (.plain (OpenSpec.ofChange cmdSpeedsSpec)) cmdSpeedsCard

/-- THE TIED CARD OF 'tiklaw24.CmdOnce'. -/
def cmdOnceCard : Claim7 := { stood := { row := cmdOnceRow, standIns := [], harness := (true, "18c87feca0015ce93e81afb9ef5a2d6b3dd91a6b40c87a9c932af459eac537dd"), looks := true }, kinds := [], alts := [], laidByText := true, laidKinds := [.data, .data, .data, .sentinel, .sentinel], laidTests := true, laidLooks := .later }
def CmdOnceCardSaid : Prop := Claim7.holds Tryz.pinned (.plain (OpenSpec.ofChange cmdOnceSpec)) cmdOnceCard

/-- THE SECOND FORM's CARD OF 'tiklaw24.CmdDoes'. -/
def cmdDoesUptoCard : Claim7 := { stood := { row := cmdDoesUptoRow, standIns := [], harness := (true, "18c87feca0015ce93e81afb9ef5a2d6b3dd91a6b40c87a9c932af459eac537dd"), looks := true }, kinds := [], alts := [], laidByText := true, laidKinds := [.data, .data, .data, .sentinel, .sentinel], laidTests := true, laidLooks := .later }
def CmdDoesUptoCardSaid : Prop := Claim7.holds Tryz.pinned (.plain (OpenSpec.upto cmdDoesSpec)) cmdDoesUptoCard

/-- THE SECOND FORM's CARD OF 'tiklaw24.CmdSpeeds'. -/
def cmdSpeedsUptoCard : Claim7 := { stood := { row := cmdSpeedsUptoRow, standIns := [], harness := (true, "18c87feca0015ce93e81afb9ef5a2d6b3dd91a6b40c87a9c932af459eac537dd"), looks := true }, kinds := [], alts := [], laidByText := true, laidKinds := [.data, .data, .data, .sentinel, .sentinel], laidTests := true, laidLooks := .later }
def CmdSpeedsUptoCardSaid : Prop := Claim7.holds Tryz.pinned (.plain (OpenSpec.upto cmdSpeedsSpec)) cmdSpeedsUptoCard

/-- THE SECOND FORM's CARD OF 'tiklaw24.CmdOnce'. -/
def cmdOnceUptoCard : Claim7 := { stood := { row := cmdOnceUptoRow, standIns := [], harness := (true, "18c87feca0015ce93e81afb9ef5a2d6b3dd91a6b40c87a9c932af459eac537dd"), looks := true }, kinds := [], alts := [], laidByText := true, laidKinds := [.data, .data, .data, .sentinel, .sentinel], laidTests := true, laidLooks := .later }
def CmdOnceUptoCardSaid : Prop := Claim7.holds Tryz.pinned (.plain (OpenSpec.upto cmdOnceSpec)) cmdOnceUptoCard
end Rows
end Go.Proofs.YthihkbnkbajglaaGreatDoor
