/-
  No cell of these rows narrows 'for every input' (looked for: loops, veiled, ifaces, maps, wideKeys, modest, calm, conditions, laid).
  DERIVED. THE GIVEN ROWS OF THIS SEAT. 9 by the template 'for every input the law returns true; each argument reads behind the call as it read before'; 0 by the template 'total and deterministic' (their statements: YtkpneocolbmnpaaTotals.lean).
  GIVEN WITH THE SEED: the statements are not yours to turn. If you find one false, say at which input.
  Laid BY PROGRAM, IN A SANDBOX (cutbox-rows.mjs): the forced cells as the released guide's own fill.sh prints them over the translation f937b535f96ab817… (all of the seat's roots in one cut). By AI agents, Wed Nov 11 2026. No macro, syntax, notation, axiom, sorry.
-/
import Derived.Test.YtkpneocolbmnpaaChecked
import GoSem.Claim
import GoSem.ClaimJoined
import GoSem.ClaimMapViews
import Derived.JoinedTies
import Derived.KernelRfl
namespace Go.Proofs.Ytkpneocolbmnpaa
/- THE CELL 'sum', in the pinned program and in every row, IS THE sha256 OF THE DUMP (.gsa) THAT YtkpneocolbmnpaaProg.lean LOADS. Nothing in Lean hashes anything: it is a label: what it is worth is what the hold of that sum in a sandbox is worth. -/
noncomputable def Try.pinned : Pinned := { name := "ytkpneocolbmnpaa", sum := "f937b535f96ab817100290cee252b19d2b7e0a38a1485eb6876a6361a99d9af5", checked := Try.checked }
namespace Rows
def none {H : Type} : Left H := { results := [], args := [] }

/-- 'tiklaw6.CellTells': WHATEVER THE INPUT: true; the input reads as it did. -/
def cellTellsSpec : ChangeSpec := { name := "cellTells", fn := fun _ => fun
  | [d1, d2] => { results := [.lit (.bool true)], args := [d1, d2] }
  | _ => none }
def cellTellsRow : OpenClaim := { program := "ytkpneocolbmnpaa", sum := "f937b535f96ab817100290cee252b19d2b7e0a38a1485eb6876a6361a99d9af5", func := "tickertape/tiklaw6.CellTells", spec := "cellTells", apart := false }
def CellTellsSaid : Prop := cellTellsRow.holds Try.pinned (OpenSpec.ofChange cellTellsSpec)

/-- ITS FALSE NEIGHBOUR: 'it returns false'. Refute it at one input. -/
def cellTellsWrong : ChangeSpec := { name := "cellTells", fn := fun _ => fun
  | [d1, d2] => { results := [.lit (.bool false)], args := [d1, d2] }
  | _ => none }
def CellTellsWrongFalsely : Prop := cellTellsRow.holds Try.pinned (OpenSpec.ofChange cellTellsWrong)

/-- 'tiklaw6.CellMay': WHATEVER THE INPUT: true; the input reads as it did. -/
def cellMaySpec : ChangeSpec := { name := "cellMay", fn := fun _ => fun
  | [d1, d2] => { results := [.lit (.bool true)], args := [d1, d2] }
  | _ => none }
def cellMayRow : OpenClaim := { program := "ytkpneocolbmnpaa", sum := "f937b535f96ab817100290cee252b19d2b7e0a38a1485eb6876a6361a99d9af5", func := "tickertape/tiklaw6.CellMay", spec := "cellMay", apart := false }
def CellMaySaid : Prop := cellMayRow.holds Try.pinned (OpenSpec.ofChange cellMaySpec)

/-- ITS FALSE NEIGHBOUR: 'it returns false'. Refute it at one input. -/
def cellMayWrong : ChangeSpec := { name := "cellMay", fn := fun _ => fun
  | [d1, d2] => { results := [.lit (.bool false)], args := [d1, d2] }
  | _ => none }
def CellMayWrongFalsely : Prop := cellMayRow.holds Try.pinned (OpenSpec.ofChange cellMayWrong)

/-- 'tiklaw6.CellColours': WHATEVER THE INPUT: true; the input reads as it did. -/
def cellColoursSpec : ChangeSpec := { name := "cellColours", fn := fun _ => fun
  | [d1, d2] => { results := [.lit (.bool true)], args := [d1, d2] }
  | _ => none }
def cellColoursRow : OpenClaim := { program := "ytkpneocolbmnpaa", sum := "f937b535f96ab817100290cee252b19d2b7e0a38a1485eb6876a6361a99d9af5", func := "tickertape/tiklaw6.CellColours", spec := "cellColours", apart := false }
def CellColoursSaid : Prop := cellColoursRow.holds Try.pinned (OpenSpec.ofChange cellColoursSpec)

/-- ITS FALSE NEIGHBOUR: 'it returns false'. Refute it at one input. -/
def cellColoursWrong : ChangeSpec := { name := "cellColours", fn := fun _ => fun
  | [d1, d2] => { results := [.lit (.bool false)], args := [d1, d2] }
  | _ => none }
def CellColoursWrongFalsely : Prop := cellColoursRow.holds Try.pinned (OpenSpec.ofChange cellColoursWrong)

/-- 'tiklaw9.SgrBack': WHATEVER THE INPUT: true; the input reads as it did. -/
def sgrBackSpec : ChangeSpec := { name := "sgrBack", fn := fun _ => fun
  | [d1, d2, d3] => { results := [.lit (.bool true)], args := [d1, d2, d3] }
  | _ => none }
def sgrBackRow : OpenClaim := { program := "ytkpneocolbmnpaa", sum := "f937b535f96ab817100290cee252b19d2b7e0a38a1485eb6876a6361a99d9af5", func := "tickertape/tiklaw9.SgrBack", spec := "sgrBack", apart := false }
def SgrBackSaid : Prop := sgrBackRow.holds Try.pinned (OpenSpec.ofChange sgrBackSpec)

/-- ITS FALSE NEIGHBOUR: 'it returns false'. Refute it at one input. -/
def sgrBackWrong : ChangeSpec := { name := "sgrBack", fn := fun _ => fun
  | [d1, d2, d3] => { results := [.lit (.bool false)], args := [d1, d2, d3] }
  | _ => none }
def SgrBackWrongFalsely : Prop := sgrBackRow.holds Try.pinned (OpenSpec.ofChange sgrBackWrong)

/-- 'tiklaw9.SgrApart': WHATEVER THE INPUT: true; the input reads as it did. -/
def sgrApartSpec : ChangeSpec := { name := "sgrApart", fn := fun _ => fun
  | [d1, d2] => { results := [.lit (.bool true)], args := [d1, d2] }
  | _ => none }
def sgrApartRow : OpenClaim := { program := "ytkpneocolbmnpaa", sum := "f937b535f96ab817100290cee252b19d2b7e0a38a1485eb6876a6361a99d9af5", func := "tickertape/tiklaw9.SgrApart", spec := "sgrApart", apart := false }
def SgrApartSaid : Prop := sgrApartRow.holds Try.pinned (OpenSpec.ofChange sgrApartSpec)

/-- ITS FALSE NEIGHBOUR: 'it returns false'. Refute it at one input. -/
def sgrApartWrong : ChangeSpec := { name := "sgrApart", fn := fun _ => fun
  | [d1, d2] => { results := [.lit (.bool false)], args := [d1, d2] }
  | _ => none }
def SgrApartWrongFalsely : Prop := sgrApartRow.holds Try.pinned (OpenSpec.ofChange sgrApartWrong)

/-- 'tiklaw9.SgrOrder': WHATEVER THE INPUT: true; the input reads as it did. -/
def sgrOrderSpec : ChangeSpec := { name := "sgrOrder", fn := fun _ => fun
  | [d1, d2, d3, d4] => { results := [.lit (.bool true)], args := [d1, d2, d3, d4] }
  | _ => none }
def sgrOrderRow : OpenClaim := { program := "ytkpneocolbmnpaa", sum := "f937b535f96ab817100290cee252b19d2b7e0a38a1485eb6876a6361a99d9af5", func := "tickertape/tiklaw9.SgrOrder", spec := "sgrOrder", apart := false }
def SgrOrderSaid : Prop := sgrOrderRow.holds Try.pinned (OpenSpec.ofChange sgrOrderSpec)

/-- ITS FALSE NEIGHBOUR: 'it returns false'. Refute it at one input. -/
def sgrOrderWrong : ChangeSpec := { name := "sgrOrder", fn := fun _ => fun
  | [d1, d2, d3, d4] => { results := [.lit (.bool false)], args := [d1, d2, d3, d4] }
  | _ => none }
def SgrOrderWrongFalsely : Prop := sgrOrderRow.holds Try.pinned (OpenSpec.ofChange sgrOrderWrong)

/-- 'tiklaw10.TabsPlay': WHATEVER THE INPUT: true; the input reads as it did. -/
def tabsPlaySpec : ChangeSpec := { name := "tabsPlay", fn := fun _ => fun
  | [d1, d2] => { results := [.lit (.bool true)], args := [d1, d2] }
  | _ => none }
def tabsPlayRow : OpenClaim := { program := "ytkpneocolbmnpaa", sum := "f937b535f96ab817100290cee252b19d2b7e0a38a1485eb6876a6361a99d9af5", func := "tickertape/tiklaw10.TabsPlay", spec := "tabsPlay", apart := false }
def TabsPlaySaid : Prop := tabsPlayRow.holds Try.pinned (OpenSpec.ofChange tabsPlaySpec)

/-- ITS FALSE NEIGHBOUR: 'it returns false'. Refute it at one input. -/
def tabsPlayWrong : ChangeSpec := { name := "tabsPlay", fn := fun _ => fun
  | [d1, d2] => { results := [.lit (.bool false)], args := [d1, d2] }
  | _ => none }
def TabsPlayWrongFalsely : Prop := tabsPlayRow.holds Try.pinned (OpenSpec.ofChange tabsPlayWrong)

/-- 'tiklaw10.TabsSteps': WHATEVER THE INPUT: true; the input reads as it did. -/
def tabsStepsSpec : ChangeSpec := { name := "tabsSteps", fn := fun _ => fun
  | [d1, d2, d3, d4] => { results := [.lit (.bool true)], args := [d1, d2, d3, d4] }
  | _ => none }
def tabsStepsRow : OpenClaim := { program := "ytkpneocolbmnpaa", sum := "f937b535f96ab817100290cee252b19d2b7e0a38a1485eb6876a6361a99d9af5", func := "tickertape/tiklaw10.TabsSteps", spec := "tabsSteps", apart := false }
def TabsStepsSaid : Prop := tabsStepsRow.holds Try.pinned (OpenSpec.ofChange tabsStepsSpec)

/-- ITS FALSE NEIGHBOUR: 'it returns false'. Refute it at one input. -/
def tabsStepsWrong : ChangeSpec := { name := "tabsSteps", fn := fun _ => fun
  | [d1, d2, d3, d4] => { results := [.lit (.bool false)], args := [d1, d2, d3, d4] }
  | _ => none }
def TabsStepsWrongFalsely : Prop := tabsStepsRow.holds Try.pinned (OpenSpec.ofChange tabsStepsWrong)

/-- 'tiklaw10.TabsSizes': WHATEVER THE INPUT: true; the input reads as it did. -/
def tabsSizesSpec : ChangeSpec := { name := "tabsSizes", fn := fun _ => fun
  | [d1, d2, d3] => { results := [.lit (.bool true)], args := [d1, d2, d3] }
  | _ => none }
def tabsSizesRow : OpenClaim := { program := "ytkpneocolbmnpaa", sum := "f937b535f96ab817100290cee252b19d2b7e0a38a1485eb6876a6361a99d9af5", func := "tickertape/tiklaw10.TabsSizes", spec := "tabsSizes", apart := false }
def TabsSizesSaid : Prop := tabsSizesRow.holds Try.pinned (OpenSpec.ofChange tabsSizesSpec)

/-- ITS FALSE NEIGHBOUR: 'it returns false'. Refute it at one input. -/
def tabsSizesWrong : ChangeSpec := { name := "tabsSizes", fn := fun _ => fun
  | [d1, d2, d3] => { results := [.lit (.bool false)], args := [d1, d2, d3] }
  | _ => none }
def TabsSizesWrongFalsely : Prop := tabsSizesRow.holds Try.pinned (OpenSpec.ofChange tabsSizesWrong)

/- THE SECOND FORM. 'bulk': how many values and letters a reading holds, each counted each time it is reached (what is shared counts as often as it is met; a slice's spare places count too). A statement '..UptoSaid' is the law's where the arguments, and the package variables that the reading takes, are together of bulk at most 1048576: NARROWER than '..Said'. Prove '..Said' where nothing that the law and all that it calls make is longer than what came in: it says more and counts as full. Else prove '..UptoSaid'. A law counts once. -/
mutual
def uptoBulk {H : Type} : DataW H → Nat
  | .lit (.string bytes) => bytes.length + 1
  | .lit _ => 1
  | .nil => 1
  | .ptr d => uptoBulk d + 1
  | .slice elems spare => uptoBulkAll elems + uptoBulkAll spare + 1
  | .agg parts => uptoBulkAll parts + 1
  | .iface _ d => uptoBulk d + 1
  | .map entries => uptoBulkEntries entries + 1
  | .held _ => 1
def uptoBulkAll {H : Type} : List (DataW H) → Nat
  | [] => 0
  | d :: r => uptoBulk d + uptoBulkAll r
def uptoBulkEntries {H : Type} : List (Lit × DataW H) → Nat
  | [] => 0
  | x :: r => uptoBulkEntry x + uptoBulkEntries r
def uptoBulkEntry {H : Type} : Lit × DataW H → Nat
  | (.string bytes, d) => bytes.length + uptoBulk d + 1
  | (_, d) => uptoBulk d + 1
 end
def uptoSmall : (H : Type) → List (DataW H) → Bool := fun _ ds => decide (uptoBulkAll ds ≤ 1048576)
def OpenSpec.upto (s : _root_.Go.ChangeSpec) : _root_.Go.OpenSpec := { _root_.Go.OpenSpec.ofChange s with cond := some uptoSmall }

/-- 'tiklaw6.CellTells', WHERE WHAT IT READS IS OF BULK AT MOST 1048576: true; the input reads as it did. -/
def cellTellsUptoRow : OpenClaim := { program := "ytkpneocolbmnpaa", sum := "f937b535f96ab817100290cee252b19d2b7e0a38a1485eb6876a6361a99d9af5", func := "tickertape/tiklaw6.CellTells", spec := "cellTells", apart := false, narrowed := true }
def CellTellsUptoSaid : Prop := cellTellsUptoRow.holds Try.pinned (OpenSpec.upto cellTellsSpec)

/-- 'tiklaw6.CellMay', WHERE WHAT IT READS IS OF BULK AT MOST 1048576: true; the input reads as it did. -/
def cellMayUptoRow : OpenClaim := { program := "ytkpneocolbmnpaa", sum := "f937b535f96ab817100290cee252b19d2b7e0a38a1485eb6876a6361a99d9af5", func := "tickertape/tiklaw6.CellMay", spec := "cellMay", apart := false, narrowed := true }
def CellMayUptoSaid : Prop := cellMayUptoRow.holds Try.pinned (OpenSpec.upto cellMaySpec)

/-- 'tiklaw6.CellColours', WHERE WHAT IT READS IS OF BULK AT MOST 1048576: true; the input reads as it did. -/
def cellColoursUptoRow : OpenClaim := { program := "ytkpneocolbmnpaa", sum := "f937b535f96ab817100290cee252b19d2b7e0a38a1485eb6876a6361a99d9af5", func := "tickertape/tiklaw6.CellColours", spec := "cellColours", apart := false, narrowed := true }
def CellColoursUptoSaid : Prop := cellColoursUptoRow.holds Try.pinned (OpenSpec.upto cellColoursSpec)

/-- 'tiklaw9.SgrBack', WHERE WHAT IT READS IS OF BULK AT MOST 1048576: true; the input reads as it did. -/
def sgrBackUptoRow : OpenClaim := { program := "ytkpneocolbmnpaa", sum := "f937b535f96ab817100290cee252b19d2b7e0a38a1485eb6876a6361a99d9af5", func := "tickertape/tiklaw9.SgrBack", spec := "sgrBack", apart := false, narrowed := true }
def SgrBackUptoSaid : Prop := sgrBackUptoRow.holds Try.pinned (OpenSpec.upto sgrBackSpec)

/-- 'tiklaw9.SgrApart', WHERE WHAT IT READS IS OF BULK AT MOST 1048576: true; the input reads as it did. -/
def sgrApartUptoRow : OpenClaim := { program := "ytkpneocolbmnpaa", sum := "f937b535f96ab817100290cee252b19d2b7e0a38a1485eb6876a6361a99d9af5", func := "tickertape/tiklaw9.SgrApart", spec := "sgrApart", apart := false, narrowed := true }
def SgrApartUptoSaid : Prop := sgrApartUptoRow.holds Try.pinned (OpenSpec.upto sgrApartSpec)

/-- 'tiklaw9.SgrOrder', WHERE WHAT IT READS IS OF BULK AT MOST 1048576: true; the input reads as it did. -/
def sgrOrderUptoRow : OpenClaim := { program := "ytkpneocolbmnpaa", sum := "f937b535f96ab817100290cee252b19d2b7e0a38a1485eb6876a6361a99d9af5", func := "tickertape/tiklaw9.SgrOrder", spec := "sgrOrder", apart := false, narrowed := true }
def SgrOrderUptoSaid : Prop := sgrOrderUptoRow.holds Try.pinned (OpenSpec.upto sgrOrderSpec)

/-- 'tiklaw10.TabsPlay', WHERE WHAT IT READS IS OF BULK AT MOST 1048576: true; the input reads as it did. -/
def tabsPlayUptoRow : OpenClaim := { program := "ytkpneocolbmnpaa", sum := "f937b535f96ab817100290cee252b19d2b7e0a38a1485eb6876a6361a99d9af5", func := "tickertape/tiklaw10.TabsPlay", spec := "tabsPlay", apart := false, narrowed := true }
def TabsPlayUptoSaid : Prop := tabsPlayUptoRow.holds Try.pinned (OpenSpec.upto tabsPlaySpec)

/-- 'tiklaw10.TabsSteps', WHERE WHAT IT READS IS OF BULK AT MOST 1048576: true; the input reads as it did. -/
def tabsStepsUptoRow : OpenClaim := { program := "ytkpneocolbmnpaa", sum := "f937b535f96ab817100290cee252b19d2b7e0a38a1485eb6876a6361a99d9af5", func := "tickertape/tiklaw10.TabsSteps", spec := "tabsSteps", apart := false, narrowed := true }
def TabsStepsUptoSaid : Prop := tabsStepsUptoRow.holds Try.pinned (OpenSpec.upto tabsStepsSpec)

/-- 'tiklaw10.TabsSizes', WHERE WHAT IT READS IS OF BULK AT MOST 1048576: true; the input reads as it did. -/
def tabsSizesUptoRow : OpenClaim := { program := "ytkpneocolbmnpaa", sum := "f937b535f96ab817100290cee252b19d2b7e0a38a1485eb6876a6361a99d9af5", func := "tickertape/tiklaw10.TabsSizes", spec := "tabsSizes", apart := false, narrowed := true }
def TabsSizesUptoSaid : Prop := tabsSizesUptoRow.holds Try.pinned (OpenSpec.upto tabsSizesSpec)

end Rows
end Go.Proofs.Ytkpneocolbmnpaa
