/-
  NARROWER THAN 'FOR EVERY INPUT', by the rows' own cells (each row's printed sentence says how): DeckPlays: laid · DeckForward: laid · DeckStands: laid · DeckRates: laid · DeckAir: laid.
  DERIVED. THE GIVEN ROWS OF THIS SEAT. 5 by the template 'for every input the law returns true; each argument reads behind the call as it read before'; 0 by the template 'total and deterministic' (their statements: YtkogmjbiedpbnaaDoorTotals.lean).
  GIVEN WITH THE SEED: the statements are not yours to turn. If you find one false, say at which input.
  Laid BY PROGRAM, IN A SANDBOX (cutbox-rows.mjs): the forced cells as the released guide's own fill.sh prints them over the translation 004c386032a11b6b… (all of the seat's roots in one cut). By AI agents, Wed Nov 11 2026. No macro, syntax, notation, axiom, sorry.
-/
import Derived.Test.YtkogmjbiedpbnaaDoorChecked
import GoSem.Claim
import GoSem.ClaimJoined
import GoSem.ClaimMapViews
import Derived.JoinedTies
import Derived.KernelRfl
namespace Go.Proofs.YtkogmjbiedpbnaaDoor
/- THE CELL 'sum', in the pinned program and in every row, IS THE sha256 OF THE DUMP (.gsa) THAT YtkogmjbiedpbnaaDoorProg.lean LOADS. Nothing in Lean hashes anything: it is a label: what it is worth is what the hold of that sum in a sandbox is worth. -/
noncomputable def Tryd.pinned : Pinned := { name := "ytkogmjbiedpbnaadoor", sum := "004c386032a11b6bf9fa294a913038473161489c122af7292838d2b7395becce", checked := Tryd.checked }
namespace Rows
def none {H : Type} : Left H := { results := [], args := [] }

/- WHAT THE LISTED PACKAGE-LEVEL VARIABLES READ AS WHEN THE CALL BEGINS. Each datum BY PROGRAM (the guide's laid-datum.mjs) off the statement by which the dump's own 'gosem.cut.vars' lays the variable. In a bare row this is a premise. The card (YtkogmjbiedpbnaaDoorCards.lean) ties it to the program's text. -/
def laid_math_bits_deBruijn64tab {H : Type} : DataW H := .agg [.lit (.int .u8 0), .lit (.int .u8 1), .lit (.int .u8 56), .lit (.int .u8 2), .lit (.int .u8 57), .lit (.int .u8 49), .lit (.int .u8 28), .lit (.int .u8 3), .lit (.int .u8 61), .lit (.int .u8 58), .lit (.int .u8 42), .lit (.int .u8 50), .lit (.int .u8 38), .lit (.int .u8 29), .lit (.int .u8 17), .lit (.int .u8 4), .lit (.int .u8 62), .lit (.int .u8 47), .lit (.int .u8 59), .lit (.int .u8 36), .lit (.int .u8 45), .lit (.int .u8 43), .lit (.int .u8 51), .lit (.int .u8 22), .lit (.int .u8 53), .lit (.int .u8 39), .lit (.int .u8 33), .lit (.int .u8 30), .lit (.int .u8 24), .lit (.int .u8 18), .lit (.int .u8 12), .lit (.int .u8 5), .lit (.int .u8 63), .lit (.int .u8 55), .lit (.int .u8 48), .lit (.int .u8 27), .lit (.int .u8 60), .lit (.int .u8 41), .lit (.int .u8 37), .lit (.int .u8 16), .lit (.int .u8 46), .lit (.int .u8 35), .lit (.int .u8 44), .lit (.int .u8 21), .lit (.int .u8 52), .lit (.int .u8 32), .lit (.int .u8 23), .lit (.int .u8 11), .lit (.int .u8 54), .lit (.int .u8 26), .lit (.int .u8 40), .lit (.int .u8 15), .lit (.int .u8 34), .lit (.int .u8 20), .lit (.int .u8 31), .lit (.int .u8 10), .lit (.int .u8 25), .lit (.int .u8 14), .lit (.int .u8 19), .lit (.int .u8 9), .lit (.int .u8 13), .lit (.int .u8 8), .lit (.int .u8 7), .lit (.int .u8 6)]

/-- 'tiklaw23.DeckPlays': WHATEVER THE INPUT: true; the input reads as it did. -/
def deckPlaysSpec : ChangeSpec := { name := "deckPlays", fn := fun _ => fun
  | [d] => { results := [.lit (.bool true)], args := [d] }
  | _ => none }
def deckPlaysRow : OpenClaim := { program := "ytkogmjbiedpbnaadoor", sum := "004c386032a11b6bf9fa294a913038473161489c122af7292838d2b7395becce", func := "tickertape/tiklaw23.DeckPlays", spec := "deckPlays", inPlace := ["math/bits.Add64", "math.Float64frombits", "math.Float64bits"], named := ["math/bits.divideError", "math/bits.overflowError", "math/bits.deBruijn64tab"], apart := false, laid := [("math/bits.deBruijn64tab", laid_math_bits_deBruijn64tab)] }
def DeckPlaysSaid : Prop := deckPlaysRow.holds Tryd.pinned (OpenSpec.ofChange deckPlaysSpec)

/-- ITS FALSE NEIGHBOUR: 'it returns false'. Refute it at one input. -/
def deckPlaysWrong : ChangeSpec := { name := "deckPlays", fn := fun _ => fun
  | [d] => { results := [.lit (.bool false)], args := [d] }
  | _ => none }
def DeckPlaysWrongFalsely : Prop := deckPlaysRow.holds Tryd.pinned (OpenSpec.ofChange deckPlaysWrong)

/-- 'tiklaw23.DeckForward': WHATEVER THE INPUT: true; the input reads as it did. -/
def deckForwardSpec : ChangeSpec := { name := "deckForward", fn := fun _ => fun
  | [d1, d2, d3, d4, d5, d6] => { results := [.lit (.bool true)], args := [d1, d2, d3, d4, d5, d6] }
  | _ => none }
def deckForwardRow : OpenClaim := { program := "ytkogmjbiedpbnaadoor", sum := "004c386032a11b6bf9fa294a913038473161489c122af7292838d2b7395becce", func := "tickertape/tiklaw23.DeckForward", spec := "deckForward", inPlace := ["math/bits.Add64", "math.Float64frombits", "math.Float64bits"], named := ["math/bits.divideError", "math/bits.overflowError", "math/bits.deBruijn64tab"], apart := false, laid := [("math/bits.deBruijn64tab", laid_math_bits_deBruijn64tab)] }
def DeckForwardSaid : Prop := deckForwardRow.holds Tryd.pinned (OpenSpec.ofChange deckForwardSpec)

/-- ITS FALSE NEIGHBOUR: 'it returns false'. Refute it at one input. -/
def deckForwardWrong : ChangeSpec := { name := "deckForward", fn := fun _ => fun
  | [d1, d2, d3, d4, d5, d6] => { results := [.lit (.bool false)], args := [d1, d2, d3, d4, d5, d6] }
  | _ => none }
def DeckForwardWrongFalsely : Prop := deckForwardRow.holds Tryd.pinned (OpenSpec.ofChange deckForwardWrong)

/-- 'tiklaw23.DeckStands': WHATEVER THE INPUT: true; the input reads as it did. -/
def deckStandsSpec : ChangeSpec := { name := "deckStands", fn := fun _ => fun
  | [d1, d2, d3, d4, d5, d6] => { results := [.lit (.bool true)], args := [d1, d2, d3, d4, d5, d6] }
  | _ => none }
def deckStandsRow : OpenClaim := { program := "ytkogmjbiedpbnaadoor", sum := "004c386032a11b6bf9fa294a913038473161489c122af7292838d2b7395becce", func := "tickertape/tiklaw23.DeckStands", spec := "deckStands", inPlace := ["math/bits.Add64", "math.Float64frombits", "math.Float64bits"], named := ["math/bits.divideError", "math/bits.overflowError", "math/bits.deBruijn64tab"], apart := false, laid := [("math/bits.deBruijn64tab", laid_math_bits_deBruijn64tab)] }
def DeckStandsSaid : Prop := deckStandsRow.holds Tryd.pinned (OpenSpec.ofChange deckStandsSpec)

/-- ITS FALSE NEIGHBOUR: 'it returns false'. Refute it at one input. -/
def deckStandsWrong : ChangeSpec := { name := "deckStands", fn := fun _ => fun
  | [d1, d2, d3, d4, d5, d6] => { results := [.lit (.bool false)], args := [d1, d2, d3, d4, d5, d6] }
  | _ => none }
def DeckStandsWrongFalsely : Prop := deckStandsRow.holds Tryd.pinned (OpenSpec.ofChange deckStandsWrong)

/-- 'tiklaw23.DeckRates': WHATEVER THE INPUT: true; the input reads as it did. -/
def deckRatesSpec : ChangeSpec := { name := "deckRates", fn := fun _ => fun
  | [d1, d2, d3, d4, d5, d6] => { results := [.lit (.bool true)], args := [d1, d2, d3, d4, d5, d6] }
  | _ => none }
def deckRatesRow : OpenClaim := { program := "ytkogmjbiedpbnaadoor", sum := "004c386032a11b6bf9fa294a913038473161489c122af7292838d2b7395becce", func := "tickertape/tiklaw23.DeckRates", spec := "deckRates", inPlace := ["math/bits.Add64", "math.Float64frombits", "math.Float64bits"], named := ["math/bits.divideError", "math/bits.overflowError", "math/bits.deBruijn64tab"], apart := false, laid := [("math/bits.deBruijn64tab", laid_math_bits_deBruijn64tab)] }
def DeckRatesSaid : Prop := deckRatesRow.holds Tryd.pinned (OpenSpec.ofChange deckRatesSpec)

/-- ITS FALSE NEIGHBOUR: 'it returns false'. Refute it at one input. -/
def deckRatesWrong : ChangeSpec := { name := "deckRates", fn := fun _ => fun
  | [d1, d2, d3, d4, d5, d6] => { results := [.lit (.bool false)], args := [d1, d2, d3, d4, d5, d6] }
  | _ => none }
def DeckRatesWrongFalsely : Prop := deckRatesRow.holds Tryd.pinned (OpenSpec.ofChange deckRatesWrong)

/-- 'tiklaw23.DeckAir': WHATEVER THE INPUT: true; the input reads as it did. -/
def deckAirSpec : ChangeSpec := { name := "deckAir", fn := fun _ => fun
  | [d1, d2, d3, d4, d5] => { results := [.lit (.bool true)], args := [d1, d2, d3, d4, d5] }
  | _ => none }
def deckAirRow : OpenClaim := { program := "ytkogmjbiedpbnaadoor", sum := "004c386032a11b6bf9fa294a913038473161489c122af7292838d2b7395becce", func := "tickertape/tiklaw23.DeckAir", spec := "deckAir", inPlace := ["math/bits.Add64", "math.Float64frombits", "math.Float64bits"], named := ["math/bits.divideError", "math/bits.overflowError", "math/bits.deBruijn64tab"], apart := false, laid := [("math/bits.deBruijn64tab", laid_math_bits_deBruijn64tab)] }
def DeckAirSaid : Prop := deckAirRow.holds Tryd.pinned (OpenSpec.ofChange deckAirSpec)

/-- ITS FALSE NEIGHBOUR: 'it returns false'. Refute it at one input. -/
def deckAirWrong : ChangeSpec := { name := "deckAir", fn := fun _ => fun
  | [d1, d2, d3, d4, d5] => { results := [.lit (.bool false)], args := [d1, d2, d3, d4, d5] }
  | _ => none }
def DeckAirWrongFalsely : Prop := deckAirRow.holds Tryd.pinned (OpenSpec.ofChange deckAirWrong)

/- THE SECOND FORM. 'bulk': how many values and letters a reading holds, each counted each time it is reached (what is shared counts as often as it is met; a slice's spare places count too). A statement '..UptoSaid' is the law's where the arguments, and the package variables that the reading takes, are together of bulk at most 1048576: NARROWER than '..Said'. Prove '..Said' where nothing that the law and all that it calls make is longer than what came in: it says more and counts as full. Else prove '..UptoSaid'. A law counts once. -/
mutual
def uptoBulk {H : Type} : DataW H → Nat
  | .lit (.string bytes) => bytes.length + 1
  | .lit _ => 1
  | .nil => 1
  | .ptr d => uptoBulk d + 1
  | .slice elems spare => uptoBulkAll elems + uptoBulkAll spare + 1
  | .agg parts => uptoBulkAll parts + 1
  | .iface _ d => uptoBulk d + 1
  | .map entries => uptoBulkEntries entries + 1
  | .held _ => 1
def uptoBulkAll {H : Type} : List (DataW H) → Nat
  | [] => 0
  | d :: r => uptoBulk d + uptoBulkAll r
def uptoBulkEntries {H : Type} : List (Lit × DataW H) → Nat
  | [] => 0
  | x :: r => uptoBulkEntry x + uptoBulkEntries r
def uptoBulkEntry {H : Type} : Lit × DataW H → Nat
  | (.string bytes, d) => bytes.length + uptoBulk d + 1
  | (_, d) => uptoBulk d + 1
 end
def uptoSmall : (H : Type) → List (DataW H) → Bool := fun _ ds => decide (uptoBulkAll ds ≤ 1048576)
def OpenSpec.upto (s : _root_.Go.ChangeSpec) : _root_.Go.OpenSpec := { _root_.Go.OpenSpec.ofChange s with cond := some uptoSmall }

/-- 'tiklaw23.DeckPlays', WHERE WHAT IT READS IS OF BULK AT MOST 1048576: true; the input reads as it did. -/
def deckPlaysUptoRow : OpenClaim := { program := "ytkogmjbiedpbnaadoor", sum := "004c386032a11b6bf9fa294a913038473161489c122af7292838d2b7395becce", func := "tickertape/tiklaw23.DeckPlays", spec := "deckPlays", inPlace := ["math/bits.Add64", "math.Float64frombits", "math.Float64bits"], named := ["math/bits.divideError", "math/bits.overflowError", "math/bits.deBruijn64tab"], apart := false, laid := [("math/bits.deBruijn64tab", laid_math_bits_deBruijn64tab)], narrowed := true }
def DeckPlaysUptoSaid : Prop := deckPlaysUptoRow.holds Tryd.pinned (OpenSpec.upto deckPlaysSpec)

/-- 'tiklaw23.DeckForward', WHERE WHAT IT READS IS OF BULK AT MOST 1048576: true; the input reads as it did. -/
def deckForwardUptoRow : OpenClaim := { program := "ytkogmjbiedpbnaadoor", sum := "004c386032a11b6bf9fa294a913038473161489c122af7292838d2b7395becce", func := "tickertape/tiklaw23.DeckForward", spec := "deckForward", inPlace := ["math/bits.Add64", "math.Float64frombits", "math.Float64bits"], named := ["math/bits.divideError", "math/bits.overflowError", "math/bits.deBruijn64tab"], apart := false, laid := [("math/bits.deBruijn64tab", laid_math_bits_deBruijn64tab)], narrowed := true }
def DeckForwardUptoSaid : Prop := deckForwardUptoRow.holds Tryd.pinned (OpenSpec.upto deckForwardSpec)

/-- 'tiklaw23.DeckStands', WHERE WHAT IT READS IS OF BULK AT MOST 1048576: true; the input reads as it did. -/
def deckStandsUptoRow : OpenClaim := { program := "ytkogmjbiedpbnaadoor", sum := "004c386032a11b6bf9fa294a913038473161489c122af7292838d2b7395becce", func := "tickertape/tiklaw23.DeckStands", spec := "deckStands", inPlace := ["math/bits.Add64", "math.Float64frombits", "math.Float64bits"], named := ["math/bits.divideError", "math/bits.overflowError", "math/bits.deBruijn64tab"], apart := false, laid := [("math/bits.deBruijn64tab", laid_math_bits_deBruijn64tab)], narrowed := true }
def DeckStandsUptoSaid : Prop := deckStandsUptoRow.holds Tryd.pinned (OpenSpec.upto deckStandsSpec)

/-- 'tiklaw23.DeckRates', WHERE WHAT IT READS IS OF BULK AT MOST 1048576: true; the input reads as it did. -/
def deckRatesUptoRow : OpenClaim := { program := "ytkogmjbiedpbnaadoor", sum := "004c386032a11b6bf9fa294a913038473161489c122af7292838d2b7395becce", func := "tickertape/tiklaw23.DeckRates", spec := "deckRates", inPlace := ["math/bits.Add64", "math.Float64frombits", "math.Float64bits"], named := ["math/bits.divideError", "math/bits.overflowError", "math/bits.deBruijn64tab"], apart := false, laid := [("math/bits.deBruijn64tab", laid_math_bits_deBruijn64tab)], narrowed := true }
def DeckRatesUptoSaid : Prop := deckRatesUptoRow.holds Tryd.pinned (OpenSpec.upto deckRatesSpec)

/-- 'tiklaw23.DeckAir', WHERE WHAT IT READS IS OF BULK AT MOST 1048576: true; the input reads as it did. -/
def deckAirUptoRow : OpenClaim := { program := "ytkogmjbiedpbnaadoor", sum := "004c386032a11b6bf9fa294a913038473161489c122af7292838d2b7395becce", func := "tickertape/tiklaw23.DeckAir", spec := "deckAir", inPlace := ["math/bits.Add64", "math.Float64frombits", "math.Float64bits"], named := ["math/bits.divideError", "math/bits.overflowError", "math/bits.deBruijn64tab"], apart := false, laid := [("math/bits.deBruijn64tab", laid_math_bits_deBruijn64tab)], narrowed := true }
def DeckAirUptoSaid : Prop := deckAirUptoRow.holds Tryd.pinned (OpenSpec.upto deckAirSpec)

end Rows
end Go.Proofs.YtkogmjbiedpbnaaDoor
