/-
  No cell of these rows narrows 'for every input' (looked for: loops, veiled, ifaces, maps, wideKeys, modest, calm, conditions, laid).
  DERIVED. THE GIVEN ROWS OF THIS SEAT. 6 by the template 'for every input the law returns true; each argument reads behind the call as it read before'; 0 by the template 'total and deterministic' (their statements: YtfdjmlncdbpkgaaTotals.lean).
  GIVEN WITH THE SEED: the statements are not yours to turn. If you find one false, say at which input.
  Laid BY PROGRAM, IN A SANDBOX (cutbox-rows.mjs): the forced cells as the released guide's own fill.sh prints them over the translation 99a5a05ee663c3ba… (all of the seat's roots in one cut). By AI agents, Wed Nov 11 2026. No macro, syntax, notation, axiom, sorry.
-/
import Derived.Test.YtfdjmlncdbpkgaaChecked
import GoSem.Claim
import GoSem.ClaimJoined
import GoSem.ClaimMapViews
import Derived.JoinedTies
import Derived.KernelRfl
namespace Go.Proofs.Ytfdjmlncdbpkgaa
/- THE CELL 'sum', in the pinned program and in every row, IS THE sha256 OF THE DUMP (.gsa) THAT YtfdjmlncdbpkgaaProg.lean LOADS. Nothing in Lean hashes anything: it is a label: what it is worth is what the hold of that sum in a sandbox is worth. -/
noncomputable def Try.pinned : Pinned := { name := "ytfdjmlncdbpkgaa", sum := "99a5a05ee663c3ba79fb8fc9be71d2795d7a5caf5bf59a59de9f75ced8cd8fa8", checked := Try.checked }
namespace Rows
def none {H : Type} : Left H := { results := [], args := [] }

/-- 'tiklaw7.GridPlays': WHATEVER THE INPUT: true; the input reads as it did. -/
def gridPlaysSpec : ChangeSpec := { name := "gridPlays", fn := fun _ => fun
  | [d1, d2, d3] => { results := [.lit (.bool true)], args := [d1, d2, d3] }
  | _ => none }
def gridPlaysRow : OpenClaim := { program := "ytfdjmlncdbpkgaa", sum := "99a5a05ee663c3ba79fb8fc9be71d2795d7a5caf5bf59a59de9f75ced8cd8fa8", func := "tickertape/tiklaw7.GridPlays", spec := "gridPlays", apart := false }
def GridPlaysSaid : Prop := gridPlaysRow.holds Try.pinned (OpenSpec.ofChange gridPlaysSpec)

/-- ITS FALSE NEIGHBOUR: 'it returns false'. Refute it at one input. -/
def gridPlaysWrong : ChangeSpec := { name := "gridPlays", fn := fun _ => fun
  | [d1, d2, d3] => { results := [.lit (.bool false)], args := [d1, d2, d3] }
  | _ => none }
def GridPlaysWrongFalsely : Prop := gridPlaysRow.holds Try.pinned (OpenSpec.ofChange gridPlaysWrong)

/-- 'tiklaw7.GridPairs': WHATEVER THE INPUT: true; the input reads as it did. -/
def gridPairsSpec : ChangeSpec := { name := "gridPairs", fn := fun _ => fun
  | [d1, d2, d3] => { results := [.lit (.bool true)], args := [d1, d2, d3] }
  | _ => none }
def gridPairsRow : OpenClaim := { program := "ytfdjmlncdbpkgaa", sum := "99a5a05ee663c3ba79fb8fc9be71d2795d7a5caf5bf59a59de9f75ced8cd8fa8", func := "tickertape/tiklaw7.GridPairs", spec := "gridPairs", apart := false }
def GridPairsSaid : Prop := gridPairsRow.holds Try.pinned (OpenSpec.ofChange gridPairsSpec)

/-- ITS FALSE NEIGHBOUR: 'it returns false'. Refute it at one input. -/
def gridPairsWrong : ChangeSpec := { name := "gridPairs", fn := fun _ => fun
  | [d1, d2, d3] => { results := [.lit (.bool false)], args := [d1, d2, d3] }
  | _ => none }
def GridPairsWrongFalsely : Prop := gridPairsRow.holds Try.pinned (OpenSpec.ofChange gridPairsWrong)

/-- 'tiklaw7.GridScrolls': WHATEVER THE INPUT: true; the input reads as it did. -/
def gridScrollsSpec : ChangeSpec := { name := "gridScrolls", fn := fun _ => fun
  | [d1, d2, d3, d4, d5] => { results := [.lit (.bool true)], args := [d1, d2, d3, d4, d5] }
  | _ => none }
def gridScrollsRow : OpenClaim := { program := "ytfdjmlncdbpkgaa", sum := "99a5a05ee663c3ba79fb8fc9be71d2795d7a5caf5bf59a59de9f75ced8cd8fa8", func := "tickertape/tiklaw7.GridScrolls", spec := "gridScrolls", apart := false }
def GridScrollsSaid : Prop := gridScrollsRow.holds Try.pinned (OpenSpec.ofChange gridScrollsSpec)

/-- ITS FALSE NEIGHBOUR: 'it returns false'. Refute it at one input. -/
def gridScrollsWrong : ChangeSpec := { name := "gridScrolls", fn := fun _ => fun
  | [d1, d2, d3, d4, d5] => { results := [.lit (.bool false)], args := [d1, d2, d3, d4, d5] }
  | _ => none }
def GridScrollsWrongFalsely : Prop := gridScrollsRow.holds Try.pinned (OpenSpec.ofChange gridScrollsWrong)

/-- 'tiklaw7.GridShifts': WHATEVER THE INPUT: true; the input reads as it did. -/
def gridShiftsSpec : ChangeSpec := { name := "gridShifts", fn := fun _ => fun
  | [d1, d2, d3, d4] => { results := [.lit (.bool true)], args := [d1, d2, d3, d4] }
  | _ => none }
def gridShiftsRow : OpenClaim := { program := "ytfdjmlncdbpkgaa", sum := "99a5a05ee663c3ba79fb8fc9be71d2795d7a5caf5bf59a59de9f75ced8cd8fa8", func := "tickertape/tiklaw7.GridShifts", spec := "gridShifts", apart := false }
def GridShiftsSaid : Prop := gridShiftsRow.holds Try.pinned (OpenSpec.ofChange gridShiftsSpec)

/-- ITS FALSE NEIGHBOUR: 'it returns false'. Refute it at one input. -/
def gridShiftsWrong : ChangeSpec := { name := "gridShifts", fn := fun _ => fun
  | [d1, d2, d3, d4] => { results := [.lit (.bool false)], args := [d1, d2, d3, d4] }
  | _ => none }
def GridShiftsWrongFalsely : Prop := gridShiftsRow.holds Try.pinned (OpenSpec.ofChange gridShiftsWrong)

/-- 'tiklaw7.GridWide': WHATEVER THE INPUT: true; the input reads as it did. -/
def gridWideSpec : ChangeSpec := { name := "gridWide", fn := fun _ => fun
  | [d1, d2, d3, d4, d5] => { results := [.lit (.bool true)], args := [d1, d2, d3, d4, d5] }
  | _ => none }
def gridWideRow : OpenClaim := { program := "ytfdjmlncdbpkgaa", sum := "99a5a05ee663c3ba79fb8fc9be71d2795d7a5caf5bf59a59de9f75ced8cd8fa8", func := "tickertape/tiklaw7.GridWide", spec := "gridWide", apart := false }
def GridWideSaid : Prop := gridWideRow.holds Try.pinned (OpenSpec.ofChange gridWideSpec)

/-- ITS FALSE NEIGHBOUR: 'it returns false'. Refute it at one input. -/
def gridWideWrong : ChangeSpec := { name := "gridWide", fn := fun _ => fun
  | [d1, d2, d3, d4, d5] => { results := [.lit (.bool false)], args := [d1, d2, d3, d4, d5] }
  | _ => none }
def GridWideWrongFalsely : Prop := gridWideRow.holds Try.pinned (OpenSpec.ofChange gridWideWrong)

/-- 'tiklaw7.GridSizes': WHATEVER THE INPUT: true; the input reads as it did. -/
def gridSizesSpec : ChangeSpec := { name := "gridSizes", fn := fun _ => fun
  | [d1, d2, d3, d4, d5] => { results := [.lit (.bool true)], args := [d1, d2, d3, d4, d5] }
  | _ => none }
def gridSizesRow : OpenClaim := { program := "ytfdjmlncdbpkgaa", sum := "99a5a05ee663c3ba79fb8fc9be71d2795d7a5caf5bf59a59de9f75ced8cd8fa8", func := "tickertape/tiklaw7.GridSizes", spec := "gridSizes", apart := false }
def GridSizesSaid : Prop := gridSizesRow.holds Try.pinned (OpenSpec.ofChange gridSizesSpec)

/-- ITS FALSE NEIGHBOUR: 'it returns false'. Refute it at one input. -/
def gridSizesWrong : ChangeSpec := { name := "gridSizes", fn := fun _ => fun
  | [d1, d2, d3, d4, d5] => { results := [.lit (.bool false)], args := [d1, d2, d3, d4, d5] }
  | _ => none }
def GridSizesWrongFalsely : Prop := gridSizesRow.holds Try.pinned (OpenSpec.ofChange gridSizesWrong)

/- THE SECOND FORM. 'bulk': how many values and letters a reading holds, each counted each time it is reached (what is shared counts as often as it is met; a slice's spare places count too). A statement '..UptoSaid' is the law's where the arguments, and the package variables that the reading takes, are together of bulk at most 1048576: NARROWER than '..Said'. Prove '..Said' where nothing that the law and all that it calls make is longer than what came in: it says more and counts as full. Else prove '..UptoSaid'. A law counts once. -/
mutual
def uptoBulk {H : Type} : DataW H → Nat
  | .lit (.string bytes) => bytes.length + 1
  | .lit _ => 1
  | .nil => 1
  | .ptr d => uptoBulk d + 1
  | .slice elems spare => uptoBulkAll elems + uptoBulkAll spare + 1
  | .agg parts => uptoBulkAll parts + 1
  | .iface _ d => uptoBulk d + 1
  | .map entries => uptoBulkEntries entries + 1
  | .held _ => 1
def uptoBulkAll {H : Type} : List (DataW H) → Nat
  | [] => 0
  | d :: r => uptoBulk d + uptoBulkAll r
def uptoBulkEntries {H : Type} : List (Lit × DataW H) → Nat
  | [] => 0
  | x :: r => uptoBulkEntry x + uptoBulkEntries r
def uptoBulkEntry {H : Type} : Lit × DataW H → Nat
  | (.string bytes, d) => bytes.length + uptoBulk d + 1
  | (_, d) => uptoBulk d + 1
 end
def uptoSmall : (H : Type) → List (DataW H) → Bool := fun _ ds => decide (uptoBulkAll ds ≤ 1048576)
def OpenSpec.upto (s : _root_.Go.ChangeSpec) : _root_.Go.OpenSpec := { _root_.Go.OpenSpec.ofChange s with cond := some uptoSmall }

/-- 'tiklaw7.GridPlays', WHERE WHAT IT READS IS OF BULK AT MOST 1048576: true; the input reads as it did. -/
def gridPlaysUptoRow : OpenClaim := { program := "ytfdjmlncdbpkgaa", sum := "99a5a05ee663c3ba79fb8fc9be71d2795d7a5caf5bf59a59de9f75ced8cd8fa8", func := "tickertape/tiklaw7.GridPlays", spec := "gridPlays", apart := false, narrowed := true }
def GridPlaysUptoSaid : Prop := gridPlaysUptoRow.holds Try.pinned (OpenSpec.upto gridPlaysSpec)

/-- 'tiklaw7.GridPairs', WHERE WHAT IT READS IS OF BULK AT MOST 1048576: true; the input reads as it did. -/
def gridPairsUptoRow : OpenClaim := { program := "ytfdjmlncdbpkgaa", sum := "99a5a05ee663c3ba79fb8fc9be71d2795d7a5caf5bf59a59de9f75ced8cd8fa8", func := "tickertape/tiklaw7.GridPairs", spec := "gridPairs", apart := false, narrowed := true }
def GridPairsUptoSaid : Prop := gridPairsUptoRow.holds Try.pinned (OpenSpec.upto gridPairsSpec)

/-- 'tiklaw7.GridScrolls', WHERE WHAT IT READS IS OF BULK AT MOST 1048576: true; the input reads as it did. -/
def gridScrollsUptoRow : OpenClaim := { program := "ytfdjmlncdbpkgaa", sum := "99a5a05ee663c3ba79fb8fc9be71d2795d7a5caf5bf59a59de9f75ced8cd8fa8", func := "tickertape/tiklaw7.GridScrolls", spec := "gridScrolls", apart := false, narrowed := true }
def GridScrollsUptoSaid : Prop := gridScrollsUptoRow.holds Try.pinned (OpenSpec.upto gridScrollsSpec)

/-- 'tiklaw7.GridShifts', WHERE WHAT IT READS IS OF BULK AT MOST 1048576: true; the input reads as it did. -/
def gridShiftsUptoRow : OpenClaim := { program := "ytfdjmlncdbpkgaa", sum := "99a5a05ee663c3ba79fb8fc9be71d2795d7a5caf5bf59a59de9f75ced8cd8fa8", func := "tickertape/tiklaw7.GridShifts", spec := "gridShifts", apart := false, narrowed := true }
def GridShiftsUptoSaid : Prop := gridShiftsUptoRow.holds Try.pinned (OpenSpec.upto gridShiftsSpec)

/-- 'tiklaw7.GridWide', WHERE WHAT IT READS IS OF BULK AT MOST 1048576: true; the input reads as it did. -/
def gridWideUptoRow : OpenClaim := { program := "ytfdjmlncdbpkgaa", sum := "99a5a05ee663c3ba79fb8fc9be71d2795d7a5caf5bf59a59de9f75ced8cd8fa8", func := "tickertape/tiklaw7.GridWide", spec := "gridWide", apart := false, narrowed := true }
def GridWideUptoSaid : Prop := gridWideUptoRow.holds Try.pinned (OpenSpec.upto gridWideSpec)

/-- 'tiklaw7.GridSizes', WHERE WHAT IT READS IS OF BULK AT MOST 1048576: true; the input reads as it did. -/
def gridSizesUptoRow : OpenClaim := { program := "ytfdjmlncdbpkgaa", sum := "99a5a05ee663c3ba79fb8fc9be71d2795d7a5caf5bf59a59de9f75ced8cd8fa8", func := "tickertape/tiklaw7.GridSizes", spec := "gridSizes", apart := false, narrowed := true }
def GridSizesUptoSaid : Prop := gridSizesUptoRow.holds Try.pinned (OpenSpec.upto gridSizesSpec)

end Rows
end Go.Proofs.Ytfdjmlncdbpkgaa
