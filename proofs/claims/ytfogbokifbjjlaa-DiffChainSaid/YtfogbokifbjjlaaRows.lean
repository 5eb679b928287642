/-
  No cell of these rows narrows 'for every input' (looked for: loops, veiled, ifaces, maps, wideKeys, modest, calm, conditions, laid).
  DERIVED. THE GIVEN ROWS OF THIS SEAT. 9 by the template 'for every input the law returns true; each argument reads behind the call as it read before'; 0 by the template 'total and deterministic' (their statements: YtfogbokifbjjlaaTotals.lean).
  GIVEN WITH THE SEED: the statements are not yours to turn. If you find one false, say at which input.
  Laid BY PROGRAM, IN A SANDBOX (cutbox-rows.mjs): the forced cells as the released guide's own fill.sh prints them over the translation 229a160a8c629b98… (all of the seat's roots in one cut). By AI agents, Wed Nov 11 2026. No macro, syntax, notation, axiom, sorry.
-/
import Derived.Test.YtfogbokifbjjlaaChecked
import GoSem.Claim
import GoSem.ClaimJoined
import GoSem.ClaimMapViews
import Derived.JoinedTies
import Derived.KernelRfl
namespace Go.Proofs.Ytfogbokifbjjlaa
/- THE CELL 'sum', in the pinned program and in every row, IS THE sha256 OF THE DUMP (.gsa) THAT YtfogbokifbjjlaaProg.lean LOADS. Nothing in Lean hashes anything: it is a label: what it is worth is what the hold of that sum in a sandbox is worth. -/
noncomputable def Try.pinned : Pinned := { name := "ytfogbokifbjjlaa", sum := "229a160a8c629b98695129d4b19493f1bf684bd2b702ed93825390dbf91259f2", checked := Try.checked }
namespace Rows
def none {H : Type} : Left H := { results := [], args := [] }

/-- 'tiklaw13.KeyWrites': WHATEVER THE INPUT: true; the input reads as it did. -/
def keyWritesSpec : ChangeSpec := { name := "keyWrites", fn := fun _ => fun
  | [d] => { results := [.lit (.bool true)], args := [d] }
  | _ => none }
def keyWritesRow : OpenClaim := { program := "ytfogbokifbjjlaa", sum := "229a160a8c629b98695129d4b19493f1bf684bd2b702ed93825390dbf91259f2", func := "tickertape/tiklaw13.KeyWrites", spec := "keyWrites", apart := false }
def KeyWritesSaid : Prop := keyWritesRow.holds Try.pinned (OpenSpec.ofChange keyWritesSpec)

/-- ITS FALSE NEIGHBOUR: 'it returns false'. Refute it at one input. -/
def keyWritesWrong : ChangeSpec := { name := "keyWrites", fn := fun _ => fun
  | [d] => { results := [.lit (.bool false)], args := [d] }
  | _ => none }
def KeyWritesWrongFalsely : Prop := keyWritesRow.holds Try.pinned (OpenSpec.ofChange keyWritesWrong)

/-- 'tiklaw13.KeyReads': WHATEVER THE INPUT: true; the input reads as it did. -/
def keyReadsSpec : ChangeSpec := { name := "keyReads", fn := fun _ => fun
  | [d1, d2] => { results := [.lit (.bool true)], args := [d1, d2] }
  | _ => none }
def keyReadsRow : OpenClaim := { program := "ytfogbokifbjjlaa", sum := "229a160a8c629b98695129d4b19493f1bf684bd2b702ed93825390dbf91259f2", func := "tickertape/tiklaw13.KeyReads", spec := "keyReads", unfollowed := true, recurses := true, apart := false }
def KeyReadsSaid : Prop := keyReadsRow.holds Try.pinned (OpenSpec.ofChange keyReadsSpec)

/-- ITS FALSE NEIGHBOUR: 'it returns false'. Refute it at one input. -/
def keyReadsWrong : ChangeSpec := { name := "keyReads", fn := fun _ => fun
  | [d1, d2] => { results := [.lit (.bool false)], args := [d1, d2] }
  | _ => none }
def KeyReadsWrongFalsely : Prop := keyReadsRow.holds Try.pinned (OpenSpec.ofChange keyReadsWrong)

/-- 'tiklaw13.KeyBack': WHATEVER THE INPUT: true; the input reads as it did. -/
def keyBackSpec : ChangeSpec := { name := "keyBack", fn := fun _ => fun
  | [d1, d2, d3, d4] => { results := [.lit (.bool true)], args := [d1, d2, d3, d4] }
  | _ => none }
def keyBackRow : OpenClaim := { program := "ytfogbokifbjjlaa", sum := "229a160a8c629b98695129d4b19493f1bf684bd2b702ed93825390dbf91259f2", func := "tickertape/tiklaw13.KeyBack", spec := "keyBack", unfollowed := true, recurses := true, apart := false }
def KeyBackSaid : Prop := keyBackRow.holds Try.pinned (OpenSpec.ofChange keyBackSpec)

/-- ITS FALSE NEIGHBOUR: 'it returns false'. Refute it at one input. -/
def keyBackWrong : ChangeSpec := { name := "keyBack", fn := fun _ => fun
  | [d1, d2, d3, d4] => { results := [.lit (.bool false)], args := [d1, d2, d3, d4] }
  | _ => none }
def KeyBackWrongFalsely : Prop := keyBackRow.holds Try.pinned (OpenSpec.ofChange keyBackWrong)

/-- 'tiklaw13.KeyRuns': WHATEVER THE INPUT: true; the input reads as it did. -/
def keyRunsSpec : ChangeSpec := { name := "keyRuns", fn := fun _ => fun
  | [d1, d2] => { results := [.lit (.bool true)], args := [d1, d2] }
  | _ => none }
def keyRunsRow : OpenClaim := { program := "ytfogbokifbjjlaa", sum := "229a160a8c629b98695129d4b19493f1bf684bd2b702ed93825390dbf91259f2", func := "tickertape/tiklaw13.KeyRuns", spec := "keyRuns", unfollowed := true, recurses := true, apart := false }
def KeyRunsSaid : Prop := keyRunsRow.holds Try.pinned (OpenSpec.ofChange keyRunsSpec)

/-- ITS FALSE NEIGHBOUR: 'it returns false'. Refute it at one input. -/
def keyRunsWrong : ChangeSpec := { name := "keyRuns", fn := fun _ => fun
  | [d1, d2] => { results := [.lit (.bool false)], args := [d1, d2] }
  | _ => none }
def KeyRunsWrongFalsely : Prop := keyRunsRow.holds Try.pinned (OpenSpec.ofChange keyRunsWrong)

/-- 'tiklaw13.KeyShort': WHATEVER THE INPUT: true; the input reads as it did. -/
def keyShortSpec : ChangeSpec := { name := "keyShort", fn := fun _ => fun
  | [d1, d2, d3, d4] => { results := [.lit (.bool true)], args := [d1, d2, d3, d4] }
  | _ => none }
def keyShortRow : OpenClaim := { program := "ytfogbokifbjjlaa", sum := "229a160a8c629b98695129d4b19493f1bf684bd2b702ed93825390dbf91259f2", func := "tickertape/tiklaw13.KeyShort", spec := "keyShort", apart := false }
def KeyShortSaid : Prop := keyShortRow.holds Try.pinned (OpenSpec.ofChange keyShortSpec)

/-- ITS FALSE NEIGHBOUR: 'it returns false'. Refute it at one input. -/
def keyShortWrong : ChangeSpec := { name := "keyShort", fn := fun _ => fun
  | [d1, d2, d3, d4] => { results := [.lit (.bool false)], args := [d1, d2, d3, d4] }
  | _ => none }
def KeyShortWrongFalsely : Prop := keyShortRow.holds Try.pinned (OpenSpec.ofChange keyShortWrong)

/-- 'tiklaw14.DiffTells': WHATEVER THE INPUT: true; the input reads as it did. -/
def diffTellsSpec : ChangeSpec := { name := "diffTells", fn := fun _ => fun
  | [d1, d2, d3] => { results := [.lit (.bool true)], args := [d1, d2, d3] }
  | _ => none }
def diffTellsRow : OpenClaim := { program := "ytfogbokifbjjlaa", sum := "229a160a8c629b98695129d4b19493f1bf684bd2b702ed93825390dbf91259f2", func := "tickertape/tiklaw14.DiffTells", spec := "diffTells", unfollowed := true, recurses := true, apart := false }
def DiffTellsSaid : Prop := diffTellsRow.holds Try.pinned (OpenSpec.ofChange diffTellsSpec)

/-- ITS FALSE NEIGHBOUR: 'it returns false'. Refute it at one input. -/
def diffTellsWrong : ChangeSpec := { name := "diffTells", fn := fun _ => fun
  | [d1, d2, d3] => { results := [.lit (.bool false)], args := [d1, d2, d3] }
  | _ => none }
def DiffTellsWrongFalsely : Prop := diffTellsRow.holds Try.pinned (OpenSpec.ofChange diffTellsWrong)

/-- 'tiklaw14.DiffBack': WHATEVER THE INPUT: true; the input reads as it did. -/
def diffBackSpec : ChangeSpec := { name := "diffBack", fn := fun _ => fun
  | [d1, d2, d3, d4] => { results := [.lit (.bool true)], args := [d1, d2, d3, d4] }
  | _ => none }
def diffBackRow : OpenClaim := { program := "ytfogbokifbjjlaa", sum := "229a160a8c629b98695129d4b19493f1bf684bd2b702ed93825390dbf91259f2", func := "tickertape/tiklaw14.DiffBack", spec := "diffBack", unfollowed := true, recurses := true, apart := false }
def DiffBackSaid : Prop := diffBackRow.holds Try.pinned (OpenSpec.ofChange diffBackSpec)

/-- ITS FALSE NEIGHBOUR: 'it returns false'. Refute it at one input. -/
def diffBackWrong : ChangeSpec := { name := "diffBack", fn := fun _ => fun
  | [d1, d2, d3, d4] => { results := [.lit (.bool false)], args := [d1, d2, d3, d4] }
  | _ => none }
def DiffBackWrongFalsely : Prop := diffBackRow.holds Try.pinned (OpenSpec.ofChange diffBackWrong)

/-- 'tiklaw14.DiffSmall': WHATEVER THE INPUT: true; the input reads as it did. -/
def diffSmallSpec : ChangeSpec := { name := "diffSmall", fn := fun _ => fun
  | [d1, d2, d3] => { results := [.lit (.bool true)], args := [d1, d2, d3] }
  | _ => none }
def diffSmallRow : OpenClaim := { program := "ytfogbokifbjjlaa", sum := "229a160a8c629b98695129d4b19493f1bf684bd2b702ed93825390dbf91259f2", func := "tickertape/tiklaw14.DiffSmall", spec := "diffSmall", unfollowed := true, recurses := true, apart := false }
def DiffSmallSaid : Prop := diffSmallRow.holds Try.pinned (OpenSpec.ofChange diffSmallSpec)

/-- ITS FALSE NEIGHBOUR: 'it returns false'. Refute it at one input. -/
def diffSmallWrong : ChangeSpec := { name := "diffSmall", fn := fun _ => fun
  | [d1, d2, d3] => { results := [.lit (.bool false)], args := [d1, d2, d3] }
  | _ => none }
def DiffSmallWrongFalsely : Prop := diffSmallRow.holds Try.pinned (OpenSpec.ofChange diffSmallWrong)

/-- 'tiklaw14.DiffChain': WHATEVER THE INPUT: true; the input reads as it did. -/
def diffChainSpec : ChangeSpec := { name := "diffChain", fn := fun _ => fun
  | [d] => { results := [.lit (.bool true)], args := [d] }
  | _ => none }
def diffChainRow : OpenClaim := { program := "ytfogbokifbjjlaa", sum := "229a160a8c629b98695129d4b19493f1bf684bd2b702ed93825390dbf91259f2", func := "tickertape/tiklaw14.DiffChain", spec := "diffChain", unfollowed := true, recurses := true, apart := false }
def DiffChainSaid : Prop := diffChainRow.holds Try.pinned (OpenSpec.ofChange diffChainSpec)

/-- ITS FALSE NEIGHBOUR: 'it returns false'. Refute it at one input. -/
def diffChainWrong : ChangeSpec := { name := "diffChain", fn := fun _ => fun
  | [d] => { results := [.lit (.bool false)], args := [d] }
  | _ => none }
def DiffChainWrongFalsely : Prop := diffChainRow.holds Try.pinned (OpenSpec.ofChange diffChainWrong)

/- THE SECOND FORM. 'bulk': how many values and letters a reading holds, each counted each time it is reached (what is shared counts as often as it is met; a slice's spare places count too). A statement '..UptoSaid' is the law's where the arguments, and the package variables that the reading takes, are together of bulk at most 1048576: NARROWER than '..Said'. Prove '..Said' where nothing that the law and all that it calls make is longer than what came in: it says more and counts as full. Else prove '..UptoSaid'. A law counts once. -/
mutual
def uptoBulk {H : Type} : DataW H → Nat
  | .lit (.string bytes) => bytes.length + 1
  | .lit _ => 1
  | .nil => 1
  | .ptr d => uptoBulk d + 1
  | .slice elems spare => uptoBulkAll elems + uptoBulkAll spare + 1
  | .agg parts => uptoBulkAll parts + 1
  | .iface _ d => uptoBulk d + 1
  | .map entries => uptoBulkEntries entries + 1
  | .held _ => 1
def uptoBulkAll {H : Type} : List (DataW H) → Nat
  | [] => 0
  | d :: r => uptoBulk d + uptoBulkAll r
def uptoBulkEntries {H : Type} : List (Lit × DataW H) → Nat
  | [] => 0
  | x :: r => uptoBulkEntry x + uptoBulkEntries r
def uptoBulkEntry {H : Type} : Lit × DataW H → Nat
  | (.string bytes, d) => bytes.length + uptoBulk d + 1
  | (_, d) => uptoBulk d + 1
 end
def uptoSmall : (H : Type) → List (DataW H) → Bool := fun _ ds => decide (uptoBulkAll ds ≤ 1048576)
def OpenSpec.upto (s : _root_.Go.ChangeSpec) : _root_.Go.OpenSpec := { _root_.Go.OpenSpec.ofChange s with cond := some uptoSmall }

/-- 'tiklaw13.KeyWrites', WHERE WHAT IT READS IS OF BULK AT MOST 1048576: true; the input reads as it did. -/
def keyWritesUptoRow : OpenClaim := { program := "ytfogbokifbjjlaa", sum := "229a160a8c629b98695129d4b19493f1bf684bd2b702ed93825390dbf91259f2", func := "tickertape/tiklaw13.KeyWrites", spec := "keyWrites", apart := false, narrowed := true }
def KeyWritesUptoSaid : Prop := keyWritesUptoRow.holds Try.pinned (OpenSpec.upto keyWritesSpec)

/-- 'tiklaw13.KeyReads', WHERE WHAT IT READS IS OF BULK AT MOST 1048576: true; the input reads as it did. -/
def keyReadsUptoRow : OpenClaim := { program := "ytfogbokifbjjlaa", sum := "229a160a8c629b98695129d4b19493f1bf684bd2b702ed93825390dbf91259f2", func := "tickertape/tiklaw13.KeyReads", spec := "keyReads", unfollowed := true, recurses := true, apart := false, narrowed := true }
def KeyReadsUptoSaid : Prop := keyReadsUptoRow.holds Try.pinned (OpenSpec.upto keyReadsSpec)

/-- 'tiklaw13.KeyBack', WHERE WHAT IT READS IS OF BULK AT MOST 1048576: true; the input reads as it did. -/
def keyBackUptoRow : OpenClaim := { program := "ytfogbokifbjjlaa", sum := "229a160a8c629b98695129d4b19493f1bf684bd2b702ed93825390dbf91259f2", func := "tickertape/tiklaw13.KeyBack", spec := "keyBack", unfollowed := true, recurses := true, apart := false, narrowed := true }
def KeyBackUptoSaid : Prop := keyBackUptoRow.holds Try.pinned (OpenSpec.upto keyBackSpec)

/-- 'tiklaw13.KeyRuns', WHERE WHAT IT READS IS OF BULK AT MOST 1048576: true; the input reads as it did. -/
def keyRunsUptoRow : OpenClaim := { program := "ytfogbokifbjjlaa", sum := "229a160a8c629b98695129d4b19493f1bf684bd2b702ed93825390dbf91259f2", func := "tickertape/tiklaw13.KeyRuns", spec := "keyRuns", unfollowed := true, recurses := true, apart := false, narrowed := true }
def KeyRunsUptoSaid : Prop := keyRunsUptoRow.holds Try.pinned (OpenSpec.upto keyRunsSpec)

/-- 'tiklaw13.KeyShort', WHERE WHAT IT READS IS OF BULK AT MOST 1048576: true; the input reads as it did. -/
def keyShortUptoRow : OpenClaim := { program := "ytfogbokifbjjlaa", sum := "229a160a8c629b98695129d4b19493f1bf684bd2b702ed93825390dbf91259f2", func := "tickertape/tiklaw13.KeyShort", spec := "keyShort", apart := false, narrowed := true }
def KeyShortUptoSaid : Prop := keyShortUptoRow.holds Try.pinned (OpenSpec.upto keyShortSpec)

/-- 'tiklaw14.DiffTells', WHERE WHAT IT READS IS OF BULK AT MOST 1048576: true; the input reads as it did. -/
def diffTellsUptoRow : OpenClaim := { program := "ytfogbokifbjjlaa", sum := "229a160a8c629b98695129d4b19493f1bf684bd2b702ed93825390dbf91259f2", func := "tickertape/tiklaw14.DiffTells", spec := "diffTells", unfollowed := true, recurses := true, apart := false, narrowed := true }
def DiffTellsUptoSaid : Prop := diffTellsUptoRow.holds Try.pinned (OpenSpec.upto diffTellsSpec)

/-- 'tiklaw14.DiffBack', WHERE WHAT IT READS IS OF BULK AT MOST 1048576: true; the input reads as it did. -/
def diffBackUptoRow : OpenClaim := { program := "ytfogbokifbjjlaa", sum := "229a160a8c629b98695129d4b19493f1bf684bd2b702ed93825390dbf91259f2", func := "tickertape/tiklaw14.DiffBack", spec := "diffBack", unfollowed := true, recurses := true, apart := false, narrowed := true }
def DiffBackUptoSaid : Prop := diffBackUptoRow.holds Try.pinned (OpenSpec.upto diffBackSpec)

/-- 'tiklaw14.DiffSmall', WHERE WHAT IT READS IS OF BULK AT MOST 1048576: true; the input reads as it did. -/
def diffSmallUptoRow : OpenClaim := { program := "ytfogbokifbjjlaa", sum := "229a160a8c629b98695129d4b19493f1bf684bd2b702ed93825390dbf91259f2", func := "tickertape/tiklaw14.DiffSmall", spec := "diffSmall", unfollowed := true, recurses := true, apart := false, narrowed := true }
def DiffSmallUptoSaid : Prop := diffSmallUptoRow.holds Try.pinned (OpenSpec.upto diffSmallSpec)

/-- 'tiklaw14.DiffChain', WHERE WHAT IT READS IS OF BULK AT MOST 1048576: true; the input reads as it did. -/
def diffChainUptoRow : OpenClaim := { program := "ytfogbokifbjjlaa", sum := "229a160a8c629b98695129d4b19493f1bf684bd2b702ed93825390dbf91259f2", func := "tickertape/tiklaw14.DiffChain", spec := "diffChain", unfollowed := true, recurses := true, apart := false, narrowed := true }
def DiffChainUptoSaid : Prop := diffChainUptoRow.holds Try.pinned (OpenSpec.upto diffChainSpec)

end Rows
end Go.Proofs.Ytfogbokifbjjlaa
