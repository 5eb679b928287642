/- WireSums: the ways out, and the main way. -/
import Derived.Test.YtlhapnnepcnfbaaDoorCrcLin
import Derived.Test.YtlhapnnepcnfbaaDoorWireFirst
import Derived.Test.YtlhapnnepcnfbaaDoorCopy
import Derived.Deep.OwnRows
import Derived.Deep.RegionHeld3
namespace Go.Proofs.YtlhapnnepcnfbaaDoor.SumsOut
open Go Go.RowKit Kit Crc Var CrcLin WireFirst Copy
set_option maxRecDepth 100000 in
/-- the way out: some length, or at, or x is out of question. -/
theorem walkOut (a b c : Option Addr) (la ca lb cb lc cc : Nat) (p x : Int) (w : World) (hT : TabC w) (h1 : la ≤ 9223372036854775807) (_h2 : lb ≤ 9223372036854775807) (_h3 : lc ≤ 9223372036854775807)
    (h : la < 1 ∨ 2000 < la ∨ lb ≠ la ∨ lc ≠ la ∨ p < 0 ∨ x = 0) :
    Calls Tryd.prog 14 #[.slice a la ca, .slice b lb cb, .slice c lc cc, .int .i64 p, .int .u8 x] w fun e w' => e = .returned (.bool true) ∧ Below w.heap.size w w' := by
  have H := Lib.hid h
  clear h
  go_enter Tryd.func14, Tryd.ntmps14
  go_wp2_with fail
  refine (first _ hT).mono ?_
  rintro e w1 ⟨rfl, hb1⟩
  have hT1 := tab_then hb1 (Nat.le_refl _) hT
  go_wp2_with fail
  all_goals first
    | (refine (first _ hT1).mono ?_
       rintro e w2 ⟨rfl, hb2⟩
       go_wp2
       go_ret
       exact ⟨rfl, below_then hb1 hb2 hb1.size⟩)
    | (exfalso
       have h := H.out
       clear H
       rename_i hx _ _ _ _
       simp at hx
       omega)
end Go.Proofs.YtlhapnnepcnfbaaDoor.SumsOut
