/- What ends the reading: the small cases. -/
import Derived.Test.YtabgelmmjpjejaaDoorSy
import Derived.Test.YtabgelmmjpjejaaDoorSf
set_option linter.unusedVariables false
namespace Go.Proofs.YtabgelmmjpjejaaDoor.Sz
open Go Go.RowKit Kit Crc Var Get Ref3 Copy Bytes Bx Py Py2 Ry Rz Dn Df Dd Da Dc Rs Rf Rg Ar Bg Np Go.Proofs.YtabgelmmjpjejaaDoor.Nm Hd Ho Sn Rh Sr Sf So Sp Sq Sl2 Sl3 Sx Sv Ss Sy


def OutP (w : World) (e : Ending) (w' : World) : Prop := e = .returned (.bool true) ∧ Below w.heap.size w w'
theorem two_cells {w : World} {g : Nat} {x0 x1 : Value} (h : w.heap[g]? = some (.cells #[x0, x1] 49 (0, 0))) : w.cell? ⟨g, 0, none⟩ = some x0 ∧ w.cell? ⟨g, 1, none⟩ = some x1 := by
  refine ⟨?_, ?_⟩ <;> (rw [cell_of_row w g _ _ 49 (0, 0) h]; rfl)
set_option maxRecDepth 100000 in
theorem many (hn : Int) (f : Nat) (a : Option Addr) (len cap : Nat) (w : World) (hT : TabC w) (hP : TabP w) (h : 30 < len) (hmx : len ≤ 9223372036854775807) :
    Calls Tryd.prog 8 #[.agg #[.int .i64 hn, .int .u64 (f : Int)], .slice a len cap] w (OutP w) := by
  have HT := Lib.hid hT
  have HP := Lib.hid hP
  have d : decide ((30 : Int) < (len : Int)) = true := decide_eq_true (by omega)
  have HB0 := Lib.hid ((Below.refl w.heap.size w).alloc (Nat.le_refl _) (.cells #[.int .i64 hn, .int .u64 (f : Int)] 49))
  clear hT hP h
  go_enter Tryd.func8, Tryd.ntmps8
  go_wp2_with fail
  generalize w.alloc (.cells #[.int .i64 hn, .int .u64 (f : Int)] 49) = w0 at *
  go_wp2_with (first
    | (go_at_call 24; (with_reducible refine (first16 w0 (tabC_then HB0.out (Nat.le_refl _) HT.out) (tabP_then HB0.out HP.out)).mono ?_); rintro e w1 ⟨rfl, bq⟩; have HB1 := Lib.hid (below_then HB0.out bq HB0.out.size); clear bq)
    | (go_at_call 24; (with_reducible refine (first16 w1 (tabC_then HB1.out (Nat.le_refl _) HT.out) (tabP_then HB1.out HP.out)).mono ?_); rintro e w2 ⟨rfl, bq⟩; have HB2 := Lib.hid (below_then HB1.out bq HB1.out.size); clear bq))
  go_ret
  exact ⟨rfl, HB2.out⟩
set_option maxRecDepth 100000 in
theorem noHead (hn : Int) (f : Nat) (a : Option Addr) (len cap : Nat) (w : World) (hT : TabC w) (hP : TabP w) (hl : len ≤ 30) (h : hn < 1 ∨ 999999 < hn ∨ f < 1 ∨ 4611686018427387904 < f) :
    Calls Tryd.prog 8 #[.agg #[.int .i64 hn, .int .u64 (f : Int)], .slice a len cap] w (OutP w) := by
  have HT := Lib.hid hT
  have HP := Lib.hid hP
  have d : decide ((30 : Int) < (len : Int)) = false := decide_eq_false (by omega)
  have HB0 := Lib.hid ((Below.refl w.heap.size w).alloc (Nat.le_refl _) (.cells #[.int .i64 hn, .int .u64 (f : Int)] 49))
  have HX0 := Lib.hid (heap_alloc_last w (.cells #[.int .i64 hn, .int .u64 (f : Int)] 49))
  have HN := Lib.hid h
  clear hT hP h
  go_enter Tryd.func8, Tryd.ntmps8
  go_wp2_with fail
  generalize w.alloc (.cells #[.int .i64 hn, .int .u64 (f : Int)] 49) = w0 at *
  obtain ⟨q0, q1⟩ := two_cells HX0.out
  go_wp2_with (first
    | (go_at_call 24; (with_reducible refine (first16 w0 (tabC_then HB0.out (Nat.le_refl _) HT.out) (tabP_then HB0.out HP.out)).mono ?_); rintro e w1 ⟨rfl, bq⟩; have HB1 := Lib.hid (below_then HB0.out bq HB0.out.size); have HX1 := Lib.hid ((bq.block _ (Array.getElem?_eq_some_iff.1 HX0.out).1).trans HX0.out); clear q0 q1; obtain ⟨q0, q1⟩ := two_cells HX1.out; clear bq)
    | (go_at_call 27; (with_reducible refine (headNo hn f w1 HN.out).mono ?_); rintro e w2 ⟨rfl, bq⟩; have HB2 := Lib.hid (below_then HB1.out bq HB1.out.size); clear bq)
    | (go_at_call 24; (with_reducible refine (first16 w2 (tabC_then HB2.out (Nat.le_refl _) HT.out) (tabP_then HB2.out HP.out)).mono ?_); rintro e w3 ⟨rfl, bq⟩; have HB3 := Lib.hid (below_then HB2.out bq HB2.out.size); clear bq))
  go_ret
  exact ⟨rfl, HB3.out⟩

end Go.Proofs.YtabgelmmjpjejaaDoor.Sz
