/- KeyBack: what is too great, and every argument. -/
import Derived.Test.YtfogbokifbjjlaaPa
import Derived.Test.YtfogbokifbjjlaaMf
set_option linter.unusedVariables false
namespace Go.Proofs.Ytfogbokifbjjlaa.Pc
open Go Go.RowKit Kit Gm Gv Crc Var Get Bytes WireFirst Ref3 Copy Ap Sa Sb Sd Ld Of Tk Pb Pa

set_option maxRecDepth 100000 in
set_option maxHeartbeats 8000000 in
theorem longB (R C row col : Int) (hid : Bool) (ti : ByteArray) (R2 C2 row2 col2 : Int) (hid2 : Bool) (ti2 : ByteArray) (a1 : Option Addr) (n1 c1 : Nat) (a2 : Option Addr) (n2 c2 : Nat) (b : Option Addr) (m cb : Nat) (cut : Int) (W : World)
    (h : ¬ ((n1 ≤ 3000 ∧ ti.size ≤ 3000) ∧ (n2 ≤ 3000 ∧ ti2.size ≤ 3000) ∧ m ≤ 3000 ∧ 0 ≤ cut)) :
    Calls Try.prog 5 #[svA ⟨R, C, row, col, hid, ti⟩ a1 n1 c1, svA ⟨R2, C2, row2, col2, hid2, ti2⟩ a2 n2 c2, .slice b m cb, .int .i64 cut] W fun e w' => e = .returned (.bool true) ∧ Below W.heap.size W w' := by
  have hb := below_two W (svO ⟨R, C, row, col, hid, ti⟩ a1 n1 c1) (svO ⟨R2, C2, row2, col2, hid2, ti2⟩ a2 n2 c2)
  obtain ⟨hA, hZ⟩ := two_heap W (svO ⟨R, C, row, col, hid, ti⟩ a1 n1 c1) (svO ⟨R2, C2, row2, col2, hid2, ti2⟩ a2 n2 c2)
  obtain ⟨x0, x1, x2, x3, x4, x5, x6⟩ := seven hA
  obtain ⟨y0, y1, y2, y3, y4, y5, y6⟩ := seven hZ
  dsimp only [svO] at hb x0 x1 x2 x3 x4 x5 x6 y0 y1 y2 y3 y4 y5 y6
  generalize hw0 : (W.alloc (.cells #[.int .i64 R, .int .i64 C, .slice a1 n1 c1, .int .i64 row, .int .i64 col, .bool hid, .string ti] 24)).alloc (.cells #[.int .i64 R2, .int .i64 C2, .slice a2 n2 c2, .int .i64 row2, .int .i64 col2, .bool hid2, .string ti2] 24) = w0 at *
  have HB0 := Lib.hid hb
  have HFIRST := Lib.hid (fun w => firstC w)
  have HFEW1 := Lib.hid (fun w => fewC ⟨R, C, row, col, hid, ti⟩ a1 n1 c1 w)
  have HFEW2 := Lib.hid (fun w => fewC ⟨R2, C2, row2, col2, hid2, ti2⟩ a2 n2 c2 w)
  dsimp only at HFEW1 HFEW2
  clear hA hZ hb
  by_cases f1 : n1 ≤ 3000 ∧ ti.size ≤ 3000
  · rw [decide_eq_true f1] at HFEW1
    by_cases f2 : n2 ≤ 3000 ∧ ti2.size ≤ 3000
    · rw [decide_eq_true f2] at HFEW2
      by_cases f3 : m ≤ 3000
      · have d3 : ¬ (3000 : Int) < (m : Int) := by omega
        have d4 : cut < 0 := by
          by_cases h0 : 0 ≤ cut
          · exact absurd ⟨f1, f2, f3, h0⟩ h
          · omega
        clear h f1 f2 f3
        go_enter Try.func5, Try.ntmps5
        go_wp2_with (first
          | (go_at_call 12; (with_reducible refine (HFIRST.out w0).mono ?_); rintro e w1 ⟨rfl, hb⟩; have HB1 := Lib.hid (below_then HB0.out hb HB0.out.size); replace x0 := cell_then hb (Nat.le_refl _) x0; replace x1 := cell_then hb (Nat.le_refl _) x1; replace x2 := cell_then hb (Nat.le_refl _) x2; replace x3 := cell_then hb (Nat.le_refl _) x3; replace x4 := cell_then hb (Nat.le_refl _) x4; replace x5 := cell_then hb (Nat.le_refl _) x5; replace x6 := cell_then hb (Nat.le_refl _) x6; replace y0 := cell_then hb (Nat.le_refl _) y0; replace y1 := cell_then hb (Nat.le_refl _) y1; replace y2 := cell_then hb (Nat.le_refl _) y2; replace y3 := cell_then hb (Nat.le_refl _) y3; replace y4 := cell_then hb (Nat.le_refl _) y4; replace y5 := cell_then hb (Nat.le_refl _) y5; replace y6 := cell_then hb (Nat.le_refl _) y6; clear hb )
          | (go_at_call 13; (with_reducible refine (HFEW1.out w1).mono ?_); rintro e w2 ⟨rfl, hb⟩; have HB2 := Lib.hid (below_then HB1.out hb HB1.out.size); replace x0 := cell_then hb (Nat.le_refl _) x0; replace x1 := cell_then hb (Nat.le_refl _) x1; replace x2 := cell_then hb (Nat.le_refl _) x2; replace x3 := cell_then hb (Nat.le_refl _) x3; replace x4 := cell_then hb (Nat.le_refl _) x4; replace x5 := cell_then hb (Nat.le_refl _) x5; replace x6 := cell_then hb (Nat.le_refl _) x6; replace y0 := cell_then hb (Nat.le_refl _) y0; replace y1 := cell_then hb (Nat.le_refl _) y1; replace y2 := cell_then hb (Nat.le_refl _) y2; replace y3 := cell_then hb (Nat.le_refl _) y3; replace y4 := cell_then hb (Nat.le_refl _) y4; replace y5 := cell_then hb (Nat.le_refl _) y5; replace y6 := cell_then hb (Nat.le_refl _) y6; clear hb )
          | (go_at_call 13; (with_reducible refine (HFEW2.out w2).mono ?_); rintro e w3 ⟨rfl, hb⟩; have HB3 := Lib.hid (below_then HB2.out hb HB2.out.size); replace x0 := cell_then hb (Nat.le_refl _) x0; replace x1 := cell_then hb (Nat.le_refl _) x1; replace x2 := cell_then hb (Nat.le_refl _) x2; replace x3 := cell_then hb (Nat.le_refl _) x3; replace x4 := cell_then hb (Nat.le_refl _) x4; replace x5 := cell_then hb (Nat.le_refl _) x5; replace x6 := cell_then hb (Nat.le_refl _) x6; replace y0 := cell_then hb (Nat.le_refl _) y0; replace y1 := cell_then hb (Nat.le_refl _) y1; replace y2 := cell_then hb (Nat.le_refl _) y2; replace y3 := cell_then hb (Nat.le_refl _) y3; replace y4 := cell_then hb (Nat.le_refl _) y4; replace y5 := cell_then hb (Nat.le_refl _) y5; replace y6 := cell_then hb (Nat.le_refl _) y6; clear hb )
          | (go_at_call 12; (with_reducible refine (HFIRST.out w3).mono ?_); rintro e w4 ⟨rfl, hb⟩; have HB4 := Lib.hid (below_then HB3.out hb HB3.out.size); replace x0 := cell_then hb (Nat.le_refl _) x0; replace x1 := cell_then hb (Nat.le_refl _) x1; replace x2 := cell_then hb (Nat.le_refl _) x2; replace x3 := cell_then hb (Nat.le_refl _) x3; replace x4 := cell_then hb (Nat.le_refl _) x4; replace x5 := cell_then hb (Nat.le_refl _) x5; replace x6 := cell_then hb (Nat.le_refl _) x6; replace y0 := cell_then hb (Nat.le_refl _) y0; replace y1 := cell_then hb (Nat.le_refl _) y1; replace y2 := cell_then hb (Nat.le_refl _) y2; replace y3 := cell_then hb (Nat.le_refl _) y3; replace y4 := cell_then hb (Nat.le_refl _) y4; replace y5 := cell_then hb (Nat.le_refl _) y5; replace y6 := cell_then hb (Nat.le_refl _) y6; clear hb ))
        go_ret
        exact ⟨rfl, HB4.out⟩
      · have d3 : (3000 : Int) < (m : Int) := by omega
        clear h f1 f2 f3
        go_enter Try.func5, Try.ntmps5
        go_wp2_with (first
          | (go_at_call 12; (with_reducible refine (HFIRST.out w0).mono ?_); rintro e w1 ⟨rfl, hb⟩; have HB1 := Lib.hid (below_then HB0.out hb HB0.out.size); replace x0 := cell_then hb (Nat.le_refl _) x0; replace x1 := cell_then hb (Nat.le_refl _) x1; replace x2 := cell_then hb (Nat.le_refl _) x2; replace x3 := cell_then hb (Nat.le_refl _) x3; replace x4 := cell_then hb (Nat.le_refl _) x4; replace x5 := cell_then hb (Nat.le_refl _) x5; replace x6 := cell_then hb (Nat.le_refl _) x6; replace y0 := cell_then hb (Nat.le_refl _) y0; replace y1 := cell_then hb (Nat.le_refl _) y1; replace y2 := cell_then hb (Nat.le_refl _) y2; replace y3 := cell_then hb (Nat.le_refl _) y3; replace y4 := cell_then hb (Nat.le_refl _) y4; replace y5 := cell_then hb (Nat.le_refl _) y5; replace y6 := cell_then hb (Nat.le_refl _) y6; clear hb )
          | (go_at_call 13; (with_reducible refine (HFEW1.out w1).mono ?_); rintro e w2 ⟨rfl, hb⟩; have HB2 := Lib.hid (below_then HB1.out hb HB1.out.size); replace x0 := cell_then hb (Nat.le_refl _) x0; replace x1 := cell_then hb (Nat.le_refl _) x1; replace x2 := cell_then hb (Nat.le_refl _) x2; replace x3 := cell_then hb (Nat.le_refl _) x3; replace x4 := cell_then hb (Nat.le_refl _) x4; replace x5 := cell_then hb (Nat.le_refl _) x5; replace x6 := cell_then hb (Nat.le_refl _) x6; replace y0 := cell_then hb (Nat.le_refl _) y0; replace y1 := cell_then hb (Nat.le_refl _) y1; replace y2 := cell_then hb (Nat.le_refl _) y2; replace y3 := cell_then hb (Nat.le_refl _) y3; replace y4 := cell_then hb (Nat.le_refl _) y4; replace y5 := cell_then hb (Nat.le_refl _) y5; replace y6 := cell_then hb (Nat.le_refl _) y6; clear hb )
          | (go_at_call 13; (with_reducible refine (HFEW2.out w2).mono ?_); rintro e w3 ⟨rfl, hb⟩; have HB3 := Lib.hid (below_then HB2.out hb HB2.out.size); replace x0 := cell_then hb (Nat.le_refl _) x0; replace x1 := cell_then hb (Nat.le_refl _) x1; replace x2 := cell_then hb (Nat.le_refl _) x2; replace x3 := cell_then hb (Nat.le_refl _) x3; replace x4 := cell_then hb (Nat.le_refl _) x4; replace x5 := cell_then hb (Nat.le_refl _) x5; replace x6 := cell_then hb (Nat.le_refl _) x6; replace y0 := cell_then hb (Nat.le_refl _) y0; replace y1 := cell_then hb (Nat.le_refl _) y1; replace y2 := cell_then hb (Nat.le_refl _) y2; replace y3 := cell_then hb (Nat.le_refl _) y3; replace y4 := cell_then hb (Nat.le_refl _) y4; replace y5 := cell_then hb (Nat.le_refl _) y5; replace y6 := cell_then hb (Nat.le_refl _) y6; clear hb )
          | (go_at_call 12; (with_reducible refine (HFIRST.out w3).mono ?_); rintro e w4 ⟨rfl, hb⟩; have HB4 := Lib.hid (below_then HB3.out hb HB3.out.size); replace x0 := cell_then hb (Nat.le_refl _) x0; replace x1 := cell_then hb (Nat.le_refl _) x1; replace x2 := cell_then hb (Nat.le_refl _) x2; replace x3 := cell_then hb (Nat.le_refl _) x3; replace x4 := cell_then hb (Nat.le_refl _) x4; replace x5 := cell_then hb (Nat.le_refl _) x5; replace x6 := cell_then hb (Nat.le_refl _) x6; replace y0 := cell_then hb (Nat.le_refl _) y0; replace y1 := cell_then hb (Nat.le_refl _) y1; replace y2 := cell_then hb (Nat.le_refl _) y2; replace y3 := cell_then hb (Nat.le_refl _) y3; replace y4 := cell_then hb (Nat.le_refl _) y4; replace y5 := cell_then hb (Nat.le_refl _) y5; replace y6 := cell_then hb (Nat.le_refl _) y6; clear hb ))
        go_ret
        exact ⟨rfl, HB4.out⟩
    · rw [decide_eq_false f2] at HFEW2
      clear h f1 f2
      go_enter Try.func5, Try.ntmps5
      go_wp2_with (first
        | (go_at_call 12; (with_reducible refine (HFIRST.out w0).mono ?_); rintro e w1 ⟨rfl, hb⟩; have HB1 := Lib.hid (below_then HB0.out hb HB0.out.size); replace x0 := cell_then hb (Nat.le_refl _) x0; replace x1 := cell_then hb (Nat.le_refl _) x1; replace x2 := cell_then hb (Nat.le_refl _) x2; replace x3 := cell_then hb (Nat.le_refl _) x3; replace x4 := cell_then hb (Nat.le_refl _) x4; replace x5 := cell_then hb (Nat.le_refl _) x5; replace x6 := cell_then hb (Nat.le_refl _) x6; replace y0 := cell_then hb (Nat.le_refl _) y0; replace y1 := cell_then hb (Nat.le_refl _) y1; replace y2 := cell_then hb (Nat.le_refl _) y2; replace y3 := cell_then hb (Nat.le_refl _) y3; replace y4 := cell_then hb (Nat.le_refl _) y4; replace y5 := cell_then hb (Nat.le_refl _) y5; replace y6 := cell_then hb (Nat.le_refl _) y6; clear hb )
        | (go_at_call 13; (with_reducible refine (HFEW1.out w1).mono ?_); rintro e w2 ⟨rfl, hb⟩; have HB2 := Lib.hid (below_then HB1.out hb HB1.out.size); replace x0 := cell_then hb (Nat.le_refl _) x0; replace x1 := cell_then hb (Nat.le_refl _) x1; replace x2 := cell_then hb (Nat.le_refl _) x2; replace x3 := cell_then hb (Nat.le_refl _) x3; replace x4 := cell_then hb (Nat.le_refl _) x4; replace x5 := cell_then hb (Nat.le_refl _) x5; replace x6 := cell_then hb (Nat.le_refl _) x6; replace y0 := cell_then hb (Nat.le_refl _) y0; replace y1 := cell_then hb (Nat.le_refl _) y1; replace y2 := cell_then hb (Nat.le_refl _) y2; replace y3 := cell_then hb (Nat.le_refl _) y3; replace y4 := cell_then hb (Nat.le_refl _) y4; replace y5 := cell_then hb (Nat.le_refl _) y5; replace y6 := cell_then hb (Nat.le_refl _) y6; clear hb )
        | (go_at_call 13; (with_reducible refine (HFEW2.out w2).mono ?_); rintro e w3 ⟨rfl, hb⟩; have HB3 := Lib.hid (below_then HB2.out hb HB2.out.size); replace x0 := cell_then hb (Nat.le_refl _) x0; replace x1 := cell_then hb (Nat.le_refl _) x1; replace x2 := cell_then hb (Nat.le_refl _) x2; replace x3 := cell_then hb (Nat.le_refl _) x3; replace x4 := cell_then hb (Nat.le_refl _) x4; replace x5 := cell_then hb (Nat.le_refl _) x5; replace x6 := cell_then hb (Nat.le_refl _) x6; replace y0 := cell_then hb (Nat.le_refl _) y0; replace y1 := cell_then hb (Nat.le_refl _) y1; replace y2 := cell_then hb (Nat.le_refl _) y2; replace y3 := cell_then hb (Nat.le_refl _) y3; replace y4 := cell_then hb (Nat.le_refl _) y4; replace y5 := cell_then hb (Nat.le_refl _) y5; replace y6 := cell_then hb (Nat.le_refl _) y6; clear hb )
        | (go_at_call 12; (with_reducible refine (HFIRST.out w3).mono ?_); rintro e w4 ⟨rfl, hb⟩; have HB4 := Lib.hid (below_then HB3.out hb HB3.out.size); replace x0 := cell_then hb (Nat.le_refl _) x0; replace x1 := cell_then hb (Nat.le_refl _) x1; replace x2 := cell_then hb (Nat.le_refl _) x2; replace x3 := cell_then hb (Nat.le_refl _) x3; replace x4 := cell_then hb (Nat.le_refl _) x4; replace x5 := cell_then hb (Nat.le_refl _) x5; replace x6 := cell_then hb (Nat.le_refl _) x6; replace y0 := cell_then hb (Nat.le_refl _) y0; replace y1 := cell_then hb (Nat.le_refl _) y1; replace y2 := cell_then hb (Nat.le_refl _) y2; replace y3 := cell_then hb (Nat.le_refl _) y3; replace y4 := cell_then hb (Nat.le_refl _) y4; replace y5 := cell_then hb (Nat.le_refl _) y5; replace y6 := cell_then hb (Nat.le_refl _) y6; clear hb ))
      go_ret
      exact ⟨rfl, HB4.out⟩
  · rw [decide_eq_false f1] at HFEW1
    clear h f1
    go_enter Try.func5, Try.ntmps5
    go_wp2_with (first
      | (go_at_call 12; (with_reducible refine (HFIRST.out w0).mono ?_); rintro e w1 ⟨rfl, hb⟩; have HB1 := Lib.hid (below_then HB0.out hb HB0.out.size); replace x0 := cell_then hb (Nat.le_refl _) x0; replace x1 := cell_then hb (Nat.le_refl _) x1; replace x2 := cell_then hb (Nat.le_refl _) x2; replace x3 := cell_then hb (Nat.le_refl _) x3; replace x4 := cell_then hb (Nat.le_refl _) x4; replace x5 := cell_then hb (Nat.le_refl _) x5; replace x6 := cell_then hb (Nat.le_refl _) x6; replace y0 := cell_then hb (Nat.le_refl _) y0; replace y1 := cell_then hb (Nat.le_refl _) y1; replace y2 := cell_then hb (Nat.le_refl _) y2; replace y3 := cell_then hb (Nat.le_refl _) y3; replace y4 := cell_then hb (Nat.le_refl _) y4; replace y5 := cell_then hb (Nat.le_refl _) y5; replace y6 := cell_then hb (Nat.le_refl _) y6; clear hb )
      | (go_at_call 13; (with_reducible refine (HFEW1.out w1).mono ?_); rintro e w2 ⟨rfl, hb⟩; have HB2 := Lib.hid (below_then HB1.out hb HB1.out.size); replace x0 := cell_then hb (Nat.le_refl _) x0; replace x1 := cell_then hb (Nat.le_refl _) x1; replace x2 := cell_then hb (Nat.le_refl _) x2; replace x3 := cell_then hb (Nat.le_refl _) x3; replace x4 := cell_then hb (Nat.le_refl _) x4; replace x5 := cell_then hb (Nat.le_refl _) x5; replace x6 := cell_then hb (Nat.le_refl _) x6; replace y0 := cell_then hb (Nat.le_refl _) y0; replace y1 := cell_then hb (Nat.le_refl _) y1; replace y2 := cell_then hb (Nat.le_refl _) y2; replace y3 := cell_then hb (Nat.le_refl _) y3; replace y4 := cell_then hb (Nat.le_refl _) y4; replace y5 := cell_then hb (Nat.le_refl _) y5; replace y6 := cell_then hb (Nat.le_refl _) y6; clear hb )
      | (go_at_call 12; (with_reducible refine (HFIRST.out w2).mono ?_); rintro e w3 ⟨rfl, hb⟩; have HB3 := Lib.hid (below_then HB2.out hb HB2.out.size); replace x0 := cell_then hb (Nat.le_refl _) x0; replace x1 := cell_then hb (Nat.le_refl _) x1; replace x2 := cell_then hb (Nat.le_refl _) x2; replace x3 := cell_then hb (Nat.le_refl _) x3; replace x4 := cell_then hb (Nat.le_refl _) x4; replace x5 := cell_then hb (Nat.le_refl _) x5; replace x6 := cell_then hb (Nat.le_refl _) x6; replace y0 := cell_then hb (Nat.le_refl _) y0; replace y1 := cell_then hb (Nat.le_refl _) y1; replace y2 := cell_then hb (Nat.le_refl _) y2; replace y3 := cell_then hb (Nat.le_refl _) y3; replace y4 := cell_then hb (Nat.le_refl _) y4; replace y5 := cell_then hb (Nat.le_refl _) y5; replace y6 := cell_then hb (Nat.le_refl _) y6; clear hb ))
    go_ret
    exact ⟨rfl, HB3.out⟩
/-- KeyBack. -/
theorem walk (s : Scr) (a1 : Option Addr) (n1 c1 : Nat) (L1 : List Gm.Ce) (t : Scr) (a2 : Option Addr) (n2 c2 : Nat) (L2 : List Gm.Ce) (b : Option Addr) (m cb : Nat) (zs : List Int) (cut : Int) (W : World) (h1 : Sp.IsCells W a1 n1 c1 L1 ∧ (Lit.int .i64 s.R).wf = true ∧ (Lit.int .i64 s.C).wf = true ∧ (Lit.int .i64 s.row).wf = true ∧ (Lit.int .i64 s.col).wf = true) (h2 : Sp.IsCells W a2 n2 c2 L2 ∧ (Lit.int .i64 t.R).wf = true ∧ (Lit.int .i64 t.C).wf = true ∧ (Lit.int .i64 t.row).wf = true ∧ (Lit.int .i64 t.col).wf = true) (h3 : IsRow .u8 W b m cb zs) (_ : (Lit.int .i64 cut).wf = true) :
    Calls Try.prog 5 #[svA s a1 n1 c1, svA t a2 n2 c2, .slice b m cb, .int .i64 cut] W fun e w' => e = .returned (.bool true) ∧ Below W.heap.size W w' := by
  obtain ⟨R, C, row, col, hid, ti⟩ := s
  obtain ⟨R2, C2, row2, col2, hid2, ti2⟩ := t
  by_cases h : (n1 ≤ 3000 ∧ ti.size ≤ 3000) ∧ (n2 ≤ 3000 ∧ ti2.size ≤ 3000) ∧ m ≤ 3000 ∧ 0 ≤ cut
  · obtain ⟨f1, f2, f3, f4⟩ := h
    obtain ⟨cut, rfl⟩ := Int.eq_ofNat_of_zero_le f4
    obtain ⟨⟨k1, _, e1, s1, _⟩, _⟩ := h1
    obtain ⟨⟨k2, _, e2, s2, _⟩, _⟩ := h2
    obtain ⟨l, hl, hs, h8, h0, _⟩ := Mf.row_nats h3
    have A : ScA W a1 n1 c1 L1 := ⟨e1, k1, s1⟩
    have B : ScA W a2 n2 c2 L2 := ⟨e2, k2, s2⟩
    by_cases m1 : MayS ⟨R, C, row, col, hid, ti⟩ L1
    · by_cases m2 : MayS ⟨R2, C2, row2, col2, hid2, ti2⟩ L2
      · by_cases hd : ∃ s L, EncS l s L
        · exact main111 R C row col hid ti R2 C2 row2 col2 hid2 ti2 a1 n1 c1 L1 a2 n2 c2 L2 b m cb l cut W A B f1 f2 hs hl.symm f3 h8 h0 m1 m2 hd
        · exact main110 R C row col hid ti R2 C2 row2 col2 hid2 ti2 a1 n1 c1 L1 a2 n2 c2 L2 b m cb l cut W A B f1 f2 hs hl.symm f3 h8 h0 m1 m2 hd
      · by_cases hd : ∃ s L, EncS l s L
        · exact main101 R C row col hid ti R2 C2 row2 col2 hid2 ti2 a1 n1 c1 L1 a2 n2 c2 L2 b m cb l cut W A B f1 f2 hs hl.symm f3 h8 h0 m1 m2 hd
        · exact main100 R C row col hid ti R2 C2 row2 col2 hid2 ti2 a1 n1 c1 L1 a2 n2 c2 L2 b m cb l cut W A B f1 f2 hs hl.symm f3 h8 h0 m1 m2 hd
    · by_cases m2 : MayS ⟨R2, C2, row2, col2, hid2, ti2⟩ L2
      · by_cases hd : ∃ s L, EncS l s L
        · exact main011 R C row col hid ti R2 C2 row2 col2 hid2 ti2 a1 n1 c1 L1 a2 n2 c2 L2 b m cb l cut W A B f1 f2 hs hl.symm f3 h8 h0 m1 m2 hd
        · exact main010 R C row col hid ti R2 C2 row2 col2 hid2 ti2 a1 n1 c1 L1 a2 n2 c2 L2 b m cb l cut W A B f1 f2 hs hl.symm f3 h8 h0 m1 m2 hd
      · by_cases hd : ∃ s L, EncS l s L
        · exact main001 R C row col hid ti R2 C2 row2 col2 hid2 ti2 a1 n1 c1 L1 a2 n2 c2 L2 b m cb l cut W A B f1 f2 hs hl.symm f3 h8 h0 m1 m2 hd
        · exact main000 R C row col hid ti R2 C2 row2 col2 hid2 ti2 a1 n1 c1 L1 a2 n2 c2 L2 b m cb l cut W A B f1 f2 hs hl.symm f3 h8 h0 m1 m2 hd
  · exact longB R C row col hid ti R2 C2 row2 col2 hid2 ti2 a1 n1 c1 a2 n2 c2 b m cb cut W h
end Go.Proofs.Ytfogbokifbjjlaa.Pc
