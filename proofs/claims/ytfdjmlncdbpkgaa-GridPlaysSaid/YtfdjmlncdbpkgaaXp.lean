/- The document's Put. -/
import Derived.Test.YtfdjmlncdbpkgaaXg
set_option linter.unusedVariables false
namespace Go.Proofs.Ytfdjmlncdbpkgaa.Xp
open Go Go.RowKit Kit Gm Gv Fl Me Cp Sl Gg Gh Gp Gq Gk Xa Xb Xm Xn Xf Xe Xg
open Pr (Iv)

set_option maxRecDepth 100000 in
set_option maxHeartbeats 1000000 in
/-- Put, of what may not be put. -/
theorem putNo (p b R C : Nat) (row col : Int) (c : Ce) (L : List Ce) (w : World) (h : X w p b R C L) (hz : putOk R C row col c = false) :
    Calls Try.prog 37 #[.pointer (some ⟨p, 0, none⟩), .int .i64 row, .int .i64 col, cvA c] w fun e w' => e = .returned (.bool false) ∧ Below w.heap.size w w' := by
  unfold putOk at hz
  obtain ⟨cr, cfl, cfg, cbg, cwd⟩ := c
  dsimp only at hz
  have HB := Lib.hid (below_one w (.cells #[.int .i32 cr, .int .i64 cfl, .int .i64 cfg, .int .i64 cbg, .int .i64 cwd] 37))
  have HG := Lib.hid (h.then_ HB.out (Nat.le_refl _)).view
  have HF := Lib.hid (heap_last w #[.int .i32 cr, .int .i64 cfl, .int .i64 cfg, .int .i64 cbg, .int .i64 cwd] 37)
  generalize hw0 : w.alloc (.cells #[.int .i32 cr, .int .i64 cfl, .int .i64 cfg, .int .i64 cbg, .int .i64 cwd] 37) = w0 at *
  obtain ⟨v, hv⟩ : ∃ v, v = hasB R C row col := ⟨_, rfl⟩
  obtain ⟨u, hu⟩ : ∃ u, mayC ⟨cr, cfl, cfg, cbg, cwd⟩ = u := ⟨_, rfl⟩
  rw [← hv, hu] at hz
  have h45 : Calls Try.prog 45 #[.pointer (some ⟨p, 0, none⟩), .int .i64 row, .int .i64 col] w0 fun e w' => e = .returned (.bool v) ∧ w0 = w' := by rw [hv]; exact thereC _ _ _ _ _ _ _ _ _ HG.out
  have H45 := Lib.hid h45
  have HM := Lib.hid (rMayK ⟨cr, cfl, cfg, cbg, cwd⟩ u w0 hu)
  obtain ⟨c0, c1, c2, c3, c4⟩ := five HF.out
  clear h45 h hv hu
  cases v with
  | false =>
    clear hz
    go_enter Try.func37, Try.ntmps37
    go_wp2_with (first
      | (go_at_call 45; (with_reducible refine H45.out.mono ?_); rintro e w' ⟨rfl, rfl⟩))
    go_ret
    exact ⟨rfl, HB.out⟩
  | true =>
    cases u with
    | false =>
      clear hz
      go_enter Try.func37, Try.ntmps37
      go_wp2_with (first
        | (go_at_call 45; (with_reducible refine H45.out.mono ?_); rintro e w' ⟨rfl, rfl⟩)
        | (go_at_call 54; (with_reducible refine HM.out.mono ?_); rintro e w1 ⟨rfl, hb1⟩; have HB1 := Lib.hid (below_then HB.out hb1 HB.out.size); clear hb1))
      go_ret
      exact ⟨rfl, HB1.out⟩
    | true =>
      obtain rfl : cwd = 2 := by simpa using hz
      clear hz
      go_enter Try.func37, Try.ntmps37
      go_wp2_with (first
        | (go_at_call 45; (with_reducible refine H45.out.mono ?_); rintro e w' ⟨rfl, rfl⟩)
        | (go_at_call 54; (with_reducible refine HM.out.mono ?_); rintro e w1 ⟨rfl, hb1⟩; have HB1 := Lib.hid (below_then HB.out hb1 HB.out.size); replace c0 := Gg.cell_then hb1 (Nat.le_refl _) c0; replace c1 := Gg.cell_then hb1 (Nat.le_refl _) c1; replace c2 := Gg.cell_then hb1 (Nat.le_refl _) c2; replace c3 := Gg.cell_then hb1 (Nat.le_refl _) c3; replace c4 := Gg.cell_then hb1 (Nat.le_refl _) c4; clear hb1))
      go_ret
      exact ⟨rfl, HB1.out⟩
set_option maxRecDepth 100000 in
set_option maxHeartbeats 1000000 in
/-- Put, of a cell of one place. -/
theorem putA (p b R C r col : Nat) (cr cfl cfg cbg : Int) (A D E Z : List Ce) (x : Ce) (w : World) (h : X w p b R C (A ++ (D ++ x :: E) ++ Z)) (hr : r < R) (hc : col < C) (hA : A.length = r * C) (hD : D.length = col) (hM : (D ++ x :: E).length = C) (hm : mayC ⟨cr, cfl, cfg, cbg, 0⟩ = true) (hwd : ∀ c ∈ D ++ ⟨cr, cfl, cfg, cbg, 0⟩ :: E, c.wd = 0 ∨ c.wd = 1 ∨ c.wd = 2) :
    Calls Try.prog 37 #[.pointer (some ⟨p, 0, none⟩), .int .i64 (r : Int), .int .i64 (col : Int), cvA ⟨cr, cfl, cfg, cbg, 0⟩] w (XQ (.bool true) w p b R C (A ++ mend (D ++ ⟨cr, cfl, cfg, cbg, 0⟩ :: E) ++ Z)) := by
  have HH := Lib.hid h
  have HB := Lib.hid (below_one w (.cells #[.int .i32 cr, .int .i64 cfl, .int .i64 cfg, .int .i64 cbg, .int .i64 0] 37))
  have HG := Lib.hid (h.then_ HB.out (Nat.le_refl _))
  have HF := Lib.hid (heap_last w #[.int .i32 cr, .int .i64 cfl, .int .i64 cfg, .int .i64 cbg, .int .i64 0] 37)
  generalize hw0 : w.alloc (.cells #[.int .i32 cr, .int .i64 cfl, .int .i64 cfg, .int .i64 cbg, .int .i64 0] 37) = w0 at *
  have hz : hasB R C (r : Int) (col : Int) = true := (has_t (by omega)).symm
  have h45 : Calls Try.prog 45 #[.pointer (some ⟨p, 0, none⟩), .int .i64 (r : Int), .int .i64 (col : Int)] w0 fun e w' => e = .returned (.bool true) ∧ w0 = w' := by rw [← hz]; exact thereC _ _ _ _ _ _ _ _ _ HG.out.view
  have H45 := Lib.hid h45
  have HM := Lib.hid (rMayK ⟨cr, cfl, cfg, cbg, 0⟩ true w0 hm)
  obtain ⟨c0, c1, c2, c3, c4⟩ := five HF.out
  obtain ⟨p0, p1, p2⟩ := three HG.out.obj
  have hlen : (A ++ (D ++ ⟨cr, cfl, cfg, cbg, 0⟩ :: E) ++ Z).length = (A ++ (D ++ x :: E) ++ Z).length := by simp
  have hM2 : (D ++ (⟨cr, cfl, cfg, cbg, 0⟩ : Ce) :: E).length = C := by rw [← hM]; simp
  have HMEND := Lib.hid (fun (w1 w2 : World) (hb : Below w.heap.size w w1) (hrb : RB w2 b (A ++ (D ++ ⟨cr, cfl, cfg, cbg, 0⟩ :: E) ++ Z)) (hk : Kp b b w1 w2) =>
    mendX p b R C r A (D ++ ⟨cr, cfl, cfg, cbg, 0⟩ :: E) Z w2 ((HH.out.then_ hb (Nat.le_refl _)).row_new hrb hk hlen) hr hA hM2 hwd)
  have hsm := h.small
  obtain ⟨q, s, hq, hs, hsn, e1, e2, e3, e4⟩ := place_nums h.len hr hc hsm
  have HQ := Lib.hid (show s * 5 = (A ++ D).length * 5 by rw [List.length_append, hA, hD, hs, hq])
  have HNE := Lib.hid h.ne
  have HNw := Lib.hid (show w.heap.size ≠ b from Nat.ne_of_gt h.b_lt)
  generalize (A ++ (D ++ x :: E) ++ Z).length = n at *
  have HR0 := Lib.hid (show RB w0 b ((A ++ D) ++ x :: (E ++ Z)) by have := HG.out.row; simpa only [List.append_assoc, List.cons_append] using this)
  clear h45 h hz hr hc hA hD hM hm hwd hlen hM2 hsm hq hs
  go_enter Try.func37, Try.ntmps37
  go_wp2_with (first
    | (go_at_call 45; (with_reducible refine H45.out.mono ?_); rintro e w' ⟨rfl, rfl⟩)
    | (go_at_call 54; (with_reducible refine HM.out.mono ?_); rintro e w1 ⟨rfl, hb1⟩; have HB1 := Lib.hid (below_then HB.out hb1 HB.out.size); replace c0 := Gg.cell_then hb1 (Nat.le_refl _) c0; replace c1 := Gg.cell_then hb1 (Nat.le_refl _) c1; replace c2 := Gg.cell_then hb1 (Nat.le_refl _) c2; replace c3 := Gg.cell_then hb1 (Nat.le_refl _) c3; replace c4 := Gg.cell_then hb1 (Nat.le_refl _) c4; replace p1 := Gg.cell_then hb1 (Nat.le_refl _) p1; replace p2 := Gg.cell_then hb1 (Nat.le_refl _) p2; have HR1 := Lib.hid (RB.drew (HR0.out.then_ hb1 (Nat.le_refl _))); clear hb1))
  go_still_tail 7, (by kernel_rfl)
  change wpList _ _ _ _ _ w1.drew
  go_wp2_with (first
    | ((with_reducible refine wpList_store_cell rfl _ _ rfl b _ ⟨cr, cfl, cfg, cbg, 0⟩ rfl rfl HR1.out HQ.out ?_); intro w3 hw3; have HR3 := Lib.hid (show RB w3 b (A ++ (D ++ ⟨cr, cfl, cfg, cbg, 0⟩ :: E) ++ Z) by rw [← hw3]; have := HR1.out.put ((A ++ D) ++ ⟨cr, cfl, cfg, cbg, 0⟩ :: (E ++ Z)); simpa using this); have HK3 := Lib.hid (show Kp b b w1 w3 by rw [← hw3]; exact (Kp.drew (Kp.refl _ _ _)).put _); clear hw3)
    | (go_at_call 55; (with_reducible refine (HMEND.out _ _ HB1.out HR3.out HK3.out).mono ?_); rintro e w6 ⟨rfl, hr6, hk6⟩; have HR6 := Lib.hid hr6; have HK6 := Lib.hid (HK3.out.trans hk6 (.inl rfl)); clear hr6 hk6))
  go_ret
  exact XQ.put HH.out rfl HB1.out HR6.out HK6.out (by simp only [List.length_append, mend_length, List.length_cons])
end Go.Proofs.Ytfdjmlncdbpkgaa.Xp
