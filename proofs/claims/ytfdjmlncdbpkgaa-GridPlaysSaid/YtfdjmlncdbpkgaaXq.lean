/- The document's Put, at the end of a row. -/
import Derived.Test.YtfdjmlncdbpkgaaXp
set_option linter.unusedVariables false
namespace Go.Proofs.Ytfdjmlncdbpkgaa.Xq
open Go Go.RowKit Kit Gm Gv Fl Me Cp Sl Gg Gh Gp Gq Gk Xa Xb Xm Xn Xf Xe Xg Xp
open Pr (Iv)

theorem pred_wrap {col C : Nat} (h : col + 1 = C) (hc : C ≤ 200) : IntKind.i64.wrap ((C : Int) - 1) = (col : Int) ∧ wrap64 ((C : Int) - 1) = (col : Int) := wr_of (by omega) (by omega) (by omega)
set_option maxRecDepth 100000 in
set_option maxHeartbeats 1000000 in
/-- Put, of a wide one at the end. -/
theorem putB (p b R C r col : Nat) (cr cfl cfg cbg : Int) (A D E Z : List Ce) (x : Ce) (w : World) (h : X w p b R C (A ++ (D ++ x :: E) ++ Z)) (hr : r < R) (hc : col < C) (hA : A.length = r * C) (hD : D.length = col) (hM : (D ++ x :: E).length = C) (hm : mayC ⟨cr, cfl, cfg, cbg, 1⟩ = true) (hwd : ∀ c ∈ D ++ Gm.blankC cbg :: E, c.wd = 0 ∨ c.wd = 1 ∨ c.wd = 2) (hl : col + 1 = C) :
    Calls Try.prog 37 #[.pointer (some ⟨p, 0, none⟩), .int .i64 (r : Int), .int .i64 (col : Int), cvA ⟨cr, cfl, cfg, cbg, 1⟩] w (XQ (.bool true) w p b R C (A ++ mend (D ++ Gm.blankC cbg :: E) ++ Z)) := by
  have HH := Lib.hid h
  have HB := Lib.hid (below_one w (.cells #[.int .i32 cr, .int .i64 cfl, .int .i64 cfg, .int .i64 cbg, .int .i64 1] 37))
  have HG := Lib.hid (h.then_ HB.out (Nat.le_refl _))
  have HF := Lib.hid (heap_last w #[.int .i32 cr, .int .i64 cfl, .int .i64 cfg, .int .i64 cbg, .int .i64 1] 37)
  generalize hw0 : w.alloc (.cells #[.int .i32 cr, .int .i64 cfl, .int .i64 cfg, .int .i64 cbg, .int .i64 1] 37) = w0 at *
  have hz : hasB R C (r : Int) (col : Int) = true := (has_t (by omega)).symm
  have h45 : Calls Try.prog 45 #[.pointer (some ⟨p, 0, none⟩), .int .i64 (r : Int), .int .i64 (col : Int)] w0 fun e w' => e = .returned (.bool true) ∧ w0 = w' := by rw [← hz]; exact thereC _ _ _ _ _ _ _ _ _ HG.out.view
  have H45 := Lib.hid h45
  have HM := Lib.hid (rMayK ⟨cr, cfl, cfg, cbg, 1⟩ true w0 hm)
  obtain ⟨c0, c1, c2, c3, c4⟩ := five HF.out
  obtain ⟨p0, p1, p2⟩ := three HG.out.obj
  have hlen : (A ++ (D ++ Gm.blankC cbg :: E) ++ Z).length = (A ++ (D ++ x :: E) ++ Z).length := by simp
  have hM2 : (D ++ (Gm.blankC cbg) :: E).length = C := by rw [← hM]; simp
  have HMEND := Lib.hid (fun (w1 w2 : World) (hb : Below w.heap.size w w1) (hrb : RB w2 b (A ++ (D ++ Gm.blankC cbg :: E) ++ Z)) (hk : Kp b b w1 w2) =>
    mendX p b R C r A (D ++ Gm.blankC cbg :: E) Z w2 ((HH.out.then_ hb (Nat.le_refl _)).row_new hrb hk hlen) hr hA hM2 hwd)
  have hsm := h.small
  obtain ⟨q, s, hq, hs, hsn, e1, e2, e3, e4⟩ := place_nums h.len hr hc hsm
  have HQ := Lib.hid (show s * 5 = (A ++ D).length * 5 by rw [List.length_append, hA, hD, hs, hq])
  have HNE := Lib.hid h.ne
  have HNw := Lib.hid (show w.heap.size ≠ b from Nat.ne_of_gt h.b_lt)
  generalize (A ++ (D ++ x :: E) ++ Z).length = n at *
  have HR0 := Lib.hid (show RB w0 b ((A ++ D) ++ x :: (E ++ Z)) by have := HG.out.row; simpa only [List.append_assoc, List.cons_append] using this)
  obtain ⟨zl, zl2⟩ := pred_wrap hl HH.out.c2
  clear hl
  clear h45 h hz hr hc hA hD hM hm hwd hlen hM2 hsm hq hs
  go_enter Try.func37, Try.ntmps37
  go_wp2_with (first
    | (go_at_call 45; (with_reducible refine H45.out.mono ?_); rintro e w' ⟨rfl, rfl⟩)
    | (go_at_call 54; (with_reducible refine HM.out.mono ?_); rintro e w1 ⟨rfl, hb1⟩; have HB1 := Lib.hid (below_then HB.out hb1 HB.out.size); replace c0 := Gg.cell_then hb1 (Nat.le_refl _) c0; replace c1 := Gg.cell_then hb1 (Nat.le_refl _) c1; replace c2 := Gg.cell_then hb1 (Nat.le_refl _) c2; replace c3 := Gg.cell_then hb1 (Nat.le_refl _) c3; replace c4 := Gg.cell_then hb1 (Nat.le_refl _) c4; replace p1 := Gg.cell_then hb1 (Nat.le_refl _) p1; replace p2 := Gg.cell_then hb1 (Nat.le_refl _) p2; have HR1 := Lib.hid (HR0.out.then_ hb1 (Nat.le_refl _)); clear hb1))
  refine wp_region_held_drew (S := (fun W => W.cell? ⟨p, 2, none⟩ = some (.slice (some ⟨b, 0, none⟩) n n) ∧ W.cell? ⟨w.heap.size, 1, none⟩ = some (.int .i64 cfl) ∧ W.cell? ⟨w.heap.size, 2, none⟩ = some (.int .i64 cfg) ∧ W.cell? ⟨w.heap.size, 3, none⟩ = some (.int .i64 cbg))) (by kernel_rfl) ?_ (fun hHeld => ?_)
  · ((try dsimp only); exact ⟨p2, c1, c2, c3⟩)
  refine wpAnyH_take (i := 0) (oi := { dst := some 69, op := Op.move (Operand.tmp 0), type := 28, pos := _, after := #[], guard := none }) (v := ?_) rfl (by kernel_rfl) (by kernel_rfl) (by kernel_rfl) (fun _ _ _ h => h) (Or.inl ⟨by rfl, ?_⟩) (by assumption) ?_
  rotate_left
  · ((intro w hSw); (try dsimp only at hSw); go_simp; (try with_reducible rfl))
  try simp only [Act.put, List.setIfInBounds_toArray, List.set_cons_zero, List.set_cons_succ]
  refine wpAnyH_take (i := 1) (oi := { dst := some 70, op := Op.nilCheck (Operand.tmp 69), type := 0, pos := _, after := #[{ on := 0, ground := Ground.data }], guard := none }) (v := ?_) rfl (by kernel_rfl) (by kernel_rfl) (by kernel_rfl) (fun _ _ _ h => h) (Or.inl ⟨by rfl, ?_⟩) (by assumption) ?_
  rotate_left
  · ((intro w hSw); (try dsimp only at hSw); go_simp; (try with_reducible rfl))
  try simp only [Act.put, List.setIfInBounds_toArray, List.set_cons_zero, List.set_cons_succ]
  refine wpAnyH_take (i := 2) (oi := { dst := some 71, op := Op.fieldAddr 43 (Operand.tmp 70) 2, type := 0, pos := _, after := #[{ on := 1, ground := Ground.data }], guard := none }) (v := ?_) rfl (by kernel_rfl) (by kernel_rfl) (by kernel_rfl) (fun _ _ _ h => h) (Or.inl ⟨by rfl, ?_⟩) (by assumption) ?_
  rotate_left
  · ((intro w hSw); (try dsimp only at hSw); go_simp; (try with_reducible rfl))
  try simp only [Act.put, List.setIfInBounds_toArray, List.set_cons_zero, List.set_cons_succ]
  refine wpAnyH_take (i := 3) (oi := { dst := some 72, op := Op.load 41 (Operand.tmp 71), type := 41, pos := _, after := #[{ on := 2, ground := Ground.data }], guard := none }) (v := ?_) rfl (by kernel_rfl) (by kernel_rfl) (by kernel_rfl) (fun _ _ _ h => h) (Or.inl ⟨by rfl, ?_⟩) (by assumption) ?_
  rotate_left
  · ((intro w hSw); (try dsimp only at hSw); go_simp; (try with_reducible rfl))
  try simp only [Act.put, List.setIfInBounds_toArray, List.set_cons_zero, List.set_cons_succ]
  refine wpAnyH_take (i := 4) (oi := { dst := some 73, op := Op.move (Operand.tmp 9), type := 3, pos := _, after := #[], guard := none }) (v := ?_) rfl (by kernel_rfl) (by kernel_rfl) (by kernel_rfl) (fun _ _ _ h => h) (Or.inl ⟨by rfl, ?_⟩) (by assumption) ?_
  rotate_left
  · ((intro w hSw); (try dsimp only at hSw); go_simp; (try with_reducible rfl))
  try simp only [Act.put, List.setIfInBounds_toArray, List.set_cons_zero, List.set_cons_succ]
  refine wpAnyH_take (i := 5) (oi := { dst := some 74, op := Op.fieldAddr 37 (Operand.tmp 7) 1, type := 0, pos := _, after := #[], guard := none }) (v := ?_) rfl (by kernel_rfl) (by kernel_rfl) (by kernel_rfl) (fun _ _ _ h => h) (Or.inl ⟨by rfl, ?_⟩) (by assumption) ?_
  rotate_left
  · ((intro w hSw); (try dsimp only at hSw); go_simp; (try with_reducible rfl))
  try simp only [Act.put, List.setIfInBounds_toArray, List.set_cons_zero, List.set_cons_succ]
  refine wpAnyH_take (i := 6) (oi := { dst := some 75, op := Op.load 35 (Operand.tmp 74), type := 35, pos := _, after := #[{ on := 5, ground := Ground.data }], guard := none }) (v := ?_) rfl (by kernel_rfl) (by kernel_rfl) (by kernel_rfl) (fun _ _ _ h => h) (Or.inl ⟨by rfl, ?_⟩) (by assumption) ?_
  rotate_left
  · ((intro w hSw); (try dsimp only at hSw); go_simp; (try with_reducible rfl))
  try simp only [Act.put, List.setIfInBounds_toArray, List.set_cons_zero, List.set_cons_succ]
  refine wpAnyH_ready (rs := [7]) (by kernel_rfl) (by simp) ?_
  refine (AllReadyH.cons (o := { dst := some 76, op := Op.call { callee := Callee.value (Operand.func 35), args := #[Operand.tmp 75], argTypes := #[35] }, type := 37, pos := _, after := #[{ on := 6, ground := Ground.data }], guard := none }) rfl (fun K hK => ?_) AllReadyH.nil)
  go_simp
  refine (rBlankB _ _ _ _).mono ?_
  rintro e w4 ⟨rfl, hb4⟩
  have HB4 := Lib.hid (show Below w1.heap.size w1 w4 from (by first | exact hb4 | exact below_undrew hb4))
  clear hb4
  go_wp2_with fail
  refine hK.out _ _ ?_ (fun hHeld => ?_)
  · ((try dsimp only); exact ⟨cell_then HB4.out (Nat.le_refl _) p2, cell_then HB4.out (Nat.le_refl _) c1, cell_then HB4.out (Nat.le_refl _) c2, cell_then HB4.out (Nat.le_refl _) c3⟩)
  clear hK K
  try simp only [Act.put, List.setIfInBounds_toArray, List.set_cons_zero, List.set_cons_succ]
  refine wpAnyH_take (i := 8) (oi := { dst := some 77, op := Op.indexAddr 41 (Operand.tmp 72) (Operand.tmp 73), type := 0, pos := _, after := #[{ on := 3, ground := Ground.data }, { on := 4, ground := Ground.data }, { on := 0, ground := Ground.phase }, { on := 1, ground := Ground.phase }, { on := 2, ground := Ground.phase }, { on := 3, ground := Ground.phase }, { on := 4, ground := Ground.phase }, { on := 5, ground := Ground.phase }, { on := 6, ground := Ground.phase }, { on := 7, ground := Ground.phase }], guard := none }) (v := ?_) rfl (by kernel_rfl) (by kernel_rfl) (by kernel_rfl) (fun _ _ _ h => h) (Or.inl ⟨by rfl, ?_⟩) (by assumption) ?_
  rotate_left
  · ((intro w hSw); (try dsimp only at hSw); go_simp; (try with_reducible rfl))
  try simp only [Act.put, List.setIfInBounds_toArray, List.set_cons_zero, List.set_cons_succ]
  refine wpAnyH_ready (rs := [9]) (by kernel_rfl) (by simp) ?_
  refine (AllReadyH.cons (o := { dst := none, op := Op.store 37 (Operand.tmp 77) (Operand.tmp 76), type := 0, pos := _, after := #[{ on := 8, ground := Ground.data }, { on := 7, ground := Ground.data }, { on := 7, ground := Ground.chain }, { on := 0, ground := Ground.phase }, { on := 1, ground := Ground.phase }, { on := 2, ground := Ground.phase }, { on := 3, ground := Ground.phase }, { on := 4, ground := Ground.phase }, { on := 5, ground := Ground.phase }, { on := 6, ground := Ground.phase }, { on := 7, ground := Ground.phase }], guard := none }) rfl (fun K hK => ?_) AllReadyH.nil)
  rw [if_pos (by rfl)]
  refine wp_store_cell2 _ _ rfl b _ (Gm.blankC cbg) rfl rfl (A := A ++ D) (Z := E ++ Z) (c := x) (HR1.out.then_ HB4.out (Nat.le_refl _)) HQ.out ?_
  intro w5 hw5
  have HR3 := Lib.hid (show RB w5 b (A ++ (D ++ Gm.blankC cbg :: E) ++ Z) by rw [← hw5]; have := (HR1.out.then_ HB4.out (Nat.le_refl _)).put ((A ++ D) ++ Gm.blankC cbg :: (E ++ Z)); simpa using this)
  have HK3 : Hid (Kp b b w1 w5) := Lib.hid (by rw [← hw5]; exact (Kp.of HB4.out).put _)
  clear hw5
  refine hK.out _ _ ?_ (fun hHeld => ?_)
  · ((try dsimp only); exact ⟨cell_kept HK3.out p2 HNE.out HNE.out, cell_kept HK3.out c1 HNw.out HNw.out, cell_kept HK3.out c2 HNw.out HNw.out, cell_kept HK3.out c3 HNw.out HNw.out⟩)
  clear hK K
  try simp only [Act.put]
  refine wpAnyH_done (by kernel_rfl) ?_ _
  go_wp2_with (go_at_call 55; (with_reducible refine (HMEND.out _ _ HB1.out HR3.out HK3.out).mono ?_); rintro e w6 ⟨rfl, hr6, hk6⟩; have HR6 := Lib.hid hr6; have HK6 := Lib.hid (HK3.out.trans hk6 (.inl rfl)); clear hr6 hk6)
  go_ret
  exact XQ.put HH.out rfl HB1.out HR6.out HK6.out (by simp only [List.length_append, mend_length, List.length_cons])
end Go.Proofs.Ytfdjmlncdbpkgaa.Xq
