/- The document's Put, of a wide one inside a row. -/
import Derived.Test.YtfdjmlncdbpkgaaXq
set_option linter.unusedVariables false
namespace Go.Proofs.Ytfdjmlncdbpkgaa.Xr
open Go Go.RowKit Kit Gm Gv Fl Me Cp Sl Gg Gh Gp Gq Gk Xa Xb Xm Xn Xf Xe Xg Xp
open Pr (Iv)

theorem pred_no {col C : Nat} (h : col + 1 < C) (hc : C ≤ 200) : IntKind.i64.wrap ((C : Int) - 1) = (C : Int) - 1 ∧ wrap64 ((C : Int) - 1) = (C : Int) - 1 ∧ ((col : Int) == (C : Int) - 1) = false := by
  have e := wr_of (x := (C : Int) - 1) (y := (C : Int) - 1) (by omega) (by omega) rfl
  exact ⟨e.1, e.2, by rw [beq_eq_false_iff_ne]; omega⟩
theorem next_idx {q s r col C n : Nat} (hq : q = r * C) (hs : s = q + col) (hl : col + 1 < C) (hn : ∃ R' r', n = R' * C ∧ r' < R' ∧ r' = r) (hsm : n ≤ 12000) : IntKind.i64.wrap ((s : Int) + 1) = (s : Int) + 1 ∧ wrap64 ((s : Int) + 1) = (s : Int) + 1 ∧ s + 1 < n ∧ (0 : Int) ≤ (s : Int) + 1 ∧ (s : Int) + 1 < (n : Int) := by
  obtain ⟨R', r', h1, h2, rfl⟩ := hn
  have h3 := Nat.mul_le_mul_right C (show r' + 1 ≤ R' from h2)
  rw [Nat.add_mul, ← h1, ← hq] at h3
  clear h1 hq
  have h4 : s + 1 < n := by omega
  have e := wr_of (x := (s : Int) + 1) (y := (s : Int) + 1) (by omega) (by omega) rfl
  exact ⟨e.1, e.2, h4, by omega, by omega⟩
set_option maxRecDepth 100000 in
set_option maxHeartbeats 1000000 in
/-- Put, of a wide one. -/
theorem putC (p b R C r col : Nat) (cr cfl cfg cbg : Int) (A D E Z : List Ce) (x y : Ce) (w : World) (h : X w p b R C (A ++ (D ++ x :: y :: E) ++ Z)) (hr : r < R) (hc : col < C) (hA : A.length = r * C) (hD : D.length = col) (hM : (D ++ x :: y :: E).length = C) (hm : mayC ⟨cr, cfl, cfg, cbg, 1⟩ = true) (hwd : ∀ c ∈ D ++ ⟨cr, cfl, cfg, cbg, 1⟩ :: ⟨0, cfl, cfg, cbg, 2⟩ :: E, c.wd = 0 ∨ c.wd = 1 ∨ c.wd = 2) (hl : col + 1 < C) :
    Calls Try.prog 37 #[.pointer (some ⟨p, 0, none⟩), .int .i64 (r : Int), .int .i64 (col : Int), cvA ⟨cr, cfl, cfg, cbg, 1⟩] w (XQ (.bool true) w p b R C (A ++ mend (D ++ ⟨cr, cfl, cfg, cbg, 1⟩ :: ⟨0, cfl, cfg, cbg, 2⟩ :: E) ++ Z)) := by
  have HH := Lib.hid h
  have HB := Lib.hid (below_one w (.cells #[.int .i32 cr, .int .i64 cfl, .int .i64 cfg, .int .i64 cbg, .int .i64 1] 37))
  have HG := Lib.hid (h.then_ HB.out (Nat.le_refl _))
  have HF := Lib.hid (heap_last w #[.int .i32 cr, .int .i64 cfl, .int .i64 cfg, .int .i64 cbg, .int .i64 1] 37)
  generalize hw0 : w.alloc (.cells #[.int .i32 cr, .int .i64 cfl, .int .i64 cfg, .int .i64 cbg, .int .i64 1] 37) = w0 at *
  have hz : hasB R C (r : Int) (col : Int) = true := (has_t (by omega)).symm
  have h45 : Calls Try.prog 45 #[.pointer (some ⟨p, 0, none⟩), .int .i64 (r : Int), .int .i64 (col : Int)] w0 fun e w' => e = .returned (.bool true) ∧ w0 = w' := by rw [← hz]; exact thereC _ _ _ _ _ _ _ _ _ HG.out.view
  have H45 := Lib.hid h45
  have HM := Lib.hid (rMayK ⟨cr, cfl, cfg, cbg, 1⟩ true w0 hm)
  obtain ⟨c0, c1, c2, c3, c4⟩ := five HF.out
  obtain ⟨p0, p1, p2⟩ := three HG.out.obj
  have hlen : (A ++ (D ++ ⟨cr, cfl, cfg, cbg, 1⟩ :: ⟨0, cfl, cfg, cbg, 2⟩ :: E) ++ Z).length = (A ++ (D ++ x :: y :: E) ++ Z).length := by simp
  have hM2 : (D ++ (⟨cr, cfl, cfg, cbg, 1⟩ : Ce) :: ⟨0, cfl, cfg, cbg, 2⟩ :: E).length = C := by rw [← hM]; simp
  have HMEND := Lib.hid (fun (w1 w2 : World) (hb : Below w.heap.size w w1) (hrb : RB w2 b (A ++ (D ++ ⟨cr, cfl, cfg, cbg, 1⟩ :: ⟨0, cfl, cfg, cbg, 2⟩ :: E) ++ Z)) (hk : Kp b b w1 w2) =>
    mendX p b R C r A (D ++ ⟨cr, cfl, cfg, cbg, 1⟩ :: ⟨0, cfl, cfg, cbg, 2⟩ :: E) Z w2 ((HH.out.then_ hb (Nat.le_refl _)).row_new hrb hk hlen) hr hA hM2 hwd)
  have hsm := h.small
  have HLen := Lib.hid (show ∃ R' r', (A ++ (D ++ x :: y :: E) ++ Z).length = R' * C ∧ r' < R' ∧ r' = r from ⟨R, r, h.len, hr, rfl⟩)
  have HSmall := Lib.hid hsm
  obtain ⟨q, s, hq, hs, hsn, e1, e2, e3, e4⟩ := place_nums h.len hr hc hsm
  have HQ := Lib.hid (show s * 5 = (A ++ D).length * 5 by rw [List.length_append, hA, hD, hs, hq])
  have HNE := Lib.hid h.ne
  have HNw := Lib.hid (show w.heap.size ≠ b from Nat.ne_of_gt h.b_lt)
  generalize (A ++ (D ++ x :: y :: E) ++ Z).length = n at *
  have HR0 := Lib.hid (show RB w0 b ((A ++ D) ++ x :: (y :: E ++ Z)) by have := HG.out.row; simpa only [List.append_assoc, List.cons_append] using this)
  obtain ⟨zl, zl2, zl3⟩ := pred_no hl HH.out.c2
  obtain ⟨v1, v2, v3, v4, v5⟩ := next_idx hq hs hl HLen.out HSmall.out
  have HQ2 := Lib.hid (show (s + 1) * 5 = (A ++ (D ++ [(⟨cr, cfl, cfg, cbg, 1⟩ : Ce)])).length * 5 by rw [List.length_append, List.length_append, hA, hD, hs, hq, List.length_singleton, Nat.add_assoc])
  clear hl
  clear h45 h hz hr hc hA hD hM hm hwd hlen hM2 hsm hq hs
  go_enter Try.func37, Try.ntmps37
  go_wp2_with (first
    | (go_at_call 45; (with_reducible refine H45.out.mono ?_); rintro e w' ⟨rfl, rfl⟩)
    | (go_at_call 54; (with_reducible refine HM.out.mono ?_); rintro e w1 ⟨rfl, hb1⟩; have HB1 := Lib.hid (below_then HB.out hb1 HB.out.size); replace c0 := Gg.cell_then hb1 (Nat.le_refl _) c0; replace c1 := Gg.cell_then hb1 (Nat.le_refl _) c1; replace c2 := Gg.cell_then hb1 (Nat.le_refl _) c2; replace c3 := Gg.cell_then hb1 (Nat.le_refl _) c3; replace c4 := Gg.cell_then hb1 (Nat.le_refl _) c4; replace p1 := Gg.cell_then hb1 (Nat.le_refl _) p1; replace p2 := Gg.cell_then hb1 (Nat.le_refl _) p2; have HR1 := Lib.hid (RB.drew (HR0.out.then_ hb1 (Nat.le_refl _))); clear hb1))
  refine wp_region_held_drew (S := (fun W => W.cell? ⟨p, 2, none⟩ = some (.slice (some ⟨b, 0, none⟩) n n) ∧ W.cell? ⟨w.heap.size, 0, none⟩ = some (.int .i32 cr) ∧ W.cell? ⟨w.heap.size, 1, none⟩ = some (.int .i64 cfl) ∧ W.cell? ⟨w.heap.size, 2, none⟩ = some (.int .i64 cfg) ∧ W.cell? ⟨w.heap.size, 3, none⟩ = some (.int .i64 cbg) ∧ W.cell? ⟨w.heap.size, 4, none⟩ = some (.int .i64 1))) (by kernel_rfl) ?_ (fun hHeld => ?_)
  · ((try dsimp only); exact ⟨p2, c0, c1, c2, c3, c4⟩)
  refine wpAnyH_take (i := 0) (oi := { dst := some 33, op := Op.move (Operand.tmp 0), type := 28, pos := _, after := #[], guard := none }) (v := ?_) rfl (by kernel_rfl) (by kernel_rfl) (by kernel_rfl) (fun _ _ _ h => h) (Or.inl ⟨by rfl, ?_⟩) (by assumption) ?_
  rotate_left
  · ((intro w hSw); (try dsimp only at hSw); go_simp; (try with_reducible rfl))
  try simp only [Act.put, List.setIfInBounds_toArray, List.set_cons_zero, List.set_cons_succ]
  refine wpAnyH_take (i := 1) (oi := { dst := some 34, op := Op.nilCheck (Operand.tmp 33), type := 0, pos := _, after := #[{ on := 0, ground := Ground.data }], guard := none }) (v := ?_) rfl (by kernel_rfl) (by kernel_rfl) (by kernel_rfl) (fun _ _ _ h => h) (Or.inl ⟨by rfl, ?_⟩) (by assumption) ?_
  rotate_left
  · ((intro w hSw); (try dsimp only at hSw); go_simp; (try with_reducible rfl))
  try simp only [Act.put, List.setIfInBounds_toArray, List.set_cons_zero, List.set_cons_succ]
  refine wpAnyH_take (i := 2) (oi := { dst := some 35, op := Op.fieldAddr 43 (Operand.tmp 34) 2, type := 0, pos := _, after := #[{ on := 1, ground := Ground.data }], guard := none }) (v := ?_) rfl (by kernel_rfl) (by kernel_rfl) (by kernel_rfl) (fun _ _ _ h => h) (Or.inl ⟨by rfl, ?_⟩) (by assumption) ?_
  rotate_left
  · ((intro w hSw); (try dsimp only at hSw); go_simp; (try with_reducible rfl))
  try simp only [Act.put, List.setIfInBounds_toArray, List.set_cons_zero, List.set_cons_succ]
  refine wpAnyH_take (i := 3) (oi := { dst := some 36, op := Op.load 41 (Operand.tmp 35), type := 41, pos := _, after := #[{ on := 2, ground := Ground.data }], guard := none }) (v := ?_) rfl (by kernel_rfl) (by kernel_rfl) (by kernel_rfl) (fun _ _ _ h => h) (Or.inl ⟨by rfl, ?_⟩) (by assumption) ?_
  rotate_left
  · ((intro w hSw); (try dsimp only at hSw); go_simp; (try with_reducible rfl))
  try simp only [Act.put, List.setIfInBounds_toArray, List.set_cons_zero, List.set_cons_succ]
  refine wpAnyH_take (i := 4) (oi := { dst := some 37, op := Op.move (Operand.tmp 9), type := 3, pos := _, after := #[], guard := none }) (v := ?_) rfl (by kernel_rfl) (by kernel_rfl) (by kernel_rfl) (fun _ _ _ h => h) (Or.inl ⟨by rfl, ?_⟩) (by assumption) ?_
  rotate_left
  · ((intro w hSw); (try dsimp only at hSw); go_simp; (try with_reducible rfl))
  try simp only [Act.put, List.setIfInBounds_toArray, List.set_cons_zero, List.set_cons_succ]
  refine wpAnyH_take (i := 5) (oi := { dst := some 38, op := Op.move (Operand.tmp 0), type := 28, pos := _, after := #[], guard := none }) (v := ?_) rfl (by kernel_rfl) (by kernel_rfl) (by kernel_rfl) (fun _ _ _ h => h) (Or.inl ⟨by rfl, ?_⟩) (by assumption) ?_
  rotate_left
  · ((intro w hSw); (try dsimp only at hSw); go_simp; (try with_reducible rfl))
  try simp only [Act.put, List.setIfInBounds_toArray, List.set_cons_zero, List.set_cons_succ]
  refine wpAnyH_take (i := 6) (oi := { dst := some 39, op := Op.nilCheck (Operand.tmp 38), type := 0, pos := _, after := #[{ on := 5, ground := Ground.data }], guard := none }) (v := ?_) rfl (by kernel_rfl) (by kernel_rfl) (by kernel_rfl) (fun _ _ _ h => h) (Or.inl ⟨by rfl, ?_⟩) (by assumption) ?_
  rotate_left
  · ((intro w hSw); (try dsimp only at hSw); go_simp; (try with_reducible rfl))
  try simp only [Act.put, List.setIfInBounds_toArray, List.set_cons_zero, List.set_cons_succ]
  refine wpAnyH_take (i := 7) (oi := { dst := some 40, op := Op.fieldAddr 43 (Operand.tmp 39) 2, type := 0, pos := _, after := #[{ on := 6, ground := Ground.data }], guard := none }) (v := ?_) rfl (by kernel_rfl) (by kernel_rfl) (by kernel_rfl) (fun _ _ _ h => h) (Or.inl ⟨by rfl, ?_⟩) (by assumption) ?_
  rotate_left
  · ((intro w hSw); (try dsimp only at hSw); go_simp; (try with_reducible rfl))
  try simp only [Act.put, List.setIfInBounds_toArray, List.set_cons_zero, List.set_cons_succ]
  refine wpAnyH_take (i := 8) (oi := { dst := some 41, op := Op.load 41 (Operand.tmp 40), type := 41, pos := _, after := #[{ on := 7, ground := Ground.data }], guard := none }) (v := ?_) rfl (by kernel_rfl) (by kernel_rfl) (by kernel_rfl) (fun _ _ _ h => h) (Or.inl ⟨by rfl, ?_⟩) (by assumption) ?_
  rotate_left
  · ((intro w hSw); (try dsimp only at hSw); go_simp; (try with_reducible rfl))
  try simp only [Act.put, List.setIfInBounds_toArray, List.set_cons_zero, List.set_cons_succ]
  refine wpAnyH_take (i := 9) (oi := { dst := some 42, op := Op.move (Operand.tmp 9), type := 3, pos := _, after := #[{ on := 16, ground := Ground.gcOnly Departure.lateStores }], guard := none }) (v := ?_) rfl (by kernel_rfl) (by kernel_rfl) (by kernel_rfl) (fun _ _ _ h => h) (Or.inl ⟨by rfl, ?_⟩) (by assumption) ?_
  rotate_left
  · ((intro w hSw); (try dsimp only at hSw); go_simp; (try with_reducible rfl))
  try simp only [Act.put, List.setIfInBounds_toArray, List.set_cons_zero, List.set_cons_succ]
  refine wpAnyH_take (i := 10) (oi := { dst := some 43, op := Op.binOp BinOp.add 3 (Operand.tmp 42) (Operand.const (Value.int IntKind.i64 1)) 3, type := 3, pos := _, after := #[{ on := 9, ground := Ground.data }, { on := 16, ground := Ground.gcOnly Departure.lateStores }], guard := none }) (v := ?_) rfl (by kernel_rfl) (by kernel_rfl) (by kernel_rfl) (fun _ _ _ h => h) (Or.inl ⟨by rfl, ?_⟩) (by assumption) ?_
  rotate_left
  · ((intro w hSw); (try dsimp only at hSw); go_simp; (try with_reducible rfl))
  try simp only [Act.put, List.setIfInBounds_toArray, List.set_cons_zero, List.set_cons_succ]
  refine wpAnyH_take (i := 11) (oi := { dst := some 44, op := Op.load 37 (Operand.tmp 7), type := 37, pos := _, after := #[], guard := none }) (v := ?_) rfl (by kernel_rfl) (by kernel_rfl) (by kernel_rfl) (fun _ _ _ h => h) (Or.inl ⟨by rfl, ?_⟩) (by assumption) ?_
  rotate_left
  · ((intro w hSw); (try dsimp only at hSw); go_simp; (try with_reducible rfl))
  try simp only [Act.put, List.setIfInBounds_toArray, List.set_cons_zero, List.set_cons_succ]
  refine wpAnyH_take (i := 12) (oi := { dst := some 45, op := Op.fieldAddr 37 (Operand.tmp 7) 1, type := 0, pos := _, after := #[], guard := none }) (v := ?_) rfl (by kernel_rfl) (by kernel_rfl) (by kernel_rfl) (fun _ _ _ h => h) (Or.inl ⟨by rfl, ?_⟩) (by assumption) ?_
  rotate_left
  · ((intro w hSw); (try dsimp only at hSw); go_simp; (try with_reducible rfl))
  try simp only [Act.put, List.setIfInBounds_toArray, List.set_cons_zero, List.set_cons_succ]
  refine wpAnyH_take (i := 13) (oi := { dst := some 46, op := Op.load 35 (Operand.tmp 45), type := 35, pos := _, after := #[{ on := 12, ground := Ground.data }], guard := none }) (v := ?_) rfl (by kernel_rfl) (by kernel_rfl) (by kernel_rfl) (fun _ _ _ h => h) (Or.inl ⟨by rfl, ?_⟩) (by assumption) ?_
  rotate_left
  · ((intro w hSw); (try dsimp only at hSw); go_simp; (try with_reducible rfl))
  try simp only [Act.put, List.setIfInBounds_toArray, List.set_cons_zero, List.set_cons_succ]
  refine wpAnyH_take (i := 14) (oi := { dst := some 47, op := Op.build 37 #[(1, Operand.tmp 46), (2, Operand.const (Value.int IntKind.i64 2))], type := 37, pos := _, after := #[{ on := 13, ground := Ground.data }], guard := none }) (v := ?_) rfl (by kernel_rfl) (by kernel_rfl) (by kernel_rfl) (fun _ _ _ h => h) (Or.inl ⟨by rfl, ?_⟩) (by assumption) ?_
  rotate_left
  · ((intro w hSw); (try dsimp only at hSw); go_simp; (try with_reducible rfl))
  try simp only [Act.put, List.setIfInBounds_toArray, List.set_cons_zero, List.set_cons_succ]
  refine wpAnyH_take (i := 15) (oi := { dst := some 48, op := Op.indexAddr 41 (Operand.tmp 36) (Operand.tmp 37), type := 0, pos := _, after := #[{ on := 3, ground := Ground.data }, { on := 4, ground := Ground.data }, { on := 0, ground := Ground.phase }, { on := 1, ground := Ground.phase }, { on := 2, ground := Ground.phase }, { on := 3, ground := Ground.phase }, { on := 4, ground := Ground.phase }, { on := 5, ground := Ground.textOnly Departure.lateStores }, { on := 6, ground := Ground.textOnly Departure.lateStoresUnsure }, { on := 7, ground := Ground.textOnly Departure.lateStoresUnsure }, { on := 8, ground := Ground.phase }, { on := 9, ground := Ground.textOnly Departure.lateStores }, { on := 10, ground := Ground.textOnly Departure.lateStores }, { on := 11, ground := Ground.phase }, { on := 12, ground := Ground.textOnly Departure.lateStores }, { on := 13, ground := Ground.textOnly Departure.lateStores }, { on := 14, ground := Ground.textOnly Departure.lateStoresUnsure }], guard := none }) (v := ?_) rfl (by kernel_rfl) (by kernel_rfl) (by kernel_rfl) (fun _ _ _ h => h) (Or.inl ⟨by rfl, ?_⟩) (by assumption) ?_
  rotate_left
  · ((intro w hSw); (try dsimp only at hSw); go_simp; (try with_reducible rfl))
  try simp only [Act.put, List.setIfInBounds_toArray, List.set_cons_zero, List.set_cons_succ]
  refine wpAnyH_ready (rs := [16]) (by kernel_rfl) (by simp) ?_
  refine (AllReadyH.cons (o := { dst := none, op := Op.store 37 (Operand.tmp 48) (Operand.tmp 44), type := 0, pos := _, after := #[{ on := 15, ground := Ground.data }, { on := 11, ground := Ground.data }, { on := 0, ground := Ground.phase }, { on := 1, ground := Ground.phase }, { on := 2, ground := Ground.phase }, { on := 3, ground := Ground.phase }, { on := 4, ground := Ground.phase }, { on := 5, ground := Ground.textOnly Departure.lateStores }, { on := 6, ground := Ground.textOnly Departure.lateStoresUnsure }, { on := 7, ground := Ground.textOnly Departure.lateStoresUnsure }, { on := 8, ground := Ground.phase }, { on := 9, ground := Ground.textOnly Departure.lateStores }, { on := 10, ground := Ground.textOnly Departure.lateStores }, { on := 11, ground := Ground.phase }, { on := 12, ground := Ground.textOnly Departure.lateStores }, { on := 13, ground := Ground.textOnly Departure.lateStores }, { on := 14, ground := Ground.textOnly Departure.lateStoresUnsure }], guard := none }) rfl (fun K hK => ?_) AllReadyH.nil)
  rw [if_pos (by rfl)]
  refine wp_store_cell2 _ _ rfl b _ ⟨cr, cfl, cfg, cbg, 1⟩ rfl rfl (A := A ++ D) (Z := y :: E ++ Z) (c := x) HR1.out HQ.out ?_
  intro w5 hw5
  have HR5 := Lib.hid (show RB w5 b ((A ++ (D ++ [⟨cr, cfl, cfg, cbg, 1⟩])) ++ y :: (E ++ Z)) by rw [← hw5]; have := HR1.out.put ((A ++ D) ++ ⟨cr, cfl, cfg, cbg, 1⟩ :: (y :: E ++ Z)); simpa using this)
  have HK5 : Hid (Kp b b w1 w5) := Lib.hid (by rw [← hw5]; exact (Kp.drew (Kp.refl _ _ _)).put _)
  clear hw5
  refine hK.out _ _ ?_ (fun hHeld => ?_)
  · ((try dsimp only); exact ⟨cell_kept HK5.out p2 HNE.out HNE.out, cell_kept HK5.out c0 HNw.out HNw.out, cell_kept HK5.out c1 HNw.out HNw.out, cell_kept HK5.out c2 HNw.out HNw.out, cell_kept HK5.out c3 HNw.out HNw.out, cell_kept HK5.out c4 HNw.out HNw.out⟩)
  clear hK K
  try simp only [Act.put]
  refine wpAnyH_take (i := 17) (oi := { dst := some 49, op := Op.indexAddr 41 (Operand.tmp 41) (Operand.tmp 43), type := 0, pos := _, after := #[{ on := 8, ground := Ground.data }, { on := 10, ground := Ground.data }, { on := 0, ground := Ground.phase }, { on := 1, ground := Ground.phase }, { on := 2, ground := Ground.phase }, { on := 3, ground := Ground.phase }, { on := 4, ground := Ground.phase }, { on := 5, ground := Ground.phase }, { on := 6, ground := Ground.phase }, { on := 7, ground := Ground.phase }, { on := 8, ground := Ground.phase }, { on := 9, ground := Ground.phase }, { on := 10, ground := Ground.phase }, { on := 11, ground := Ground.phase }, { on := 12, ground := Ground.phase }, { on := 13, ground := Ground.phase }, { on := 14, ground := Ground.phase }, { on := 15, ground := Ground.phase }, { on := 16, ground := Ground.phase }], guard := none }) (v := ?_) rfl (by kernel_rfl) (by kernel_rfl) (by kernel_rfl) (fun _ _ _ h => h) (Or.inl ⟨by rfl, ?_⟩) (by assumption) ?_
  rotate_left
  · ((intro w hSw); (try dsimp only at hSw); go_simp; (try with_reducible rfl))
  try simp only [Act.put, List.setIfInBounds_toArray, List.set_cons_zero, List.set_cons_succ]
  refine wpAnyH_ready (rs := [18]) (by kernel_rfl) (by simp) ?_
  refine (AllReadyH.cons (o := { dst := none, op := Op.store 37 (Operand.tmp 49) (Operand.tmp 47), type := 0, pos := _, after := #[{ on := 17, ground := Ground.data }, { on := 14, ground := Ground.data }, { on := 16, ground := Ground.chain }, { on := 0, ground := Ground.phase }, { on := 1, ground := Ground.phase }, { on := 2, ground := Ground.phase }, { on := 3, ground := Ground.phase }, { on := 4, ground := Ground.phase }, { on := 5, ground := Ground.phase }, { on := 6, ground := Ground.phase }, { on := 7, ground := Ground.phase }, { on := 8, ground := Ground.phase }, { on := 9, ground := Ground.phase }, { on := 10, ground := Ground.phase }, { on := 11, ground := Ground.phase }, { on := 12, ground := Ground.phase }, { on := 13, ground := Ground.phase }, { on := 14, ground := Ground.phase }, { on := 15, ground := Ground.phase }, { on := 16, ground := Ground.phase }], guard := none }) rfl (fun K hK => ?_) AllReadyH.nil)
  rw [if_pos (by rfl)]
  refine wp_store_cell2 _ _ rfl b _ ⟨0, cfl, cfg, cbg, 2⟩ rfl rfl (A := A ++ (D ++ [⟨cr, cfl, cfg, cbg, 1⟩])) (Z := E ++ Z) (c := y) HR5.out HQ2.out ?_
  intro w6 hw6
  have HR3 := Lib.hid (show RB w6 b (A ++ (D ++ ⟨cr, cfl, cfg, cbg, 1⟩ :: ⟨0, cfl, cfg, cbg, 2⟩ :: E) ++ Z) by rw [← hw6]; have := HR5.out.put ((A ++ (D ++ [⟨cr, cfl, cfg, cbg, 1⟩])) ++ ⟨0, cfl, cfg, cbg, 2⟩ :: (E ++ Z)); simpa using this)
  have HK3 : Hid (Kp b b w1 w6) := Lib.hid (by rw [← hw6]; exact HK5.out.put _)
  clear hw6
  refine hK.out _ _ ?_ (fun hHeld => ?_)
  · ((try dsimp only); exact ⟨cell_kept HK3.out p2 HNE.out HNE.out, cell_kept HK3.out c0 HNw.out HNw.out, cell_kept HK3.out c1 HNw.out HNw.out, cell_kept HK3.out c2 HNw.out HNw.out, cell_kept HK3.out c3 HNw.out HNw.out, cell_kept HK3.out c4 HNw.out HNw.out⟩)
  clear hK K
  try simp only [Act.put]
  refine wpAnyH_done (by kernel_rfl) ?_ _
  go_wp2_with (go_at_call 55; (with_reducible refine (HMEND.out _ _ HB1.out HR3.out HK3.out).mono ?_); rintro e w7 ⟨rfl, hr6, hk6⟩; have HR6 := Lib.hid hr6; have HK6 := Lib.hid (HK3.out.trans hk6 (.inl rfl)); clear hr6 hk6)
  go_ret
  exact XQ.put HH.out rfl HB1.out HR6.out HK6.out (by simp only [List.length_append, mend_length, List.length_cons])
end Go.Proofs.Ytfdjmlncdbpkgaa.Xr
