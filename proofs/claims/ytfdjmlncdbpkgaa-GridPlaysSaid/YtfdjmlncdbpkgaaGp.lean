/- Package grid: Put. -/
import Derived.Test.YtfdjmlncdbpkgaaGh
set_option linter.unusedVariables false
namespace Go.Proofs.Ytfdjmlncdbpkgaa.Gp
open Go Go.RowKit Kit Gm Gv Fl Me Cp Sl Gg Gh

def mayC (c : Ce) : Bool := Cell.mayB c.r c.fl c.fg c.bg c.wd
theorem mayK (c : Ce) (v : Bool) (w : World) (h : mayC c = v) : Calls Try.prog 27 #[cvA c] w fun e w' => e = .returned (.bool v) ∧ Below w.heap.size w w' :=
  (Cell.may c.r c.fl c.fg c.bg c.wd w).mono fun e w' ⟨h1, h2⟩ => ⟨by rw [h1, ← h]; rfl, by rw [← h2]; exact ((Below.refl _ w).alloc (Nat.le_refl _) _).alloc (by simp) _⟩
/-- what Put makes of a row. -/
def putRow (C : Nat) (M : List Ce) (col : Nat) (c : Ce) : List Ce := if c.wd = 0 then M.set col c else if col + 1 = C then M.set col (Gm.blankC c.bg) else (M.set col c).set (col + 1) (rightC c)
theorem putRow_len (C : Nat) (M : List Ce) (col : Nat) (c : Ce) : (putRow C M col c).length = M.length := by
  unfold putRow; split
  · simp
  · split <;> simp
theorem row_split {L : List Ce} {q C : Nat} (h : q + C ≤ L.length) : L = L.take q ++ (L.drop q).take C ++ L.drop (q + C) := by
  rw [List.append_assoc, ← List.drop_drop, List.take_append_drop, List.take_append_drop]
theorem mid_split {M : List Ce} {k : Nat} (h : k < M.length) : M = M.take k ++ M[k] :: M.drop (k + 1) := by
  rw [← List.drop_eq_getElem_cons h, List.take_append_drop]
theorem set_split {M : List Ce} {k : Nat} (h : k < M.length) (c : Ce) : M.set k c = M.take k ++ c :: M.drop (k + 1) := by
  rw [List.set_eq_take_append_cons_drop, if_pos h]
theorem set_two {M : List Ce} {k : Nat} (h : k + 1 < M.length) (c d : Ce) : (M.set k c).set (k + 1) d = M.take k ++ c :: d :: M.drop (k + 2) := by
  rw [set_split (M := M.set k c) (by simpa using h), List.take_succ_eq_append_getElem (by simp; omega), List.drop_set_of_lt (by omega), List.take_set_of_le (Nat.le_refl _)]
  simp
theorem len_mid {A M N Z : List Ce} {C : Nat} (h : N.length = C) (h2 : M.length = C) : (A ++ mend N ++ Z).length = (A ++ M ++ Z).length := by
  rw [List.length_append, List.length_append, List.length_append, List.length_append, mend_length, h, h2]
theorem mendP (b : Nat) (A M Z : List Ce) (q n cap : Nat) (w : World) (h : RB w b (A ++ M ++ Z)) (hm : M.length = n) (hq : q = A.length * 5) (hn : n ≤ 1000000) :
    Calls Try.prog 46 #[.slice (some ⟨b, q, none⟩) n cap] w (RowP b (A ++ mend M ++ Z) w) := by
  subst hm hq; exact mendC b A M Z cap w h hn
/-- what is left when a row was written. -/
def GQ (v : Value) (w : World) (p b R C : Nat) (L' : List Ce) (e : Ending) (w' : World) : Prop := e = .returned v ∧ G w' p b R C L' ∧ Kp p b w w'
theorem G.put {w w0 w1 : World} {p b R C : Nat} {L L' : List Ce} (h : G w p b R C L) (hb : Below w.heap.size w w0) (hr : RB w1 b L') (hk : Kp b b w0 w1) (hl : L'.length = L.length) : G w1 p b R C L' ∧ Kp p b w w1 := by
  have h0 := h.then_ hb (Nat.le_refl _)
  have hs := hb.size
  refine ⟨⟨?_, hr, by rw [hl]; exact h.len, h.r1, h.r2, h.c1, h.c2⟩, (Kp.of hb).trans hk.wide (.inl rfl)⟩
  rw [hl]; exact hk.row h0.obj h.ne h.ne
set_option maxRecDepth 100000 in
/-- Put, of what may not be put. -/
theorem putNo (p b R C : Nat) (row col : Int) (c : Ce) (L : List Ce) (w : World) (h : G w p b R C L) (hz : (hasB R C row col && (mayC c && !(c.wd == 2))) = false) :
    Calls Try.prog 21 #[.pointer (some ⟨p, 0, none⟩), .int .i64 row, .int .i64 col, cvA c] w fun e w' => e = .returned (.bool false) ∧ Below w.heap.size w w' := by
  obtain ⟨cr, cfl, cfg, cbg, cwd⟩ := c
  dsimp only at hz
  have HG := Lib.hid (h.alloc (.cells #[.int .i32 cr, .int .i64 cfl, .int .i64 cfg, .int .i64 cbg, .int .i64 cwd] 37)).view
  have HB := Lib.hid (below_one w (.cells #[.int .i32 cr, .int .i64 cfl, .int .i64 cfg, .int .i64 cbg, .int .i64 cwd] 37))
  have HF := Lib.hid (heap_last w #[.int .i32 cr, .int .i64 cfl, .int .i64 cfg, .int .i64 cbg, .int .i64 cwd] 37)
  generalize hw0 : w.alloc (.cells #[.int .i32 cr, .int .i64 cfl, .int .i64 cfg, .int .i64 cbg, .int .i64 cwd] 37) = w0 at *
  obtain ⟨v, hv⟩ : ∃ v, v = hasB R C row col := ⟨_, rfl⟩
  obtain ⟨u, hu⟩ : ∃ u, mayC ⟨cr, cfl, cfg, cbg, cwd⟩ = u := ⟨_, rfl⟩
  rw [← hv, hu] at hz
  have h43 : Calls Try.prog 43 #[.pointer (some ⟨p, 0, none⟩), .int .i64 row, .int .i64 col] w0 fun e w' => e = .returned (.bool v) ∧ w0 = w' := by rw [hv]; exact hasC _ _ _ _ _ _ _ _ _ HG.out
  have H43 := Lib.hid h43
  have HM := Lib.hid (mayK ⟨cr, cfl, cfg, cbg, cwd⟩ u w0 hu)
  obtain ⟨c0, c1, c2, c3, c4⟩ := five HF.out
  clear h43 h hv hu
  cases v with
  | false =>
    clear hz
    go_enter Try.func21, Try.ntmps21
    go_wp2_with (first
      | (go_at_call 43; (with_reducible refine H43.out.mono ?_); rintro e w' ⟨rfl, rfl⟩))
    go_ret
    exact ⟨rfl, HB.out⟩
  | true =>
    cases u with
    | false =>
      clear hz
      go_enter Try.func21, Try.ntmps21
      go_wp2_with (first
        | (go_at_call 43; (with_reducible refine H43.out.mono ?_); rintro e w' ⟨rfl, rfl⟩)
        | (go_at_call 27; (with_reducible refine HM.out.mono ?_); rintro e w1 ⟨rfl, hb1⟩; have HB1 := Lib.hid (below_then HB.out hb1 HB.out.size); clear hb1))
      go_ret
      exact ⟨rfl, HB1.out⟩
    | true =>
      obtain rfl : cwd = 2 := by simpa using hz
      clear hz
      go_enter Try.func21, Try.ntmps21
      go_wp2_with (first
        | (go_at_call 43; (with_reducible refine H43.out.mono ?_); rintro e w' ⟨rfl, rfl⟩)
        | (go_at_call 27; (with_reducible refine HM.out.mono ?_); rintro e w1 ⟨rfl, hb1⟩; have HB1 := Lib.hid (below_then HB.out hb1 HB.out.size); replace c0 := Gg.cell_then hb1 (Nat.le_refl _) c0; replace c1 := Gg.cell_then hb1 (Nat.le_refl _) c1; replace c2 := Gg.cell_then hb1 (Nat.le_refl _) c2; replace c3 := Gg.cell_then hb1 (Nat.le_refl _) c3; replace c4 := Gg.cell_then hb1 (Nat.le_refl _) c4; clear hb1))
      go_ret
      exact ⟨rfl, HB1.out⟩
set_option maxRecDepth 100000 in
set_option maxHeartbeats 1000000 in
theorem putA (p b R C r col : Nat) (cr cfl cfg cbg : Int) (A D E Z : List Ce) (x : Ce) (w : World) (h : G w p b R C (A ++ (D ++ x :: E) ++ Z)) (hr : r < R) (hc : col < C) (hA : A.length = r * C) (hD : D.length = col) (hM : (D ++ x :: E).length = C) (hm : mayC ⟨cr, cfl, cfg, cbg, 0⟩ = true)  :
    Calls Try.prog 21 #[.pointer (some ⟨p, 0, none⟩), .int .i64 (r : Int), .int .i64 (col : Int), cvA ⟨cr, cfl, cfg, cbg, 0⟩] w (GQ (.bool true) w p b R C (A ++ mend (D ++ ⟨cr, cfl, cfg, cbg, 0⟩ :: E) ++ Z)) := by
  have HH := Lib.hid h
  have HG := Lib.hid (h.alloc (.cells #[.int .i32 cr, .int .i64 cfl, .int .i64 cfg, .int .i64 cbg, .int .i64 0] 37))
  have HB := Lib.hid (below_one w (.cells #[.int .i32 cr, .int .i64 cfl, .int .i64 cfg, .int .i64 cbg, .int .i64 0] 37))
  have HF := Lib.hid (heap_last w #[.int .i32 cr, .int .i64 cfl, .int .i64 cfg, .int .i64 cbg, .int .i64 0] 37)
  have hne := Nat.ne_of_gt h.b_lt
  generalize hw0 : w.alloc (.cells #[.int .i32 cr, .int .i64 cfl, .int .i64 cfg, .int .i64 cbg, .int .i64 0] 37) = w0 at *
  have hz : hasB R C (r : Int) (col : Int) = true := (has_t (by omega)).symm
  have h43 : Calls Try.prog 43 #[.pointer (some ⟨p, 0, none⟩), .int .i64 (r : Int), .int .i64 (col : Int)] w0 fun e w' => e = .returned (.bool true) ∧ w0 = w' := by rw [← hz]; exact hasC _ _ _ _ _ _ _ _ _ HG.out.view
  have H43 := Lib.hid h43
  have HM := Lib.hid (mayK ⟨cr, cfl, cfg, cbg, 0⟩ true w0 hm)
  have HR := Lib.hid hr
  obtain ⟨c0, c1, c2, c3, c4⟩ := five HF.out
  have h200 := h.c2
  have hcapn : (A ++ (D ++ x :: E) ++ Z).length = A.length + C + Z.length := by rw [List.length_append, List.length_append, hM]
  have HQ := Lib.hid (show r * C * 5 + col * 5 = (A ++ D).length * 5 by rw [List.length_append, hA, hD, Nat.add_mul])
  have HL := Lib.hid (show (D ++ ⟨cr, cfl, cfg, cbg, 0⟩ :: E).length = C by rw [← hM]; simp)
  have HL2 := Lib.hid (show C ≤ 1000000 by omega)
  have h44 := fun w1 (hg : G w1 p b R C (A ++ (D ++ x :: E) ++ Z)) => rowC p b R C _ r _ w1 hg.view hr
  have HAq := Lib.hid (show r * C * 5 = A.length * 5 by rw [hA])
  have hcap2 : col < (A ++ (D ++ x :: E) ++ Z).length - r * C := by rw [hcapn, hA]; omega
  generalize (A ++ (D ++ x :: E) ++ Z).length = n0 at *
  have H44 := Lib.hid h44
  generalize r * C = q at *
  have HNE := Lib.hid hne
  have HM0 := Lib.hid hM
  have HH0 : Hid (G w p b R C (A ++ (D ++ x :: E) ++ Z)) := HH
  clear h43 h44 h hz hr hA hD hM hcapn hm hne
  go_enter Try.func21, Try.ntmps21
  go_wp2_with (first
    | (go_at_call 43; (with_reducible refine H43.out.mono ?_); rintro e w' ⟨rfl, rfl⟩)
    | (go_at_call 27; (with_reducible refine HM.out.mono ?_); rintro e w1 ⟨rfl, hb1⟩; have HB1 := Lib.hid (below_then HB.out hb1 HB.out.size); have HG1 := Lib.hid (HG.out.then_ hb1 (Nat.le_refl _)); replace c0 := Gg.cell_then hb1 (Nat.le_refl _) c0; replace c1 := Gg.cell_then hb1 (Nat.le_refl _) c1; replace c2 := Gg.cell_then hb1 (Nat.le_refl _) c2; replace c3 := Gg.cell_then hb1 (Nat.le_refl _) c3; replace c4 := Gg.cell_then hb1 (Nat.le_refl _) c4; clear hb1)
    | (go_at_call 44; (with_reducible refine (H44.out _ HG1.out).mono ?_); rintro e w2 ⟨rfl, n1, hn1⟩; have HG2 := Lib.hid (show G w2 p b R C _ from hn1 ▸ HG1.out.drewN n1); have HB2 := Lib.hid (show Below w.heap.size w w2 from hn1 ▸ below_drewN HB1.out n1); rw [show w1.cell? = w2.cell? from by rw [← hn1]; rfl] at c0 c1 c2 c3 c4; have HRW := Lib.hid (show RB w2 b ((A ++ D) ++ x :: (E ++ Z)) by have := HG2.out.row; simpa using this); clear hn1 HG1 HB1 HG HB H44 HM H43)
    | ((with_reducible refine wpList_store_cell rfl _ _ rfl b _ ⟨cr, cfl, cfg, cbg, 0⟩ rfl rfl HRW.out HQ.out ?_); intro w3 hw3; have HR3 := Lib.hid (show RB w3 b (A ++ (D ++ ⟨cr, cfl, cfg, cbg, 0⟩ :: E) ++ Z) by rw [← hw3]; have := HRW.out.put ((A ++ D) ++ ⟨cr, cfl, cfg, cbg, 0⟩ :: (E ++ Z)); simpa using this); have HK3 := Lib.hid (show Kp b b w2 w3 by rw [← hw3]; exact (Kp.refl _ _ _).put _); clear hw3)
    | (go_at_call 46; (with_reducible refine (mendP b A (D ++ ⟨cr, cfl, cfg, cbg, 0⟩ :: E) Z _ _ _ _ HR3.out HL.out HAq.out HL2.out).mono ?_); rintro e w6 ⟨rfl, hr6, hk6⟩; have HR6 := Lib.hid hr6; have HK6 := Lib.hid (HK3.out.trans hk6 (.inl rfl)); clear hr6 hk6))
  go_ret
  obtain ⟨g1, g2⟩ := G.put HH.out HB2.out HR6.out HK6.out (len_mid HL.out HM0.out)
  exact ⟨rfl, g1, g2⟩
set_option maxRecDepth 100000 in
set_option maxHeartbeats 1000000 in
theorem putB (p b R C r col : Nat) (cr cfl cfg cbg : Int) (A D E Z : List Ce) (x : Ce) (w : World) (h : G w p b R C (A ++ (D ++ x :: E) ++ Z)) (hr : r < R) (hc : col < C) (hA : A.length = r * C) (hD : D.length = col) (hM : (D ++ x :: E).length = C) (hm : mayC ⟨cr, cfl, cfg, cbg, 1⟩ = true) (hl : col + 1 = C) :
    Calls Try.prog 21 #[.pointer (some ⟨p, 0, none⟩), .int .i64 (r : Int), .int .i64 (col : Int), cvA ⟨cr, cfl, cfg, cbg, 1⟩] w (GQ (.bool true) w p b R C (A ++ mend (D ++ ⟨32, 0, 0, cbg, 0⟩ :: E) ++ Z)) := by
  have HH := Lib.hid h
  have HG := Lib.hid (h.alloc (.cells #[.int .i32 cr, .int .i64 cfl, .int .i64 cfg, .int .i64 cbg, .int .i64 1] 37))
  have HB := Lib.hid (below_one w (.cells #[.int .i32 cr, .int .i64 cfl, .int .i64 cfg, .int .i64 cbg, .int .i64 1] 37))
  have HF := Lib.hid (heap_last w #[.int .i32 cr, .int .i64 cfl, .int .i64 cfg, .int .i64 cbg, .int .i64 1] 37)
  have hne := Nat.ne_of_gt h.b_lt
  generalize hw0 : w.alloc (.cells #[.int .i32 cr, .int .i64 cfl, .int .i64 cfg, .int .i64 cbg, .int .i64 1] 37) = w0 at *
  have hz : hasB R C (r : Int) (col : Int) = true := (has_t (by omega)).symm
  have h43 : Calls Try.prog 43 #[.pointer (some ⟨p, 0, none⟩), .int .i64 (r : Int), .int .i64 (col : Int)] w0 fun e w' => e = .returned (.bool true) ∧ w0 = w' := by rw [← hz]; exact hasC _ _ _ _ _ _ _ _ _ HG.out.view
  have H43 := Lib.hid h43
  have HM := Lib.hid (mayK ⟨cr, cfl, cfg, cbg, 1⟩ true w0 hm)
  have HR := Lib.hid hr
  obtain ⟨c0, c1, c2, c3, c4⟩ := five HF.out
  have h200 := h.c2
  have hcapn : (A ++ (D ++ x :: E) ++ Z).length = A.length + C + Z.length := by rw [List.length_append, List.length_append, hM]
  have HQ := Lib.hid (show r * C * 5 + col * 5 = (A ++ D).length * 5 by rw [List.length_append, hA, hD, Nat.add_mul])
  have HL := Lib.hid (show (D ++ ⟨32, 0, 0, cbg, 0⟩ :: E).length = C by rw [← hM]; simp)
  have HL2 := Lib.hid (show C ≤ 1000000 by omega)
  have h44 := fun w1 (hg : G w1 p b R C (A ++ (D ++ x :: E) ++ Z)) => rowC p b R C _ r _ w1 hg.view hr
  have HAq := Lib.hid (show r * C * 5 = A.length * 5 by rw [hA])
  have hcap2 : col < (A ++ (D ++ x :: E) ++ Z).length - r * C := by rw [hcapn, hA]; omega
  generalize (A ++ (D ++ x :: E) ++ Z).length = n0 at *
  have H44 := Lib.hid h44
  generalize r * C = q at *
  have HNE := Lib.hid hne
  have HM0 := Lib.hid hM
  have HH0 : Hid (G w p b R C (A ++ (D ++ x :: E) ++ Z)) := HH
  clear h43 h44 h hz hr hA hD hM hcapn hm hne
  have z1 : ((col : Int) == (C : Int) - 1) = true := by simp; omega
  clear hl
  obtain ⟨p0, p1, p2⟩ := three HG.out.obj
  go_enter Try.func21, Try.ntmps21
  go_wp2_with (first
    | (go_at_call 43; (with_reducible refine H43.out.mono ?_); rintro e w' ⟨rfl, rfl⟩)
    | (go_at_call 27; (with_reducible refine HM.out.mono ?_); rintro e w1 ⟨rfl, hb1⟩; have HB1 := Lib.hid (below_then HB.out hb1 HB.out.size); have HG1 := Lib.hid (HG.out.then_ hb1 (Nat.le_refl _)); replace c0 := Gg.cell_then hb1 (Nat.le_refl _) c0; replace c1 := Gg.cell_then hb1 (Nat.le_refl _) c1; replace c2 := Gg.cell_then hb1 (Nat.le_refl _) c2; replace c3 := Gg.cell_then hb1 (Nat.le_refl _) c3; replace c4 := Gg.cell_then hb1 (Nat.le_refl _) c4; replace p0 := Gg.cell_then hb1 (Nat.le_refl _) p0; replace p1 := Gg.cell_then hb1 (Nat.le_refl _) p1; replace p2 := Gg.cell_then hb1 (Nat.le_refl _) p2; clear hb1)
    | (go_at_call 44; (with_reducible refine (H44.out _ HG1.out).mono ?_); rintro e w2 ⟨rfl, n1, hn1⟩; have HG2 := Lib.hid (show G w2 p b R C _ from hn1 ▸ HG1.out.drewN n1); have HB2 := Lib.hid (show Below w.heap.size w w2 from hn1 ▸ below_drewN HB1.out n1); rw [show w1.cell? = w2.cell? from by rw [← hn1]; rfl] at c0 c1 c2 c3 c4 p0 p1 p2; have HRW := Lib.hid (show RB w2 b ((A ++ D) ++ x :: (E ++ Z)) by have := HG2.out.row; simpa using this); clear hn1 HG1 HB1 HG HB H44 HM H43)
    | (go_at_call 28; (with_reducible refine (cBlankB cfl cfg cbg _).mono ?_); rintro e w4 ⟨rfl, hb4⟩; have HG4 := Lib.hid (HG2.out.then_ hb4 (Nat.le_refl _)); have HB4 := Lib.hid (below_then HB2.out hb4 HB2.out.size); have HRW4 := Lib.hid (HRW.out.then_ hb4 (Nat.le_refl _)); clear hb4 HG2 HB2 HRW)
    | ((with_reducible refine wpList_store_cell rfl _ _ rfl b _ ⟨32, 0, 0, cbg, 0⟩ rfl rfl HRW4.out HQ.out ?_); intro w3 hw3; have HR3 := Lib.hid (show RB w3 b (A ++ (D ++ ⟨32, 0, 0, cbg, 0⟩ :: E) ++ Z) by rw [← hw3]; have := HRW4.out.put ((A ++ D) ++ ⟨32, 0, 0, cbg, 0⟩ :: (E ++ Z)); simpa using this); have HK3 := Lib.hid (show Kp b b w4 w3 by rw [← hw3]; exact (Kp.refl _ _ _).put _); clear hw3)
    | (go_at_call 46; (with_reducible refine (mendP b A (D ++ ⟨32, 0, 0, cbg, 0⟩ :: E) Z _ _ _ _ HR3.out HL.out HAq.out HL2.out).mono ?_); rintro e w6 ⟨rfl, hr6, hk6⟩; have HR6 := Lib.hid hr6; have HK6 := Lib.hid (HK3.out.trans hk6 (.inl rfl)); clear hr6 hk6))
  go_ret
  obtain ⟨g1, g2⟩ := G.put HH.out HB4.out HR6.out HK6.out (len_mid HL.out HM0.out)
  exact ⟨rfl, g1, g2⟩
set_option maxRecDepth 100000 in
set_option maxHeartbeats 1000000 in
theorem putC (p b R C r col : Nat) (cr cfl cfg cbg : Int) (A D E Z : List Ce) (x y : Ce) (w : World) (h : G w p b R C (A ++ (D ++ x :: y :: E) ++ Z)) (hr : r < R) (hc : col < C) (hA : A.length = r * C) (hD : D.length = col) (hM : (D ++ x :: y :: E).length = C) (hm : mayC ⟨cr, cfl, cfg, cbg, 1⟩ = true) (hl : col + 1 < C) :
    Calls Try.prog 21 #[.pointer (some ⟨p, 0, none⟩), .int .i64 (r : Int), .int .i64 (col : Int), cvA ⟨cr, cfl, cfg, cbg, 1⟩] w (GQ (.bool true) w p b R C (A ++ mend (D ++ ⟨cr, cfl, cfg, cbg, 1⟩ :: ⟨0, cfl, cfg, cbg, 2⟩ :: E) ++ Z)) := by
  have HH := Lib.hid h
  have HG := Lib.hid (h.alloc (.cells #[.int .i32 cr, .int .i64 cfl, .int .i64 cfg, .int .i64 cbg, .int .i64 1] 37))
  have HB := Lib.hid (below_one w (.cells #[.int .i32 cr, .int .i64 cfl, .int .i64 cfg, .int .i64 cbg, .int .i64 1] 37))
  have HF := Lib.hid (heap_last w #[.int .i32 cr, .int .i64 cfl, .int .i64 cfg, .int .i64 cbg, .int .i64 1] 37)
  have hne := Nat.ne_of_gt h.b_lt
  generalize hw0 : w.alloc (.cells #[.int .i32 cr, .int .i64 cfl, .int .i64 cfg, .int .i64 cbg, .int .i64 1] 37) = w0 at *
  have hz : hasB R C (r : Int) (col : Int) = true := (has_t (by omega)).symm
  have h43 : Calls Try.prog 43 #[.pointer (some ⟨p, 0, none⟩), .int .i64 (r : Int), .int .i64 (col : Int)] w0 fun e w' => e = .returned (.bool true) ∧ w0 = w' := by rw [← hz]; exact hasC _ _ _ _ _ _ _ _ _ HG.out.view
  have H43 := Lib.hid h43
  have HM := Lib.hid (mayK ⟨cr, cfl, cfg, cbg, 1⟩ true w0 hm)
  have HR := Lib.hid hr
  obtain ⟨c0, c1, c2, c3, c4⟩ := five HF.out
  have h200 := h.c2
  have hcapn : (A ++ (D ++ x :: y :: E) ++ Z).length = A.length + C + Z.length := by rw [List.length_append, List.length_append, hM]
  have HQ := Lib.hid (show r * C * 5 + col * 5 = (A ++ D).length * 5 by rw [List.length_append, hA, hD, Nat.add_mul])
  have HL := Lib.hid (show (D ++ ⟨cr, cfl, cfg, cbg, 1⟩ :: ⟨0, cfl, cfg, cbg, 2⟩ :: E).length = C by rw [← hM]; simp)
  have HQ2 := Lib.hid (show r * C * 5 + (col + 1) * 5 = (A ++ (D ++ [(⟨cr, cfl, cfg, cbg, 1⟩ : Ce)])).length * 5 by simp only [List.length_append, List.length_singleton]; rw [hA, hD]; exact (Nat.add_mul _ _ _).symm)
  have HL2 := Lib.hid (show C ≤ 1000000 by omega)
  have h44 := fun w1 (hg : G w1 p b R C (A ++ (D ++ x :: y :: E) ++ Z)) => rowC p b R C _ r _ w1 hg.view hr
  have HAq := Lib.hid (show r * C * 5 = A.length * 5 by rw [hA])
  have hcap2 : col < (A ++ (D ++ x :: y :: E) ++ Z).length - r * C := by rw [hcapn, hA]; omega
  generalize (A ++ (D ++ x :: y :: E) ++ Z).length = n0 at *
  have H44 := Lib.hid h44
  generalize r * C = q at *
  have HNE := Lib.hid hne
  have HM0 := Lib.hid hM
  have HH0 : Hid (G w p b R C (A ++ (D ++ x :: y :: E) ++ Z)) := HH
  clear h43 h44 h hz hr hA hD hM hcapn hm hne
  have z1 : ((col : Int) == (C : Int) - 1) = false := by simp; omega
  have z3 := hl
  clear hl
  obtain ⟨p0, p1, p2⟩ := three HG.out.obj
  go_enter Try.func21, Try.ntmps21
  go_wp2_with (first
    | (go_at_call 43; (with_reducible refine H43.out.mono ?_); rintro e w' ⟨rfl, rfl⟩)
    | (go_at_call 27; (with_reducible refine HM.out.mono ?_); rintro e w1 ⟨rfl, hb1⟩; have HB1 := Lib.hid (below_then HB.out hb1 HB.out.size); have HG1 := Lib.hid (HG.out.then_ hb1 (Nat.le_refl _)); replace c0 := Gg.cell_then hb1 (Nat.le_refl _) c0; replace c1 := Gg.cell_then hb1 (Nat.le_refl _) c1; replace c2 := Gg.cell_then hb1 (Nat.le_refl _) c2; replace c3 := Gg.cell_then hb1 (Nat.le_refl _) c3; replace c4 := Gg.cell_then hb1 (Nat.le_refl _) c4; replace p0 := Gg.cell_then hb1 (Nat.le_refl _) p0; replace p1 := Gg.cell_then hb1 (Nat.le_refl _) p1; replace p2 := Gg.cell_then hb1 (Nat.le_refl _) p2; clear hb1)
    | (go_at_call 44; (with_reducible refine (H44.out _ HG1.out).mono ?_); rintro e w2 ⟨rfl, n1, hn1⟩; have HG2 := Lib.hid (show G w2 p b R C _ from hn1 ▸ HG1.out.drewN n1); have HB2 := Lib.hid (show Below w.heap.size w w2 from hn1 ▸ below_drewN HB1.out n1); rw [show w1.cell? = w2.cell? from by rw [← hn1]; rfl] at c0 c1 c2 c3 c4 p0 p1 p2; have HRW := Lib.hid (show RB w2 b ((A ++ D) ++ x :: (y :: E ++ Z)) by have := HG2.out.row; simpa using this); clear hn1 HG1 HB1 HG HB H44 HM H43)
    | ((with_reducible refine wpList_store_cell rfl _ _ rfl b _ ⟨cr, cfl, cfg, cbg, 1⟩ rfl rfl HRW.out HQ.out ?_); intro w5 hw5; have HRW5 := Lib.hid (show RB w5 b ((A ++ (D ++ [⟨cr, cfl, cfg, cbg, 1⟩])) ++ y :: (E ++ Z)) by rw [← hw5]; have := HRW.out.put ((A ++ D) ++ ⟨cr, cfl, cfg, cbg, 1⟩ :: (y :: E ++ Z)); simpa using this); have HK5 := Lib.hid (show Kp b b w2 w5 by rw [← hw5]; exact (Kp.refl _ _ _).put _); replace c1 := cell_kept HK5.out c1 HNE.out HNE.out; replace c2 := cell_kept HK5.out c2 HNE.out HNE.out; replace c3 := cell_kept HK5.out c3 HNE.out HNE.out; clear hw5 HRW c0 c4)
    | ((with_reducible refine wpList_store_cell rfl _ _ rfl b _ ⟨0, cfl, cfg, cbg, 2⟩ rfl rfl HRW5.out HQ2.out ?_); intro w3 hw3; have HR3 := Lib.hid (show RB w3 b (A ++ (D ++ ⟨cr, cfl, cfg, cbg, 1⟩ :: ⟨0, cfl, cfg, cbg, 2⟩ :: E) ++ Z) by rw [← hw3]; have := HRW5.out.put ((A ++ (D ++ [⟨cr, cfl, cfg, cbg, 1⟩])) ++ ⟨0, cfl, cfg, cbg, 2⟩ :: (E ++ Z)); simpa using this); have HK3 := Lib.hid (show Kp b b w2 w3 by rw [← hw3]; exact HK5.out.put _); clear hw3)
    | (go_at_call 46; (with_reducible refine (mendP b A (D ++ ⟨cr, cfl, cfg, cbg, 1⟩ :: ⟨0, cfl, cfg, cbg, 2⟩ :: E) Z _ _ _ _ HR3.out HL.out HAq.out HL2.out).mono ?_); rintro e w6 ⟨rfl, hr6, hk6⟩; have HR6 := Lib.hid hr6; have HK6 := Lib.hid (HK3.out.trans hk6 (.inl rfl)); clear hr6 hk6))
  go_ret
  obtain ⟨g1, g2⟩ := G.put HH.out HB2.out HR6.out HK6.out (len_mid HL.out HM0.out)
  exact ⟨rfl, g1, g2⟩
end Go.Proofs.Ytfdjmlncdbpkgaa.Gp
