/- Package grid: Shift. -/
import Derived.Test.YtfdjmlncdbpkgaaGr
set_option linter.unusedVariables false
namespace Go.Proofs.Ytfdjmlncdbpkgaa.Gs
open Go Go.RowKit Kit Gm Gv Fl Me Cp Sl Gg Gh Gp Gq Gk
open Gr (unit attrB_)

/-- n, within -m and m. -/
def heldZ (n m : Int) : Int := min (max n (-m)) m
theorem heldC (n m : Int) (w : World) (h0 : 0 ≤ m) (h1 : m ≤ 1000000) (z : Int) (hz : heldZ n m = z) : Calls Try.prog 49 #[.int .i64 n, .int .i64 m] w fun e w' => e = .returned (.int .i64 z) ∧ w = w' := by
  obtain ⟨x, hx⟩ : ∃ x, x = max n (-m) := ⟨_, rfl⟩
  have k1 : (if n < -m then -m else n) = x := by rw [hx]; split <;> omega
  have k2 : (if m < x then m else x) = z := by rw [← hz, hx]; unfold heldZ; split <;> omega
  clear hz hx
  go_enter Try.func49, Try.ntmps49
  go_wp2
  go_ret
  exact ⟨rfl, rfl⟩
def shiftRow (C : Nat) (M : List Ce) (col : Nat) (n : Int) (x : Ce) : List Ce := M.take col ++ slideL (M.drop col) (-(heldZ n ((C - col : Nat) : Int))) x
/-- the cells behind a Shift. -/
def shiftL (R C : Nat) (L : List Ce) (row col n af ag ab : Int) : List Ce :=
  if hasB R C row col && Cell.attrB af ag ab then L.take (row.toNat * C) ++ mend (shiftRow C (Gq.rowAt L (row.toNat * C) C) col.toNat n (Gm.blankC ab)) ++ L.drop (row.toNat * C + C) else L
set_option maxRecDepth 100000 in
set_option maxHeartbeats 1000000 in
/-- Shift, of nothing. -/
theorem shiftNo (p b R C : Nat) (row col n af ag ab : Int) (L : List Ce) (w : World) (h : G w p b R C L) (v : Bool) (hv : hasB R C row col = v) (y : Bool) (hy : Cell.attrB af ag ab = y) (hz : (v && y) = false) :
    Calls Try.prog 23 #[.pointer (some ⟨p, 0, none⟩), .int .i64 row, .int .i64 col, .int .i64 n, .agg #[.int .i64 af, .int .i64 ag, .int .i64 ab]] w fun e w' => e = .returned unit ∧ Below w.heap.size w w' := by
  have HG := Lib.hid (h.alloc (.cells #[.int .i64 af, .int .i64 ag, .int .i64 ab] 35))
  have HB := Lib.hid (below_one w (.cells #[.int .i64 af, .int .i64 ag, .int .i64 ab] 35))
  have HF := Lib.hid (heap_last w #[.int .i64 af, .int .i64 ag, .int .i64 ab] 35)
  generalize hw0 : w.alloc (.cells #[.int .i64 af, .int .i64 ag, .int .i64 ab] 35) = w0 at *
  obtain ⟨a0, a1, a2⟩ := three HF.out
  have HV := Lib.hid hv
  have HY := Lib.hid hy
  have H43 := Lib.hid (show Calls Try.prog 43 #[.pointer (some ⟨p, 0, none⟩), .int .i64 row, .int .i64 col] w0 fun e w' => e = .returned (.bool v) ∧ w0 = w' by rw [← HV.out]; exact hasC p b R C _ L row col w0 HG.out.view)
  clear h hv hy
  cases v with
  | false =>
    clear hz
    go_enter Try.func23, Try.ntmps23
    go_wp2_with (go_at_call 43; (with_reducible refine H43.out.mono ?_); rintro e w' ⟨rfl, rfl⟩)
    exact bodyPost_ret (v := .tuple #[]) (by simp [results, Try.results23, go_sem]) rfl ⟨rfl, HB.out⟩
  | true =>
    obtain rfl : y = false := by simpa using hz
    clear hz
    go_enter Try.func23, Try.ntmps23
    go_wp2_with (first
      | (go_at_call 43; (with_reducible refine H43.out.mono ?_); rintro e w' ⟨rfl, rfl⟩)
      | (go_at_call 30; (with_reducible refine (attrB_ af ag ab false HY.out _).mono ?_); rintro e w1 ⟨rfl, hb1⟩; have HB1 := Lib.hid (below_then HB.out hb1 HB.out.size); clear hb1))
    exact bodyPost_ret (v := .tuple #[]) (by simp [results, Try.results23, go_sem]) rfl ⟨rfl, HB1.out⟩
set_option maxRecDepth 100000 in
set_option maxHeartbeats 1000000 in
/-- Shift. -/
theorem shiftYes (p b R C r k : Nat) (n af ag ab : Int) (A M Z : List Ce) (w : World) (h : G w p b R C (A ++ M ++ Z)) (hr : r < R) (hk : k < C) (hA : A.length = r * C) (hM : M.length = C) (hy : Cell.attrB af ag ab = true) :
    Calls Try.prog 23 #[.pointer (some ⟨p, 0, none⟩), .int .i64 (r : Int), .int .i64 (k : Int), .int .i64 n, .agg #[.int .i64 af, .int .i64 ag, .int .i64 ab]] w (GQ unit w p b R C (A ++ mend (shiftRow C M k n (Gm.blankC ab)) ++ Z)) := by
  have HH := Lib.hid h
  have HG := Lib.hid (h.alloc (.cells #[.int .i64 af, .int .i64 ag, .int .i64 ab] 35))
  have HB := Lib.hid (below_one w (.cells #[.int .i64 af, .int .i64 ag, .int .i64 ab] 35))
  have HF := Lib.hid (heap_last w #[.int .i64 af, .int .i64 ag, .int .i64 ab] 35)
  generalize hw0 : w.alloc (.cells #[.int .i64 af, .int .i64 ag, .int .i64 ab] 35) = w0 at *
  obtain ⟨b0, b1, b2⟩ := three HF.out
  obtain ⟨p0, p1, p2⟩ := three HG.out.obj
  have h200 : C ≤ 200 := h.c2
  have hn : (A ++ M ++ Z).length = A.length + C + Z.length := by rw [List.length_append, List.length_append, hM]
  have hcap : k ≤ C := by omega
  have hcap2 : ¬ (A ++ M ++ Z).length - r * C = k := by rw [hn, hA]; omega
  have HCap := Lib.hid (show C - k ≤ (A ++ M ++ Z).length - r * C - k ∧ (A ++ M ++ Z).length - r * C - k ≤ 9223372036854775000 by have := h.small; rw [hn, hA] at *; omega)
  have HY := Lib.hid hy
  have hz : hasB R C (r : Int) (k : Int) = true := (has_t (by omega)).symm
  have H43 := Lib.hid (show Calls Try.prog 43 #[.pointer (some ⟨p, 0, none⟩), .int .i64 (r : Int), .int .i64 (k : Int)] w0 fun e w' => e = .returned (.bool true) ∧ w0 = w' by rw [← hz]; exact hasC p b R C _ _ (r : Int) (k : Int) w0 HG.out.view)
  have H44 := Lib.hid (fun w1 (hg : G w1 p b R C (A ++ M ++ Z)) => rowC p b R C _ r _ w1 hg.view hr)
  obtain ⟨m, hm⟩ : ∃ m, m = C - k := ⟨_, rfl⟩
  obtain ⟨H, hH⟩ : ∃ H, heldZ n (m : Int) = H := ⟨_, rfl⟩
  have hb1 : -(m : Int) ≤ H ∧ H ≤ m := by rw [← hH]; unfold heldZ; omega
  have H49 := Lib.hid (fun w1 => heldC n (m : Int) w1 (by omega) (by omega) H hH)
  have HAL := Lib.hid (show A ++ shiftRow C M k n (Gm.blankC ab) ++ Z = (A ++ M.take k) ++ slideL (M.drop k) (-H) (Gm.blankC ab) ++ Z by unfold shiftRow; rw [← hm, hH]; simp)
  have HML := Lib.hid (show A ++ M ++ Z = (A ++ M.take k) ++ M.drop k ++ Z by simp)
  have HEL := Lib.hid (show (shiftRow C M k n (Gm.blankC ab)).length = C by
    have e := slideL_len (M.drop k) (-H) (Gm.blankC ab) (by rw [List.length_drop]; omega) (by rw [List.length_drop]; omega)
    unfold shiftRow; rw [← hm, hH, List.length_append, List.length_take, e, List.length_drop, hM]; omega)
  have HSl := Lib.hid (fun (w1 : World) (cap : Nat) (hb : RB w1 b ((A ++ M.take k) ++ M.drop k ++ Z)) (hc : m ≤ cap ∧ cap ≤ 9223372036854775000) (z : Int) (hz : z = -H) => slideC b (A ++ M.take k) (M.drop k) Z m cap z ⟨32, 0, 0, ab, 0⟩ w1 hb (by rw [List.length_drop, hM]; exact hm) (by omega) (by omega) hc.1 hc.2 (by omega) (by omega))
  have HQ := Lib.hid (show r * C * 5 + k * 5 = (A ++ M.take k).length * 5 by rw [List.length_append, List.length_take, hA, hM, Nat.min_eq_left (by omega), Nat.add_mul])
  have HAq := Lib.hid (show r * C * 5 = A.length * 5 by rw [hA])
  have HC2 := Lib.hid (show C ≤ 1000000 by omega)
  have HM0 := Lib.hid hM
  have s1 : IntKind.i64.wrap ((C : Int) - (k : Int)) = (m : Int) := by rw [show (C : Int) - (k : Int) = (m : Int) by omega]; exact IntWalk.i64_in _ (by omega)
  have s2 : IntKind.i64.wrap (-H) = -H := IntWalk.i64_in _ (by omega)
  have s3 : C - k = m := hm.symm
  rw [s3] at HCap
  generalize (A ++ M ++ Z).length = n0 at *
  generalize hq : r * C = q at *
  have HNE := Lib.hid (Nat.ne_of_gt h.b_lt)
  have HNP := Lib.hid h.ne
  clear h hy hz hr hA hM hn hq hb1 hH hm
  go_enter Try.func23, Try.ntmps23
  go_wp2_with (first
    | (go_at_call 43; (with_reducible refine H43.out.mono ?_); rintro e w' ⟨rfl, rfl⟩)
    | (go_at_call 30; (with_reducible refine (attrB_ af ag ab true HY.out _).mono ?_); rintro e w1 ⟨rfl, hb1⟩; have HB1 := Lib.hid (below_then HB.out hb1 HB.out.size); have HG1 := Lib.hid (HG.out.then_ hb1 (Nat.le_refl _)); replace b0 := Gg.cell_then hb1 (Nat.le_refl _) b0; replace b1 := Gg.cell_then hb1 (Nat.le_refl _) b1; replace b2 := Gg.cell_then hb1 (Nat.le_refl _) b2; replace p1 := Gg.cell_then hb1 (Nat.le_refl _) p1; clear hb1 H43 HG HB)
    | (go_at_call 44; (with_reducible refine (H44.out _ HG1.out).mono ?_); rintro e w2 ⟨rfl, n1, hn1⟩; have HG2 := Lib.hid (show G w2 p b R C _ from hn1 ▸ HG1.out.drewN n1); have HB2 := Lib.hid (show Below w.heap.size w w2 from hn1 ▸ below_drewN HB1.out n1); rw [show w1.cell? = w2.cell? from by rw [← hn1]; rfl] at b0 b1 b2 p1; clear hn1 HG1 HB1 H44))
  have HRB := Lib.hid (show RB w2.drew b ((A ++ M.take k) ++ M.drop k ++ Z) by rw [← HML.out]; exact HG2.out.row)
  go_region_held3 (fun wk => wk.cell? ⟨w.heap.size, 0, none⟩ = some (.int .i64 af) ∧ wk.cell? ⟨w.heap.size, 1, none⟩ = some (.int .i64 ag) ∧ wk.cell? ⟨w.heap.size, 2, none⟩ = some (.int .i64 ab) ∧ wk.cell? ⟨p, 1, none⟩ = some (.int .i64 (C : Int))) (first | exact ⟨b0, b1, b2, p1⟩ | exact HX4.out | exact HX3.out) (first
    | (go_at_call 49; (with_reducible refine (H49.out _).mono ?_); rintro e w' ⟨rfl, rfl⟩)
    | (go_at_call 28; (with_reducible refine (cBlankB af ag ab _).mono ?_); rintro e w3 ⟨rfl, hb3⟩; have HX3 := Lib.hid (And.intro (Gg.cell_then hb3 (Nat.le_refl _) b0) (And.intro (Gg.cell_then hb3 (Nat.le_refl _) b1) (And.intro (Gg.cell_then hb3 (Nat.le_refl _) b2) (Gg.cell_then hb3 (Nat.le_refl _) p1)))); have HRB3 := Lib.hid (HRB.out.then_ hb3 (Nat.le_refl _)); have HB3 := Lib.hid (below_then (below_drew HB2.out) hb3 (below_drew HB2.out).size); clear hb3)
    | (go_at_call 48; rw [HQ.out]; (with_reducible refine (HSl.out _ _ HRB3.out HCap.out _ rfl).mono ?_); rintro e w4 ⟨rfl, hr4, hk4⟩; have HX4 := Lib.hid (And.intro (cell_kept hk4 HX3.out.1 HNE.out HNE.out) (And.intro (cell_kept hk4 HX3.out.2.1 HNE.out HNE.out) (And.intro (cell_kept hk4 HX3.out.2.2.1 HNE.out HNE.out) (cell_kept hk4 HX3.out.2.2.2 HNP.out HNP.out)))); have HR4 := Lib.hid (show RB w4 b (A ++ shiftRow C M k n (Gm.blankC ab) ++ Z) by rw [HAL.out]; exact hr4); have HK4 := Lib.hid hk4; clear hr4 hk4))
  go_wp2_with (go_at_call 46; (with_reducible refine (mendP b A (shiftRow C M k n (Gm.blankC ab)) Z _ _ _ _ HR4.out HEL.out HAq.out HC2.out).mono ?_); rintro e w5 ⟨rfl, hr5, hk5⟩; have HR5 := Lib.hid hr5; have HK5 := Lib.hid (HK4.out.trans hk5 (.inl rfl)); clear hr5 hk5)
  go_end0
  obtain ⟨g1, g2⟩ := G.put HH.out HB3.out HR5.out HK5.out (len_mid HEL.out HM0.out)
  exact ⟨rfl, g1, g2⟩
/-- Shift, of anything. -/
theorem shiftG (p b R C : Nat) (row col n af ag ab : Int) (L : List Ce) (w : World) (h : G w p b R C L) :
    Calls Try.prog 23 #[.pointer (some ⟨p, 0, none⟩), .int .i64 row, .int .i64 col, .int .i64 n, .agg #[.int .i64 af, .int .i64 ag, .int .i64 ab]] w (GQ unit w p b R C (shiftL R C L row col n af ag ab)) := by
  cases hz : (hasB R C row col && Cell.attrB af ag ab) with
  | false =>
    have e : shiftL R C L row col n af ag ab = L := by unfold shiftL; rw [hz]; rfl
    rw [e]
    exact (shiftNo p b R C row col n af ag ab L w h _ rfl _ rfl hz).mono fun e w' ⟨h1, h2⟩ => ⟨h1, kp_below h h2⟩
  | true =>
    have e : shiftL R C L row col n af ag ab = L.take (row.toNat * C) ++ mend (shiftRow C (Gq.rowAt L (row.toNat * C) C) col.toNat n (Gm.blankC ab)) ++ L.drop (row.toNat * C + C) := by unfold shiftL; rw [hz]; rfl
    rw [e]
    simp only [Bool.and_eq_true] at hz
    obtain ⟨h1, h3⟩ := hz
    obtain ⟨a1, a2, a3, a4⟩ := hasB_iff.1 h1
    obtain ⟨r, rfl⟩ := Int.eq_ofNat_of_zero_le a1
    obtain ⟨k, rfl⟩ := Int.eq_ofNat_of_zero_le a3
    rw [Int.toNat_natCast, Int.toNat_natCast]
    have hr : r < R := by omega
    have hk : k < C := by omega
    have hq := row_nums h.len hr
    have hlen : (Gq.rowAt L (r * C) C).length = C := by unfold Gq.rowAt; rw [List.length_take, List.length_drop]; exact Nat.min_eq_left (by omega)
    have hsp : L = L.take (r * C) ++ Gq.rowAt L (r * C) C ++ L.drop (r * C + C) := row_split hq
    have hA : (L.take (r * C)).length = r * C := by rw [List.length_take]; exact Nat.min_eq_left (by omega)
    generalize L.take (r * C) = A at *
    generalize L.drop (r * C + C) = Z at *
    generalize Gq.rowAt L (r * C) C = M at *
    rw [hsp] at h
    exact shiftYes p b R C r k n af ag ab A M Z w h hr hk hA hlen h3
end Go.Proofs.Ytfdjmlncdbpkgaa.Gs
