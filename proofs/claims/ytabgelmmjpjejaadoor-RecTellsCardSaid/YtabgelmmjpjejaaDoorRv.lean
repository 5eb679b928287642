/- RecTells: a record's bytes, a record, or why not. -/
import Derived.Test.YtabgelmmjpjejaaDoorRe
import Derived.Test.YtabgelmmjpjejaaDoorAr
set_option linter.unusedVariables false
namespace Go.Proofs.YtabgelmmjpjejaaDoor.Rv
open Go Go.RowKit Kit Crc Var Get Ref3 Copy Bytes Bx Py Py2 Ry Rz Dn Df Dd Da Dc Rs Rf Rg Ar Bg Rt Rw Re


theorem plainK (k s t : Int) (a : Option Addr) (m c : Nat) (w : World) :
    Calls Tryd.prog 13 #[.agg #[.int .i64 k, .int .u64 s, .int .u64 t, .slice a m c]] w fun e w' => e = .returned (.agg #[.int .i64 k, .int .u64 s, .int .u64 t, .slice a m c]) ∧ Below w.heap.size w w' := by
  go_enter Tryd.func13, Tryd.ntmps13
  go_wp2
  exact bodyPost_ret (v := .agg #[.int .i64 k, .int .u64 s, .int .u64 t, .slice a m c]) (by simp [results, Tryd.results13, go_sem]) rfl ⟨rfl, by repeat (first | exact (Below.refl _ _).alloc (Nat.le_refl _) _ | refine Below.setCell ?_ (by simp) _ | refine Below.alloc ?_ (by simp) _)⟩

theorem bytesX (a1 a2 : Option Addr) (c1 c2 n1 n2 : Nat) (l : List Nat) (w : World) (e1 : n1 = l.length) (e2 : n2 = l.length) (h1 : Sl w a1 l) (h2 : Sl w a2 l) (m : ∀ c ∈ l, c < 256) :
    Calls Tryd.prog 16 #[.slice a1 n1 c1, .slice a2 n2 c2] w fun e w' => e = .returned (.bool true) ∧ w = w' := bytesK a1 a2 c1 c2 n1 n2 l l w true e1 e2 h1 h2 m m (by simp)

set_option maxRecDepth 100000 in
set_option maxHeartbeats 8000000 in
theorem tells (k1 : Int) (s1 t1 : Nat) (a1 : Option Addr) (c1 : Nat) (l1 : List Nat) (k2 : Int) (s2 t2 : Nat) (a2 : Option Addr) (c2 : Nat) (l2 : List Nat) (a3 : Option Addr) (c3 : Nat) (l3 : List Nat) (pt : Int) (w : World) (z1 : Sl w a1 l1) (n1 : a1 = none → c1 = 0) (h1 : l1.length ≤ c1) (x1 : ∀ c ∈ l1, c < 256) (m1 : l1.length ≤ 3000) (z2 : Sl w a2 l2) (n2 : a2 = none → c2 = 0) (h2 : l2.length ≤ c2) (x2 : ∀ c ∈ l2, c < 256) (m2 : l2.length ≤ 3000) (z3 : Sl w a3 l3) (n3 : a3 = none → c3 = 0) (h3 : l3.length ≤ c3) (x3 : ∀ c ∈ l3, c < 256) (m3 : l3.length ≤ 3000) (hDX : ∀ c ∈ (decA l3 pt).b, c < 256) (hTab : TabC w) :
    Calls Tryd.prog 3 #[.agg #[.int .i64 k1, .int .u64 (s1 : Int), .int .u64 (t1 : Int), .slice a1 l1.length c1], .agg #[.int .i64 k2, .int .u64 (s2 : Int), .int .u64 (t2 : Int), .slice a2 l2.length c2], .slice a3 l3.length c3, .int .i64 pt] w fun e w' => e = .returned (.bool true) ∧ Below w.heap.size w w' := by
  have HS1 := Lib.hid z1
  have HZ1 := Lib.hid n1
  have HC1 := Lib.hid h1
  have HX1 := Lib.hid x1
  have HN1 := Lib.hid (show l1.length ≤ 900000 by omega)
  have tl1 : ¬ 3000 < (l1.length : Int) := by omega
  have HS2 := Lib.hid z2
  have HZ2 := Lib.hid n2
  have HC2 := Lib.hid h2
  have HX2 := Lib.hid x2
  have HN2 := Lib.hid (show l2.length ≤ 900000 by omega)
  have tl2 : ¬ 3000 < (l2.length : Int) := by omega
  have HS3 := Lib.hid z3
  have HZ3 := Lib.hid n3
  have HC3 := Lib.hid h3
  have HX3 := Lib.hid x3
  have HN3 := Lib.hid (show l3.length ≤ 90000 by omega)
  have tl3 : ¬ 3000 < (l3.length : Int) := by omega
  have HT := Lib.hid hTab
  obtain ⟨X, hX⟩ : ∃ X, X = encL k1 s1 t1 l1 := ⟨_, rfl⟩
  obtain ⟨EE, hEE⟩ : ∃ E, E = encE k1 s1 t1 l1 := ⟨_, rfl⟩
  have HXE := Lib.hid hX
  have HEE := Lib.hid hEE
  have HXX := Lib.hid (show ∀ c ∈ X, c < 256 by
    rw [hX, encL]
    split
    · rename_i hm
      exact recL_lt (by have := (mayR_of hm).1; omega) x1
    · intro c hc; cases hc)
  obtain ⟨D, hD⟩ : ∃ D, D = decA l3 pt := ⟨_, rfl⟩
  obtain ⟨Y, hY⟩ : ∃ y, y = endA D pt := ⟨_, rfl⟩
  have HY := Lib.hid hY
  have HD := Lib.hid hD
  rw [← hD] at hDX
  have HDX := Lib.hid hDX
  obtain ⟨DE, DK, DS, DT, DB, DN⟩ := D
  obtain ⟨MM, hMM⟩ : ∃ m, mayR k1 s1 t1 l1.length = m := ⟨_, rfl⟩
  have HMM := Lib.hid hMM
  obtain ⟨RR, hRR⟩ : ∃ R, R = sameR k1 s1 t1 l1 k2 s2 t2 l2 := ⟨_, rfl⟩
  have HRR := Lib.hid hRR
  have HSS := Lib.hid (show true = sameR (DK : Int) DS DT DB (DK : Int) DS DT DB by simp [sameR])
  have CL := Lib.hid (fun W (h : Below ((w.alloc (.cells #[.int .i64 k1, .int .u64 (s1 : Int), .int .u64 (t1 : Int), .slice a1 l1.length c1] 25)).alloc (.cells #[.int .i64 k2, .int .u64 (s2 : Int), .int .u64 (t2 : Int), .slice a2 l2.length c2] 25)).heap.size ((w.alloc (.cells #[.int .i64 k1, .int .u64 (s1 : Int), .int .u64 (t1 : Int), .slice a1 l1.length c1] 25)).alloc (.cells #[.int .i64 k2, .int .u64 (s2 : Int), .int .u64 (t2 : Int), .slice a2 l2.length c2] 25)) W) => boxes2 w W 25 _ _ _ _ _ _ _ _ h)
  have HBA := Lib.hid (show Below w.heap.size w ((w.alloc (.cells #[.int .i64 k1, .int .u64 (s1 : Int), .int .u64 (t1 : Int), .slice a1 l1.length c1] 25)).alloc (.cells #[.int .i64 k2, .int .u64 (s2 : Int), .int .u64 (t2 : Int), .slice a2 l2.length c2] 25)) from ((Below.refl _ w).alloc (Nat.le_refl _) _).alloc (by simp) _)
  clear z1 n1 h1 x1 m1 z2 n2 h2 x2 m2 z3 n3 h3 x3 m3 hTab hX hEE hD hY hDX hMM hRR
  as_aux_lemma =>
    go_enter Tryd.func3, Tryd.ntmps3
    go_wp2_with fail
    generalize ((w.alloc (.cells #[.int .i64 k1, .int .u64 (s1 : Int), .int .u64 (t1 : Int), .slice a1 l1.length c1] 25)).alloc (.cells #[.int .i64 k2, .int .u64 (s2 : Int), .int .u64 (t2 : Int), .slice a2 l2.length c2] 25)) = w0 at *
    have HS10 := Lib.hid (sl_then HBA.out (Nat.le_refl _) HS1.out)
    have HS20 := Lib.hid (sl_then HBA.out (Nat.le_refl _) HS2.out)
    have HS30 := Lib.hid (sl_then HBA.out (Nat.le_refl _) HS3.out)
    have HT0 := Lib.hid (tabC_then HBA.out (Nat.le_refl _) HT.out)
    have HQ0 := Lib.hid (Below.refl w0.heap.size w0)
    obtain ⟨p0, p1, p2, p3, q0, q1, q2, q3⟩ := CL.out _ HQ0.out
    go_wp2_with (first
      | (go_at_call 10; (with_reducible refine (firstC w0 (tabC_then HQ0.out (Nat.le_refl _) HT0.out)).mono ?_); rintro e wq1 ⟨rfl, bq⟩; have HQ1 := Lib.hid (below_then HQ0.out bq HQ0.out.size); clear bq; clear p0 p1 p2 p3 q0 q1 q2 q3; obtain ⟨p0, p1, p2, p3, q0, q1, q2, q3⟩ := CL.out _ HQ1.out)
      | (go_at_call 11; (with_reducible refine (encG k1 s1 t1 a1 c1 l1.length l1 X EE wq1 rfl HXE.out HEE.out (sl_then HQ1.out (Nat.le_refl _) HS10.out) HZ1.out HC1.out HX1.out HN1.out (tabC_then HQ1.out (Nat.le_refl _) HT0.out)).mono ?_); rintro e wq2 ⟨xa, xc, rfl, lx, _, _, _, bq⟩; have HQ2 := Lib.hid (below_then HQ1.out bq HQ1.out.size); have X_2 := Lib.hid lx; clear bq lx; clear p0 p1 p2 p3 q0 q1 q2 q3; obtain ⟨p0, p1, p2, p3, q0, q1, q2, q3⟩ := CL.out _ HQ2.out)
      | (go_at_call 13; (with_reducible refine (plainK k1 (s1 : Int) (t1 : Int) a1 l1.length c1 wq2).mono ?_); rintro e wq3 ⟨rfl, bq⟩; have HQ3 := Lib.hid (below_then HQ2.out bq HQ2.out.size); have X_3 := Lib.hid (sl_then bq (Nat.le_refl _) X_2.out); clear bq; clear p0 p1 p2 p3 q0 q1 q2 q3; obtain ⟨p0, p1, p2, p3, q0, q1, q2, q3⟩ := CL.out _ HQ3.out)
      | (go_at_call 12; (with_reducible refine (dencG k1 s1 t1 a1 c1 l1.length l1 X EE wq3 rfl HXE.out HEE.out (sl_then HQ3.out (Nat.le_refl _) HS10.out) HZ1.out HX1.out HN1.out).mono ?_); rintro e wq4 ⟨ya, yc, rfl, ly, _, _, _, bq⟩; have HQ4 := Lib.hid (below_then HQ3.out bq HQ3.out.size); have X_4 := Lib.hid (sl_then bq (Nat.le_refl _) X_3.out); have Y_4 := Lib.hid ly; clear bq ly; clear p0 p1 p2 p3 q0 q1 q2 q3; obtain ⟨p0, p1, p2, p3, q0, q1, q2, q3⟩ := CL.out _ HQ4.out)
      | (go_at_call 14; (with_reducible refine (decAll a3 l3.length c3 l3 pt ⟨DE, DK, DS, DT, DB, DN⟩ Y wq4 rfl HD.out HY.out (sl_then HQ4.out (Nat.le_refl _) HS30.out) HC3.out HX3.out HN3.out (tabC_then HQ4.out (Nat.le_refl _) HT0.out)).mono ?_); rintro e wq5 ⟨ua, uc, rfl, lu, _, _, _, bq⟩; have HQ5 := Lib.hid (below_then HQ4.out bq HQ4.out.size); have X_5 := Lib.hid (sl_then bq (Nat.le_refl _) X_4.out); have Y_5 := Lib.hid (sl_then bq (Nat.le_refl _) Y_4.out); have U_5 := Lib.hid lu; clear bq lu; clear p0 p1 p2 p3 q0 q1 q2 q3; obtain ⟨p0, p1, p2, p3, q0, q1, q2, q3⟩ := CL.out _ HQ5.out)
      | (go_at_call 15; (with_reducible refine (ddecAll a3 l3.length c3 l3 pt ⟨DE, DK, DS, DT, DB, DN⟩ Y _ rfl HD.out HY.out (sl_alloc (sl_then HQ5.out (Nat.le_refl _) HS30.out) (.cells #[.int .i64 (DK : Int), .int .u64 (DS : Int), .int .u64 (DT : Int), .slice ua DB.length uc] 25)) HC3.out HX3.out HN3.out).mono ?_); rintro e wq6 ⟨va, vc, rfl, lv, _, _, _, bq⟩; have HQ6 := Lib.hid (stepB HQ5.out (.cells #[.int .i64 (DK : Int), .int .u64 (DS : Int), .int .u64 (DT : Int), .slice ua DB.length uc] 25) bq); have X_6 := Lib.hid (sl_then bq (Nat.le_refl _) (sl_alloc X_5.out (.cells #[.int .i64 (DK : Int), .int .u64 (DS : Int), .int .u64 (DT : Int), .slice ua DB.length uc] 25))); have Y_6 := Lib.hid (sl_then bq (Nat.le_refl _) (sl_alloc Y_5.out (.cells #[.int .i64 (DK : Int), .int .u64 (DS : Int), .int .u64 (DT : Int), .slice ua DB.length uc] 25))); have U_6 := Lib.hid (sl_then bq (Nat.le_refl _) (sl_alloc U_5.out (.cells #[.int .i64 (DK : Int), .int .u64 (DS : Int), .int .u64 (DT : Int), .slice ua DB.length uc] 25))); have V_6 := Lib.hid lv; have CU := Lib.hid (fun W (h : Below wq6.heap.size wq6 W) => box1 wq5 W 25 _ _ _ _ (below_then bq h bq.size)); clear bq lv; clear p0 p1 p2 p3 q0 q1 q2 q3; obtain ⟨p0, p1, p2, p3, q0, q1, q2, q3⟩ := CL.out _ HQ6.out))
    have HQZ := Lib.hid (HQ6.out.alloc HQ6.out.size (.cells #[.int .i64 (DK : Int), .int .u64 (DS : Int), .int .u64 (DT : Int), .slice va DB.length vc] 31))
    have HXz := Lib.hid (sl_alloc X_6.out (.cells #[.int .i64 (DK : Int), .int .u64 (DS : Int), .int .u64 (DT : Int), .slice va DB.length vc] 31))
    have HYz := Lib.hid (sl_alloc Y_6.out (.cells #[.int .i64 (DK : Int), .int .u64 (DS : Int), .int .u64 (DT : Int), .slice va DB.length vc] 31))
    have HUz := Lib.hid (sl_alloc U_6.out (.cells #[.int .i64 (DK : Int), .int .u64 (DS : Int), .int .u64 (DT : Int), .slice va DB.length vc] 31))
    have HVz := Lib.hid (sl_alloc V_6.out (.cells #[.int .i64 (DK : Int), .int .u64 (DS : Int), .int .u64 (DT : Int), .slice va DB.length vc] 31))
    have CV := Lib.hid (fun W (h : Below (wq6.alloc (.cells #[.int .i64 (DK : Int), .int .u64 (DS : Int), .int .u64 (DT : Int), .slice va DB.length vc] 31)).heap.size (wq6.alloc (.cells #[.int .i64 (DK : Int), .int .u64 (DS : Int), .int .u64 (DT : Int), .slice va DB.length vc] 31)) W) => box1 wq6 W 31 _ _ _ _ h)
    have HST := Lib.hid (show Below wq6.heap.size wq6 (wq6.alloc (.cells #[.int .i64 (DK : Int), .int .u64 (DS : Int), .int .u64 (DT : Int), .slice va DB.length vc] 31)) from (Below.refl _ _).alloc (Nat.le_refl _) _)
    clear p0 p1 p2 p3 q0 q1 q2 q3
    as_aux_lemma =>
      generalize (wq6.alloc (.cells #[.int .i64 (DK : Int), .int .u64 (DS : Int), .int .u64 (DT : Int), .slice va DB.length vc] 31)) = wz at *
      generalize wq6.heap.size = g4 at CV ⊢
      generalize wq5.heap.size = g3 at CU ⊢
      have HS1z := Lib.hid (sl_then HQZ.out (Nat.le_refl _) HS10.out)
      have HS2z := Lib.hid (sl_then HQZ.out (Nat.le_refl _) HS20.out)
      have HTz := Lib.hid (tabC_then HQZ.out (Nat.le_refl _) HT0.out)
      have KS := Lib.hid (show ∀ W, Below wz.heap.size wz W → W.cell? ⟨w.heap.size, 0, none⟩ = some (.int .i64 k1) ∧ W.cell? ⟨w.heap.size, 1, none⟩ = some (.int .u64 (s1 : Int)) ∧ W.cell? ⟨w.heap.size, 2, none⟩ = some (.int .u64 (t1 : Int)) ∧ W.cell? ⟨w.heap.size, 3, none⟩ = some (.slice a1 l1.length c1) ∧ W.cell? ⟨w.heap.size + 1, 0, none⟩ = some (.int .i64 k2) ∧ W.cell? ⟨w.heap.size + 1, 1, none⟩ = some (.int .u64 (s2 : Int)) ∧ W.cell? ⟨w.heap.size + 1, 2, none⟩ = some (.int .u64 (t2 : Int)) ∧ W.cell? ⟨w.heap.size + 1, 3, none⟩ = some (.slice a2 l2.length c2) ∧ W.cell? ⟨g3, 0, none⟩ = some (.int .i64 (DK : Int)) ∧ W.cell? ⟨g3, 1, none⟩ = some (.int .u64 (DS : Int)) ∧ W.cell? ⟨g3, 2, none⟩ = some (.int .u64 (DT : Int)) ∧ W.cell? ⟨g3, 3, none⟩ = some (.slice ua DB.length uc) ∧ W.cell? ⟨g4, 0, none⟩ = some (.int .i64 (DK : Int)) ∧ W.cell? ⟨g4, 1, none⟩ = some (.int .u64 (DS : Int)) ∧ W.cell? ⟨g4, 2, none⟩ = some (.int .u64 (DT : Int)) ∧ W.cell? ⟨g4, 3, none⟩ = some (.slice va DB.length vc) ∧ Below wz.heap.size wz W from fun W h => by
        obtain ⟨p0, p1, p2, p3, q0, q1, q2, q3⟩ := CL.out _ (below_then HQZ.out h HQZ.out.size)
        obtain ⟨r0, r1, r2, r3⟩ := CU.out _ (below_then HST.out h HST.out.size)
        obtain ⟨v0, v1, v2, v3⟩ := CV.out _ h
        exact ⟨p0, p1, p2, p3, q0, q1, q2, q3, r0, r1, r2, r3, v0, v1, v2, v3, h⟩)
      have KB := Lib.hid (show ∀ W, (W.cell? ⟨w.heap.size, 0, none⟩ = some (.int .i64 k1) ∧ W.cell? ⟨w.heap.size, 1, none⟩ = some (.int .u64 (s1 : Int)) ∧ W.cell? ⟨w.heap.size, 2, none⟩ = some (.int .u64 (t1 : Int)) ∧ W.cell? ⟨w.heap.size, 3, none⟩ = some (.slice a1 l1.length c1) ∧ W.cell? ⟨w.heap.size + 1, 0, none⟩ = some (.int .i64 k2) ∧ W.cell? ⟨w.heap.size + 1, 1, none⟩ = some (.int .u64 (s2 : Int)) ∧ W.cell? ⟨w.heap.size + 1, 2, none⟩ = some (.int .u64 (t2 : Int)) ∧ W.cell? ⟨w.heap.size + 1, 3, none⟩ = some (.slice a2 l2.length c2) ∧ W.cell? ⟨g3, 0, none⟩ = some (.int .i64 (DK : Int)) ∧ W.cell? ⟨g3, 1, none⟩ = some (.int .u64 (DS : Int)) ∧ W.cell? ⟨g3, 2, none⟩ = some (.int .u64 (DT : Int)) ∧ W.cell? ⟨g3, 3, none⟩ = some (.slice ua DB.length uc) ∧ W.cell? ⟨g4, 0, none⟩ = some (.int .i64 (DK : Int)) ∧ W.cell? ⟨g4, 1, none⟩ = some (.int .u64 (DS : Int)) ∧ W.cell? ⟨g4, 2, none⟩ = some (.int .u64 (DT : Int)) ∧ W.cell? ⟨g4, 3, none⟩ = some (.slice va DB.length vc) ∧ Below wz.heap.size wz W) → Below wz.heap.size wz W from fun W h => h.2.2.2.2.2.2.2.2.2.2.2.2.2.2.2.2)
      go_wp2_with fail
      refine wp_region_held_drew (S := (fun W => W.cell? ⟨w.heap.size, 0, none⟩ = some (.int .i64 k1) ∧ W.cell? ⟨w.heap.size, 1, none⟩ = some (.int .u64 (s1 : Int)) ∧ W.cell? ⟨w.heap.size, 2, none⟩ = some (.int .u64 (t1 : Int)) ∧ W.cell? ⟨w.heap.size, 3, none⟩ = some (.slice a1 l1.length c1) ∧ W.cell? ⟨w.heap.size + 1, 0, none⟩ = some (.int .i64 k2) ∧ W.cell? ⟨w.heap.size + 1, 1, none⟩ = some (.int .u64 (s2 : Int)) ∧ W.cell? ⟨w.heap.size + 1, 2, none⟩ = some (.int .u64 (t2 : Int)) ∧ W.cell? ⟨w.heap.size + 1, 3, none⟩ = some (.slice a2 l2.length c2) ∧ W.cell? ⟨g3, 0, none⟩ = some (.int .i64 (DK : Int)) ∧ W.cell? ⟨g3, 1, none⟩ = some (.int .u64 (DS : Int)) ∧ W.cell? ⟨g3, 2, none⟩ = some (.int .u64 (DT : Int)) ∧ W.cell? ⟨g3, 3, none⟩ = some (.slice ua DB.length uc) ∧ W.cell? ⟨g4, 0, none⟩ = some (.int .i64 (DK : Int)) ∧ W.cell? ⟨g4, 1, none⟩ = some (.int .u64 (DS : Int)) ∧ W.cell? ⟨g4, 2, none⟩ = some (.int .u64 (DT : Int)) ∧ W.cell? ⟨g4, 3, none⟩ = some (.slice va DB.length vc) ∧ Below wz.heap.size wz W)) (by kernel_rfl) ?_ (fun hHeld => ?_)
      · ((try dsimp only); (first | (with_reducible exact KS.out _ hN) | (with_reducible exact hHeld) | exact KS.out _ (Below.refl _ _).drew | exact KS.out _ (Below.refl _ _)))
      refine wpAnyH_ready (rs := [0]) (by kernel_rfl) (by simp) ?_
      refine (AllReadyH.cons (o := { dst := some 62, op := Op.call { callee := Callee.value (Operand.func 10), args := #[], argTypes := #[] }, type := 4, pos := _, after := #[], guard := none }) rfl (fun K hK => ?_) AllReadyH.nil)
      go_simp
      (go_at_call 10; (with_reducible refine (firstC _ (tabC_then (KB.out _ hHeld) (Nat.le_refl _) HTz.out)).mono ?_); rintro e wa ⟨rfl, ba⟩; have hN := below_then (KB.out _ hHeld) ba (KB.out _ hHeld).size; clear ba)
      go_wp2_with fail
      refine hK.out _ _ ?_ (fun hHeld => ?_)
      · ((try dsimp only); (first | (with_reducible exact KS.out _ hN) | (with_reducible exact hHeld) | exact KS.out _ (Below.refl _ _).drew | exact KS.out _ (Below.refl _ _)))
      clear hK K
      try simp only [Act.put, List.setIfInBounds_toArray, List.set_cons_zero, List.set_cons_succ]
      refine wpAnyH_take (i := 1) (oi := { dst := some 63, op := Op.move (Operand.tmp 62), type := 4, pos := _, after := #[{ on := 0, ground := Ground.data }, { on := 0, ground := Ground.chain }], guard := none }) (v := ?_) rfl (by kernel_rfl) (by kernel_rfl) (by kernel_rfl) (fun _ _ _ h => h) (Or.inl ⟨by rfl, ?_⟩) (by assumption) ?_
      rotate_left
      · ((intro w hSw); (try dsimp only at hSw); go_simp; (try with_reducible rfl))
      try simp only [Act.put, List.setIfInBounds_toArray, List.set_cons_zero, List.set_cons_succ]
      refine wpAnyH_take (i := 2) (oi := { dst := some 64, op := Op.move (Operand.tmp 9), type := 23, pos := _, after := #[{ on := 1, ground := Ground.guard }], guard := some (1, true) }) (v := ?_) rfl (by kernel_rfl) (by kernel_rfl) (by kernel_rfl) (fun _ _ _ h => h) (Or.inl ⟨by rfl, ?_⟩) (by assumption) ?_
      rotate_left
      · ((intro w hSw); (try dsimp only at hSw); go_simp; (try with_reducible rfl))
      try simp only [Act.put, List.setIfInBounds_toArray, List.set_cons_zero, List.set_cons_succ]
      refine wpAnyH_take (i := 3) (oi := { dst := some 65, op := Op.move (Operand.tmp 11), type := 23, pos := _, after := #[{ on := 1, ground := Ground.guard }], guard := some (1, true) }) (v := ?_) rfl (by kernel_rfl) (by kernel_rfl) (by kernel_rfl) (fun _ _ _ h => h) (Or.inl ⟨by rfl, ?_⟩) (by assumption) ?_
      rotate_left
      · ((intro w hSw); (try dsimp only at hSw); go_simp; (try with_reducible rfl))
      try simp only [Act.put, List.setIfInBounds_toArray, List.set_cons_zero, List.set_cons_succ]
      refine wpAnyH_ready (rs := [4]) (by kernel_rfl) (by simp) ?_
      refine (AllReadyH.cons (o := { dst := some 66, op := Op.call { callee := Callee.value (Operand.func 16), args := #[Operand.tmp 64, Operand.tmp 65], argTypes := #[23, 23] }, type := 4, pos := _, after := #[{ on := 2, ground := Ground.data }, { on := 3, ground := Ground.data }, { on := 1, ground := Ground.chain }, { on := 1, ground := Ground.guard }], guard := some (1, true) }) rfl (fun K hK => ?_) AllReadyH.nil)
      go_simp
      (go_at_call 16; (with_reducible refine (bytesX xa ya xc yc X.length X.length X _ rfl rfl (sl_then (KB.out _ hHeld) (Nat.le_refl _) HXz.out) (sl_then (KB.out _ hHeld) (Nat.le_refl _) HYz.out) HXX.out).mono ?_); rintro e wb ⟨rfl, rfl⟩)
      go_wp2_with fail
      refine hK.out _ _ ?_ (fun hHeld => ?_)
      · ((try dsimp only); (first | (with_reducible exact KS.out _ hN) | (with_reducible exact hHeld) | exact KS.out _ (Below.refl _ _).drew | exact KS.out _ (Below.refl _ _)))
      clear hK K
      try simp only [Act.put, List.setIfInBounds_toArray, List.set_cons_zero, List.set_cons_succ]
      refine wpAnyH_take (i := 5) (oi := { dst := some 67, op := Op.pick (Operand.tmp 63) (Operand.tmp 66) (Operand.const (Value.bool false)), type := 4, pos := _, after := #[{ on := 1, ground := Ground.data }, { on := 4, ground := Ground.data }], guard := none }) (v := ?_) rfl (by kernel_rfl) (by kernel_rfl) (by kernel_rfl) (fun _ _ _ h => h) (Or.inl ⟨by rfl, ?_⟩) (by assumption) ?_
      rotate_left
      · ((intro w hSw); (try dsimp only at hSw); go_simp; (try with_reducible rfl))
      try simp only [Act.put, List.setIfInBounds_toArray, List.set_cons_zero, List.set_cons_succ]
      refine wpAnyH_take (i := 6) (oi := { dst := some 68, op := Op.move (Operand.tmp 67), type := 4, pos := _, after := #[{ on := 5, ground := Ground.data }, { on := 4, ground := Ground.chain }], guard := none }) (v := ?_) rfl (by kernel_rfl) (by kernel_rfl) (by kernel_rfl) (fun _ _ _ h => h) (Or.inl ⟨by rfl, ?_⟩) (by assumption) ?_
      rotate_left
      · ((intro w hSw); (try dsimp only at hSw); go_simp; (try with_reducible rfl))
      try simp only [Act.put, List.setIfInBounds_toArray, List.set_cons_zero, List.set_cons_succ]
      refine wpAnyH_take (i := 7) (oi := { dst := some 69, op := Op.move (Operand.tmp 10), type := 27, pos := _, after := #[{ on := 6, ground := Ground.guard }], guard := some (6, true) }) (v := ?_) rfl (by kernel_rfl) (by kernel_rfl) (by kernel_rfl) (fun _ _ _ h => h) (Or.inl ⟨by rfl, ?_⟩) (by assumption) ?_
      rotate_left
      · ((intro w hSw); (try dsimp only at hSw); go_simp; (try with_reducible rfl))
      try simp only [Act.put, List.setIfInBounds_toArray, List.set_cons_zero, List.set_cons_succ]
      refine wpAnyH_take (i := 8) (oi := { dst := some 70, op := Op.move (Operand.tmp 12), type := 27, pos := _, after := #[{ on := 6, ground := Ground.guard }], guard := some (6, true) }) (v := ?_) rfl (by kernel_rfl) (by kernel_rfl) (by kernel_rfl) (fun _ _ _ h => h) (Or.inl ⟨by rfl, ?_⟩) (by assumption) ?_
      rotate_left
      · ((intro w hSw); (try dsimp only at hSw); go_simp; (try with_reducible rfl))
      try simp only [Act.put, List.setIfInBounds_toArray, List.set_cons_zero, List.set_cons_succ]
      refine wpAnyH_take (i := 9) (oi := { dst := some 71, op := Op.binOp BinOp.eql 27 (Operand.tmp 69) (Operand.tmp 70) 27, type := 4, pos := _, after := #[{ on := 7, ground := Ground.data }, { on := 8, ground := Ground.data }, { on := 6, ground := Ground.guard }], guard := some (6, true) }) (v := ?_) rfl (by kernel_rfl) (by kernel_rfl) (by kernel_rfl) (fun _ _ _ h => h) (Or.inl ⟨by rfl, ?_⟩) (by assumption) ?_
      rotate_left
      · ((intro w hSw); (try dsimp only at hSw); go_simp; (try with_reducible rfl))
      try simp only [Act.put, List.setIfInBounds_toArray, List.set_cons_zero, List.set_cons_succ]
      refine wpAnyH_take (i := 10) (oi := { dst := some 72, op := Op.pick (Operand.tmp 68) (Operand.tmp 71) (Operand.const (Value.bool false)), type := 4, pos := _, after := #[{ on := 6, ground := Ground.data }, { on := 9, ground := Ground.data }], guard := none }) (v := ?_) rfl (by kernel_rfl) (by kernel_rfl) (by kernel_rfl) (fun _ _ _ h => h) (Or.inl ⟨by rfl, ?_⟩) (by assumption) ?_
      rotate_left
      · ((intro w hSw); (try dsimp only at hSw); go_simp; (try with_reducible rfl))
      try simp only [Act.put, List.setIfInBounds_toArray, List.set_cons_zero, List.set_cons_succ]
      refine wpAnyH_take (i := 11) (oi := { dst := some 73, op := Op.move (Operand.tmp 72), type := 4, pos := _, after := #[{ on := 10, ground := Ground.data }, { on := 6, ground := Ground.chain }], guard := none }) (v := ?_) rfl (by kernel_rfl) (by kernel_rfl) (by kernel_rfl) (fun _ _ _ h => h) (Or.inl ⟨by rfl, ?_⟩) (by assumption) ?_
      rotate_left
      · ((intro w hSw); (try dsimp only at hSw); go_simp; (try with_reducible rfl))
      try simp only [Act.put, List.setIfInBounds_toArray, List.set_cons_zero, List.set_cons_succ]
      refine wpAnyH_take (i := 12) (oi := { dst := some 74, op := Op.load 25 (Operand.tmp 13), type := 25, pos := _, after := #[{ on := 11, ground := Ground.guard }], guard := some (11, true) }) (v := ?_) rfl (by kernel_rfl) (by kernel_rfl) (by kernel_rfl) (fun _ _ _ h => h) (Or.inl ⟨by rfl, ?_⟩) (by assumption) ?_
      rotate_left
      · ((intro w hSw); (try dsimp only at hSw); go_simp; (try with_reducible rfl))
      try simp only [Act.put, List.setIfInBounds_toArray, List.set_cons_zero, List.set_cons_succ]
      refine wpAnyH_take (i := 14) (oi := { dst := some 76, op := Op.load 31 (Operand.tmp 16), type := 31, pos := _, after := #[{ on := 11, ground := Ground.guard }], guard := some (11, true) }) (v := ?_) rfl (by kernel_rfl) (by kernel_rfl) (by kernel_rfl) (fun _ _ _ h => h) (Or.inl ⟨by rfl, ?_⟩) (by assumption) ?_
      rotate_left
      · ((intro w hSw); (try dsimp only at hSw); go_simp; (try with_reducible rfl))
      try simp only [Act.put, List.setIfInBounds_toArray, List.set_cons_zero, List.set_cons_succ]
      refine wpAnyH_ready (rs := [13]) (by kernel_rfl) (by simp) ?_
      refine (AllReadyH.cons (o := { dst := some 75, op := Op.call { callee := Callee.value (Operand.func 13), args := #[Operand.tmp 74], argTypes := #[25] }, type := 31, pos := _, after := #[{ on := 12, ground := Ground.data }, { on := 11, ground := Ground.chain }, { on := 11, ground := Ground.guard }], guard := some (11, true) }) rfl (fun K hK => ?_) AllReadyH.nil)
      go_simp
      (go_at_call 13; (with_reducible refine (plainK (DK : Int) (DS : Int) (DT : Int) ua DB.length uc _).mono ?_); rintro e wa ⟨rfl, ba⟩; have hN := below_then (KB.out _ hHeld) ba (KB.out _ hHeld).size; clear ba)
      go_wp2_with fail
      refine hK.out _ _ ?_ (fun hHeld => ?_)
      · ((try dsimp only); (first | (with_reducible exact KS.out _ hN) | (with_reducible exact hHeld) | exact KS.out _ (Below.refl _ _).drew | exact KS.out _ (Below.refl _ _)))
      clear hK K
      try simp only [Act.put, List.setIfInBounds_toArray, List.set_cons_zero, List.set_cons_succ]
      refine wpAnyH_ready (rs := [15]) (by kernel_rfl) (by simp) ?_
      refine (AllReadyH.cons (o := { dst := some 77, op := Op.call { callee := Callee.value (Operand.func 17), args := #[Operand.tmp 75, Operand.tmp 76], argTypes := #[31, 31] }, type := 4, pos := _, after := #[{ on := 13, ground := Ground.data }, { on := 14, ground := Ground.data }, { on := 13, ground := Ground.chain }, { on := 11, ground := Ground.guard }], guard := some (11, true) }) rfl (fun K hK => ?_) AllReadyH.nil)
      go_simp
      (go_at_call 17; (with_reducible refine (dsameK (DK : Int) DS DT ua DB.length uc DB (DK : Int) DS DT va DB.length vc DB _ rfl rfl (sl_then (KB.out _ hHeld) (Nat.le_refl _) HUz.out) (sl_then (KB.out _ hHeld) (Nat.le_refl _) HVz.out) HDX.out HDX.out true HSS.out).mono ?_); rintro e wa ⟨rfl, ba⟩; have hN := below_then (KB.out _ hHeld) ba (KB.out _ hHeld).size; clear ba)
      go_wp2_with fail
      refine hK.out _ _ ?_ (fun hHeld => ?_)
      · ((try dsimp only); (first | (with_reducible exact KS.out _ hN) | (with_reducible exact hHeld) | exact KS.out _ (Below.refl _ _).drew | exact KS.out _ (Below.refl _ _)))
      clear hK K
      try simp only [Act.put, List.setIfInBounds_toArray, List.set_cons_zero, List.set_cons_succ]
      refine wpAnyH_take (i := 16) (oi := { dst := some 78, op := Op.pick (Operand.tmp 73) (Operand.tmp 77) (Operand.const (Value.bool false)), type := 4, pos := _, after := #[{ on := 11, ground := Ground.data }, { on := 15, ground := Ground.data }], guard := none }) (v := ?_) rfl (by kernel_rfl) (by kernel_rfl) (by kernel_rfl) (fun _ _ _ h => h) (Or.inl ⟨by rfl, ?_⟩) (by assumption) ?_
      rotate_left
      · ((intro w hSw); (try dsimp only at hSw); go_simp; (try with_reducible rfl))
      try simp only [Act.put, List.setIfInBounds_toArray, List.set_cons_zero, List.set_cons_succ]
      refine wpAnyH_take (i := 17) (oi := { dst := some 79, op := Op.move (Operand.tmp 78), type := 4, pos := _, after := #[{ on := 16, ground := Ground.data }, { on := 15, ground := Ground.chain }], guard := none }) (v := ?_) rfl (by kernel_rfl) (by kernel_rfl) (by kernel_rfl) (fun _ _ _ h => h) (Or.inl ⟨by rfl, ?_⟩) (by assumption) ?_
      rotate_left
      · ((intro w hSw); (try dsimp only at hSw); go_simp; (try with_reducible rfl))
      try simp only [Act.put, List.setIfInBounds_toArray, List.set_cons_zero, List.set_cons_succ]
      refine wpAnyH_take (i := 18) (oi := { dst := some 80, op := Op.move (Operand.tmp 14), type := 3, pos := _, after := #[{ on := 17, ground := Ground.guard }], guard := some (17, true) }) (v := ?_) rfl (by kernel_rfl) (by kernel_rfl) (by kernel_rfl) (fun _ _ _ h => h) (Or.inl ⟨by rfl, ?_⟩) (by assumption) ?_
      rotate_left
      · ((intro w hSw); (try dsimp only at hSw); go_simp; (try with_reducible rfl))
      try simp only [Act.put, List.setIfInBounds_toArray, List.set_cons_zero, List.set_cons_succ]
      refine wpAnyH_take (i := 19) (oi := { dst := some 81, op := Op.move (Operand.tmp 17), type := 3, pos := _, after := #[{ on := 17, ground := Ground.guard }], guard := some (17, true) }) (v := ?_) rfl (by kernel_rfl) (by kernel_rfl) (by kernel_rfl) (fun _ _ _ h => h) (Or.inl ⟨by rfl, ?_⟩) (by assumption) ?_
      rotate_left
      · ((intro w hSw); (try dsimp only at hSw); go_simp; (try with_reducible rfl))
      try simp only [Act.put, List.setIfInBounds_toArray, List.set_cons_zero, List.set_cons_succ]
      refine wpAnyH_take (i := 20) (oi := { dst := some 82, op := Op.binOp BinOp.eql 3 (Operand.tmp 80) (Operand.tmp 81) 3, type := 4, pos := _, after := #[{ on := 18, ground := Ground.data }, { on := 19, ground := Ground.data }, { on := 17, ground := Ground.guard }], guard := some (17, true) }) (v := ?_) rfl (by kernel_rfl) (by kernel_rfl) (by kernel_rfl) (fun _ _ _ h => h) (Or.inl ⟨by rfl, ?_⟩) (by assumption) ?_
      rotate_left
      · ((intro w hSw); (try dsimp only at hSw); go_simp; (try with_reducible rfl))
      try simp only [Act.put, List.setIfInBounds_toArray, List.set_cons_zero, List.set_cons_succ]
      refine wpAnyH_take (i := 21) (oi := { dst := some 83, op := Op.pick (Operand.tmp 79) (Operand.tmp 82) (Operand.const (Value.bool false)), type := 4, pos := _, after := #[{ on := 17, ground := Ground.data }, { on := 20, ground := Ground.data }], guard := none }) (v := ?_) rfl (by kernel_rfl) (by kernel_rfl) (by kernel_rfl) (fun _ _ _ h => h) (Or.inl ⟨by rfl, ?_⟩) (by assumption) ?_
      rotate_left
      · ((intro w hSw); (try dsimp only at hSw); go_simp; (try with_reducible rfl))
      try simp only [Act.put, List.setIfInBounds_toArray, List.set_cons_zero, List.set_cons_succ]
      refine wpAnyH_take (i := 22) (oi := { dst := some 84, op := Op.move (Operand.tmp 83), type := 4, pos := _, after := #[{ on := 21, ground := Ground.data }, { on := 17, ground := Ground.chain }], guard := none }) (v := ?_) rfl (by kernel_rfl) (by kernel_rfl) (by kernel_rfl) (fun _ _ _ h => h) (Or.inl ⟨by rfl, ?_⟩) (by assumption) ?_
      rotate_left
      · ((intro w hSw); (try dsimp only at hSw); go_simp; (try with_reducible rfl))
      try simp only [Act.put, List.setIfInBounds_toArray, List.set_cons_zero, List.set_cons_succ]
      refine wpAnyH_take (i := 23) (oi := { dst := some 85, op := Op.move (Operand.tmp 15), type := 27, pos := _, after := #[{ on := 22, ground := Ground.guard }], guard := some (22, true) }) (v := ?_) rfl (by kernel_rfl) (by kernel_rfl) (by kernel_rfl) (fun _ _ _ h => h) (Or.inl ⟨by rfl, ?_⟩) (by assumption) ?_
      rotate_left
      · ((intro w hSw); (try dsimp only at hSw); go_simp; (try with_reducible rfl))
      try simp only [Act.put, List.setIfInBounds_toArray, List.set_cons_zero, List.set_cons_succ]
      refine wpAnyH_take (i := 24) (oi := { dst := some 86, op := Op.move (Operand.tmp 18), type := 27, pos := _, after := #[{ on := 22, ground := Ground.guard }], guard := some (22, true) }) (v := ?_) rfl (by kernel_rfl) (by kernel_rfl) (by kernel_rfl) (fun _ _ _ h => h) (Or.inl ⟨by rfl, ?_⟩) (by assumption) ?_
      rotate_left
      · ((intro w hSw); (try dsimp only at hSw); go_simp; (try with_reducible rfl))
      try simp only [Act.put, List.setIfInBounds_toArray, List.set_cons_zero, List.set_cons_succ]
      refine wpAnyH_take (i := 25) (oi := { dst := some 87, op := Op.binOp BinOp.eql 27 (Operand.tmp 85) (Operand.tmp 86) 27, type := 4, pos := _, after := #[{ on := 23, ground := Ground.data }, { on := 24, ground := Ground.data }, { on := 22, ground := Ground.guard }], guard := some (22, true) }) (v := ?_) rfl (by kernel_rfl) (by kernel_rfl) (by kernel_rfl) (fun _ _ _ h => h) (Or.inl ⟨by rfl, ?_⟩) (by assumption) ?_
      rotate_left
      · ((intro w hSw); (try dsimp only at hSw); go_simp; (try with_reducible rfl))
      try simp only [Act.put, List.setIfInBounds_toArray, List.set_cons_zero, List.set_cons_succ]
      refine wpAnyH_take (i := 26) (oi := { dst := some 88, op := Op.pick (Operand.tmp 84) (Operand.tmp 87) (Operand.const (Value.bool false)), type := 4, pos := _, after := #[{ on := 22, ground := Ground.data }, { on := 25, ground := Ground.data }], guard := none }) (v := ?_) rfl (by kernel_rfl) (by kernel_rfl) (by kernel_rfl) (fun _ _ _ h => h) (Or.inl ⟨by rfl, ?_⟩) (by assumption) ?_
      rotate_left
      · ((intro w hSw); (try dsimp only at hSw); go_simp; (try with_reducible rfl))
      try simp only [Act.put, List.setIfInBounds_toArray, List.set_cons_zero, List.set_cons_succ]
      refine wpAnyH_take (i := 27) (oi := { dst := some 89, op := Op.move (Operand.tmp 88), type := 4, pos := _, after := #[{ on := 26, ground := Ground.data }, { on := 22, ground := Ground.chain }], guard := none }) (v := ?_) rfl (by kernel_rfl) (by kernel_rfl) (by kernel_rfl) (fun _ _ _ h => h) (Or.inl ⟨by rfl, ?_⟩) (by assumption) ?_
      rotate_left
      · ((intro w hSw); (try dsimp only at hSw); go_simp; (try with_reducible rfl))
      try simp only [Act.put, List.setIfInBounds_toArray, List.set_cons_zero, List.set_cons_succ]
      refine wpAnyH_take (i := 28) (oi := { dst := some 90, op := Op.load 25 (Operand.tmp 4), type := 25, pos := _, after := #[{ on := 27, ground := Ground.guard }], guard := some (27, true) }) (v := ?_) rfl (by kernel_rfl) (by kernel_rfl) (by kernel_rfl) (fun _ _ _ h => h) (Or.inl ⟨by rfl, ?_⟩) (by assumption) ?_
      rotate_left
      · ((intro w hSw); (try dsimp only at hSw); go_simp; (try with_reducible rfl))
      try simp only [Act.put, List.setIfInBounds_toArray, List.set_cons_zero, List.set_cons_succ]
      refine wpAnyH_take (i := 30) (oi := { dst := some 92, op := Op.load 25 (Operand.tmp 4), type := 25, pos := _, after := #[{ on := 27, ground := Ground.guard }], guard := some (27, true) }) (v := ?_) rfl (by kernel_rfl) (by kernel_rfl) (by kernel_rfl) (fun _ _ _ h => h) (Or.inl ⟨by rfl, ?_⟩) (by assumption) ?_
      rotate_left
      · ((intro w hSw); (try dsimp only at hSw); go_simp; (try with_reducible rfl))
      try simp only [Act.put, List.setIfInBounds_toArray, List.set_cons_zero, List.set_cons_succ]
      refine wpAnyH_ready (rs := [29]) (by kernel_rfl) (by simp) ?_
      refine (AllReadyH.cons (o := { dst := some 91, op := Op.call { callee := Callee.value (Operand.func 18), args := #[Operand.tmp 90], argTypes := #[25] }, type := 4, pos := _, after := #[{ on := 28, ground := Ground.data }, { on := 27, ground := Ground.chain }, { on := 27, ground := Ground.guard }], guard := some (27, true) }) rfl (fun K hK => ?_) AllReadyH.nil)
      go_simp
      (go_at_call 18; (with_reducible refine (mayE k1 s1 t1 a1 l1.length c1 l1 _ MM rfl HMM.out).mono ?_); rintro e wa ⟨rfl, ba⟩; have hN := below_then (KB.out _ hHeld) ba (KB.out _ hHeld).size; clear ba)
      go_wp2_with fail
      refine hK.out _ _ ?_ (fun hHeld => ?_)
      · ((try dsimp only); (first | (with_reducible exact KS.out _ hN) | (with_reducible exact hHeld) | exact KS.out _ (Below.refl _ _).drew | exact KS.out _ (Below.refl _ _)))
      clear hK K
      try simp only [Act.put, List.setIfInBounds_toArray, List.set_cons_zero, List.set_cons_succ]
      refine wpAnyH_ready (rs := [31]) (by kernel_rfl) (by simp) ?_
      refine (AllReadyH.cons (o := { dst := some 93, op := Op.call { callee := Callee.value (Operand.func 13), args := #[Operand.tmp 92], argTypes := #[25] }, type := 31, pos := _, after := #[{ on := 30, ground := Ground.data }, { on := 29, ground := Ground.chain }, { on := 27, ground := Ground.guard }], guard := some (27, true) }) rfl (fun K hK => ?_) AllReadyH.nil)
      go_simp
      (go_at_call 13; (with_reducible refine (plainK k1 (s1 : Int) (t1 : Int) a1 l1.length c1 _).mono ?_); rintro e wa ⟨rfl, ba⟩; have hN := below_then (KB.out _ hHeld) ba (KB.out _ hHeld).size; clear ba)
      go_wp2_with fail
      refine hK.out _ _ ?_ (fun hHeld => ?_)
      · ((try dsimp only); (first | (with_reducible exact KS.out _ hN) | (with_reducible exact hHeld) | exact KS.out _ (Below.refl _ _).drew | exact KS.out _ (Below.refl _ _)))
      clear hK K
      try simp only [Act.put, List.setIfInBounds_toArray, List.set_cons_zero, List.set_cons_succ]
      refine wpAnyH_ready (rs := [32]) (by kernel_rfl) (by simp) ?_
      refine (AllReadyH.cons (o := { dst := some 94, op := Op.call { callee := Callee.value (Operand.func 19), args := #[Operand.tmp 93], argTypes := #[31] }, type := 4, pos := _, after := #[{ on := 31, ground := Ground.data }, { on := 31, ground := Ground.chain }, { on := 27, ground := Ground.guard }], guard := some (27, true) }) rfl (fun K hK => ?_) AllReadyH.nil)
      go_simp
      (go_at_call 19; (with_reducible refine (dmayE k1 s1 t1 a1 l1.length c1 l1 _ MM rfl HMM.out).mono ?_); rintro e wa ⟨rfl, ba⟩; have hN := below_then (KB.out _ hHeld) ba (KB.out _ hHeld).size; clear ba)
      go_wp2_with fail
      refine hK.out _ _ ?_ (fun hHeld => ?_)
      · ((try dsimp only); (first | (with_reducible exact KS.out _ hN) | (with_reducible exact hHeld) | exact KS.out _ (Below.refl _ _).drew | exact KS.out _ (Below.refl _ _)))
      clear hK K
      try simp only [Act.put, List.setIfInBounds_toArray, List.set_cons_zero, List.set_cons_succ]
      refine wpAnyH_take (i := 33) (oi := { dst := some 95, op := Op.binOp BinOp.eql 4 (Operand.tmp 91) (Operand.tmp 94) 4, type := 4, pos := _, after := #[{ on := 29, ground := Ground.data }, { on := 32, ground := Ground.data }, { on := 27, ground := Ground.guard }], guard := some (27, true) }) (v := ?_) rfl (by kernel_rfl) (by kernel_rfl) (by kernel_rfl) (fun _ _ _ h => h) (Or.inl ⟨by rfl, ?_⟩) (by assumption) ?_
      rotate_left
      · ((intro w hSw); (try dsimp only at hSw); go_simp; (try with_reducible rfl))
      try simp only [Act.put, List.setIfInBounds_toArray, List.set_cons_zero, List.set_cons_succ]
      refine wpAnyH_take (i := 34) (oi := { dst := some 96, op := Op.pick (Operand.tmp 89) (Operand.tmp 95) (Operand.const (Value.bool false)), type := 4, pos := _, after := #[{ on := 27, ground := Ground.data }, { on := 33, ground := Ground.data }], guard := none }) (v := ?_) rfl (by kernel_rfl) (by kernel_rfl) (by kernel_rfl) (fun _ _ _ h => h) (Or.inl ⟨by rfl, ?_⟩) (by assumption) ?_
      rotate_left
      · ((intro w hSw); (try dsimp only at hSw); go_simp; (try with_reducible rfl))
      try simp only [Act.put, List.setIfInBounds_toArray, List.set_cons_zero, List.set_cons_succ]
      refine wpAnyH_take (i := 35) (oi := { dst := some 97, op := Op.move (Operand.tmp 96), type := 4, pos := _, after := #[{ on := 34, ground := Ground.data }, { on := 32, ground := Ground.chain }], guard := none }) (v := ?_) rfl (by kernel_rfl) (by kernel_rfl) (by kernel_rfl) (fun _ _ _ h => h) (Or.inl ⟨by rfl, ?_⟩) (by assumption) ?_
      rotate_left
      · ((intro w hSw); (try dsimp only at hSw); go_simp; (try with_reducible rfl))
      try simp only [Act.put, List.setIfInBounds_toArray, List.set_cons_zero, List.set_cons_succ]
      refine wpAnyH_take (i := 36) (oi := { dst := some 98, op := Op.load 25 (Operand.tmp 4), type := 25, pos := _, after := #[{ on := 35, ground := Ground.guard }], guard := some (35, true) }) (v := ?_) rfl (by kernel_rfl) (by kernel_rfl) (by kernel_rfl) (fun _ _ _ h => h) (Or.inl ⟨by rfl, ?_⟩) (by assumption) ?_
      rotate_left
      · ((intro w hSw); (try dsimp only at hSw); go_simp; (try with_reducible rfl))
      try simp only [Act.put, List.setIfInBounds_toArray, List.set_cons_zero, List.set_cons_succ]
      refine wpAnyH_take (i := 37) (oi := { dst := some 99, op := Op.load 25 (Operand.tmp 5), type := 25, pos := _, after := #[{ on := 35, ground := Ground.guard }], guard := some (35, true) }) (v := ?_) rfl (by kernel_rfl) (by kernel_rfl) (by kernel_rfl) (fun _ _ _ h => h) (Or.inl ⟨by rfl, ?_⟩) (by assumption) ?_
      rotate_left
      · ((intro w hSw); (try dsimp only at hSw); go_simp; (try with_reducible rfl))
      try simp only [Act.put, List.setIfInBounds_toArray, List.set_cons_zero, List.set_cons_succ]
      refine wpAnyH_take (i := 39) (oi := { dst := some 101, op := Op.load 25 (Operand.tmp 4), type := 25, pos := _, after := #[{ on := 35, ground := Ground.guard }], guard := some (35, true) }) (v := ?_) rfl (by kernel_rfl) (by kernel_rfl) (by kernel_rfl) (fun _ _ _ h => h) (Or.inl ⟨by rfl, ?_⟩) (by assumption) ?_
      rotate_left
      · ((intro w hSw); (try dsimp only at hSw); go_simp; (try with_reducible rfl))
      try simp only [Act.put, List.setIfInBounds_toArray, List.set_cons_zero, List.set_cons_succ]
      refine wpAnyH_take (i := 41) (oi := { dst := some 103, op := Op.load 25 (Operand.tmp 5), type := 25, pos := _, after := #[{ on := 35, ground := Ground.guard }], guard := some (35, true) }) (v := ?_) rfl (by kernel_rfl) (by kernel_rfl) (by kernel_rfl) (fun _ _ _ h => h) (Or.inl ⟨by rfl, ?_⟩) (by assumption) ?_
      rotate_left
      · ((intro w hSw); (try dsimp only at hSw); go_simp; (try with_reducible rfl))
      try simp only [Act.put, List.setIfInBounds_toArray, List.set_cons_zero, List.set_cons_succ]
      refine wpAnyH_ready (rs := [38]) (by kernel_rfl) (by simp) ?_
      refine (AllReadyH.cons (o := { dst := some 100, op := Op.call { callee := Callee.value (Operand.func 20), args := #[Operand.tmp 98, Operand.tmp 99], argTypes := #[25, 25] }, type := 4, pos := _, after := #[{ on := 36, ground := Ground.data }, { on := 37, ground := Ground.data }, { on := 35, ground := Ground.chain }, { on := 35, ground := Ground.guard }], guard := some (35, true) }) rfl (fun K hK => ?_) AllReadyH.nil)
      go_simp
      (go_at_call 20; (with_reducible refine (sameK k1 s1 t1 a1 l1.length c1 l1 k2 s2 t2 a2 l2.length c2 l2 _ rfl rfl (sl_then (KB.out _ hHeld) (Nat.le_refl _) HS1z.out) (sl_then (KB.out _ hHeld) (Nat.le_refl _) HS2z.out) HX1.out HX2.out RR HRR.out).mono ?_); rintro e wa ⟨rfl, ba⟩; have hN := below_then (KB.out _ hHeld) ba (KB.out _ hHeld).size; clear ba)
      go_wp2_with fail
      refine hK.out _ _ ?_ (fun hHeld => ?_)
      · ((try dsimp only); (first | (with_reducible exact KS.out _ hN) | (with_reducible exact hHeld) | exact KS.out _ (Below.refl _ _).drew | exact KS.out _ (Below.refl _ _)))
      clear hK K
      try simp only [Act.put, List.setIfInBounds_toArray, List.set_cons_zero, List.set_cons_succ]
      refine wpAnyH_ready (rs := [40]) (by kernel_rfl) (by simp) ?_
      refine (AllReadyH.cons (o := { dst := some 102, op := Op.call { callee := Callee.value (Operand.func 13), args := #[Operand.tmp 101], argTypes := #[25] }, type := 31, pos := _, after := #[{ on := 39, ground := Ground.data }, { on := 38, ground := Ground.chain }, { on := 35, ground := Ground.guard }], guard := some (35, true) }) rfl (fun K hK => ?_) AllReadyH.nil)
      go_simp
      (go_at_call 13; (with_reducible refine (plainK k1 (s1 : Int) (t1 : Int) a1 l1.length c1 _).mono ?_); rintro e wa ⟨rfl, ba⟩; have hN := below_then (KB.out _ hHeld) ba (KB.out _ hHeld).size; clear ba)
      go_wp2_with fail
      refine hK.out _ _ ?_ (fun hHeld => ?_)
      · ((try dsimp only); (first | (with_reducible exact KS.out _ hN) | (with_reducible exact hHeld) | exact KS.out _ (Below.refl _ _).drew | exact KS.out _ (Below.refl _ _)))
      clear hK K
      try simp only [Act.put, List.setIfInBounds_toArray, List.set_cons_zero, List.set_cons_succ]
      refine wpAnyH_ready (rs := [42]) (by kernel_rfl) (by simp) ?_
      refine (AllReadyH.cons (o := { dst := some 104, op := Op.call { callee := Callee.value (Operand.func 13), args := #[Operand.tmp 103], argTypes := #[25] }, type := 31, pos := _, after := #[{ on := 41, ground := Ground.data }, { on := 40, ground := Ground.chain }, { on := 35, ground := Ground.guard }], guard := some (35, true) }) rfl (fun K hK => ?_) AllReadyH.nil)
      go_simp
      (go_at_call 13; (with_reducible refine (plainK k2 (s2 : Int) (t2 : Int) a2 l2.length c2 _).mono ?_); rintro e wa ⟨rfl, ba⟩; have hN := below_then (KB.out _ hHeld) ba (KB.out _ hHeld).size; clear ba)
      go_wp2_with fail
      refine hK.out _ _ ?_ (fun hHeld => ?_)
      · ((try dsimp only); (first | (with_reducible exact KS.out _ hN) | (with_reducible exact hHeld) | exact KS.out _ (Below.refl _ _).drew | exact KS.out _ (Below.refl _ _)))
      clear hK K
      try simp only [Act.put, List.setIfInBounds_toArray, List.set_cons_zero, List.set_cons_succ]
      refine wpAnyH_ready (rs := [43]) (by kernel_rfl) (by simp) ?_
      refine (AllReadyH.cons (o := { dst := some 105, op := Op.call { callee := Callee.value (Operand.func 17), args := #[Operand.tmp 102, Operand.tmp 104], argTypes := #[31, 31] }, type := 4, pos := _, after := #[{ on := 40, ground := Ground.data }, { on := 42, ground := Ground.data }, { on := 42, ground := Ground.chain }, { on := 35, ground := Ground.guard }], guard := some (35, true) }) rfl (fun K hK => ?_) AllReadyH.nil)
      go_simp
      (go_at_call 17; (with_reducible refine (dsameK k1 s1 t1 a1 l1.length c1 l1 k2 s2 t2 a2 l2.length c2 l2 _ rfl rfl (sl_then (KB.out _ hHeld) (Nat.le_refl _) HS1z.out) (sl_then (KB.out _ hHeld) (Nat.le_refl _) HS2z.out) HX1.out HX2.out RR HRR.out).mono ?_); rintro e wa ⟨rfl, ba⟩; have hN := below_then (KB.out _ hHeld) ba (KB.out _ hHeld).size; clear ba)
      go_wp2_with fail
      refine hK.out _ _ ?_ (fun hHeld => ?_)
      · ((try dsimp only); (first | (with_reducible exact KS.out _ hN) | (with_reducible exact hHeld) | exact KS.out _ (Below.refl _ _).drew | exact KS.out _ (Below.refl _ _)))
      clear hK K
      try simp only [Act.put, List.setIfInBounds_toArray, List.set_cons_zero, List.set_cons_succ]
      refine wpAnyH_take (i := 44) (oi := { dst := some 106, op := Op.binOp BinOp.eql 4 (Operand.tmp 100) (Operand.tmp 105) 4, type := 4, pos := _, after := #[{ on := 38, ground := Ground.data }, { on := 43, ground := Ground.data }, { on := 35, ground := Ground.guard }], guard := some (35, true) }) (v := ?_) rfl (by kernel_rfl) (by kernel_rfl) (by kernel_rfl) (fun _ _ _ h => h) (Or.inl ⟨by rfl, ?_⟩) (by assumption) ?_
      rotate_left
      · ((intro w hSw); (try dsimp only at hSw); go_simp; (try with_reducible rfl))
      try simp only [Act.put, List.setIfInBounds_toArray, List.set_cons_zero, List.set_cons_succ]
      refine wpAnyH_take (i := 45) (oi := { dst := some 107, op := Op.pick (Operand.tmp 97) (Operand.tmp 106) (Operand.const (Value.bool false)), type := 4, pos := _, after := #[{ on := 35, ground := Ground.data }, { on := 44, ground := Ground.data }], guard := none }) (v := ?_) rfl (by kernel_rfl) (by kernel_rfl) (by kernel_rfl) (fun _ _ _ h => h) (Or.inl ⟨by rfl, ?_⟩) (by assumption) ?_
      rotate_left
      · ((intro w hSw); (try dsimp only at hSw); go_simp; (try with_reducible rfl))
      try simp only [Act.put, List.setIfInBounds_toArray, List.set_cons_zero, List.set_cons_succ]
      refine wpAnyH_take (i := 46) (oi := { dst := some 8, op := Op.assign (Operand.tmp 107), type := 4, pos := _, after := #[{ on := 45, ground := Ground.data }, { on := 43, ground := Ground.chain }, { on := 0, ground := Ground.phase }, { on := 1, ground := Ground.phase }, { on := 2, ground := Ground.phase }, { on := 3, ground := Ground.phase }, { on := 4, ground := Ground.phase }, { on := 5, ground := Ground.phase }, { on := 6, ground := Ground.phase }, { on := 7, ground := Ground.phase }, { on := 8, ground := Ground.phase }, { on := 9, ground := Ground.phase }, { on := 10, ground := Ground.phase }, { on := 11, ground := Ground.phase }, { on := 12, ground := Ground.phase }, { on := 13, ground := Ground.phase }, { on := 14, ground := Ground.phase }, { on := 15, ground := Ground.phase }, { on := 16, ground := Ground.phase }, { on := 17, ground := Ground.phase }, { on := 18, ground := Ground.phase }, { on := 19, ground := Ground.phase }, { on := 20, ground := Ground.phase }, { on := 21, ground := Ground.phase }, { on := 22, ground := Ground.phase }, { on := 23, ground := Ground.phase }, { on := 24, ground := Ground.phase }, { on := 25, ground := Ground.phase }, { on := 26, ground := Ground.phase }, { on := 27, ground := Ground.phase }, { on := 28, ground := Ground.phase }, { on := 29, ground := Ground.phase }, { on := 30, ground := Ground.phase }, { on := 31, ground := Ground.phase }, { on := 32, ground := Ground.phase }, { on := 33, ground := Ground.phase }, { on := 34, ground := Ground.phase }, { on := 35, ground := Ground.phase }, { on := 36, ground := Ground.phase }, { on := 37, ground := Ground.phase }, { on := 38, ground := Ground.phase }, { on := 39, ground := Ground.phase }, { on := 40, ground := Ground.phase }, { on := 41, ground := Ground.phase }, { on := 42, ground := Ground.phase }, { on := 43, ground := Ground.phase }, { on := 44, ground := Ground.phase }, { on := 45, ground := Ground.phase }], guard := none }) (v := ?_) rfl (by kernel_rfl) (by kernel_rfl) (by kernel_rfl) (fun _ _ _ h => h) (Or.inl ⟨by rfl, ?_⟩) (by assumption) ?_
      rotate_left
      · ((intro w hSw); (try dsimp only at hSw); go_simp; (try with_reducible rfl))
      try simp only [Act.put, List.setIfInBounds_toArray, List.set_cons_zero, List.set_cons_succ]
      refine wpAnyH_done (by kernel_rfl) ?_ _
      clear hN
      go_wp2
      go_ret
      exact ⟨rfl, below_then HBA.out (below_then HQZ.out (KB.out _ hHeld) HQZ.out.size) HBA.out.size⟩

set_option maxRecDepth 100000 in
theorem tellsOut (k1 : Int) (s1 t1 : Nat) (a1 : Option Addr) (m1 c1 : Nat) (k2 : Int) (s2 t2 : Nat) (a2 : Option Addr) (m2 c2 : Nat) (a3 : Option Addr) (m3 c3 : Nat) (pt : Int) (w : World) (hno : 3000 < m1 ∨ 3000 < m2 ∨ 3000 < m3) (hT : TabC w) :
    Calls Tryd.prog 3 #[.agg #[.int .i64 k1, .int .u64 (s1 : Int), .int .u64 (t1 : Int), .slice a1 m1 c1], .agg #[.int .i64 k2, .int .u64 (s2 : Int), .int .u64 (t2 : Int), .slice a2 m2 c2], .slice a3 m3 c3, .int .i64 pt] w fun e w' => e = .returned (.bool true) ∧ Below w.heap.size w w' := by
  have CL := Lib.hid (fun W (h : Below ((w.alloc (.cells #[.int .i64 k1, .int .u64 (s1 : Int), .int .u64 (t1 : Int), .slice a1 m1 c1] 25)).alloc (.cells #[.int .i64 k2, .int .u64 (s2 : Int), .int .u64 (t2 : Int), .slice a2 m2 c2] 25)).heap.size ((w.alloc (.cells #[.int .i64 k1, .int .u64 (s1 : Int), .int .u64 (t1 : Int), .slice a1 m1 c1] 25)).alloc (.cells #[.int .i64 k2, .int .u64 (s2 : Int), .int .u64 (t2 : Int), .slice a2 m2 c2] 25)) W) => boxes2 w W 25 _ _ _ _ _ _ _ _ h)
  have HBA := Lib.hid (show Below w.heap.size w ((w.alloc (.cells #[.int .i64 k1, .int .u64 (s1 : Int), .int .u64 (t1 : Int), .slice a1 m1 c1] 25)).alloc (.cells #[.int .i64 k2, .int .u64 (s2 : Int), .int .u64 (t2 : Int), .slice a2 m2 c2] 25)) from ((Below.refl _ w).alloc (Nat.le_refl _) _).alloc (by simp) _)
  have HT0 := Lib.hid (tabC_then HBA.out (Nat.le_refl _) hT)
  clear hT
  by_cases g0 : 3000 < (m1 : Int)
  · clear hno
    go_enter Tryd.func3, Tryd.ntmps3
    go_wp2_with fail
    generalize ((w.alloc (.cells #[.int .i64 k1, .int .u64 (s1 : Int), .int .u64 (t1 : Int), .slice a1 m1 c1] 25)).alloc (.cells #[.int .i64 k2, .int .u64 (s2 : Int), .int .u64 (t2 : Int), .slice a2 m2 c2] 25)) = w0 at *
    have HQ0 := Lib.hid (Below.refl w0.heap.size w0)
    obtain ⟨p0, p1, p2, p3, q0, q1, q2, q3⟩ := CL.out _ HQ0.out
    go_wp2_with (first
      | (go_at_call 10; (with_reducible refine (firstC w0 (tabC_then HQ0.out (Nat.le_refl _) HT0.out)).mono ?_); rintro e wq1 ⟨rfl, bq⟩; have HQ1 := Lib.hid (below_then HQ0.out bq HQ0.out.size); clear bq; clear p0 p1 p2 p3 q0 q1 q2 q3; obtain ⟨p0, p1, p2, p3, q0, q1, q2, q3⟩ := CL.out _ HQ1.out)
      | (go_at_call 10; (with_reducible refine (firstC wq1 (tabC_then HQ1.out (Nat.le_refl _) HT0.out)).mono ?_); rintro e wq2 ⟨rfl, bq⟩; have HQ2 := Lib.hid (below_then HQ1.out bq HQ1.out.size); clear bq; clear p0 p1 p2 p3 q0 q1 q2 q3; obtain ⟨p0, p1, p2, p3, q0, q1, q2, q3⟩ := CL.out _ HQ2.out))
    go_ret
    exact ⟨rfl, below_then HBA.out HQ2.out HBA.out.size⟩
  ·
    by_cases g1 : 3000 < (m2 : Int)
    · clear hno
      go_enter Tryd.func3, Tryd.ntmps3
      go_wp2_with fail
      generalize ((w.alloc (.cells #[.int .i64 k1, .int .u64 (s1 : Int), .int .u64 (t1 : Int), .slice a1 m1 c1] 25)).alloc (.cells #[.int .i64 k2, .int .u64 (s2 : Int), .int .u64 (t2 : Int), .slice a2 m2 c2] 25)) = w0 at *
      have HQ0 := Lib.hid (Below.refl w0.heap.size w0)
      obtain ⟨p0, p1, p2, p3, q0, q1, q2, q3⟩ := CL.out _ HQ0.out
      go_wp2_with (first
        | (go_at_call 10; (with_reducible refine (firstC w0 (tabC_then HQ0.out (Nat.le_refl _) HT0.out)).mono ?_); rintro e wq1 ⟨rfl, bq⟩; have HQ1 := Lib.hid (below_then HQ0.out bq HQ0.out.size); clear bq; clear p0 p1 p2 p3 q0 q1 q2 q3; obtain ⟨p0, p1, p2, p3, q0, q1, q2, q3⟩ := CL.out _ HQ1.out)
        | (go_at_call 10; (with_reducible refine (firstC wq1 (tabC_then HQ1.out (Nat.le_refl _) HT0.out)).mono ?_); rintro e wq2 ⟨rfl, bq⟩; have HQ2 := Lib.hid (below_then HQ1.out bq HQ1.out.size); clear bq; clear p0 p1 p2 p3 q0 q1 q2 q3; obtain ⟨p0, p1, p2, p3, q0, q1, q2, q3⟩ := CL.out _ HQ2.out))
      go_ret
      exact ⟨rfl, below_then HBA.out HQ2.out HBA.out.size⟩
    ·
      by_cases g2 : 3000 < (m3 : Int)
      · clear hno
        go_enter Tryd.func3, Tryd.ntmps3
        go_wp2_with fail
        generalize ((w.alloc (.cells #[.int .i64 k1, .int .u64 (s1 : Int), .int .u64 (t1 : Int), .slice a1 m1 c1] 25)).alloc (.cells #[.int .i64 k2, .int .u64 (s2 : Int), .int .u64 (t2 : Int), .slice a2 m2 c2] 25)) = w0 at *
        have HQ0 := Lib.hid (Below.refl w0.heap.size w0)
        obtain ⟨p0, p1, p2, p3, q0, q1, q2, q3⟩ := CL.out _ HQ0.out
        go_wp2_with (first
          | (go_at_call 10; (with_reducible refine (firstC w0 (tabC_then HQ0.out (Nat.le_refl _) HT0.out)).mono ?_); rintro e wq1 ⟨rfl, bq⟩; have HQ1 := Lib.hid (below_then HQ0.out bq HQ0.out.size); clear bq; clear p0 p1 p2 p3 q0 q1 q2 q3; obtain ⟨p0, p1, p2, p3, q0, q1, q2, q3⟩ := CL.out _ HQ1.out)
          | (go_at_call 10; (with_reducible refine (firstC wq1 (tabC_then HQ1.out (Nat.le_refl _) HT0.out)).mono ?_); rintro e wq2 ⟨rfl, bq⟩; have HQ2 := Lib.hid (below_then HQ1.out bq HQ1.out.size); clear bq; clear p0 p1 p2 p3 q0 q1 q2 q3; obtain ⟨p0, p1, p2, p3, q0, q1, q2, q3⟩ := CL.out _ HQ2.out))
        go_ret
        exact ⟨rfl, below_then HBA.out HQ2.out HBA.out.size⟩
      ·
        omega

theorem dec_b {l : List Nat} {p : Int} (hl : ∀ c ∈ l, c < 256) : ∀ c ∈ (decA l p).b, c < 256 := by
  have hb : ∀ e : Nat, ∀ c ∈ (bad e).b, c < 256 := fun e c hc => by cases hc
  unfold decA
  split
  · exact hb _
  · have hm : ∀ c ∈ l.drop p.toNat, c < 256 := fun c hc => hl c (List.mem_of_mem_drop hc)
    rcases dec_why (l.drop p.toNat) with h | h
    · have h2 := dec_back hm h
      intro c hc
      refine hm c (List.mem_of_mem_take (i := (decM (l.drop p.toNat)).n) ?_)
      rw [h2.2.1, recL, restL]
      exact List.mem_append.2 (.inr (List.mem_append.2 (.inr hc)))
    · rw [h]; exact hb _
theorem walk (k1 s1 t1 : Int) (a1 : Option Addr) (m1 c1 : Nat) (z1 : List Int) (k2 s2 t2 : Int) (a2 : Option Addr) (m2 c2 : Nat) (z2 : List Int) (a3 : Option Addr) (m3 c3 : Nat) (z3 : List Int) (pt : Int) (W : World)
    (_ : (Lit.int .i64 k1).wf = true) (w1 : (Lit.int .u64 s1).wf = true) (v1 : (Lit.int .u64 t1).wf = true) (r1 : IsRow .u8 W a1 m1 c1 z1) (_ : (Lit.int .i64 k2).wf = true) (w2 : (Lit.int .u64 s2).wf = true) (v2 : (Lit.int .u64 t2).wf = true) (r2 : IsRow .u8 W a2 m2 c2 z2) (r3 : IsRow .u8 W a3 m3 c3 z3) (_ : (Lit.int .i64 pt).wf = true)
    (h1 : Lib.TabIs Tryd.prog W "tickertape/wire.crcSteps" .u32 [0, 498536548, 997073096, 651767980, 1994146192, 1802195444, 1303535960, 1342533948, 3988292384, 4027552580, 3604390888, 3412177804, 2607071920, 2262029012, 2685067896, 3183342108]) :
    Calls Tryd.prog 3 #[.agg #[.int .i64 k1, .int .u64 s1, .int .u64 t1, .slice a1 m1 c1], .agg #[.int .i64 k2, .int .u64 s2, .int .u64 t2, .slice a2 m2 c2], .slice a3 m3 c3, .int .i64 pt] W fun e W' => e = .returned (.bool true) ∧ Below W.heap.size W W' := by
  have hT := ArgB.tab h1 rfl
  obtain ⟨s1, rfl⟩ := Int.eq_ofNat_of_zero_le (inU w1).1
  obtain ⟨t1, rfl⟩ := Int.eq_ofNat_of_zero_le (inU v1).1
  obtain ⟨s2, rfl⟩ := Int.eq_ofNat_of_zero_le (inU w2).1
  obtain ⟨t2, rfl⟩ := Int.eq_ofNat_of_zero_le (inU v2).1
  by_cases hno : 3000 < m1 ∨ 3000 < m2 ∨ 3000 < m3
  · exact tellsOut k1 s1 t1 a1 m1 c1 k2 s2 t2 a2 m2 c2 a3 m3 c3 pt W hno hT
  · obtain ⟨l1, rfl, x1, y1, n1, q1, _⟩ := row_bytes r1
    obtain ⟨l2, rfl, x2, y2, n2, q2, _⟩ := row_bytes r2
    obtain ⟨l3, rfl, x3, y3, n3, q3, _⟩ := row_bytes r3
    exact tells k1 s1 t1 a1 c1 l1 k2 s2 t2 a2 c2 l2 a3 c3 l3 pt W y1 n1 q1 x1 (by omega) y2 n2 q2 x2 (by omega) y3 n3 q3 x3 (by omega) (dec_b x3) hT

end Go.Proofs.YtabgelmmjpjejaaDoor.Rv
