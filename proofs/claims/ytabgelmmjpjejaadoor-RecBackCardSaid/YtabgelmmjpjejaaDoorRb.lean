/- RecBack: there and back, wherever it stands. -/
import Derived.Test.YtabgelmmjpjejaaDoorRg
import Derived.Test.YtabgelmmjpjejaaDoorAr
import Derived.Test.YtabgelmmjpjejaaDoorBg
import Derived.Deep.RegionHeld
set_option linter.unusedVariables false
namespace Go.Proofs.YtabgelmmjpjejaaDoor.Rb
open Go Go.RowKit Kit Crc Var Get Ref3 Copy Bytes Bx Py Py2 Ry Rz Dn Df Dd Da Dc Rs Rf Rg Ar Bg


set_option maxRecDepth 100000 in
set_option maxHeartbeats 8000000 in
theorem back_no (K s t : Nat) (a0 : Option Addr) (c0 : Nat) (l0 : List Nat) (a1 : Option Addr) (c1 : Nat) (l1 : List Nat) (a2 : Option Addr) (c2 : Nat) (l2 : List Nat) (cu pt x : Nat) (w : World) (s0 : Sl w a0 l0) (n0 : a0 = none → c0 = 0) (h0 : l0.length ≤ c0) (x0 : ∀ c ∈ l0, c < 256) (m0 : l0.length ≤ 3000) (s1 : Sl w a1 l1) (n1 : a1 = none → c1 = 0) (x1 : ∀ c ∈ l1, c < 256) (m1 : l1.length ≤ 3000) (s2 : Sl w a2 l2) (n2 : a2 = none → c2 = 0) (x2 : ∀ c ∈ l2, c < 256) (m2 : l2.length ≤ 3000) (hx0 : x ≠ 0) (hx : x < 256) (hm : mayR (K : Int) s t l0.length = true)
    (KI Y : Nat) (T X : List Nat) (hX : X = recL K s t l0) (hKI : KI = 2 + pt % (X.length - 2)) (XK : Nat) (hXK : X[KI]? = some XK) (hY : Y = XK ^^^ x) (hT : T = X.set KI Y) (hd : ¬ (decM T).e = 0) (hTab : TabC w) :
    Calls Tryd.prog 4 #[.agg #[.int .i64 (K : Int), .int .u64 (s : Int), .int .u64 (t : Int), .slice a0 l0.length c0], .slice a1 l1.length c1, .slice a2 l2.length c2, .int .i64 (cu : Int), .int .i64 (pt : Int), .int .u8 (x : Int)] w fun e w' => e = .returned (.bool true) ∧ Below w.heap.size w w' := by
  have HXL := Lib.hid (show 10 ≤ X.length ∧ X.length ≤ 4000 by
    obtain ⟨_, _, e1, e2, _⟩ := mayR_of hm
    have := varL_ten (u64_of e1)
    have := varL_ten (u64_of e2)
    have := varL_ten (show l0.length < 18446744073709551616 by omega)
    have := varL_pos s
    have := varL_pos t
    have := varL_pos l0.length
    rw [hX, recL_len]; omega)
  have HXX := Lib.hid (show ∀ c ∈ X, c < 256 by rw [hX]; exact recL_lt (by have := (mayR_of hm).1; omega) x0)
  have HS0 := Lib.hid s0
  have HN0 := Lib.hid n0
  have HC0 := Lib.hid h0
  have HX0 := Lib.hid x0
  have HL0 := Lib.hid (show l0.length ≤ 900000 by omega)
  have HS1 := Lib.hid s1
  have HN1 := Lib.hid n1
  have HL1 := Lib.hid (show l1.length ≤ 1000000 by omega)
  have HS2 := Lib.hid s2
  have HN2 := Lib.hid n2
  have HM := Lib.hid hm
  have HT := Lib.hid hTab
  have HXE := Lib.hid hX
  have t0 : ¬ 3000 < (l0.length : Int) := by omega
  have t1 : ¬ 3000 < (l1.length : Int) := by omega
  have t2 : ¬ 3000 < (l2.length : Int) := by omega
  have t3 : ¬ (cu : Int) < 0 := by omega
  have t4 : ¬ (pt : Int) < 0 := by omega
  have t5 : ((x : Int) == 0) = false := by rw [beq_eq_false_iff_ne]; omega
  have t6 : decide ((x : Int) = 0) = false := decide_eq_false (by omega)
  have t7 : decide (x = 0) = false := decide_eq_false hx0
  have hKL : KI < X.length := (List.getElem?_eq_some_iff.1 hXK).1
  have t8 : ¬ (X.length : Int) < 10 := by have := HXL.out; omega
  obtain ⟨Z, hZ⟩ : ∃ Z, Z = l1 ++ X ++ l2 := ⟨_, rfl⟩
  have HZZ := Lib.hid hZ
  have HL6 := Lib.hid (show l1.length + X.length ≤ 1000000 by have := HXL.out; omega)
  have HL7 := Lib.hid (show (l1 ++ X).length + l2.length ≤ 1000000 by have := HXL.out; rw [List.length_append]; omega)
  have HZL := Lib.hid (show Z.length ≤ 90000 by have := HXL.out; rw [hZ, List.length_append, List.length_append]; omega)
  have HZX := Lib.hid (show ∀ c ∈ Z, c < 256 by
    rw [hZ]; intro c hc
    rcases List.mem_append.1 hc with h | h
    · rcases List.mem_append.1 h with h | h
      · exact x1 c h
      · exact HXX.out c h
    · exact x2 c h)
  have HD1 := Lib.hid (show decA Z (l1.length : Int) = ⟨0, K, s, t, l0, X.length⟩ by
    have := dec_at (A := l1) l2 hm
    rw [← hX] at this
    rw [hZ]; exact this)
  obtain ⟨EE, hEE⟩ : ∃ E, E = l1.length + X.length := ⟨_, rfl⟩
  have HEE := Lib.hid (show (EE : Int) = (l1.length : Int) + X.length by rw [hEE]; simp)
  have y1 : (l1.length : Int) + (X.length : Int) = (EE : Int) := by omega
  have y2 : EE ≤ 100000 := by have := HXL.out; omega
  obtain ⟨CU, hCU⟩ : ∃ C, C = cu % X.length := ⟨_, rfl⟩
  have hlt : CU < X.length := by rw [hCU]; exact Nat.mod_lt _ (by have := HXL.out; omega)
  have y3 : (cu : Int).tmod (X.length : Int) = (CU : Int) := by rw [hCU]; exact tmod_nat _ _
  have y4 : ¬ (X.length : Int) = 0 := by have := HXL.out; omega
  have y5 : CU ≤ 100000 := by have := HXL.out; omega
  have HSUB := Lib.hid (fun (b o cap : Nat) (hc : X.length ≤ cap) => sub_front (b := b) (o := o) (show CU ≤ X.length by omega) (by have := HXL.out; omega) hc)
  have HCUX := Lib.hid (Nat.le_of_lt hlt)
  have HCL := Lib.hid (show CU = (X.take CU).length by rw [List.length_take]; omega)
  have HCX := Lib.hid (show ∀ c ∈ X.take CU, c < 256 from fun c hc => HXX.out c (List.mem_of_mem_take hc))
  have HCN := Lib.hid (show (X.take CU).length ≤ 90000 by have := HXL.out; rw [List.length_take]; omega)
  have HD2 := Lib.hid (show decA (X.take CU) 0 = bad 3 by
    rw [decA, if_neg (by omega), show (0 : Int).toNat = 0 from rfl, List.drop_zero, hX]
    exact dec_off K s t l0 hm CU (by rw [← hX]; exact hlt))
  have HSS := Lib.hid (show true = sameR (K : Int) s t l0 (K : Int) s t l0 by simp [sameR])
  have HLX := Lib.hid (show X.length ≤ 1000000 by have := HXL.out; omega)
  obtain ⟨NN, hNN⟩ : ∃ n, n = X.length - 2 := ⟨_, rfl⟩
  have z1 : (X.length : Int) - 2 = (NN : Int) := by have := HXL.out; omega
  have z2 : NN ≤ 100000 := by have := HXL.out; omega
  have z3 : ¬ (NN : Int) = 0 := by have := HXL.out; omega
  obtain ⟨AM, hAM⟩ : ∃ a, a = pt % NN := ⟨_, rfl⟩
  have z4 : (pt : Int).tmod (NN : Int) = (AM : Int) := by rw [hAM]; exact tmod_nat _ _
  rw [← hNN, ← hAM] at hKI
  have z5 : (2 : Int) + (AM : Int) = (KI : Int) := by omega
  have z6 : KI ≤ 100000 := by have := HXL.out; omega
  have z7 : (KI : Int) < (X.length : Int) := by omega
  have HXI := Lib.hid (show XK < 256 from HXX.out _ (List.mem_of_getElem? hXK))
  have HXK := Lib.hid (show ∀ h : KI < X.length, X[KI]'h = XK from fun h => by rw [List.getElem?_eq_getElem h] at hXK; exact Option.some.inj hXK)
  have eX : bits .xor .u8 (XK : Int) (x : Int) = (Y : Int) := by rw [hY]; exact (xor8 HXI.out hx).1
  have HTX := Lib.hid (show ∀ c ∈ T, c < 256 by
    rw [hT]; intro c hc
    rcases List.mem_or_eq_of_mem_set hc with h | h
    · exact HXX.out c h
    · rw [h, hY]; exact (xor8 HXI.out hx).2)
  have HTL := Lib.hid (show X.length = T.length by rw [hT, List.length_set])
  have HTN := Lib.hid (show T.length ≤ 90000 by have := HXL.out; rw [← HTL.out]; omega)
  have HTE := Lib.hid hT
  have HKL := Lib.hid hKL
  have hb : decA T 0 = bad (decM T).e := by
    rw [decA, if_neg (by omega)]
    rcases dec_why T with h | h
    · exact absurd h hd
    · exact h
  generalize (decM T).e = De at *
  have HD3 := Lib.hid hb
  have HDE := Lib.hid hd
  have g1 : ((De : Int) != 0) = true := by simpa using hd
  have g2 : ((De : Int) == 0) = false := by rw [beq_eq_false_iff_ne]; omega
  have g3 : decide ((De : Int) = 0) = false := decide_eq_false (by omega)
  clear hb
  have CL := Lib.hid (fun W (h : Below (w.alloc (.cells #[.int .i64 (K : Int), .int .u64 (s : Int), .int .u64 (t : Int), .slice a0 l0.length c0] 25)).heap.size (w.alloc (.cells #[.int .i64 (K : Int), .int .u64 (s : Int), .int .u64 (t : Int), .slice a0 l0.length c0] 25)) W) => box1 w W 25 _ _ _ _ h)
  have HBA := Lib.hid (show Below w.heap.size w (w.alloc (.cells #[.int .i64 (K : Int), .int .u64 (s : Int), .int .u64 (t : Int), .slice a0 l0.length c0] 25)) from (Below.refl _ w).alloc (Nat.le_refl _) _)
  have HGB := Lib.hid (show (w.alloc (.cells #[.int .i64 (K : Int), .int .u64 (s : Int), .int .u64 (t : Int), .slice a0 l0.length c0] 25)).heap.size = w.heap.size + 1 by simp)
  clear s0 n0 h0 x0 m0 s1 n1 x1 m1 s2 n2 x2 m2 hx0 hx hm hX hKI hKL hXK hY hT hd hTab hZ hEE hCU hlt hNN hAM
  as_aux_lemma =>
    go_enter Tryd.func4, Tryd.ntmps4
    go_wp2_with fail
    generalize (w.alloc (.cells #[.int .i64 (K : Int), .int .u64 (s : Int), .int .u64 (t : Int), .slice a0 l0.length c0] 25)) = w0 at *
    have HS00 := Lib.hid (sl_then HBA.out (Nat.le_refl _) HS0.out)
    have HS10 := Lib.hid (sl_then HBA.out (Nat.le_refl _) HS1.out)
    have HS20 := Lib.hid (sl_then HBA.out (Nat.le_refl _) HS2.out)
    have HT0 := Lib.hid (tabC_then HBA.out (Nat.le_refl _) HT.out)
    have HQ0 := Lib.hid (Below.refl w0.heap.size w0)
    obtain ⟨p0, p1, p2, p3⟩ := CL.out _ HQ0.out
    go_wp2_with (first
      | (go_at_call 10; (with_reducible refine (firstC w0 (tabC_then HQ0.out (Nat.le_refl _) HT0.out)).mono ?_); rintro e wq1 ⟨rfl, bq⟩; have HQ1 := Lib.hid (below_then HQ0.out bq HQ0.out.size); clear bq; clear p0 p1 p2 p3; obtain ⟨p0, p1, p2, p3⟩ := CL.out _ HQ1.out)
      | (go_at_call 18; (with_reducible refine (mayE (K : Int) s t a0 l0.length c0 l0 wq1 true rfl HM.out).mono ?_); rintro e wq2 ⟨rfl, bq⟩; have HQ2 := Lib.hid (below_then HQ1.out bq HQ1.out.size); clear bq; clear p0 p1 p2 p3; obtain ⟨p0, p1, p2, p3⟩ := CL.out _ HQ2.out)
      | (go_at_call 11; (with_reducible refine (encY K s t a0 l0.length c0 l0 X wq2 HXE.out rfl HM.out (sl_then HQ2.out (Nat.le_refl _) HS00.out) HN0.out HC0.out HX0.out HL0.out (tabC_then HQ2.out (Nat.le_refl _) HT0.out)).mono ?_); rintro e wq3 ⟨xb, xo, xc, rfl, lx, kx, _, bq⟩; have HQ3 := Lib.hid (below_then HQ2.out bq HQ2.out.size); have X_3 := Lib.hid lx; clear bq lx; clear p0 p1 p2 p3; obtain ⟨p0, p1, p2, p3⟩ := CL.out _ HQ3.out; have HKX := Lib.hid kx; clear kx; have hs1 := HSUB.out xb xo xc HKX.out)
      | (go_at_call 21; (with_reducible refine (copyC a1 c1 l1 wq3 HL1.out (sl_then HQ3.out (Nat.le_refl _) HS10.out) HN1.out).mono ?_); rintro e wq4 ⟨cv, rfl, co, bq⟩; have HQ4 := Lib.hid (below_then HQ3.out bq HQ3.out.size); have X_4 := Lib.hid (sl_then bq (Nat.le_refl _) X_3.out); have HCO := Lib.hid co; have HBC := Lib.hid bq; have HBS := Lib.hid (show wq3.heap.size ≤ wq4.heap.size from bq.size); clear bq co; clear p0 p1 p2 p3; obtain ⟨p0, p1, p2, p3⟩ := CL.out _ HQ4.out)
      | (at_builtin; (refine app_sl rfl _ _ rfl wq3.heap.size _ l1 rfl HCO.out (some ⟨xb, xo, none⟩) X.length xc X rfl rfl (fun h => by cases h) X_4.out HL6.out HBS.out ?_; intro v6 wq5 o6 b6; have HQ5 := Lib.hid (b6 _ _ HQ3.out.size HQ4.out); have HBC6 := Lib.hid (b6 _ _ (Nat.le_refl _) HBC.out); have HR6 := Lib.hid o6; have HBS6 := Lib.hid (show wq3.heap.size ≤ wq5.heap.size from HBC6.out.size); clear b6 o6; clear p0 p1 p2 p3; obtain ⟨p0, p1, p2, p3⟩ := CL.out _ HQ5.out))
      | (at_builtin; (refine app_sl rfl _ _ rfl wq3.heap.size _ (l1 ++ X) rfl HR6.out a2 l2.length c2 l2 rfl rfl HN2.out (sl_then HQ5.out (Nat.le_refl _) HS20.out) HL7.out HBS6.out ?_; intro v7 wq6 o7 b7; have HQ6 := Lib.hid (b7 _ _ HQ3.out.size HQ5.out); have X_6 := Lib.hid (sl_then (b7 _ _ (Nat.le_refl _) HBC6.out) (Nat.le_refl _) X_3.out); rw [← HZZ.out] at o7; obtain ⟨za, zc, rfl, zl, zs, _, _⟩ := rb_sl o7; have HZS := Lib.hid zs; have HZC := Lib.hid zl; clear b7 o7 zl zs; clear p0 p1 p2 p3; obtain ⟨p0, p1, p2, p3⟩ := CL.out _ HQ6.out))
      | (go_at_call 14; (with_reducible refine (decK za Z.length zc Z (l1.length : Int) K s t l0 X.length EE wq6 rfl HD1.out HEE.out HZS.out HZC.out HZX.out HZL.out (tabC_then HQ6.out (Nat.le_refl _) HT0.out)).mono ?_); rintro e wq7 ⟨ua, uc, rfl, lu, bq⟩; have HQ7 := Lib.hid (below_then HQ6.out bq HQ6.out.size); have X_7 := Lib.hid (sl_then bq (Nat.le_refl _) X_6.out); have U_7 := Lib.hid lu; clear bq lu; clear p0 p1 p2 p3; obtain ⟨p0, p1, p2, p3⟩ := CL.out _ HQ7.out)
      | (go_at_call 14; (with_reducible refine (decE (some ⟨xb, xo, none⟩) CU xc (X.take CU) 0 3 _ HCL.out HD2.out (by decide) (sl_of (cells_take (sl_alloc X_7.out (.cells #[.int .i64 (K : Int), .int .u64 (s : Int), .int .u64 (t : Int), .slice ua l0.length uc] 25)) CU _ rfl)) (by rw [← HCL.out]; exact Nat.le_trans HCUX.out HKX.out) HCX.out HCN.out (tabC_then (HQ7.out.alloc HQ7.out.size (.cells #[.int .i64 (K : Int), .int .u64 (s : Int), .int .u64 (t : Int), .slice ua l0.length uc] 25)) (Nat.le_refl _) HT0.out)).mono ?_); rintro e wq8 ⟨ya, yc, rfl, bq⟩; have HQ8 := Lib.hid (stepB HQ7.out (.cells #[.int .i64 (K : Int), .int .u64 (s : Int), .int .u64 (t : Int), .slice ua l0.length uc] 25) bq); have X_8 := Lib.hid (sl_then bq (Nat.le_refl _) (sl_alloc X_7.out _)); have U_8 := Lib.hid (sl_then bq (Nat.le_refl _) (sl_alloc U_7.out _)); have HRR := box1 wq7 wq8 25 _ _ _ _ bq; clear bq; clear p0 p1 p2 p3; obtain ⟨p0, p1, p2, p3⟩ := CL.out _ HQ8.out; obtain ⟨r0, r1, r2, r3⟩ := HRR; have HRH := Lib.hid (And.intro r0 (And.intro r1 (And.intro r2 r3))); have p0a := past_alloc (o := (.cells #[.int .i64 0, .int .u64 0, .int .u64 0, .slice ya 0 yc] 25)) p0; have p1a := past_alloc (o := (.cells #[.int .i64 0, .int .u64 0, .int .u64 0, .slice ya 0 yc] 25)) p1; have p2a := past_alloc (o := (.cells #[.int .i64 0, .int .u64 0, .int .u64 0, .slice ya 0 yc] 25)) p2; have p3a := past_alloc (o := (.cells #[.int .i64 0, .int .u64 0, .int .u64 0, .slice ya 0 yc] 25)) p3; have r0a := past_alloc (o := (.cells #[.int .i64 0, .int .u64 0, .int .u64 0, .slice ya 0 yc] 25)) r0; have r1a := past_alloc (o := (.cells #[.int .i64 0, .int .u64 0, .int .u64 0, .slice ya 0 yc] 25)) r1; have r2a := past_alloc (o := (.cells #[.int .i64 0, .int .u64 0, .int .u64 0, .slice ya 0 yc] 25)) r2; have r3a := past_alloc (o := (.cells #[.int .i64 0, .int .u64 0, .int .u64 0, .slice ya 0 yc] 25)) r3; clear p0 p1 p2 p3 r0 r1 r2 r3; have p0 := True.intro; have p1 := True.intro; have p2 := True.intro; have p3 := True.intro)
      | (go_at_call 20; (with_reducible refine (sameK (K : Int) s t a0 l0.length c0 l0 (K : Int) s t ua l0.length uc l0 _ rfl rfl (sl_then (HQ8.out.alloc HQ8.out.size (.cells #[.int .i64 0, .int .u64 0, .int .u64 0, .slice ya 0 yc] 25)) (Nat.le_refl _) HS00.out) (sl_alloc U_8.out (.cells #[.int .i64 0, .int .u64 0, .int .u64 0, .slice ya 0 yc] 25)) HX0.out HX0.out true HSS.out).mono ?_); rintro e wq9 ⟨rfl, bq⟩; have HQ9 := Lib.hid (stepB HQ8.out (.cells #[.int .i64 0, .int .u64 0, .int .u64 0, .slice ya 0 yc] 25) bq); have X_9 := Lib.hid (sl_then bq (Nat.le_refl _) (sl_alloc X_8.out (.cells #[.int .i64 0, .int .u64 0, .int .u64 0, .slice ya 0 yc] 25))); clear bq; clear p0 p1 p2 p3 p0a p1a p2a p3a r0a r1a r2a r3a; obtain ⟨p0, p1, p2, p3⟩ := CL.out _ HQ9.out))
    as_aux_lemma =>
      go_wp2_with (first
        | (go_at_call 21; (with_reducible refine (copyC (some ⟨xb, xo, none⟩) xc X wq9 HLX.out X_9.out (fun h => by cases h)).mono ?_); rintro e wq10 ⟨cv2, rfl, co2, bq⟩; have HQ10 := Lib.hid (below_then HQ9.out bq HQ9.out.size); obtain ⟨tg, tcap, rfl, tle, tb, tc, tf, ts⟩ := rb_own co2 (by have := HXL.out; omega); have tck := tc KI HKL.out; rw [HXK.out HKL.out] at tck; have tfk := tf KI; have HTC := Lib.hid tle; have HTS := Lib.hid (ts KI Y); have HTB := Lib.hid (Nat.le_trans HQ9.out.size tb); clear bq co2 tle tb tc tf ts; clear p0 p1 p2 p3; obtain ⟨p0, p1, p2, p3⟩ := CL.out _ HQ10.out))
      have HQW := Lib.hid (show Below w0.heap.size w0 (wq10.setCell ⟨tg, KI, none⟩ (.int .u8 (Y : Int))) from HQ10.out.setCell HTB.out (.int .u8 (Y : Int)))
      have HTW := Lib.hid (show Sl (wq10.setCell ⟨tg, KI, none⟩ (.int .u8 (Y : Int))) (some ⟨tg, 0, none⟩) T by have h := rb_sl' HTS.out; rw [HTE.out]; exact h)
      have HTC' := Lib.hid (show T.length ≤ tcap by have := HTC.out; rw [← HTL.out]; exact this)
      clear p0 p1 p2 p3 tck tfk
      as_aux_lemma =>
        generalize (wq10.setCell ⟨tg, KI, none⟩ (.int .u8 (Y : Int))) = wk at *
        obtain ⟨p0, p1, p2, p3⟩ := CL.out _ HQW.out
        go_wp2_with (first
          | (go_at_call 14; (with_reducible refine (decE (some ⟨tg, 0, none⟩) X.length tcap T 0 De wk HTL.out HD3.out HDE.out HTW.out HTC'.out HTX.out HTN.out (tabC_then HQW.out (Nat.le_refl _) HT0.out)).mono ?_); rintro e wq51 ⟨va, vc, rfl, bq⟩; have HQ51 := Lib.hid (below_then HQW.out bq HQW.out.size); clear bq; clear p0 p1 p2 p3; obtain ⟨p0, p1, p2, p3⟩ := CL.out _ HQ51.out)
          | (go_at_call 10; (with_reducible refine (firstC _ (tabC_then (HQ51.out.alloc HQ51.out.size (.cells #[.int .i64 0, .int .u64 0, .int .u64 0, .slice va 0 vc] 25)) (Nat.le_refl _) HT0.out)).mono ?_); rintro e wq52 ⟨rfl, bq⟩; have HQ52 := Lib.hid (stepB HQ51.out (.cells #[.int .i64 0, .int .u64 0, .int .u64 0, .slice va 0 vc] 25) bq); clear bq; clear p0 p1 p2 p3; obtain ⟨p0, p1, p2, p3⟩ := CL.out _ HQ52.out))
        go_ret
        exact ⟨rfl, below_then HBA.out HQ52.out HBA.out.size⟩

set_option maxRecDepth 100000 in
set_option maxHeartbeats 8000000 in
theorem back_ok (KV s t : Nat) (a0 : Option Addr) (c0 : Nat) (l0 : List Nat) (a1 : Option Addr) (c1 : Nat) (l1 : List Nat) (a2 : Option Addr) (c2 : Nat) (l2 : List Nat) (cu pt x : Nat) (w : World) (s0 : Sl w a0 l0) (n0 : a0 = none → c0 = 0) (h0 : l0.length ≤ c0) (x0 : ∀ c ∈ l0, c < 256) (m0 : l0.length ≤ 3000) (s1 : Sl w a1 l1) (n1 : a1 = none → c1 = 0) (x1 : ∀ c ∈ l1, c < 256) (m1 : l1.length ≤ 3000) (s2 : Sl w a2 l2) (n2 : a2 = none → c2 = 0) (x2 : ∀ c ∈ l2, c < 256) (m2 : l2.length ≤ 3000) (hx0 : x ≠ 0) (hx : x < 256) (hm : mayR (KV : Int) s t l0.length = true)
    (KI Y : Nat) (T X : List Nat) (hX : X = recL KV s t l0) (hKI : KI = 2 + pt % (X.length - 2)) (XK : Nat) (hXK : X[KI]? = some XK) (hY : Y = XK ^^^ x) (hT : T = X.set KI Y) (hd : (decM T).e = 0) (hTab : TabC w) :
    Calls Tryd.prog 4 #[.agg #[.int .i64 (KV : Int), .int .u64 (s : Int), .int .u64 (t : Int), .slice a0 l0.length c0], .slice a1 l1.length c1, .slice a2 l2.length c2, .int .i64 (cu : Int), .int .i64 (pt : Int), .int .u8 (x : Int)] w fun e w' => e = .returned (.bool true) ∧ Below w.heap.size w w' := by
  have HXL := Lib.hid (show 10 ≤ X.length ∧ X.length ≤ 4000 by
    obtain ⟨_, _, e1, e2, _⟩ := mayR_of hm
    have := varL_ten (u64_of e1)
    have := varL_ten (u64_of e2)
    have := varL_ten (show l0.length < 18446744073709551616 by omega)
    have := varL_pos s
    have := varL_pos t
    have := varL_pos l0.length
    rw [hX, recL_len]; omega)
  have HXX := Lib.hid (show ∀ c ∈ X, c < 256 by rw [hX]; exact recL_lt (by have := (mayR_of hm).1; omega) x0)
  have HS0 := Lib.hid s0
  have HN0 := Lib.hid n0
  have HC0 := Lib.hid h0
  have HX0 := Lib.hid x0
  have HL0 := Lib.hid (show l0.length ≤ 900000 by omega)
  have HS1 := Lib.hid s1
  have HN1 := Lib.hid n1
  have HL1 := Lib.hid (show l1.length ≤ 1000000 by omega)
  have HS2 := Lib.hid s2
  have HN2 := Lib.hid n2
  have HM := Lib.hid hm
  have HT := Lib.hid hTab
  have HXE := Lib.hid hX
  have t0 : ¬ 3000 < (l0.length : Int) := by omega
  have t1 : ¬ 3000 < (l1.length : Int) := by omega
  have t2 : ¬ 3000 < (l2.length : Int) := by omega
  have t3 : ¬ (cu : Int) < 0 := by omega
  have t4 : ¬ (pt : Int) < 0 := by omega
  have t5 : ((x : Int) == 0) = false := by rw [beq_eq_false_iff_ne]; omega
  have t6 : decide ((x : Int) = 0) = false := decide_eq_false (by omega)
  have t7 : decide (x = 0) = false := decide_eq_false hx0
  have hKL : KI < X.length := (List.getElem?_eq_some_iff.1 hXK).1
  have t8 : ¬ (X.length : Int) < 10 := by have := HXL.out; omega
  obtain ⟨Z, hZ⟩ : ∃ Z, Z = l1 ++ X ++ l2 := ⟨_, rfl⟩
  have HZZ := Lib.hid hZ
  have HL6 := Lib.hid (show l1.length + X.length ≤ 1000000 by have := HXL.out; omega)
  have HL7 := Lib.hid (show (l1 ++ X).length + l2.length ≤ 1000000 by have := HXL.out; rw [List.length_append]; omega)
  have HZL := Lib.hid (show Z.length ≤ 90000 by have := HXL.out; rw [hZ, List.length_append, List.length_append]; omega)
  have HZX := Lib.hid (show ∀ c ∈ Z, c < 256 by
    rw [hZ]; intro c hc
    rcases List.mem_append.1 hc with h | h
    · rcases List.mem_append.1 h with h | h
      · exact x1 c h
      · exact HXX.out c h
    · exact x2 c h)
  have HD1 := Lib.hid (show decA Z (l1.length : Int) = ⟨0, KV, s, t, l0, X.length⟩ by
    have := dec_at (A := l1) l2 hm
    rw [← hX] at this
    rw [hZ]; exact this)
  obtain ⟨EE, hEE⟩ : ∃ E, E = l1.length + X.length := ⟨_, rfl⟩
  have HEE := Lib.hid (show (EE : Int) = (l1.length : Int) + X.length by rw [hEE]; simp)
  have y1 : (l1.length : Int) + (X.length : Int) = (EE : Int) := by omega
  have y2 : EE ≤ 100000 := by have := HXL.out; omega
  obtain ⟨CU, hCU⟩ : ∃ C, C = cu % X.length := ⟨_, rfl⟩
  have hlt : CU < X.length := by rw [hCU]; exact Nat.mod_lt _ (by have := HXL.out; omega)
  have y3 : (cu : Int).tmod (X.length : Int) = (CU : Int) := by rw [hCU]; exact tmod_nat _ _
  have y4 : ¬ (X.length : Int) = 0 := by have := HXL.out; omega
  have y5 : CU ≤ 100000 := by have := HXL.out; omega
  have HSUB := Lib.hid (fun (b o cap : Nat) (hc : X.length ≤ cap) => sub_front (b := b) (o := o) (show CU ≤ X.length by omega) (by have := HXL.out; omega) hc)
  have HCUX := Lib.hid (Nat.le_of_lt hlt)
  have HCL := Lib.hid (show CU = (X.take CU).length by rw [List.length_take]; omega)
  have HCX := Lib.hid (show ∀ c ∈ X.take CU, c < 256 from fun c hc => HXX.out c (List.mem_of_mem_take hc))
  have HCN := Lib.hid (show (X.take CU).length ≤ 90000 by have := HXL.out; rw [List.length_take]; omega)
  have HD2 := Lib.hid (show decA (X.take CU) 0 = bad 3 by
    rw [decA, if_neg (by omega), show (0 : Int).toNat = 0 from rfl, List.drop_zero, hX]
    exact dec_off KV s t l0 hm CU (by rw [← hX]; exact hlt))
  have HSS := Lib.hid (show true = sameR (KV : Int) s t l0 (KV : Int) s t l0 by simp [sameR])
  have HLX := Lib.hid (show X.length ≤ 1000000 by have := HXL.out; omega)
  obtain ⟨NN, hNN⟩ : ∃ n, n = X.length - 2 := ⟨_, rfl⟩
  have z1 : (X.length : Int) - 2 = (NN : Int) := by have := HXL.out; omega
  have z2 : NN ≤ 100000 := by have := HXL.out; omega
  have z3 : ¬ (NN : Int) = 0 := by have := HXL.out; omega
  obtain ⟨AM, hAM⟩ : ∃ a, a = pt % NN := ⟨_, rfl⟩
  have z4 : (pt : Int).tmod (NN : Int) = (AM : Int) := by rw [hAM]; exact tmod_nat _ _
  rw [← hNN, ← hAM] at hKI
  have z5 : (2 : Int) + (AM : Int) = (KI : Int) := by omega
  have z6 : KI ≤ 100000 := by have := HXL.out; omega
  have z7 : (KI : Int) < (X.length : Int) := by omega
  have HXI := Lib.hid (show XK < 256 from HXX.out _ (List.mem_of_getElem? hXK))
  have HXK := Lib.hid (show ∀ h : KI < X.length, X[KI]'h = XK from fun h => by rw [List.getElem?_eq_getElem h] at hXK; exact Option.some.inj hXK)
  have eX : bits .xor .u8 (XK : Int) (x : Int) = (Y : Int) := by rw [hY]; exact (xor8 HXI.out hx).1
  have HTX := Lib.hid (show ∀ c ∈ T, c < 256 by
    rw [hT]; intro c hc
    rcases List.mem_or_eq_of_mem_set hc with h | h
    · exact HXX.out c h
    · rw [h, hY]; exact (xor8 HXI.out hx).2)
  have HTL := Lib.hid (show X.length = T.length by rw [hT, List.length_set])
  have HTN := Lib.hid (show T.length ≤ 90000 by have := HXL.out; rw [← HTL.out]; omega)
  have HTE := Lib.hid hT
  have HKL := Lib.hid hKL
  obtain ⟨f1, f2, f3⟩ := back_facts HTX.out hd
  have f4 := turned hm HTX.out (i := KI) (y := Y) (by rw [← hX]; exact hKL) (by have e : (recL KV s t l0)[KI]'(by rw [← hX]; exact hKL) = XK := (by have := HXK.out hKL; simp only [hX] at this; exact this); rw [e, hY]; exact xor_ne hx0) (by rw [hT, hX]) hd
  have f5 := dec_back HTX.out hd
  have hD3 : decA T 0 = decM T := by rw [decA, if_neg (by omega)]; rfl
  generalize decM T = D at *
  obtain ⟨De, DK, DS, DT, DB, DN⟩ := D
  dsimp only at hd f1 f2 f3 f4 f5
  subst hd
  have HD3 := Lib.hid hD3
  have g1 : (DN : Int) ≤ (X.length : Int) := by have := HTL.out; omega
  have g2 : decide ((DN : Int) ≤ (X.length : Int)) = true := decide_eq_true g1
  have g3 : decide (DN ≤ X.length) = true := decide_eq_true (by omega)
  have g4 : DN ≤ 100000 := by have := HXL.out; omega
  have g5 : (6 : Int) ≤ (DN : Int) := by omega
  have HSN := Lib.hid f4
  have HDBX := Lib.hid (show ∀ c ∈ DB, c < 256 by
    intro c hc
    refine HTX.out c (List.mem_of_mem_take (i := DN) ?_)
    rw [f5.2.1, recL, restL]
    exact List.mem_append.2 (.inr (List.mem_append.2 (.inr hc))))
  obtain ⟨D6, hD6⟩ : ∃ D, D = (T.drop 6).take (DN - 6) := ⟨_, rfl⟩
  obtain ⟨SU, hSU⟩ : ∃ D, D = (T.drop 2).take (6 - 2) := ⟨_, rfl⟩
  rw [← hD6, ← hSU] at f3
  obtain ⟨CR, hCR⟩ : ∃ C, C = crc D6 := ⟨_, rfl⟩
  rw [← hCR] at f3
  have HCR := Lib.hid hCR
  have HSU := Lib.hid f3
  have HD6X := Lib.hid (show ∀ c ∈ D6, c < 256 by rw [hD6]; exact fun c hc => HTX.out c (List.mem_of_mem_drop (List.mem_of_mem_take hc)))
  have HD6N := Lib.hid (show D6.length ≤ 9223372036854775807 by have := HTN.out; rw [hD6]; simp; omega)
  have HCL2 := Lib.hid (show CR < 4294967296 by rw [hCR]; exact crc_lt _ HD6X.out)
  have g6 : (CR : Int) % 4294967296 = (CR : Int) := by have := HCL2.out; omega
  have HSA := Lib.hid (fun (g cap : Nat) (W : World) (hs : Sl W (some ⟨g, 0, none⟩) T) (hc : T.length ≤ cap) => sub_some hs hc 6 DN (by omega) (by omega) D6 hD6)
  have HSB := Lib.hid (fun (g cap : Nat) (W : World) (hs : Sl W (some ⟨g, 0, none⟩) T) (hc : T.length ≤ cap) => sub_some hs hc 2 6 (by omega) (by omega) SU hSU)
  clear f1 f2 f3 f4 f5 hD3 hD6 hSU hCR
  have CL := Lib.hid (fun W (h : Below (w.alloc (.cells #[.int .i64 (KV : Int), .int .u64 (s : Int), .int .u64 (t : Int), .slice a0 l0.length c0] 25)).heap.size (w.alloc (.cells #[.int .i64 (KV : Int), .int .u64 (s : Int), .int .u64 (t : Int), .slice a0 l0.length c0] 25)) W) => box1 w W 25 _ _ _ _ h)
  have HBA := Lib.hid (show Below w.heap.size w (w.alloc (.cells #[.int .i64 (KV : Int), .int .u64 (s : Int), .int .u64 (t : Int), .slice a0 l0.length c0] 25)) from (Below.refl _ w).alloc (Nat.le_refl _) _)
  have HGB := Lib.hid (show (w.alloc (.cells #[.int .i64 (KV : Int), .int .u64 (s : Int), .int .u64 (t : Int), .slice a0 l0.length c0] 25)).heap.size = w.heap.size + 1 by simp)
  clear s0 n0 h0 x0 m0 s1 n1 x1 m1 s2 n2 x2 m2 hx0 hx hm hX hKI hKL hXK hY hT hTab hZ hEE hCU hlt hNN hAM
  as_aux_lemma =>
    go_enter Tryd.func4, Tryd.ntmps4
    go_wp2_with fail
    generalize (w.alloc (.cells #[.int .i64 (KV : Int), .int .u64 (s : Int), .int .u64 (t : Int), .slice a0 l0.length c0] 25)) = w0 at *
    have HS00 := Lib.hid (sl_then HBA.out (Nat.le_refl _) HS0.out)
    have HS10 := Lib.hid (sl_then HBA.out (Nat.le_refl _) HS1.out)
    have HS20 := Lib.hid (sl_then HBA.out (Nat.le_refl _) HS2.out)
    have HT0 := Lib.hid (tabC_then HBA.out (Nat.le_refl _) HT.out)
    have HQ0 := Lib.hid (Below.refl w0.heap.size w0)
    obtain ⟨p0, p1, p2, p3⟩ := CL.out _ HQ0.out
    go_wp2_with (first
      | (go_at_call 10; (with_reducible refine (firstC w0 (tabC_then HQ0.out (Nat.le_refl _) HT0.out)).mono ?_); rintro e wq1 ⟨rfl, bq⟩; have HQ1 := Lib.hid (below_then HQ0.out bq HQ0.out.size); clear bq; clear p0 p1 p2 p3; obtain ⟨p0, p1, p2, p3⟩ := CL.out _ HQ1.out)
      | (go_at_call 18; (with_reducible refine (mayE (KV : Int) s t a0 l0.length c0 l0 wq1 true rfl HM.out).mono ?_); rintro e wq2 ⟨rfl, bq⟩; have HQ2 := Lib.hid (below_then HQ1.out bq HQ1.out.size); clear bq; clear p0 p1 p2 p3; obtain ⟨p0, p1, p2, p3⟩ := CL.out _ HQ2.out)
      | (go_at_call 11; (with_reducible refine (encY KV s t a0 l0.length c0 l0 X wq2 HXE.out rfl HM.out (sl_then HQ2.out (Nat.le_refl _) HS00.out) HN0.out HC0.out HX0.out HL0.out (tabC_then HQ2.out (Nat.le_refl _) HT0.out)).mono ?_); rintro e wq3 ⟨xb, xo, xc, rfl, lx, kx, _, bq⟩; have HQ3 := Lib.hid (below_then HQ2.out bq HQ2.out.size); have X_3 := Lib.hid lx; clear bq lx; clear p0 p1 p2 p3; obtain ⟨p0, p1, p2, p3⟩ := CL.out _ HQ3.out; have HKX := Lib.hid kx; clear kx; have hs1 := HSUB.out xb xo xc HKX.out)
      | (go_at_call 21; (with_reducible refine (copyC a1 c1 l1 wq3 HL1.out (sl_then HQ3.out (Nat.le_refl _) HS10.out) HN1.out).mono ?_); rintro e wq4 ⟨cv, rfl, co, bq⟩; have HQ4 := Lib.hid (below_then HQ3.out bq HQ3.out.size); have X_4 := Lib.hid (sl_then bq (Nat.le_refl _) X_3.out); have HCO := Lib.hid co; have HBC := Lib.hid bq; have HBS := Lib.hid (show wq3.heap.size ≤ wq4.heap.size from bq.size); clear bq co; clear p0 p1 p2 p3; obtain ⟨p0, p1, p2, p3⟩ := CL.out _ HQ4.out)
      | (at_builtin; (refine app_sl rfl _ _ rfl wq3.heap.size _ l1 rfl HCO.out (some ⟨xb, xo, none⟩) X.length xc X rfl rfl (fun h => by cases h) X_4.out HL6.out HBS.out ?_; intro v6 wq5 o6 b6; have HQ5 := Lib.hid (b6 _ _ HQ3.out.size HQ4.out); have HBC6 := Lib.hid (b6 _ _ (Nat.le_refl _) HBC.out); have HR6 := Lib.hid o6; have HBS6 := Lib.hid (show wq3.heap.size ≤ wq5.heap.size from HBC6.out.size); clear b6 o6; clear p0 p1 p2 p3; obtain ⟨p0, p1, p2, p3⟩ := CL.out _ HQ5.out))
      | (at_builtin; (refine app_sl rfl _ _ rfl wq3.heap.size _ (l1 ++ X) rfl HR6.out a2 l2.length c2 l2 rfl rfl HN2.out (sl_then HQ5.out (Nat.le_refl _) HS20.out) HL7.out HBS6.out ?_; intro v7 wq6 o7 b7; have HQ6 := Lib.hid (b7 _ _ HQ3.out.size HQ5.out); have X_6 := Lib.hid (sl_then (b7 _ _ (Nat.le_refl _) HBC6.out) (Nat.le_refl _) X_3.out); rw [← HZZ.out] at o7; obtain ⟨za, zc, rfl, zl, zs, _, _⟩ := rb_sl o7; have HZS := Lib.hid zs; have HZC := Lib.hid zl; clear b7 o7 zl zs; clear p0 p1 p2 p3; obtain ⟨p0, p1, p2, p3⟩ := CL.out _ HQ6.out))
      | (go_at_call 14; (with_reducible refine (decK za Z.length zc Z (l1.length : Int) KV s t l0 X.length EE wq6 rfl HD1.out HEE.out HZS.out HZC.out HZX.out HZL.out (tabC_then HQ6.out (Nat.le_refl _) HT0.out)).mono ?_); rintro e wq7 ⟨ua, uc, rfl, lu, bq⟩; have HQ7 := Lib.hid (below_then HQ6.out bq HQ6.out.size); have X_7 := Lib.hid (sl_then bq (Nat.le_refl _) X_6.out); have U_7 := Lib.hid lu; clear bq lu; clear p0 p1 p2 p3; obtain ⟨p0, p1, p2, p3⟩ := CL.out _ HQ7.out)
      | (go_at_call 14; (with_reducible refine (decE (some ⟨xb, xo, none⟩) CU xc (X.take CU) 0 3 _ HCL.out HD2.out (by decide) (sl_of (cells_take (sl_alloc X_7.out (.cells #[.int .i64 (KV : Int), .int .u64 (s : Int), .int .u64 (t : Int), .slice ua l0.length uc] 25)) CU _ rfl)) (by rw [← HCL.out]; exact Nat.le_trans HCUX.out HKX.out) HCX.out HCN.out (tabC_then (HQ7.out.alloc HQ7.out.size (.cells #[.int .i64 (KV : Int), .int .u64 (s : Int), .int .u64 (t : Int), .slice ua l0.length uc] 25)) (Nat.le_refl _) HT0.out)).mono ?_); rintro e wq8 ⟨ya, yc, rfl, bq⟩; have HQ8 := Lib.hid (stepB HQ7.out (.cells #[.int .i64 (KV : Int), .int .u64 (s : Int), .int .u64 (t : Int), .slice ua l0.length uc] 25) bq); have X_8 := Lib.hid (sl_then bq (Nat.le_refl _) (sl_alloc X_7.out _)); have U_8 := Lib.hid (sl_then bq (Nat.le_refl _) (sl_alloc U_7.out _)); have HRR := box1 wq7 wq8 25 _ _ _ _ bq; clear bq; clear p0 p1 p2 p3; obtain ⟨p0, p1, p2, p3⟩ := CL.out _ HQ8.out; obtain ⟨r0, r1, r2, r3⟩ := HRR; have HRH := Lib.hid (And.intro r0 (And.intro r1 (And.intro r2 r3))); have p0a := past_alloc (o := (.cells #[.int .i64 0, .int .u64 0, .int .u64 0, .slice ya 0 yc] 25)) p0; have p1a := past_alloc (o := (.cells #[.int .i64 0, .int .u64 0, .int .u64 0, .slice ya 0 yc] 25)) p1; have p2a := past_alloc (o := (.cells #[.int .i64 0, .int .u64 0, .int .u64 0, .slice ya 0 yc] 25)) p2; have p3a := past_alloc (o := (.cells #[.int .i64 0, .int .u64 0, .int .u64 0, .slice ya 0 yc] 25)) p3; have r0a := past_alloc (o := (.cells #[.int .i64 0, .int .u64 0, .int .u64 0, .slice ya 0 yc] 25)) r0; have r1a := past_alloc (o := (.cells #[.int .i64 0, .int .u64 0, .int .u64 0, .slice ya 0 yc] 25)) r1; have r2a := past_alloc (o := (.cells #[.int .i64 0, .int .u64 0, .int .u64 0, .slice ya 0 yc] 25)) r2; have r3a := past_alloc (o := (.cells #[.int .i64 0, .int .u64 0, .int .u64 0, .slice ya 0 yc] 25)) r3; clear p0 p1 p2 p3 r0 r1 r2 r3; have p0 := True.intro; have p1 := True.intro; have p2 := True.intro; have p3 := True.intro)
      | (go_at_call 20; (with_reducible refine (sameK (KV : Int) s t a0 l0.length c0 l0 (KV : Int) s t ua l0.length uc l0 _ rfl rfl (sl_then (HQ8.out.alloc HQ8.out.size (.cells #[.int .i64 0, .int .u64 0, .int .u64 0, .slice ya 0 yc] 25)) (Nat.le_refl _) HS00.out) (sl_alloc U_8.out (.cells #[.int .i64 0, .int .u64 0, .int .u64 0, .slice ya 0 yc] 25)) HX0.out HX0.out true HSS.out).mono ?_); rintro e wq9 ⟨rfl, bq⟩; have HQ9 := Lib.hid (stepB HQ8.out (.cells #[.int .i64 0, .int .u64 0, .int .u64 0, .slice ya 0 yc] 25) bq); have X_9 := Lib.hid (sl_then bq (Nat.le_refl _) (sl_alloc X_8.out (.cells #[.int .i64 0, .int .u64 0, .int .u64 0, .slice ya 0 yc] 25))); clear bq; clear p0 p1 p2 p3 p0a p1a p2a p3a r0a r1a r2a r3a; obtain ⟨p0, p1, p2, p3⟩ := CL.out _ HQ9.out))
    as_aux_lemma =>
      go_wp2_with (first
        | (go_at_call 21; (with_reducible refine (copyC (some ⟨xb, xo, none⟩) xc X wq9 HLX.out X_9.out (fun h => by cases h)).mono ?_); rintro e wq10 ⟨cv2, rfl, co2, bq⟩; have HQ10 := Lib.hid (below_then HQ9.out bq HQ9.out.size); obtain ⟨tg, tcap, rfl, tle, tb, tc, tf, ts⟩ := rb_own co2 (by have := HXL.out; omega); have tck := tc KI HKL.out; rw [HXK.out HKL.out] at tck; have tfk := tf KI; have HTC := Lib.hid tle; have HTS := Lib.hid (ts KI Y); have HTB := Lib.hid (Nat.le_trans HQ9.out.size tb); clear bq co2 tle tb tc tf ts; clear p0 p1 p2 p3; obtain ⟨p0, p1, p2, p3⟩ := CL.out _ HQ10.out))
      have HQW := Lib.hid (show Below w0.heap.size w0 (wq10.setCell ⟨tg, KI, none⟩ (.int .u8 (Y : Int))) from HQ10.out.setCell HTB.out (.int .u8 (Y : Int)))
      have HTW := Lib.hid (show Sl (wq10.setCell ⟨tg, KI, none⟩ (.int .u8 (Y : Int))) (some ⟨tg, 0, none⟩) T by have h := rb_sl' HTS.out; rw [HTE.out]; exact h)
      have HTC' := Lib.hid (show T.length ≤ tcap by have := HTC.out; rw [← HTL.out]; exact this)
      clear p0 p1 p2 p3 tck tfk
      as_aux_lemma =>
        generalize (wq10.setCell ⟨tg, KI, none⟩ (.int .u8 (Y : Int))) = wk at *
        obtain ⟨p0, p1, p2, p3⟩ := CL.out _ HQW.out
        go_wp2_with (first
          | (go_at_call 14; (with_reducible refine (decK (some ⟨tg, 0, none⟩) X.length tcap T 0 DK DS DT DB DN DN wk HTL.out HD3.out (by simp) HTW.out HTC'.out HTX.out HTN.out (tabC_then HQW.out (Nat.le_refl _) HT0.out)).mono ?_); rintro e wq51 ⟨va, vc, rfl, lv, bq⟩; have HQ51 := Lib.hid (below_then HQW.out bq HQW.out.size); have T_51 := Lib.hid (sl_then bq (Nat.le_refl _) HTW.out); have V_51 := Lib.hid lv; clear bq lv; clear p0 p1 p2 p3; obtain ⟨p0, p1, p2, p3⟩ := CL.out _ HQ51.out))
        have HQZ := Lib.hid (HQ51.out.alloc HQ51.out.size (.cells #[.int .i64 (DK : Int), .int .u64 (DS : Int), .int .u64 (DT : Int), .slice va DB.length vc] 25))
        have HTz0 := Lib.hid (sl_alloc T_51.out (.cells #[.int .i64 (DK : Int), .int .u64 (DS : Int), .int .u64 (DT : Int), .slice va DB.length vc] 25))
        have HVz := Lib.hid (sl_alloc V_51.out (.cells #[.int .i64 (DK : Int), .int .u64 (DS : Int), .int .u64 (DT : Int), .slice va DB.length vc] 25))
        have CU2 := Lib.hid (fun W (h : Below (wq51.alloc (.cells #[.int .i64 (DK : Int), .int .u64 (DS : Int), .int .u64 (DT : Int), .slice va DB.length vc] 25)).heap.size (wq51.alloc (.cells #[.int .i64 (DK : Int), .int .u64 (DS : Int), .int .u64 (DT : Int), .slice va DB.length vc] 25)) W) => box1 wq51 W 25 _ _ _ _ h)
        clear p0 p1 p2 p3
        as_aux_lemma =>
          generalize (wq51.alloc (.cells #[.int .i64 (DK : Int), .int .u64 (DS : Int), .int .u64 (DT : Int), .slice va DB.length vc] 25)) = wz at *
          generalize wq51.heap.size = g3 at *
          have HS0z := Lib.hid (sl_then HQZ.out (Nat.le_refl _) HS00.out)
          have HTz := Lib.hid (tabC_then HQZ.out (Nat.le_refl _) HT0.out)
          obtain ⟨yA, cA, hA, sA, _⟩ := HSA.out tg tcap wz HTz0.out HTC'.out
          obtain ⟨yB, cB, hB, sB, _⟩ := HSB.out tg tcap wz HTz0.out HTC'.out
          have HAz := Lib.hid sA
          have HBz := Lib.hid sB
          rw [← HTL.out] at hA hB
          have hA' : ∀ w1 : World, (Instr.sliceAt 23 (.slice (some ⟨tg, 0, none⟩) X.length tcap) (some (.int .i64 6)) (some (.int .i64 (DN : Int))) none).run Tryd.prog w1 = .ok (.slice (some yA) D6.length cA) w1 := hA
          have hB' : ∀ w1 : World, (Instr.sliceAt 23 (.slice (some ⟨tg, 0, none⟩) X.length tcap) (some (.int .i64 2)) (some (.int .i64 6)) none).run Tryd.prog w1 = .ok (.slice (some yB) SU.length cB) w1 := hB
          clear hA hB sA sB
          have KS := Lib.hid (show ∀ W, Below wz.heap.size wz W → W.cell? ⟨w.heap.size, 0, none⟩ = some (.int .i64 (KV : Int)) ∧ W.cell? ⟨w.heap.size, 1, none⟩ = some (.int .u64 (s : Int)) ∧ W.cell? ⟨w.heap.size, 2, none⟩ = some (.int .u64 (t : Int)) ∧ W.cell? ⟨w.heap.size, 3, none⟩ = some (.slice a0 l0.length c0) ∧ W.cell? ⟨g3, 0, none⟩ = some (.int .i64 (DK : Int)) ∧ W.cell? ⟨g3, 1, none⟩ = some (.int .u64 (DS : Int)) ∧ W.cell? ⟨g3, 2, none⟩ = some (.int .u64 (DT : Int)) ∧ W.cell? ⟨g3, 3, none⟩ = some (.slice va DB.length vc) ∧ Below wz.heap.size wz W from fun W h => by
            obtain ⟨p0, p1, p2, p3⟩ := CL.out _ (below_then HQZ.out h HQZ.out.size)
            obtain ⟨r0, r1, r2, r3⟩ := CU2.out _ h
            exact ⟨p0, p1, p2, p3, r0, r1, r2, r3, h⟩)
          have KB := Lib.hid (show ∀ W, (W.cell? ⟨w.heap.size, 0, none⟩ = some (.int .i64 (KV : Int)) ∧ W.cell? ⟨w.heap.size, 1, none⟩ = some (.int .u64 (s : Int)) ∧ W.cell? ⟨w.heap.size, 2, none⟩ = some (.int .u64 (t : Int)) ∧ W.cell? ⟨w.heap.size, 3, none⟩ = some (.slice a0 l0.length c0) ∧ W.cell? ⟨g3, 0, none⟩ = some (.int .i64 (DK : Int)) ∧ W.cell? ⟨g3, 1, none⟩ = some (.int .u64 (DS : Int)) ∧ W.cell? ⟨g3, 2, none⟩ = some (.int .u64 (DT : Int)) ∧ W.cell? ⟨g3, 3, none⟩ = some (.slice va DB.length vc) ∧ Below wz.heap.size wz W) → Below wz.heap.size wz W from fun W h => h.2.2.2.2.2.2.2.2)
          have g7 : IntKind.u32.wrap (CR : Int) = (CR : Int) := by rw [IntKind.wrap_u32]; exact g6
          go_wp2_with fail
          refine wp_region_held_drew (S := (fun W => W.cell? ⟨w.heap.size, 0, none⟩ = some (.int .i64 (KV : Int)) ∧ W.cell? ⟨w.heap.size, 1, none⟩ = some (.int .u64 (s : Int)) ∧ W.cell? ⟨w.heap.size, 2, none⟩ = some (.int .u64 (t : Int)) ∧ W.cell? ⟨w.heap.size, 3, none⟩ = some (.slice a0 l0.length c0) ∧ W.cell? ⟨g3, 0, none⟩ = some (.int .i64 (DK : Int)) ∧ W.cell? ⟨g3, 1, none⟩ = some (.int .u64 (DS : Int)) ∧ W.cell? ⟨g3, 2, none⟩ = some (.int .u64 (DT : Int)) ∧ W.cell? ⟨g3, 3, none⟩ = some (.slice va DB.length vc) ∧ Below wz.heap.size wz W)) (by kernel_rfl) ?_ (fun hHeld => ?_)
          · ((try dsimp only); (first | (with_reducible exact KS.out _ hN) | (with_reducible exact hHeld) | exact KS.out _ (Below.refl _ _).drew | exact KS.out _ (Below.refl _ _)))
          refine wpAnyH_ready (rs := [0]) (by kernel_rfl) (by simp) ?_
          refine (AllReadyH.cons (o := { dst := some 145, op := Op.call { callee := Callee.value (Operand.func 10), args := #[], argTypes := #[] }, type := 4, pos := _, after := #[], guard := none }) rfl (fun K hK => ?_) AllReadyH.nil)
          go_simp
          (go_at_call 10; (with_reducible refine (firstC _ (tabC_then (KB.out _ hHeld) (Nat.le_refl _) HTz.out)).mono ?_); rintro e wa ⟨rfl, ba⟩; have hN := below_then (KB.out _ hHeld) ba (KB.out _ hHeld).size; clear ba)
          go_wp2_with fail
          refine hK.out _ _ ?_ (fun hHeld => ?_)
          · ((try dsimp only); (first | (with_reducible exact KS.out _ hN) | (with_reducible exact hHeld) | exact KS.out _ (Below.refl _ _).drew | exact KS.out _ (Below.refl _ _)))
          clear hK K
          try simp only [Act.put, List.setIfInBounds_toArray, List.set_cons_zero, List.set_cons_succ]
          refine wpAnyH_take (i := 1) (oi := { dst := some 146, op := Op.move (Operand.tmp 145), type := 4, pos := _, after := #[{ on := 0, ground := Ground.data }, { on := 0, ground := Ground.chain }], guard := none }) (v := ?_) rfl (by kernel_rfl) (by kernel_rfl) (by kernel_rfl) (fun _ _ _ h => h) (Or.inl ⟨by rfl, ?_⟩) (by assumption) ?_
          rotate_left
          · ((intro w hSw); (try dsimp only at hSw); go_simp; (try with_reducible rfl))
          try simp only [Act.put, List.setIfInBounds_toArray, List.set_cons_zero, List.set_cons_succ]
          refine wpAnyH_take (i := 2) (oi := { dst := some 147, op := Op.move (Operand.tmp 25), type := 3, pos := _, after := #[{ on := 1, ground := Ground.guard }], guard := some (1, true) }) (v := ?_) rfl (by kernel_rfl) (by kernel_rfl) (by kernel_rfl) (fun _ _ _ h => h) (Or.inl ⟨by rfl, ?_⟩) (by assumption) ?_
          rotate_left
          · ((intro w hSw); (try dsimp only at hSw); go_simp; (try with_reducible rfl))
          try simp only [Act.put, List.setIfInBounds_toArray, List.set_cons_zero, List.set_cons_succ]
          refine wpAnyH_take (i := 3) (oi := { dst := some 148, op := Op.move (Operand.tmp 22), type := 23, pos := _, after := #[{ on := 1, ground := Ground.guard }], guard := some (1, true) }) (v := ?_) rfl (by kernel_rfl) (by kernel_rfl) (by kernel_rfl) (fun _ _ _ h => h) (Or.inl ⟨by rfl, ?_⟩) (by assumption) ?_
          rotate_left
          · ((intro w hSw); (try dsimp only at hSw); go_simp; (try with_reducible rfl))
          try simp only [Act.put, List.setIfInBounds_toArray, List.set_cons_zero, List.set_cons_succ]
          refine wpAnyH_take (i := 4) (oi := { dst := some 149, op := Op.call { callee := Callee.builtin Builtin.len, args := #[Operand.tmp 148], argTypes := #[23] }, type := 3, pos := _, after := #[{ on := 3, ground := Ground.data }, { on := 1, ground := Ground.guard }], guard := some (1, true) }) (v := ?_) rfl (by kernel_rfl) (by kernel_rfl) (by kernel_rfl) (fun _ _ _ h => h) (Or.inl ⟨by rfl, ?_⟩) (by assumption) ?_
          rotate_left
          · ((intro w hSw); (try dsimp only at hSw); go_simp; (try with_reducible rfl))
          try simp only [Act.put, List.setIfInBounds_toArray, List.set_cons_zero, List.set_cons_succ]
          refine wpAnyH_take (i := 5) (oi := { dst := some 150, op := Op.binOp BinOp.leq 3 (Operand.tmp 147) (Operand.tmp 149) 3, type := 4, pos := _, after := #[{ on := 2, ground := Ground.data }, { on := 4, ground := Ground.data }, { on := 1, ground := Ground.guard }], guard := some (1, true) }) (v := ?_) rfl (by kernel_rfl) (by kernel_rfl) (by kernel_rfl) (fun _ _ _ h => h) (Or.inl ⟨by rfl, ?_⟩) (by assumption) ?_
          rotate_left
          · ((intro w hSw); (try dsimp only at hSw); go_simp; (try with_reducible rfl))
          try simp only [Act.put, List.setIfInBounds_toArray, List.set_cons_zero, List.set_cons_succ]
          refine wpAnyH_take (i := 6) (oi := { dst := some 151, op := Op.pick (Operand.tmp 146) (Operand.tmp 150) (Operand.const (Value.bool false)), type := 4, pos := _, after := #[{ on := 1, ground := Ground.data }, { on := 5, ground := Ground.data }], guard := none }) (v := ?_) rfl (by kernel_rfl) (by kernel_rfl) (by kernel_rfl) (fun _ _ _ h => h) (Or.inl ⟨by rfl, ?_⟩) (by assumption) ?_
          rotate_left
          · ((intro w hSw); (try dsimp only at hSw); go_simp; (try with_reducible rfl))
          try simp only [Act.put, List.setIfInBounds_toArray, List.set_cons_zero, List.set_cons_succ]
          refine wpAnyH_take (i := 7) (oi := { dst := some 152, op := Op.move (Operand.tmp 151), type := 4, pos := _, after := #[{ on := 6, ground := Ground.data }, { on := 1, ground := Ground.chain }], guard := none }) (v := ?_) rfl (by kernel_rfl) (by kernel_rfl) (by kernel_rfl) (fun _ _ _ h => h) (Or.inl ⟨by rfl, ?_⟩) (by assumption) ?_
          rotate_left
          · ((intro w hSw); (try dsimp only at hSw); go_simp; (try with_reducible rfl))
          try simp only [Act.put, List.setIfInBounds_toArray, List.set_cons_zero, List.set_cons_succ]
          refine wpAnyH_take (i := 8) (oi := { dst := some 153, op := Op.load 25 (Operand.tmp 24), type := 25, pos := _, after := #[{ on := 7, ground := Ground.guard }], guard := some (7, true) }) (v := ?_) rfl (by kernel_rfl) (by kernel_rfl) (by kernel_rfl) (fun _ _ _ h => h) (Or.inl ⟨by rfl, ?_⟩) (by assumption) ?_
          rotate_left
          · ((intro w hSw); (try dsimp only at hSw); go_simp; (try with_reducible rfl))
          try simp only [Act.put, List.setIfInBounds_toArray, List.set_cons_zero, List.set_cons_succ]
          refine wpAnyH_take (i := 9) (oi := { dst := some 154, op := Op.load 25 (Operand.tmp 6), type := 25, pos := _, after := #[{ on := 7, ground := Ground.guard }], guard := some (7, true) }) (v := ?_) rfl (by kernel_rfl) (by kernel_rfl) (by kernel_rfl) (fun _ _ _ h => h) (Or.inl ⟨by rfl, ?_⟩) (by assumption) ?_
          rotate_left
          · ((intro w hSw); (try dsimp only at hSw); go_simp; (try with_reducible rfl))
          try simp only [Act.put, List.setIfInBounds_toArray, List.set_cons_zero, List.set_cons_succ]
          refine wpAnyH_ready (rs := [10]) (by kernel_rfl) (by simp) ?_
          refine (AllReadyH.cons (o := { dst := some 155, op := Op.call { callee := Callee.value (Operand.func 20), args := #[Operand.tmp 153, Operand.tmp 154], argTypes := #[25, 25] }, type := 4, pos := _, after := #[{ on := 8, ground := Ground.data }, { on := 9, ground := Ground.data }, { on := 7, ground := Ground.chain }, { on := 7, ground := Ground.guard }], guard := some (7, true) }) rfl (fun K hK => ?_) AllReadyH.nil)
          go_simp
          (go_at_call 20; (with_reducible refine (sameK (DK : Int) DS DT va DB.length vc DB (KV : Int) s t a0 l0.length c0 l0 _ rfl rfl (sl_then (KB.out _ hHeld) (Nat.le_refl _) HVz.out) (sl_then (KB.out _ hHeld) (Nat.le_refl _) HS0z.out) HDBX.out HX0.out false HSN.out.symm).mono ?_); rintro e wa ⟨rfl, ba⟩; have hN := below_then (KB.out _ hHeld) ba (KB.out _ hHeld).size; clear ba)
          go_wp2_with fail
          refine hK.out _ _ ?_ (fun hHeld => ?_)
          · ((try dsimp only); (first | (with_reducible exact KS.out _ hN) | (with_reducible exact hHeld) | exact KS.out _ (Below.refl _ _).drew | exact KS.out _ (Below.refl _ _)))
          clear hK K
          try simp only [Act.put, List.setIfInBounds_toArray, List.set_cons_zero, List.set_cons_succ]
          refine wpAnyH_take (i := 11) (oi := { dst := some 156, op := Op.unOp UnOp.not 4 (Operand.tmp 155), type := 4, pos := _, after := #[{ on := 10, ground := Ground.data }, { on := 7, ground := Ground.guard }], guard := some (7, true) }) (v := ?_) rfl (by kernel_rfl) (by kernel_rfl) (by kernel_rfl) (fun _ _ _ h => h) (Or.inl ⟨by rfl, ?_⟩) (by assumption) ?_
          rotate_left
          · ((intro w hSw); (try dsimp only at hSw); go_simp; (try with_reducible rfl))
          try simp only [Act.put, List.setIfInBounds_toArray, List.set_cons_zero, List.set_cons_succ]
          refine wpAnyH_take (i := 12) (oi := { dst := some 157, op := Op.pick (Operand.tmp 152) (Operand.tmp 156) (Operand.const (Value.bool false)), type := 4, pos := _, after := #[{ on := 7, ground := Ground.data }, { on := 11, ground := Ground.data }], guard := none }) (v := ?_) rfl (by kernel_rfl) (by kernel_rfl) (by kernel_rfl) (fun _ _ _ h => h) (Or.inl ⟨by rfl, ?_⟩) (by assumption) ?_
          rotate_left
          · ((intro w hSw); (try dsimp only at hSw); go_simp; (try with_reducible rfl))
          try simp only [Act.put, List.setIfInBounds_toArray, List.set_cons_zero, List.set_cons_succ]
          refine wpAnyH_take (i := 13) (oi := { dst := some 158, op := Op.move (Operand.tmp 157), type := 4, pos := _, after := #[{ on := 12, ground := Ground.data }, { on := 10, ground := Ground.chain }], guard := none }) (v := ?_) rfl (by kernel_rfl) (by kernel_rfl) (by kernel_rfl) (fun _ _ _ h => h) (Or.inl ⟨by rfl, ?_⟩) (by assumption) ?_
          rotate_left
          · ((intro w hSw); (try dsimp only at hSw); go_simp; (try with_reducible rfl))
          try simp only [Act.put, List.setIfInBounds_toArray, List.set_cons_zero, List.set_cons_succ]
          refine wpAnyH_take (i := 14) (oi := { dst := some 159, op := Op.move (Operand.tmp 22), type := 23, pos := _, after := #[{ on := 13, ground := Ground.guard }], guard := some (13, true) }) (v := ?_) rfl (by kernel_rfl) (by kernel_rfl) (by kernel_rfl) (fun _ _ _ h => h) (Or.inl ⟨by rfl, ?_⟩) (by assumption) ?_
          rotate_left
          · ((intro w hSw); (try dsimp only at hSw); go_simp; (try with_reducible rfl))
          try simp only [Act.put, List.setIfInBounds_toArray, List.set_cons_zero, List.set_cons_succ]
          refine wpAnyH_take (i := 15) (oi := { dst := some 160, op := Op.move (Operand.tmp 25), type := 3, pos := _, after := #[{ on := 13, ground := Ground.guard }], guard := some (13, true) }) (v := ?_) rfl (by kernel_rfl) (by kernel_rfl) (by kernel_rfl) (fun _ _ _ h => h) (Or.inl ⟨by rfl, ?_⟩) (by assumption) ?_
          rotate_left
          · ((intro w hSw); (try dsimp only at hSw); go_simp; (try with_reducible rfl))
          try simp only [Act.put, List.setIfInBounds_toArray, List.set_cons_zero, List.set_cons_succ]
          refine wpAnyH_take (i := 16) (oi := { dst := some 161, op := Op.slice 23 (Operand.tmp 159) (some (Operand.const (Value.int IntKind.i64 6))) (some (Operand.tmp 160)) none, type := 23, pos := _, after := #[{ on := 14, ground := Ground.data }, { on := 15, ground := Ground.data }, { on := 13, ground := Ground.guard }], guard := some (13, true) }) (v := ?_) rfl (by kernel_rfl) (by kernel_rfl) (by kernel_rfl) (fun _ _ _ h => h) (Or.inl ⟨by rfl, ?_⟩) (by assumption) ?_
          rotate_left
          · ((intro w hSw); (try dsimp only at hSw); go_simp; (try with_reducible rfl))
          try simp only [Act.put, List.setIfInBounds_toArray, List.set_cons_zero, List.set_cons_succ]
          refine wpAnyH_take (i := 18) (oi := { dst := some 163, op := Op.move (Operand.tmp 22), type := 23, pos := _, after := #[{ on := 13, ground := Ground.guard }], guard := some (13, true) }) (v := ?_) rfl (by kernel_rfl) (by kernel_rfl) (by kernel_rfl) (fun _ _ _ h => h) (Or.inl ⟨by rfl, ?_⟩) (by assumption) ?_
          rotate_left
          · ((intro w hSw); (try dsimp only at hSw); go_simp; (try with_reducible rfl))
          try simp only [Act.put, List.setIfInBounds_toArray, List.set_cons_zero, List.set_cons_succ]
          refine wpAnyH_take (i := 19) (oi := { dst := some 164, op := Op.slice 23 (Operand.tmp 163) (some (Operand.const (Value.int IntKind.i64 2))) (some (Operand.const (Value.int IntKind.i64 6))) none, type := 23, pos := _, after := #[{ on := 18, ground := Ground.data }, { on := 13, ground := Ground.guard }], guard := some (13, true) }) (v := ?_) rfl (by kernel_rfl) (by kernel_rfl) (by kernel_rfl) (fun _ _ _ h => h) (Or.inl ⟨by rfl, ?_⟩) (by assumption) ?_
          rotate_left
          · ((intro w hSw); (try dsimp only at hSw); go_simp; (try with_reducible rfl))
          try simp only [Act.put, List.setIfInBounds_toArray, List.set_cons_zero, List.set_cons_succ]
          refine wpAnyH_ready (rs := [17]) (by kernel_rfl) (by simp) ?_
          refine (AllReadyH.cons (o := { dst := some 162, op := Op.call { callee := Callee.value (Operand.func 22), args := #[Operand.tmp 161], argTypes := #[23] }, type := 44, pos := _, after := #[{ on := 16, ground := Ground.data }, { on := 13, ground := Ground.chain }, { on := 13, ground := Ground.guard }], guard := some (13, true) }) rfl (fun K hK => ?_) AllReadyH.nil)
          go_simp
          (go_at_call 22; (with_reducible refine (dcrcK (some yA) D6.length cA D6 CR _ rfl HCR.out HD6X.out HD6N.out (sl_then (KB.out _ hHeld) (Nat.le_refl _) HAz.out)).mono ?_); rintro e wb ⟨rfl, rfl⟩)
          go_wp2_with fail
          refine hK.out _ _ ?_ (fun hHeld => ?_)
          · ((try dsimp only); (first | (with_reducible exact KS.out _ hN) | (with_reducible exact hHeld) | exact KS.out _ (Below.refl _ _).drew | exact KS.out _ (Below.refl _ _)))
          clear hK K
          try simp only [Act.put, List.setIfInBounds_toArray, List.set_cons_zero, List.set_cons_succ]
          refine wpAnyH_ready (rs := [20]) (by kernel_rfl) (by simp) ?_
          refine (AllReadyH.cons (o := { dst := some 165, op := Op.call { callee := Callee.value (Operand.func 23), args := #[Operand.tmp 164], argTypes := #[23] }, type := 22, pos := _, after := #[{ on := 19, ground := Ground.data }, { on := 17, ground := Ground.chain }, { on := 13, ground := Ground.guard }], guard := some (13, true) }) rfl (fun K hK => ?_) AllReadyH.nil)
          go_simp
          (go_at_call 23; (with_reducible refine (bigK (some yB) SU.length cB SU CR _ rfl HCL2.out HSU.out (sl_then (KB.out _ hHeld) (Nat.le_refl _) HBz.out)).mono ?_); rintro e wb ⟨rfl, rfl⟩)
          go_wp2_with fail
          refine hK.out _ _ ?_ (fun hHeld => ?_)
          · ((try dsimp only); (first | (with_reducible exact KS.out _ hN) | (with_reducible exact hHeld) | exact KS.out _ (Below.refl _ _).drew | exact KS.out _ (Below.refl _ _)))
          clear hK K
          try simp only [Act.put, List.setIfInBounds_toArray, List.set_cons_zero, List.set_cons_succ]
          refine wpAnyH_take (i := 21) (oi := { dst := some 166, op := Op.convert 22 44 (Operand.tmp 165), type := 44, pos := _, after := #[{ on := 20, ground := Ground.data }, { on := 13, ground := Ground.guard }], guard := some (13, true) }) (v := ?_) rfl (by kernel_rfl) (by kernel_rfl) (by kernel_rfl) (fun _ _ _ h => h) (Or.inl ⟨by rfl, ?_⟩) (by assumption) ?_
          rotate_left
          · ((intro w hSw); (try dsimp only at hSw); go_simp; (try with_reducible rfl))
          try simp only [Act.put, List.setIfInBounds_toArray, List.set_cons_zero, List.set_cons_succ]
          refine wpAnyH_take (i := 22) (oi := { dst := some 167, op := Op.binOp BinOp.eql 44 (Operand.tmp 162) (Operand.tmp 166) 44, type := 4, pos := _, after := #[{ on := 17, ground := Ground.data }, { on := 21, ground := Ground.data }, { on := 13, ground := Ground.guard }], guard := some (13, true) }) (v := ?_) rfl (by kernel_rfl) (by kernel_rfl) (by kernel_rfl) (fun _ _ _ h => h) (Or.inl ⟨by rfl, ?_⟩) (by assumption) ?_
          rotate_left
          · ((intro w hSw); (try dsimp only at hSw); go_simp; (try with_reducible rfl))
          try simp only [Act.put, List.setIfInBounds_toArray, List.set_cons_zero, List.set_cons_succ]
          refine wpAnyH_take (i := 23) (oi := { dst := some 168, op := Op.pick (Operand.tmp 158) (Operand.tmp 167) (Operand.const (Value.bool false)), type := 4, pos := _, after := #[{ on := 13, ground := Ground.data }, { on := 22, ground := Ground.data }], guard := none }) (v := ?_) rfl (by kernel_rfl) (by kernel_rfl) (by kernel_rfl) (fun _ _ _ h => h) (Or.inl ⟨by rfl, ?_⟩) (by assumption) ?_
          rotate_left
          · ((intro w hSw); (try dsimp only at hSw); go_simp; (try with_reducible rfl))
          try simp only [Act.put, List.setIfInBounds_toArray, List.set_cons_zero, List.set_cons_succ]
          refine wpAnyH_take (i := 24) (oi := { dst := some 12, op := Op.assign (Operand.tmp 168), type := 4, pos := _, after := #[{ on := 23, ground := Ground.data }, { on := 20, ground := Ground.chain }, { on := 0, ground := Ground.phase }, { on := 1, ground := Ground.phase }, { on := 2, ground := Ground.phase }, { on := 3, ground := Ground.phase }, { on := 4, ground := Ground.phase }, { on := 5, ground := Ground.phase }, { on := 6, ground := Ground.phase }, { on := 7, ground := Ground.phase }, { on := 8, ground := Ground.phase }, { on := 9, ground := Ground.phase }, { on := 10, ground := Ground.phase }, { on := 11, ground := Ground.phase }, { on := 12, ground := Ground.phase }, { on := 13, ground := Ground.phase }, { on := 14, ground := Ground.phase }, { on := 15, ground := Ground.phase }, { on := 16, ground := Ground.phase }, { on := 17, ground := Ground.phase }, { on := 18, ground := Ground.phase }, { on := 19, ground := Ground.phase }, { on := 20, ground := Ground.phase }, { on := 21, ground := Ground.phase }, { on := 22, ground := Ground.phase }, { on := 23, ground := Ground.phase }], guard := none }) (v := ?_) rfl (by kernel_rfl) (by kernel_rfl) (by kernel_rfl) (fun _ _ _ h => h) (Or.inl ⟨by rfl, ?_⟩) (by assumption) ?_
          rotate_left
          · ((intro w hSw); (try dsimp only at hSw); go_simp; (try with_reducible rfl))
          try simp only [Act.put, List.setIfInBounds_toArray, List.set_cons_zero, List.set_cons_succ]
          refine wpAnyH_done (by kernel_rfl) ?_ _
          clear hN
          go_wp2
          go_ret
          exact ⟨rfl, below_then HBA.out (below_then HQZ.out (KB.out _ hHeld) HQZ.out.size) HBA.out.size⟩

set_option maxRecDepth 100000 in
set_option maxHeartbeats 2000000 in
theorem backOut (k : Int) (s t : Nat) (a0 : Option Addr) (m0 c0 : Nat) (a1 : Option Addr) (m1 c1 : Nat) (a2 : Option Addr) (m2 c2 : Nat) (cu pt x : Int) (w : World) (hno : 3000 < m0 ∨ 3000 < m1 ∨ 3000 < m2 ∨ cu < 0 ∨ pt < 0 ∨ x = 0) (hT : TabC w) :
    Calls Tryd.prog 4 #[.agg #[.int .i64 k, .int .u64 (s : Int), .int .u64 (t : Int), .slice a0 m0 c0], .slice a1 m1 c1, .slice a2 m2 c2, .int .i64 cu, .int .i64 pt, .int .u8 x] w fun e w' => e = .returned (.bool true) ∧ Below w.heap.size w w' := by
  have CL := Lib.hid (fun W (h : Below (w.alloc (.cells #[.int .i64 k, .int .u64 (s : Int), .int .u64 (t : Int), .slice a0 m0 c0] 25)).heap.size (w.alloc (.cells #[.int .i64 k, .int .u64 (s : Int), .int .u64 (t : Int), .slice a0 m0 c0] 25)) W) => box1 w W 25 _ _ _ _ h)
  have HBA := Lib.hid (show Below w.heap.size w (w.alloc (.cells #[.int .i64 k, .int .u64 (s : Int), .int .u64 (t : Int), .slice a0 m0 c0] 25)) from (Below.refl _ w).alloc (Nat.le_refl _) _)
  have HT0 := Lib.hid (tabC_then HBA.out (Nat.le_refl _) hT)
  clear hT
  by_cases h0 : 3000 < (m0 : Int)
  · clear hno
    go_enter Tryd.func4, Tryd.ntmps4
    go_wp2_with fail
    generalize (w.alloc (.cells #[.int .i64 k, .int .u64 (s : Int), .int .u64 (t : Int), .slice a0 m0 c0] 25)) = w0 at *
    have HQ0 := Lib.hid (Below.refl w0.heap.size w0)
    obtain ⟨p0, p1, p2, p3⟩ := CL.out _ HQ0.out
    go_wp2_with (first
      | (go_at_call 10; (with_reducible refine (firstC w0 (tabC_then HQ0.out (Nat.le_refl _) HT0.out)).mono ?_); rintro e wq1 ⟨rfl, bq⟩; have HQ1 := Lib.hid (below_then HQ0.out bq HQ0.out.size); clear bq; clear p0 p1 p2 p3; obtain ⟨p0, p1, p2, p3⟩ := CL.out _ HQ1.out)
      | (go_at_call 10; (with_reducible refine (firstC wq1 (tabC_then HQ1.out (Nat.le_refl _) HT0.out)).mono ?_); rintro e wq2 ⟨rfl, bq⟩; have HQ2 := Lib.hid (below_then HQ1.out bq HQ1.out.size); clear bq; clear p0 p1 p2 p3; obtain ⟨p0, p1, p2, p3⟩ := CL.out _ HQ2.out))
    go_ret
    exact ⟨rfl, below_then HBA.out HQ2.out HBA.out.size⟩
  ·
    by_cases h1 : 3000 < (m1 : Int)
    · clear hno
      go_enter Tryd.func4, Tryd.ntmps4
      go_wp2_with fail
      generalize (w.alloc (.cells #[.int .i64 k, .int .u64 (s : Int), .int .u64 (t : Int), .slice a0 m0 c0] 25)) = w0 at *
      have HQ0 := Lib.hid (Below.refl w0.heap.size w0)
      obtain ⟨p0, p1, p2, p3⟩ := CL.out _ HQ0.out
      go_wp2_with (first
        | (go_at_call 10; (with_reducible refine (firstC w0 (tabC_then HQ0.out (Nat.le_refl _) HT0.out)).mono ?_); rintro e wq1 ⟨rfl, bq⟩; have HQ1 := Lib.hid (below_then HQ0.out bq HQ0.out.size); clear bq; clear p0 p1 p2 p3; obtain ⟨p0, p1, p2, p3⟩ := CL.out _ HQ1.out)
        | (go_at_call 10; (with_reducible refine (firstC wq1 (tabC_then HQ1.out (Nat.le_refl _) HT0.out)).mono ?_); rintro e wq2 ⟨rfl, bq⟩; have HQ2 := Lib.hid (below_then HQ1.out bq HQ1.out.size); clear bq; clear p0 p1 p2 p3; obtain ⟨p0, p1, p2, p3⟩ := CL.out _ HQ2.out))
      go_ret
      exact ⟨rfl, below_then HBA.out HQ2.out HBA.out.size⟩
    ·
      by_cases h2 : 3000 < (m2 : Int)
      · clear hno
        go_enter Tryd.func4, Tryd.ntmps4
        go_wp2_with fail
        generalize (w.alloc (.cells #[.int .i64 k, .int .u64 (s : Int), .int .u64 (t : Int), .slice a0 m0 c0] 25)) = w0 at *
        have HQ0 := Lib.hid (Below.refl w0.heap.size w0)
        obtain ⟨p0, p1, p2, p3⟩ := CL.out _ HQ0.out
        go_wp2_with (first
          | (go_at_call 10; (with_reducible refine (firstC w0 (tabC_then HQ0.out (Nat.le_refl _) HT0.out)).mono ?_); rintro e wq1 ⟨rfl, bq⟩; have HQ1 := Lib.hid (below_then HQ0.out bq HQ0.out.size); clear bq; clear p0 p1 p2 p3; obtain ⟨p0, p1, p2, p3⟩ := CL.out _ HQ1.out)
          | (go_at_call 10; (with_reducible refine (firstC wq1 (tabC_then HQ1.out (Nat.le_refl _) HT0.out)).mono ?_); rintro e wq2 ⟨rfl, bq⟩; have HQ2 := Lib.hid (below_then HQ1.out bq HQ1.out.size); clear bq; clear p0 p1 p2 p3; obtain ⟨p0, p1, p2, p3⟩ := CL.out _ HQ2.out))
        go_ret
        exact ⟨rfl, below_then HBA.out HQ2.out HBA.out.size⟩
      ·
        by_cases h3 : cu < 0
        · clear hno
          go_enter Tryd.func4, Tryd.ntmps4
          go_wp2_with fail
          generalize (w.alloc (.cells #[.int .i64 k, .int .u64 (s : Int), .int .u64 (t : Int), .slice a0 m0 c0] 25)) = w0 at *
          have HQ0 := Lib.hid (Below.refl w0.heap.size w0)
          obtain ⟨p0, p1, p2, p3⟩ := CL.out _ HQ0.out
          go_wp2_with (first
            | (go_at_call 10; (with_reducible refine (firstC w0 (tabC_then HQ0.out (Nat.le_refl _) HT0.out)).mono ?_); rintro e wq1 ⟨rfl, bq⟩; have HQ1 := Lib.hid (below_then HQ0.out bq HQ0.out.size); clear bq; clear p0 p1 p2 p3; obtain ⟨p0, p1, p2, p3⟩ := CL.out _ HQ1.out)
            | (go_at_call 10; (with_reducible refine (firstC wq1 (tabC_then HQ1.out (Nat.le_refl _) HT0.out)).mono ?_); rintro e wq2 ⟨rfl, bq⟩; have HQ2 := Lib.hid (below_then HQ1.out bq HQ1.out.size); clear bq; clear p0 p1 p2 p3; obtain ⟨p0, p1, p2, p3⟩ := CL.out _ HQ2.out))
          go_ret
          exact ⟨rfl, below_then HBA.out HQ2.out HBA.out.size⟩
        ·
          by_cases h4 : pt < 0
          · clear hno
            go_enter Tryd.func4, Tryd.ntmps4
            go_wp2_with fail
            generalize (w.alloc (.cells #[.int .i64 k, .int .u64 (s : Int), .int .u64 (t : Int), .slice a0 m0 c0] 25)) = w0 at *
            have HQ0 := Lib.hid (Below.refl w0.heap.size w0)
            obtain ⟨p0, p1, p2, p3⟩ := CL.out _ HQ0.out
            go_wp2_with (first
              | (go_at_call 10; (with_reducible refine (firstC w0 (tabC_then HQ0.out (Nat.le_refl _) HT0.out)).mono ?_); rintro e wq1 ⟨rfl, bq⟩; have HQ1 := Lib.hid (below_then HQ0.out bq HQ0.out.size); clear bq; clear p0 p1 p2 p3; obtain ⟨p0, p1, p2, p3⟩ := CL.out _ HQ1.out)
              | (go_at_call 10; (with_reducible refine (firstC wq1 (tabC_then HQ1.out (Nat.le_refl _) HT0.out)).mono ?_); rintro e wq2 ⟨rfl, bq⟩; have HQ2 := Lib.hid (below_then HQ1.out bq HQ1.out.size); clear bq; clear p0 p1 p2 p3; obtain ⟨p0, p1, p2, p3⟩ := CL.out _ HQ2.out))
            go_ret
            exact ⟨rfl, below_then HBA.out HQ2.out HBA.out.size⟩
          ·
            by_cases h5 : x = 0
            · clear hno
              have j1 : (x == 0) = true := by rw [beq_iff_eq]; exact h5
              have j2 : decide (x = 0) = true := decide_eq_true h5
              clear h5
              go_enter Tryd.func4, Tryd.ntmps4
              go_wp2_with fail
              generalize (w.alloc (.cells #[.int .i64 k, .int .u64 (s : Int), .int .u64 (t : Int), .slice a0 m0 c0] 25)) = w0 at *
              have HQ0 := Lib.hid (Below.refl w0.heap.size w0)
              obtain ⟨p0, p1, p2, p3⟩ := CL.out _ HQ0.out
              go_wp2_with (first
                | (go_at_call 10; (with_reducible refine (firstC w0 (tabC_then HQ0.out (Nat.le_refl _) HT0.out)).mono ?_); rintro e wq1 ⟨rfl, bq⟩; have HQ1 := Lib.hid (below_then HQ0.out bq HQ0.out.size); clear bq; clear p0 p1 p2 p3; obtain ⟨p0, p1, p2, p3⟩ := CL.out _ HQ1.out)
                | (go_at_call 10; (with_reducible refine (firstC wq1 (tabC_then HQ1.out (Nat.le_refl _) HT0.out)).mono ?_); rintro e wq2 ⟨rfl, bq⟩; have HQ2 := Lib.hid (below_then HQ1.out bq HQ1.out.size); clear bq; clear p0 p1 p2 p3; obtain ⟨p0, p1, p2, p3⟩ := CL.out _ HQ2.out))
              go_ret
              exact ⟨rfl, below_then HBA.out HQ2.out HBA.out.size⟩
            ·
              omega

set_option maxRecDepth 100000 in
theorem backMay (k : Int) (s t : Nat) (a0 : Option Addr) (m0 c0 : Nat) (l0 : List Nat) (a1 : Option Addr) (m1 c1 : Nat) (a2 : Option Addr) (m2 c2 : Nat) (cu pt x : Int) (w : World) (hm0 : m0 = l0.length) (h0 : ¬ 3000 < (m0 : Int)) (h1 : ¬ 3000 < (m1 : Int)) (h2 : ¬ 3000 < (m2 : Int)) (h3 : ¬ cu < 0) (h4 : ¬ pt < 0) (h5 : ¬ x = 0) (hm : mayR k s t l0.length = false) (hT : TabC w) :
    Calls Tryd.prog 4 #[.agg #[.int .i64 k, .int .u64 (s : Int), .int .u64 (t : Int), .slice a0 m0 c0], .slice a1 m1 c1, .slice a2 m2 c2, .int .i64 cu, .int .i64 pt, .int .u8 x] w fun e w' => e = .returned (.bool true) ∧ Below w.heap.size w w' := by
  have CL := Lib.hid (fun W (h : Below (w.alloc (.cells #[.int .i64 k, .int .u64 (s : Int), .int .u64 (t : Int), .slice a0 m0 c0] 25)).heap.size (w.alloc (.cells #[.int .i64 k, .int .u64 (s : Int), .int .u64 (t : Int), .slice a0 m0 c0] 25)) W) => box1 w W 25 _ _ _ _ h)
  have HBA := Lib.hid (show Below w.heap.size w (w.alloc (.cells #[.int .i64 k, .int .u64 (s : Int), .int .u64 (t : Int), .slice a0 m0 c0] 25)) from (Below.refl _ w).alloc (Nat.le_refl _) _)
  have HT0 := Lib.hid (tabC_then HBA.out (Nat.le_refl _) hT)
  have HM := Lib.hid hm
  have HM0 := Lib.hid hm0
  have j1 : (x == 0) = false := by rw [beq_eq_false_iff_ne]; exact h5
  have j2 : decide (x = 0) = false := decide_eq_false h5
  clear hT hm hm0 h5
  go_enter Tryd.func4, Tryd.ntmps4
  go_wp2_with fail
  generalize (w.alloc (.cells #[.int .i64 k, .int .u64 (s : Int), .int .u64 (t : Int), .slice a0 m0 c0] 25)) = w0 at *
  have HQ0 := Lib.hid (Below.refl w0.heap.size w0)
  obtain ⟨p0, p1, p2, p3⟩ := CL.out _ HQ0.out
  go_wp2_with (first
    | (go_at_call 10; (with_reducible refine (firstC w0 (tabC_then HQ0.out (Nat.le_refl _) HT0.out)).mono ?_); rintro e wq1 ⟨rfl, bq⟩; have HQ1 := Lib.hid (below_then HQ0.out bq HQ0.out.size); clear bq; clear p0 p1 p2 p3; obtain ⟨p0, p1, p2, p3⟩ := CL.out _ HQ1.out)
    | (go_at_call 18; (with_reducible refine (mayE k s t a0 m0 c0 l0 wq1 false HM0.out HM.out).mono ?_); rintro e wq2 ⟨rfl, bq⟩; have HQ2 := Lib.hid (below_then HQ1.out bq HQ1.out.size); clear bq; clear p0 p1 p2 p3; obtain ⟨p0, p1, p2, p3⟩ := CL.out _ HQ2.out)
    | (go_at_call 10; (with_reducible refine (firstC wq2 (tabC_then HQ2.out (Nat.le_refl _) HT0.out)).mono ?_); rintro e wq3 ⟨rfl, bq⟩; have HQ3 := Lib.hid (below_then HQ2.out bq HQ2.out.size); clear bq; clear p0 p1 p2 p3; obtain ⟨p0, p1, p2, p3⟩ := CL.out _ HQ3.out))
  go_ret
  exact ⟨rfl, below_then HBA.out HQ3.out HBA.out.size⟩
theorem walk (k s t : Int) (a0 : Option Addr) (m0 c0 : Nat) (z0 : List Int) (a1 : Option Addr) (m1 c1 : Nat) (z1 : List Int) (a2 : Option Addr) (m2 c2 : Nat) (z2 : List Int) (cu pt x : Int) (W : World)
    (_ : (Lit.int .i64 k).wf = true) (w1 : (Lit.int .u64 s).wf = true) (v1 : (Lit.int .u64 t).wf = true) (r0 : IsRow .u8 W a0 m0 c0 z0) (r1 : IsRow .u8 W a1 m1 c1 z1) (r2 : IsRow .u8 W a2 m2 c2 z2) (_ : (Lit.int .i64 cu).wf = true) (_ : (Lit.int .i64 pt).wf = true) (wx : (Lit.int .u8 x).wf = true)
    (h1 : Lib.TabIs Tryd.prog W "tickertape/wire.crcSteps" .u32 [0, 498536548, 997073096, 651767980, 1994146192, 1802195444, 1303535960, 1342533948, 3988292384, 4027552580, 3604390888, 3412177804, 2607071920, 2262029012, 2685067896, 3183342108]) :
    Calls Tryd.prog 4 #[.agg #[.int .i64 k, .int .u64 s, .int .u64 t, .slice a0 m0 c0], .slice a1 m1 c1, .slice a2 m2 c2, .int .i64 cu, .int .i64 pt, .int .u8 x] W fun e W' => e = .returned (.bool true) ∧ Below W.heap.size W W' := by
  have hT := ArgB.tab h1 rfl
  obtain ⟨s, rfl⟩ := Int.eq_ofNat_of_zero_le (inU w1).1
  obtain ⟨t, rfl⟩ := Int.eq_ofNat_of_zero_le (inU v1).1
  have hx := ArgB.in8 wx
  by_cases hno : 3000 < m0 ∨ 3000 < m1 ∨ 3000 < m2 ∨ cu < 0 ∨ pt < 0 ∨ x = 0
  · exact backOut k s t a0 m0 c0 a1 m1 c1 a2 m2 c2 cu pt x W hno hT
  · obtain ⟨l0, rfl, x0, y0, n0, q0, _⟩ := row_bytes r0
    obtain ⟨l1, rfl, x1, y1, n1, q1, _⟩ := row_bytes r1
    obtain ⟨l2, rfl, x2, y2, n2, q2, _⟩ := row_bytes r2
    cases g : mayR k s t l0.length with
    | false => exact backMay k s t a0 l0.length c0 l0 a1 l1.length c1 a2 l2.length c2 cu pt x W rfl (by omega) (by omega) (by omega) (by omega) (by omega) (by omega) g hT
    | true =>
      obtain ⟨K, rfl, _⟩ := may_nat g
      obtain ⟨cu, rfl⟩ := Int.eq_ofNat_of_zero_le (a := cu) (by omega)
      obtain ⟨pt, rfl⟩ := Int.eq_ofNat_of_zero_le (a := pt) (by omega)
      obtain ⟨x, rfl⟩ := Int.eq_ofNat_of_zero_le (a := x) (by omega)
      have hl : 10 ≤ (recL K s t l0).length := by
        have a := varL_pos s
        have b := varL_pos t
        have c := varL_pos l0.length
        rw [recL_len]; omega
      have hk : 2 + pt % ((recL K s t l0).length - 2) < (recL K s t l0).length := by
        have := Nat.mod_lt pt (show 0 < (recL K s t l0).length - 2 by omega)
        omega
      by_cases hd : (decM ((recL K s t l0).set (2 + pt % ((recL K s t l0).length - 2)) ((recL K s t l0)[2 + pt % ((recL K s t l0).length - 2)] ^^^ x))).e = 0
      · exact back_ok K s t a0 c0 l0 a1 c1 l1 a2 c2 l2 cu pt x W y0 n0 q0 x0 (by omega) y1 n1 x1 (by omega) y2 n2 x2 (by omega) (by omega) (by omega) g _ _ _ _ rfl rfl _ (List.getElem?_eq_getElem hk) rfl rfl hd hT
      · exact back_no K s t a0 c0 l0 a1 c1 l1 a2 c2 l2 cu pt x W y0 n0 q0 x0 (by omega) y1 n1 x1 (by omega) y2 n2 x2 (by omega) (by omega) (by omega) g _ _ _ _ rfl rfl _ (List.getElem?_eq_getElem hk) rfl rfl hd hT

end Go.Proofs.YtabgelmmjpjejaaDoor.Rb
