/- RecApart: two records. -/
import Derived.Test.YtabgelmmjpjejaaDoorRg
import Derived.Test.YtabgelmmjpjejaaDoorAr
import Derived.Deep.RegionHeld
set_option linter.unusedVariables false
namespace Go.Proofs.YtabgelmmjpjejaaDoor.Rp
open Go Go.RowKit Kit Crc Var Get Ref3 Copy Bytes Bx Py Py2 Ry Rz Dn Df Dd Da Dc Rs Rf Rg Ar


set_option maxRecDepth 100000 in
set_option maxHeartbeats 4000000 in
theorem apartNN (k1 : Int) (s1 t1 : Nat) (a1 : Option Addr) (c1 : Nat) (l1 : List Nat) (k2 : Int) (s2 t2 : Nat) (a2 : Option Addr) (c2 : Nat) (l2 : List Nat) (w : World) (z1 : Sl w a1 l1) (n1 : a1 = none → c1 = 0) (h1 : l1.length ≤ c1) (x1 : ∀ c ∈ l1, c < 256) (m1 : l1.length ≤ 3000) (z2 : Sl w a2 l2) (n2 : a2 = none → c2 = 0) (h2 : l2.length ≤ c2) (x2 : ∀ c ∈ l2, c < 256) (m2 : l2.length ≤ 3000) (hm1 : mayR k1 s1 t1 l1.length = false) (hm2 : mayR k2 s2 t2 l2.length = false)  (hT : TabC w) :
    Calls Tryd.prog 5 #[.agg #[.int .i64 k1, .int .u64 (s1 : Int), .int .u64 (t1 : Int), .slice a1 l1.length c1], .agg #[.int .i64 k2, .int .u64 (s2 : Int), .int .u64 (t2 : Int), .slice a2 l2.length c2]] w fun e w' => e = .returned (.bool true) ∧ Below w.heap.size w w' := by
  have HS1 := Lib.hid z1
  have HZ1 := Lib.hid n1
  have HC1 := Lib.hid h1
  have HX1 := Lib.hid x1
  have HN1 := Lib.hid (show l1.length ≤ 900000 by omega)
  have tl1 : ¬ 3000 < (l1.length : Int) := by omega
  have HS2 := Lib.hid z2
  have HZ2 := Lib.hid n2
  have HC2 := Lib.hid h2
  have HX2 := Lib.hid x2
  have HN2 := Lib.hid (show l2.length ≤ 900000 by omega)
  have tl2 : ¬ 3000 < (l2.length : Int) := by omega
  have HT := Lib.hid hT
  have HM1 := Lib.hid hm1
  have HM2 := Lib.hid hm2
  have CL := Lib.hid (fun W (h : Below ((w.alloc (.cells #[.int .i64 k1, .int .u64 (s1 : Int), .int .u64 (t1 : Int), .slice a1 l1.length c1] 25)).alloc (.cells #[.int .i64 k2, .int .u64 (s2 : Int), .int .u64 (t2 : Int), .slice a2 l2.length c2] 25)).heap.size ((w.alloc (.cells #[.int .i64 k1, .int .u64 (s1 : Int), .int .u64 (t1 : Int), .slice a1 l1.length c1] 25)).alloc (.cells #[.int .i64 k2, .int .u64 (s2 : Int), .int .u64 (t2 : Int), .slice a2 l2.length c2] 25)) W) => boxes2 w W 25 _ _ _ _ _ _ _ _ h)
  have HBA := Lib.hid (show Below w.heap.size w ((w.alloc (.cells #[.int .i64 k1, .int .u64 (s1 : Int), .int .u64 (t1 : Int), .slice a1 l1.length c1] 25)).alloc (.cells #[.int .i64 k2, .int .u64 (s2 : Int), .int .u64 (t2 : Int), .slice a2 l2.length c2] 25)) from ((Below.refl _ w).alloc (Nat.le_refl _) _).alloc (by simp) _)
  clear z1 n1 h1 x1 m1 z2 n2 h2 x2 m2 hT hm1 hm2  
  as_aux_lemma =>
    go_enter Tryd.func5, Tryd.ntmps5
    go_wp2_with fail
    generalize ((w.alloc (.cells #[.int .i64 k1, .int .u64 (s1 : Int), .int .u64 (t1 : Int), .slice a1 l1.length c1] 25)).alloc (.cells #[.int .i64 k2, .int .u64 (s2 : Int), .int .u64 (t2 : Int), .slice a2 l2.length c2] 25)) = w0 at *
    have HS10 := Lib.hid (sl_then HBA.out (Nat.le_refl _) HS1.out)
    have HS20 := Lib.hid (sl_then HBA.out (Nat.le_refl _) HS2.out)
    have HT0 := Lib.hid (tabC_then HBA.out (Nat.le_refl _) HT.out)
    have HQ0 := Lib.hid (Below.refl w0.heap.size w0)
    obtain ⟨p0, p1, p2, p3, q0, q1, q2, q3⟩ := CL.out _ HQ0.out
    go_wp2_with (first
      | (go_at_call 10; (with_reducible refine (firstC w0 (tabC_then HQ0.out (Nat.le_refl _) HT0.out)).mono ?_); rintro e wq1 ⟨rfl, bq⟩; have HQ1 := Lib.hid (below_then HQ0.out bq HQ0.out.size); clear bq; clear p0 p1 p2 p3 q0 q1 q2 q3; obtain ⟨p0, p1, p2, p3, q0, q1, q2, q3⟩ := CL.out _ HQ1.out)
      | (go_at_call 11; (with_reducible refine (encN k1 s1 t1 a1 l1.length c1 l1 wq1 rfl HM1.out).mono ?_); rintro e wq2 ⟨xa, xc, rfl, bq⟩; have HQ2 := Lib.hid (below_then HQ1.out bq HQ1.out.size); clear bq; clear p0 p1 p2 p3 q0 q1 q2 q3; obtain ⟨p0, p1, p2, p3, q0, q1, q2, q3⟩ := CL.out _ HQ2.out)
      | (go_at_call 11; (with_reducible refine (encN k2 s2 t2 a2 l2.length c2 l2 wq2 rfl HM2.out).mono ?_); rintro e wq3 ⟨ya, yc, rfl, bq⟩; have HQ3 := Lib.hid (below_then HQ2.out bq HQ2.out.size); clear bq; clear p0 p1 p2 p3 q0 q1 q2 q3; obtain ⟨p0, p1, p2, p3, q0, q1, q2, q3⟩ := CL.out _ HQ3.out)
      | (go_at_call 18; (with_reducible refine (mayE k1 s1 t1 a1 l1.length c1 l1 wq3 false rfl HM1.out).mono ?_); rintro e wq4 ⟨rfl, bq⟩; have HQ4 := Lib.hid (below_then HQ3.out bq HQ3.out.size); clear bq; clear p0 p1 p2 p3 q0 q1 q2 q3; obtain ⟨p0, p1, p2, p3, q0, q1, q2, q3⟩ := CL.out _ HQ4.out)
      | (go_at_call 10; (with_reducible refine (firstC wq4 (tabC_then HQ4.out (Nat.le_refl _) HT0.out)).mono ?_); rintro e wq5 ⟨rfl, bq⟩; have HQ5 := Lib.hid (below_then HQ4.out bq HQ4.out.size); clear bq; clear p0 p1 p2 p3 q0 q1 q2 q3; obtain ⟨p0, p1, p2, p3, q0, q1, q2, q3⟩ := CL.out _ HQ5.out))
    go_ret
    exact ⟨rfl, below_then HBA.out HQ5.out HBA.out.size⟩

set_option maxRecDepth 100000 in
set_option maxHeartbeats 4000000 in
theorem apartNY (k1 : Int) (s1 t1 : Nat) (a1 : Option Addr) (c1 : Nat) (l1 : List Nat) (K2 s2 t2 : Nat) (a2 : Option Addr) (c2 : Nat) (l2 : List Nat) (w : World) (z1 : Sl w a1 l1) (n1 : a1 = none → c1 = 0) (h1 : l1.length ≤ c1) (x1 : ∀ c ∈ l1, c < 256) (m1 : l1.length ≤ 3000) (z2 : Sl w a2 l2) (n2 : a2 = none → c2 = 0) (h2 : l2.length ≤ c2) (x2 : ∀ c ∈ l2, c < 256) (m2 : l2.length ≤ 3000) (hm1 : mayR k1 s1 t1 l1.length = false) (hm2 : mayR (K2 : Int) s2 t2 l2.length = true)  (hT : TabC w) :
    Calls Tryd.prog 5 #[.agg #[.int .i64 k1, .int .u64 (s1 : Int), .int .u64 (t1 : Int), .slice a1 l1.length c1], .agg #[.int .i64 (K2 : Int), .int .u64 (s2 : Int), .int .u64 (t2 : Int), .slice a2 l2.length c2]] w fun e w' => e = .returned (.bool true) ∧ Below w.heap.size w w' := by
  have HS1 := Lib.hid z1
  have HZ1 := Lib.hid n1
  have HC1 := Lib.hid h1
  have HX1 := Lib.hid x1
  have HN1 := Lib.hid (show l1.length ≤ 900000 by omega)
  have tl1 : ¬ 3000 < (l1.length : Int) := by omega
  have HS2 := Lib.hid z2
  have HZ2 := Lib.hid n2
  have HC2 := Lib.hid h2
  have HX2 := Lib.hid x2
  have HN2 := Lib.hid (show l2.length ≤ 900000 by omega)
  have tl2 : ¬ 3000 < (l2.length : Int) := by omega
  have HT := Lib.hid hT
  have HM1 := Lib.hid hm1
  have HM2 := Lib.hid hm2
  obtain ⟨X2, hX2⟩ : ∃ X, X = recL K2 s2 t2 l2 := ⟨_, rfl⟩
  have HXE2 := Lib.hid hX2
  have HXL2 := Lib.hid (show 7 ≤ X2.length ∧ X2.length ≤ 4000 by
    obtain ⟨_, _, e1, e2, _⟩ := mayR_of hm2
    have := varL_ten (u64_of e1)
    have := varL_ten (u64_of e2)
    have := varL_ten (show l2.length < 18446744073709551616 by omega)
    rw [hX2, recL_len]; omega)
  have HXX2 := Lib.hid (show ∀ c ∈ X2, c < 256 by rw [hX2]; exact recL_lt (by have := (mayR_of hm2).1; omega) x2)
  have CL := Lib.hid (fun W (h : Below ((w.alloc (.cells #[.int .i64 k1, .int .u64 (s1 : Int), .int .u64 (t1 : Int), .slice a1 l1.length c1] 25)).alloc (.cells #[.int .i64 (K2 : Int), .int .u64 (s2 : Int), .int .u64 (t2 : Int), .slice a2 l2.length c2] 25)).heap.size ((w.alloc (.cells #[.int .i64 k1, .int .u64 (s1 : Int), .int .u64 (t1 : Int), .slice a1 l1.length c1] 25)).alloc (.cells #[.int .i64 (K2 : Int), .int .u64 (s2 : Int), .int .u64 (t2 : Int), .slice a2 l2.length c2] 25)) W) => boxes2 w W 25 _ _ _ _ _ _ _ _ h)
  have HBA := Lib.hid (show Below w.heap.size w ((w.alloc (.cells #[.int .i64 k1, .int .u64 (s1 : Int), .int .u64 (t1 : Int), .slice a1 l1.length c1] 25)).alloc (.cells #[.int .i64 (K2 : Int), .int .u64 (s2 : Int), .int .u64 (t2 : Int), .slice a2 l2.length c2] 25)) from ((Below.refl _ w).alloc (Nat.le_refl _) _).alloc (by simp) _)
  clear z1 n1 h1 x1 m1 z2 n2 h2 x2 m2 hT hm1 hm2  hX2
  as_aux_lemma =>
    go_enter Tryd.func5, Tryd.ntmps5
    go_wp2_with fail
    generalize ((w.alloc (.cells #[.int .i64 k1, .int .u64 (s1 : Int), .int .u64 (t1 : Int), .slice a1 l1.length c1] 25)).alloc (.cells #[.int .i64 (K2 : Int), .int .u64 (s2 : Int), .int .u64 (t2 : Int), .slice a2 l2.length c2] 25)) = w0 at *
    have HS10 := Lib.hid (sl_then HBA.out (Nat.le_refl _) HS1.out)
    have HS20 := Lib.hid (sl_then HBA.out (Nat.le_refl _) HS2.out)
    have HT0 := Lib.hid (tabC_then HBA.out (Nat.le_refl _) HT.out)
    have HQ0 := Lib.hid (Below.refl w0.heap.size w0)
    obtain ⟨p0, p1, p2, p3, q0, q1, q2, q3⟩ := CL.out _ HQ0.out
    go_wp2_with (first
      | (go_at_call 10; (with_reducible refine (firstC w0 (tabC_then HQ0.out (Nat.le_refl _) HT0.out)).mono ?_); rintro e wq1 ⟨rfl, bq⟩; have HQ1 := Lib.hid (below_then HQ0.out bq HQ0.out.size); clear bq; clear p0 p1 p2 p3 q0 q1 q2 q3; obtain ⟨p0, p1, p2, p3, q0, q1, q2, q3⟩ := CL.out _ HQ1.out)
      | (go_at_call 11; (with_reducible refine (encN k1 s1 t1 a1 l1.length c1 l1 wq1 rfl HM1.out).mono ?_); rintro e wq2 ⟨xa, xc, rfl, bq⟩; have HQ2 := Lib.hid (below_then HQ1.out bq HQ1.out.size); clear bq; clear p0 p1 p2 p3 q0 q1 q2 q3; obtain ⟨p0, p1, p2, p3, q0, q1, q2, q3⟩ := CL.out _ HQ2.out)
      | (go_at_call 11; (with_reducible refine (encY K2 s2 t2 a2 l2.length c2 l2 X2 wq2 HXE2.out rfl HM2.out (sl_then HQ2.out (Nat.le_refl _) HS20.out) HZ2.out HC2.out HX2.out HN2.out (tabC_then HQ2.out (Nat.le_refl _) HT0.out)).mono ?_); rintro e wq3 ⟨yb, yo, yc, rfl, _, _, _, bq⟩; have HQ3 := Lib.hid (below_then HQ2.out bq HQ2.out.size); clear bq; clear p0 p1 p2 p3 q0 q1 q2 q3; obtain ⟨p0, p1, p2, p3, q0, q1, q2, q3⟩ := CL.out _ HQ3.out)
      | (go_at_call 18; (with_reducible refine (mayE k1 s1 t1 a1 l1.length c1 l1 wq3 false rfl HM1.out).mono ?_); rintro e wq4 ⟨rfl, bq⟩; have HQ4 := Lib.hid (below_then HQ3.out bq HQ3.out.size); clear bq; clear p0 p1 p2 p3 q0 q1 q2 q3; obtain ⟨p0, p1, p2, p3, q0, q1, q2, q3⟩ := CL.out _ HQ4.out)
      | (go_at_call 10; (with_reducible refine (firstC wq4 (tabC_then HQ4.out (Nat.le_refl _) HT0.out)).mono ?_); rintro e wq5 ⟨rfl, bq⟩; have HQ5 := Lib.hid (below_then HQ4.out bq HQ4.out.size); clear bq; clear p0 p1 p2 p3 q0 q1 q2 q3; obtain ⟨p0, p1, p2, p3, q0, q1, q2, q3⟩ := CL.out _ HQ5.out))
    go_ret
    exact ⟨rfl, below_then HBA.out HQ5.out HBA.out.size⟩

set_option maxRecDepth 100000 in
set_option maxHeartbeats 4000000 in
theorem apartYN (K1 s1 t1 : Nat) (a1 : Option Addr) (c1 : Nat) (l1 : List Nat) (k2 : Int) (s2 t2 : Nat) (a2 : Option Addr) (c2 : Nat) (l2 : List Nat) (w : World) (z1 : Sl w a1 l1) (n1 : a1 = none → c1 = 0) (h1 : l1.length ≤ c1) (x1 : ∀ c ∈ l1, c < 256) (m1 : l1.length ≤ 3000) (z2 : Sl w a2 l2) (n2 : a2 = none → c2 = 0) (h2 : l2.length ≤ c2) (x2 : ∀ c ∈ l2, c < 256) (m2 : l2.length ≤ 3000) (hm1 : mayR (K1 : Int) s1 t1 l1.length = true) (hm2 : mayR k2 s2 t2 l2.length = false)  (hT : TabC w) :
    Calls Tryd.prog 5 #[.agg #[.int .i64 (K1 : Int), .int .u64 (s1 : Int), .int .u64 (t1 : Int), .slice a1 l1.length c1], .agg #[.int .i64 k2, .int .u64 (s2 : Int), .int .u64 (t2 : Int), .slice a2 l2.length c2]] w fun e w' => e = .returned (.bool true) ∧ Below w.heap.size w w' := by
  have HS1 := Lib.hid z1
  have HZ1 := Lib.hid n1
  have HC1 := Lib.hid h1
  have HX1 := Lib.hid x1
  have HN1 := Lib.hid (show l1.length ≤ 900000 by omega)
  have tl1 : ¬ 3000 < (l1.length : Int) := by omega
  have HS2 := Lib.hid z2
  have HZ2 := Lib.hid n2
  have HC2 := Lib.hid h2
  have HX2 := Lib.hid x2
  have HN2 := Lib.hid (show l2.length ≤ 900000 by omega)
  have tl2 : ¬ 3000 < (l2.length : Int) := by omega
  have HT := Lib.hid hT
  have HM1 := Lib.hid hm1
  have HM2 := Lib.hid hm2
  obtain ⟨X1, hX1⟩ : ∃ X, X = recL K1 s1 t1 l1 := ⟨_, rfl⟩
  have HXE1 := Lib.hid hX1
  have HXL1 := Lib.hid (show 7 ≤ X1.length ∧ X1.length ≤ 4000 by
    obtain ⟨_, _, e1, e2, _⟩ := mayR_of hm1
    have := varL_ten (u64_of e1)
    have := varL_ten (u64_of e2)
    have := varL_ten (show l1.length < 18446744073709551616 by omega)
    rw [hX1, recL_len]; omega)
  have HXX1 := Lib.hid (show ∀ c ∈ X1, c < 256 by rw [hX1]; exact recL_lt (by have := (mayR_of hm1).1; omega) x1)
  have CL := Lib.hid (fun W (h : Below ((w.alloc (.cells #[.int .i64 (K1 : Int), .int .u64 (s1 : Int), .int .u64 (t1 : Int), .slice a1 l1.length c1] 25)).alloc (.cells #[.int .i64 k2, .int .u64 (s2 : Int), .int .u64 (t2 : Int), .slice a2 l2.length c2] 25)).heap.size ((w.alloc (.cells #[.int .i64 (K1 : Int), .int .u64 (s1 : Int), .int .u64 (t1 : Int), .slice a1 l1.length c1] 25)).alloc (.cells #[.int .i64 k2, .int .u64 (s2 : Int), .int .u64 (t2 : Int), .slice a2 l2.length c2] 25)) W) => boxes2 w W 25 _ _ _ _ _ _ _ _ h)
  have HBA := Lib.hid (show Below w.heap.size w ((w.alloc (.cells #[.int .i64 (K1 : Int), .int .u64 (s1 : Int), .int .u64 (t1 : Int), .slice a1 l1.length c1] 25)).alloc (.cells #[.int .i64 k2, .int .u64 (s2 : Int), .int .u64 (t2 : Int), .slice a2 l2.length c2] 25)) from ((Below.refl _ w).alloc (Nat.le_refl _) _).alloc (by simp) _)
  clear z1 n1 h1 x1 m1 z2 n2 h2 x2 m2 hT hm1 hm2 hX1 
  as_aux_lemma =>
    go_enter Tryd.func5, Tryd.ntmps5
    go_wp2_with fail
    generalize ((w.alloc (.cells #[.int .i64 (K1 : Int), .int .u64 (s1 : Int), .int .u64 (t1 : Int), .slice a1 l1.length c1] 25)).alloc (.cells #[.int .i64 k2, .int .u64 (s2 : Int), .int .u64 (t2 : Int), .slice a2 l2.length c2] 25)) = w0 at *
    have HS10 := Lib.hid (sl_then HBA.out (Nat.le_refl _) HS1.out)
    have HS20 := Lib.hid (sl_then HBA.out (Nat.le_refl _) HS2.out)
    have HT0 := Lib.hid (tabC_then HBA.out (Nat.le_refl _) HT.out)
    have HQ0 := Lib.hid (Below.refl w0.heap.size w0)
    obtain ⟨p0, p1, p2, p3, q0, q1, q2, q3⟩ := CL.out _ HQ0.out
    go_wp2_with (first
      | (go_at_call 10; (with_reducible refine (firstC w0 (tabC_then HQ0.out (Nat.le_refl _) HT0.out)).mono ?_); rintro e wq1 ⟨rfl, bq⟩; have HQ1 := Lib.hid (below_then HQ0.out bq HQ0.out.size); clear bq; clear p0 p1 p2 p3 q0 q1 q2 q3; obtain ⟨p0, p1, p2, p3, q0, q1, q2, q3⟩ := CL.out _ HQ1.out)
      | (go_at_call 11; (with_reducible refine (encY K1 s1 t1 a1 l1.length c1 l1 X1 wq1 HXE1.out rfl HM1.out (sl_then HQ1.out (Nat.le_refl _) HS10.out) HZ1.out HC1.out HX1.out HN1.out (tabC_then HQ1.out (Nat.le_refl _) HT0.out)).mono ?_); rintro e wq2 ⟨xb, xo, xc, rfl, _, _, _, bq⟩; have HQ2 := Lib.hid (below_then HQ1.out bq HQ1.out.size); clear bq; clear p0 p1 p2 p3 q0 q1 q2 q3; obtain ⟨p0, p1, p2, p3, q0, q1, q2, q3⟩ := CL.out _ HQ2.out)
      | (go_at_call 11; (with_reducible refine (encN k2 s2 t2 a2 l2.length c2 l2 wq2 rfl HM2.out).mono ?_); rintro e wq3 ⟨ya, yc, rfl, bq⟩; have HQ3 := Lib.hid (below_then HQ2.out bq HQ2.out.size); clear bq; clear p0 p1 p2 p3 q0 q1 q2 q3; obtain ⟨p0, p1, p2, p3, q0, q1, q2, q3⟩ := CL.out _ HQ3.out)
      | (go_at_call 18; (with_reducible refine (mayE (K1 : Int) s1 t1 a1 l1.length c1 l1 wq3 true rfl HM1.out).mono ?_); rintro e wq4 ⟨rfl, bq⟩; have HQ4 := Lib.hid (below_then HQ3.out bq HQ3.out.size); clear bq; clear p0 p1 p2 p3 q0 q1 q2 q3; obtain ⟨p0, p1, p2, p3, q0, q1, q2, q3⟩ := CL.out _ HQ4.out)
      | (go_at_call 10; (with_reducible refine (firstC wq4 (tabC_then HQ4.out (Nat.le_refl _) HT0.out)).mono ?_); rintro e wq5 ⟨rfl, bq⟩; have HQ5 := Lib.hid (below_then HQ4.out bq HQ4.out.size); clear bq; clear p0 p1 p2 p3 q0 q1 q2 q3; obtain ⟨p0, p1, p2, p3, q0, q1, q2, q3⟩ := CL.out _ HQ5.out))
    go_ret
    exact ⟨rfl, below_then HBA.out HQ5.out HBA.out.size⟩

set_option maxRecDepth 100000 in
set_option maxHeartbeats 4000000 in
theorem apart_lt (K1 s1 t1 : Nat) (a1 : Option Addr) (c1 : Nat) (l1 : List Nat) (K2 s2 t2 : Nat) (a2 : Option Addr) (c2 : Nat) (l2 : List Nat) (w : World) (z1 : Sl w a1 l1) (n1 : a1 = none → c1 = 0) (h1 : l1.length ≤ c1) (x1 : ∀ c ∈ l1, c < 256) (m1 : l1.length ≤ 3000) (z2 : Sl w a2 l2) (n2 : a2 = none → c2 = 0) (h2 : l2.length ≤ c2) (x2 : ∀ c ∈ l2, c < 256) (m2 : l2.length ≤ 3000) (hm1 : mayR (K1 : Int) s1 t1 l1.length = true) (hm2 : mayR (K2 : Int) s2 t2 l2.length = true) (hlt : (recL K1 s1 t1 l1).length < (recL K2 s2 t2 l2).length) (hT : TabC w) :
    Calls Tryd.prog 5 #[.agg #[.int .i64 (K1 : Int), .int .u64 (s1 : Int), .int .u64 (t1 : Int), .slice a1 l1.length c1], .agg #[.int .i64 (K2 : Int), .int .u64 (s2 : Int), .int .u64 (t2 : Int), .slice a2 l2.length c2]] w fun e w' => e = .returned (.bool true) ∧ Below w.heap.size w w' := by
  have HS1 := Lib.hid z1
  have HZ1 := Lib.hid n1
  have HC1 := Lib.hid h1
  have HX1 := Lib.hid x1
  have HN1 := Lib.hid (show l1.length ≤ 900000 by omega)
  have tl1 : ¬ 3000 < (l1.length : Int) := by omega
  have HS2 := Lib.hid z2
  have HZ2 := Lib.hid n2
  have HC2 := Lib.hid h2
  have HX2 := Lib.hid x2
  have HN2 := Lib.hid (show l2.length ≤ 900000 by omega)
  have tl2 : ¬ 3000 < (l2.length : Int) := by omega
  have HT := Lib.hid hT
  have HM1 := Lib.hid hm1
  have HM2 := Lib.hid hm2
  obtain ⟨X1, hX1⟩ : ∃ X, X = recL K1 s1 t1 l1 := ⟨_, rfl⟩
  have HXE1 := Lib.hid hX1
  have HXL1 := Lib.hid (show 7 ≤ X1.length ∧ X1.length ≤ 4000 by
    obtain ⟨_, _, e1, e2, _⟩ := mayR_of hm1
    have := varL_ten (u64_of e1)
    have := varL_ten (u64_of e2)
    have := varL_ten (show l1.length < 18446744073709551616 by omega)
    rw [hX1, recL_len]; omega)
  have HXX1 := Lib.hid (show ∀ c ∈ X1, c < 256 by rw [hX1]; exact recL_lt (by have := (mayR_of hm1).1; omega) x1)
  obtain ⟨X2, hX2⟩ : ∃ X, X = recL K2 s2 t2 l2 := ⟨_, rfl⟩
  have HXE2 := Lib.hid hX2
  have HXL2 := Lib.hid (show 7 ≤ X2.length ∧ X2.length ≤ 4000 by
    obtain ⟨_, _, e1, e2, _⟩ := mayR_of hm2
    have := varL_ten (u64_of e1)
    have := varL_ten (u64_of e2)
    have := varL_ten (show l2.length < 18446744073709551616 by omega)
    rw [hX2, recL_len]; omega)
  have HXX2 := Lib.hid (show ∀ c ∈ X2, c < 256 by rw [hX2]; exact recL_lt (by have := (mayR_of hm2).1; omega) x2)
  have CL := Lib.hid (fun W (h : Below ((w.alloc (.cells #[.int .i64 (K1 : Int), .int .u64 (s1 : Int), .int .u64 (t1 : Int), .slice a1 l1.length c1] 25)).alloc (.cells #[.int .i64 (K2 : Int), .int .u64 (s2 : Int), .int .u64 (t2 : Int), .slice a2 l2.length c2] 25)).heap.size ((w.alloc (.cells #[.int .i64 (K1 : Int), .int .u64 (s1 : Int), .int .u64 (t1 : Int), .slice a1 l1.length c1] 25)).alloc (.cells #[.int .i64 (K2 : Int), .int .u64 (s2 : Int), .int .u64 (t2 : Int), .slice a2 l2.length c2] 25)) W) => boxes2 w W 25 _ _ _ _ _ _ _ _ h)
  have HBA := Lib.hid (show Below w.heap.size w ((w.alloc (.cells #[.int .i64 (K1 : Int), .int .u64 (s1 : Int), .int .u64 (t1 : Int), .slice a1 l1.length c1] 25)).alloc (.cells #[.int .i64 (K2 : Int), .int .u64 (s2 : Int), .int .u64 (t2 : Int), .slice a2 l2.length c2] 25)) from ((Below.refl _ w).alloc (Nat.le_refl _) _).alloc (by simp) _)
  rw [← hX1, ← hX2] at hlt
  obtain ⟨Z, hZ⟩ : ∃ Z, Z = X1 ++ X2 := ⟨_, rfl⟩
  have HZZ := Lib.hid hZ
  obtain ⟨EE, hEE⟩ : ∃ E, E = X1.length + X2.length := ⟨_, rfl⟩
  have HZL := Lib.hid (show Z.length ≤ 90000 by have := HXL1.out; have := HXL2.out; rw [hZ, List.length_append]; omega)
  have HZX := Lib.hid (show ∀ c ∈ Z, c < 256 by
    rw [hZ]; intro c hc
    rcases List.mem_append.1 hc with h | h
    · exact HXX1.out c h
    · exact HXX2.out c h)
  have HDD := Lib.hid (show decA Z (X1.length : Int) = ⟨0, K2, s2, t2, l2, X2.length⟩ by
    have := dec_at (A := X1) [] hm2
    rw [← hX2, List.append_nil] at this
    rw [hZ]; exact this)
  have HEE := Lib.hid (show (EE : Int) = (X1.length : Int) + X2.length by rw [hEE]; simp)
  have y1 : (X1.length : Int) + (X2.length : Int) = (EE : Int) := by omega
  have y2 : EE ≤ 100000 := by have := HXL1.out; have := HXL2.out; omega
  obtain ⟨RR, hRR⟩ : ∃ R, R = decide (X1 = X2) := ⟨_, rfl⟩
  have HRR := Lib.hid hRR
  have HRS := Lib.hid (show RR = sameR (K1 : Int) s1 t1 l1 (K2 : Int) s2 t2 l2 by rw [hRR, hX1, hX2]; exact rec_same hm1 hm2)
  have HSS := Lib.hid (show true = sameR (K2 : Int) s2 t2 l2 (K2 : Int) s2 t2 l2 by simp [sameR])
  have HL1 := Lib.hid (show X1.length ≤ 1000000 by have := HXL1.out; omega)
  have HLL := Lib.hid (show X1.length + X2.length ≤ 1000000 by have := HXL1.out; have := HXL2.out; omega)
  have y3 : (X1.length : Int) < (X2.length : Int) := by omega
  have y4 : ¬ (X2.length : Int) < (X1.length : Int) := by omega
  have HTL := Lib.hid (show X1.length = (X2.take X1.length).length by rw [List.length_take]; omega)
  have HTX := Lib.hid (show ∀ c ∈ X2.take X1.length, c < 256 from fun c hc => HXX2.out c (List.mem_of_mem_take hc))
  have HTE := Lib.hid (show false = decide (X2.take X1.length = X1) by
    symm; refine decide_eq_false (fun h => ?_)
    have := rec_front hm1 hm2 (by rw [← hX1, ← hX2]; omega) (by rw [← hX1, ← hX2]; exact h)
    rw [← hX1, ← hX2] at this; omega)
  have HSUB := Lib.hid (fun (b o cap : Nat) (hc : X2.length ≤ cap) => sub_front (b := b) (o := o) (show X1.length ≤ X2.length by omega) (by have := HXL2.out; omega) hc)
  clear hZ hEE hRR hlt
  clear z1 n1 h1 x1 m1 z2 n2 h2 x2 m2 hT hm1 hm2 hX1 hX2
  as_aux_lemma =>
    go_enter Tryd.func5, Tryd.ntmps5
    go_wp2_with fail
    generalize ((w.alloc (.cells #[.int .i64 (K1 : Int), .int .u64 (s1 : Int), .int .u64 (t1 : Int), .slice a1 l1.length c1] 25)).alloc (.cells #[.int .i64 (K2 : Int), .int .u64 (s2 : Int), .int .u64 (t2 : Int), .slice a2 l2.length c2] 25)) = w0 at *
    have HS10 := Lib.hid (sl_then HBA.out (Nat.le_refl _) HS1.out)
    have HS20 := Lib.hid (sl_then HBA.out (Nat.le_refl _) HS2.out)
    have HT0 := Lib.hid (tabC_then HBA.out (Nat.le_refl _) HT.out)
    have HQ0 := Lib.hid (Below.refl w0.heap.size w0)
    obtain ⟨p0, p1, p2, p3, q0, q1, q2, q3⟩ := CL.out _ HQ0.out
    go_wp2_with (first
      | (go_at_call 10; (with_reducible refine (firstC w0 (tabC_then HQ0.out (Nat.le_refl _) HT0.out)).mono ?_); rintro e wq1 ⟨rfl, bq⟩; have HQ1 := Lib.hid (below_then HQ0.out bq HQ0.out.size); clear bq; clear p0 p1 p2 p3 q0 q1 q2 q3; obtain ⟨p0, p1, p2, p3, q0, q1, q2, q3⟩ := CL.out _ HQ1.out)
      | (go_at_call 11; (with_reducible refine (encY K1 s1 t1 a1 l1.length c1 l1 X1 wq1 HXE1.out rfl HM1.out (sl_then HQ1.out (Nat.le_refl _) HS10.out) HZ1.out HC1.out HX1.out HN1.out (tabC_then HQ1.out (Nat.le_refl _) HT0.out)).mono ?_); rintro e wq2 ⟨xb, xo, xc, rfl, lx, kx, _, bq⟩; have HQ2 := Lib.hid (below_then HQ1.out bq HQ1.out.size); have X_2 := Lib.hid lx; clear bq lx; clear p0 p1 p2 p3 q0 q1 q2 q3; obtain ⟨p0, p1, p2, p3, q0, q1, q2, q3⟩ := CL.out _ HQ2.out; have HKX := Lib.hid kx; clear kx)
      | (go_at_call 11; (with_reducible refine (encY K2 s2 t2 a2 l2.length c2 l2 X2 wq2 HXE2.out rfl HM2.out (sl_then HQ2.out (Nat.le_refl _) HS20.out) HZ2.out HC2.out HX2.out HN2.out (tabC_then HQ2.out (Nat.le_refl _) HT0.out)).mono ?_); rintro e wq3 ⟨yb, yo, yc, rfl, ly, ky, _, bq⟩; have HQ3 := Lib.hid (below_then HQ2.out bq HQ2.out.size); have X_3 := Lib.hid (sl_then bq (Nat.le_refl _) X_2.out); have Y_3 := Lib.hid ly; clear bq ly; clear p0 p1 p2 p3 q0 q1 q2 q3; obtain ⟨p0, p1, p2, p3, q0, q1, q2, q3⟩ := CL.out _ HQ3.out; have HKY := Lib.hid ky; clear ky; have hs1 := HSUB.out yb yo yc HKY.out)
      | (go_at_call 18; (with_reducible refine (mayE (K1 : Int) s1 t1 a1 l1.length c1 l1 wq3 true rfl HM1.out).mono ?_); rintro e wq4 ⟨rfl, bq⟩; have HQ4 := Lib.hid (below_then HQ3.out bq HQ3.out.size); have X_4 := Lib.hid (sl_then bq (Nat.le_refl _) X_3.out); have Y_4 := Lib.hid (sl_then bq (Nat.le_refl _) Y_3.out); clear bq; clear p0 p1 p2 p3 q0 q1 q2 q3; obtain ⟨p0, p1, p2, p3, q0, q1, q2, q3⟩ := CL.out _ HQ4.out)
      | (go_at_call 16; (with_reducible refine (bytesK (some ⟨yb, yo, none⟩) (some ⟨xb, xo, none⟩) yc xc X1.length X1.length (X2.take X1.length) X1 wq4 false HTL.out rfl (sl_of (cells_take Y_4.out X1.length _ rfl)) X_4.out HTX.out HXX1.out HTE.out).mono ?_); rintro e w' ⟨rfl, rfl⟩)
      | (go_at_call 21; (with_reducible refine (copyC (some ⟨xb, xo, none⟩) xc X1 wq4 HL1.out X_4.out (fun h => by cases h)).mono ?_); rintro e wq5 ⟨cv, rfl, co, bq⟩; have HQ5 := Lib.hid (below_then HQ4.out bq HQ4.out.size); have X_5 := Lib.hid (sl_then bq (Nat.le_refl _) X_4.out); have Y_5 := Lib.hid (sl_then bq (Nat.le_refl _) Y_4.out); have HCO := Lib.hid co; have HBC := Lib.hid bq; have HBS := Lib.hid (show wq4.heap.size ≤ wq5.heap.size from bq.size); clear bq co; clear p0 p1 p2 p3 q0 q1 q2 q3; obtain ⟨p0, p1, p2, p3, q0, q1, q2, q3⟩ := CL.out _ HQ5.out)
      | (at_builtin; (refine app_sl rfl _ _ rfl wq4.heap.size _ X1 rfl HCO.out (some ⟨yb, yo, none⟩) X2.length yc X2 rfl rfl (fun h => by cases h) Y_5.out HLL.out HBS.out ?_; intro v6 wq6 o6 b6; have HQ6 := Lib.hid (b6 _ _ HQ4.out.size HQ5.out); have X_6 := Lib.hid (sl_then (b6 _ _ (Nat.le_refl _) HBC.out) (Nat.le_refl _) X_4.out); have Y_6 := Lib.hid (sl_then (b6 _ _ (Nat.le_refl _) HBC.out) (Nat.le_refl _) Y_4.out); rw [← HZZ.out] at o6; obtain ⟨za, zc, rfl, zl, zs, _, _⟩ := rb_sl o6; have HZS := Lib.hid zs; have HZC := Lib.hid zl; clear b6 o6 zl zs; clear p0 p1 p2 p3 q0 q1 q2 q3; obtain ⟨p0, p1, p2, p3, q0, q1, q2, q3⟩ := CL.out _ HQ6.out))
      | (go_at_call 14; (with_reducible refine (decK za Z.length zc Z (X1.length : Int) K2 s2 t2 l2 X2.length EE wq6 rfl HDD.out HEE.out HZS.out HZC.out HZX.out HZL.out (tabC_then HQ6.out (Nat.le_refl _) HT0.out)).mono ?_); rintro e wq7 ⟨ua, uc, rfl, lu, bq⟩; have HQ7 := Lib.hid (below_then HQ6.out bq HQ6.out.size); have X_7 := Lib.hid (sl_then bq (Nat.le_refl _) X_6.out); have Y_7 := Lib.hid (sl_then bq (Nat.le_refl _) Y_6.out); have U_7 := Lib.hid lu; clear bq lu; clear p0 p1 p2 p3 q0 q1 q2 q3; obtain ⟨p0, p1, p2, p3, q0, q1, q2, q3⟩ := CL.out _ HQ7.out))
    have HQZ := Lib.hid (HQ7.out.alloc HQ7.out.size (.cells #[.int .i64 (K2 : Int), .int .u64 (s2 : Int), .int .u64 (t2 : Int), .slice ua l2.length uc] 25))
    have HXz := Lib.hid (sl_alloc X_7.out (.cells #[.int .i64 (K2 : Int), .int .u64 (s2 : Int), .int .u64 (t2 : Int), .slice ua l2.length uc] 25))
    have HYz := Lib.hid (sl_alloc Y_7.out (.cells #[.int .i64 (K2 : Int), .int .u64 (s2 : Int), .int .u64 (t2 : Int), .slice ua l2.length uc] 25))
    have HUz := Lib.hid (sl_alloc U_7.out (.cells #[.int .i64 (K2 : Int), .int .u64 (s2 : Int), .int .u64 (t2 : Int), .slice ua l2.length uc] 25))
    have CU := Lib.hid (fun W (h : Below (wq7.alloc (.cells #[.int .i64 (K2 : Int), .int .u64 (s2 : Int), .int .u64 (t2 : Int), .slice ua l2.length uc] 25)).heap.size (wq7.alloc (.cells #[.int .i64 (K2 : Int), .int .u64 (s2 : Int), .int .u64 (t2 : Int), .slice ua l2.length uc] 25)) W) => box1 wq7 W 25 _ _ _ _ h)
    clear p0 p1 p2 p3 q0 q1 q2 q3
    as_aux_lemma =>
      generalize (wq7.alloc (.cells #[.int .i64 (K2 : Int), .int .u64 (s2 : Int), .int .u64 (t2 : Int), .slice ua l2.length uc] 25)) = wz at *
      generalize wq7.heap.size = g3 at *
      have HS1z := Lib.hid (sl_then HQZ.out (Nat.le_refl _) HS10.out)
      have HS2z := Lib.hid (sl_then HQZ.out (Nat.le_refl _) HS20.out)
      have HTz := Lib.hid (tabC_then HQZ.out (Nat.le_refl _) HT0.out)
      have KS := Lib.hid (show ∀ W, Below wz.heap.size wz W → W.cell? ⟨w.heap.size, 0, none⟩ = some (.int .i64 (K1 : Int)) ∧ W.cell? ⟨w.heap.size, 1, none⟩ = some (.int .u64 (s1 : Int)) ∧ W.cell? ⟨w.heap.size, 2, none⟩ = some (.int .u64 (t1 : Int)) ∧ W.cell? ⟨w.heap.size, 3, none⟩ = some (.slice a1 l1.length c1) ∧ W.cell? ⟨w.heap.size + 1, 0, none⟩ = some (.int .i64 (K2 : Int)) ∧ W.cell? ⟨w.heap.size + 1, 1, none⟩ = some (.int .u64 (s2 : Int)) ∧ W.cell? ⟨w.heap.size + 1, 2, none⟩ = some (.int .u64 (t2 : Int)) ∧ W.cell? ⟨w.heap.size + 1, 3, none⟩ = some (.slice a2 l2.length c2) ∧ W.cell? ⟨g3, 0, none⟩ = some (.int .i64 (K2 : Int)) ∧ W.cell? ⟨g3, 1, none⟩ = some (.int .u64 (s2 : Int)) ∧ W.cell? ⟨g3, 2, none⟩ = some (.int .u64 (t2 : Int)) ∧ W.cell? ⟨g3, 3, none⟩ = some (.slice ua l2.length uc) ∧ Below wz.heap.size wz W from fun W h => by
        obtain ⟨p0, p1, p2, p3, q0, q1, q2, q3⟩ := CL.out _ (below_then HQZ.out h HQZ.out.size)
        obtain ⟨r0, r1, r2, r3⟩ := CU.out _ h
        exact ⟨p0, p1, p2, p3, q0, q1, q2, q3, r0, r1, r2, r3, h⟩)
      have KB := Lib.hid (show ∀ W, (W.cell? ⟨w.heap.size, 0, none⟩ = some (.int .i64 (K1 : Int)) ∧ W.cell? ⟨w.heap.size, 1, none⟩ = some (.int .u64 (s1 : Int)) ∧ W.cell? ⟨w.heap.size, 2, none⟩ = some (.int .u64 (t1 : Int)) ∧ W.cell? ⟨w.heap.size, 3, none⟩ = some (.slice a1 l1.length c1) ∧ W.cell? ⟨w.heap.size + 1, 0, none⟩ = some (.int .i64 (K2 : Int)) ∧ W.cell? ⟨w.heap.size + 1, 1, none⟩ = some (.int .u64 (s2 : Int)) ∧ W.cell? ⟨w.heap.size + 1, 2, none⟩ = some (.int .u64 (t2 : Int)) ∧ W.cell? ⟨w.heap.size + 1, 3, none⟩ = some (.slice a2 l2.length c2) ∧ W.cell? ⟨g3, 0, none⟩ = some (.int .i64 (K2 : Int)) ∧ W.cell? ⟨g3, 1, none⟩ = some (.int .u64 (s2 : Int)) ∧ W.cell? ⟨g3, 2, none⟩ = some (.int .u64 (t2 : Int)) ∧ W.cell? ⟨g3, 3, none⟩ = some (.slice ua l2.length uc) ∧ Below wz.heap.size wz W) → Below wz.heap.size wz W from fun W h => h.2.2.2.2.2.2.2.2.2.2.2.2)
      have y9 := wr_i EE y2
      go_wp2_with fail
      refine wp_region_held_drew (S := (fun W => W.cell? ⟨w.heap.size, 0, none⟩ = some (.int .i64 (K1 : Int)) ∧ W.cell? ⟨w.heap.size, 1, none⟩ = some (.int .u64 (s1 : Int)) ∧ W.cell? ⟨w.heap.size, 2, none⟩ = some (.int .u64 (t1 : Int)) ∧ W.cell? ⟨w.heap.size, 3, none⟩ = some (.slice a1 l1.length c1) ∧ W.cell? ⟨w.heap.size + 1, 0, none⟩ = some (.int .i64 (K2 : Int)) ∧ W.cell? ⟨w.heap.size + 1, 1, none⟩ = some (.int .u64 (s2 : Int)) ∧ W.cell? ⟨w.heap.size + 1, 2, none⟩ = some (.int .u64 (t2 : Int)) ∧ W.cell? ⟨w.heap.size + 1, 3, none⟩ = some (.slice a2 l2.length c2) ∧ W.cell? ⟨g3, 0, none⟩ = some (.int .i64 (K2 : Int)) ∧ W.cell? ⟨g3, 1, none⟩ = some (.int .u64 (s2 : Int)) ∧ W.cell? ⟨g3, 2, none⟩ = some (.int .u64 (t2 : Int)) ∧ W.cell? ⟨g3, 3, none⟩ = some (.slice ua l2.length uc) ∧ Below wz.heap.size wz W)) (by kernel_rfl) ?_ (fun hHeld => ?_)
      · ((try dsimp only); (first | (with_reducible exact KS.out _ hN) | (with_reducible exact hHeld) | exact KS.out _ (Below.refl _ _).drew | exact KS.out _ (Below.refl _ _)))
      refine wpAnyH_ready (rs := [0]) (by kernel_rfl) (by simp) ?_
      refine (AllReadyH.cons (o := { dst := some 100, op := Op.call { callee := Callee.value (Operand.func 10), args := #[], argTypes := #[] }, type := 4, pos := _, after := #[], guard := none }) rfl (fun K hK => ?_) AllReadyH.nil)
      go_simp
      (go_at_call 10; (with_reducible refine (firstC _ (tabC_then (KB.out _ hHeld) (Nat.le_refl _) HTz.out)).mono ?_); rintro e wa ⟨rfl, ba⟩; have hN := below_then (KB.out _ hHeld) ba (KB.out _ hHeld).size; clear ba)
      go_wp2_with fail
      refine hK.out _ _ ?_ (fun hHeld => ?_)
      · ((try dsimp only); (first | (with_reducible exact KS.out _ hN) | (with_reducible exact hHeld) | exact KS.out _ (Below.refl _ _).drew | exact KS.out _ (Below.refl _ _)))
      clear hK K
      try simp only [Act.put, List.setIfInBounds_toArray, List.set_cons_zero, List.set_cons_succ]
      refine wpAnyH_take (i := 1) (oi := { dst := some 101, op := Op.move (Operand.tmp 100), type := 4, pos := _, after := #[{ on := 0, ground := Ground.data }, { on := 0, ground := Ground.chain }], guard := none }) (v := ?_) rfl (by kernel_rfl) (by kernel_rfl) (by kernel_rfl) (fun _ _ _ h => h) (Or.inl ⟨by rfl, ?_⟩) (by assumption) ?_
      rotate_left
      · ((intro w hSw); (try dsimp only at hSw); go_simp; (try with_reducible rfl))
      try simp only [Act.put, List.setIfInBounds_toArray, List.set_cons_zero, List.set_cons_succ]
      refine wpAnyH_take (i := 2) (oi := { dst := some 102, op := Op.move (Operand.tmp 5), type := 23, pos := _, after := #[{ on := 1, ground := Ground.guard }], guard := some (1, true) }) (v := ?_) rfl (by kernel_rfl) (by kernel_rfl) (by kernel_rfl) (fun _ _ _ h => h) (Or.inl ⟨by rfl, ?_⟩) (by assumption) ?_
      rotate_left
      · ((intro w hSw); (try dsimp only at hSw); go_simp; (try with_reducible rfl))
      try simp only [Act.put, List.setIfInBounds_toArray, List.set_cons_zero, List.set_cons_succ]
      refine wpAnyH_take (i := 3) (oi := { dst := some 103, op := Op.move (Operand.tmp 7), type := 23, pos := _, after := #[{ on := 1, ground := Ground.guard }], guard := some (1, true) }) (v := ?_) rfl (by kernel_rfl) (by kernel_rfl) (by kernel_rfl) (fun _ _ _ h => h) (Or.inl ⟨by rfl, ?_⟩) (by assumption) ?_
      rotate_left
      · ((intro w hSw); (try dsimp only at hSw); go_simp; (try with_reducible rfl))
      try simp only [Act.put, List.setIfInBounds_toArray, List.set_cons_zero, List.set_cons_succ]
      refine wpAnyH_take (i := 5) (oi := { dst := some 105, op := Op.load 25 (Operand.tmp 2), type := 25, pos := _, after := #[{ on := 1, ground := Ground.guard }], guard := some (1, true) }) (v := ?_) rfl (by kernel_rfl) (by kernel_rfl) (by kernel_rfl) (fun _ _ _ h => h) (Or.inl ⟨by rfl, ?_⟩) (by assumption) ?_
      rotate_left
      · ((intro w hSw); (try dsimp only at hSw); go_simp; (try with_reducible rfl))
      try simp only [Act.put, List.setIfInBounds_toArray, List.set_cons_zero, List.set_cons_succ]
      refine wpAnyH_take (i := 6) (oi := { dst := some 106, op := Op.load 25 (Operand.tmp 3), type := 25, pos := _, after := #[{ on := 1, ground := Ground.guard }], guard := some (1, true) }) (v := ?_) rfl (by kernel_rfl) (by kernel_rfl) (by kernel_rfl) (fun _ _ _ h => h) (Or.inl ⟨by rfl, ?_⟩) (by assumption) ?_
      rotate_left
      · ((intro w hSw); (try dsimp only at hSw); go_simp; (try with_reducible rfl))
      try simp only [Act.put, List.setIfInBounds_toArray, List.set_cons_zero, List.set_cons_succ]
      refine wpAnyH_ready (rs := [4]) (by kernel_rfl) (by simp) ?_
      refine (AllReadyH.cons (o := { dst := some 104, op := Op.call { callee := Callee.value (Operand.func 16), args := #[Operand.tmp 102, Operand.tmp 103], argTypes := #[23, 23] }, type := 4, pos := _, after := #[{ on := 2, ground := Ground.data }, { on := 3, ground := Ground.data }, { on := 1, ground := Ground.chain }, { on := 1, ground := Ground.guard }], guard := some (1, true) }) rfl (fun K hK => ?_) AllReadyH.nil)
      go_simp
      (go_at_call 16; (with_reducible refine (bytesK (some ⟨xb, xo, none⟩) (some ⟨yb, yo, none⟩) xc yc X1.length X2.length X1 X2 _ RR rfl rfl (sl_then (KB.out _ hHeld) (Nat.le_refl _) HXz.out) (sl_then (KB.out _ hHeld) (Nat.le_refl _) HYz.out) HXX1.out HXX2.out HRR.out).mono ?_); rintro e wb ⟨rfl, rfl⟩)
      go_wp2_with fail
      refine hK.out _ _ ?_ (fun hHeld => ?_)
      · ((try dsimp only); (first | (with_reducible exact KS.out _ hN) | (with_reducible exact hHeld) | exact KS.out _ (Below.refl _ _).drew | exact KS.out _ (Below.refl _ _)))
      clear hK K
      try simp only [Act.put, List.setIfInBounds_toArray, List.set_cons_zero, List.set_cons_succ]
      refine wpAnyH_ready (rs := [7]) (by kernel_rfl) (by simp) ?_
      refine (AllReadyH.cons (o := { dst := some 107, op := Op.call { callee := Callee.value (Operand.func 20), args := #[Operand.tmp 105, Operand.tmp 106], argTypes := #[25, 25] }, type := 4, pos := _, after := #[{ on := 5, ground := Ground.data }, { on := 6, ground := Ground.data }, { on := 4, ground := Ground.chain }, { on := 1, ground := Ground.guard }], guard := some (1, true) }) rfl (fun K hK => ?_) AllReadyH.nil)
      go_simp
      (go_at_call 20; (with_reducible refine (sameK (K1 : Int) s1 t1 a1 l1.length c1 l1 (K2 : Int) s2 t2 a2 l2.length c2 l2 _ rfl rfl (sl_then (KB.out _ hHeld) (Nat.le_refl _) HS1z.out) (sl_then (KB.out _ hHeld) (Nat.le_refl _) HS2z.out) HX1.out HX2.out RR HRS.out).mono ?_); rintro e wa ⟨rfl, ba⟩; have hN := below_then (KB.out _ hHeld) ba (KB.out _ hHeld).size; clear ba)
      go_wp2_with fail
      refine hK.out _ _ ?_ (fun hHeld => ?_)
      · ((try dsimp only); (first | (with_reducible exact KS.out _ hN) | (with_reducible exact hHeld) | exact KS.out _ (Below.refl _ _).drew | exact KS.out _ (Below.refl _ _)))
      clear hK K
      try simp only [Act.put, List.setIfInBounds_toArray, List.set_cons_zero, List.set_cons_succ]
      refine wpAnyH_take (i := 8) (oi := { dst := some 108, op := Op.binOp BinOp.eql 4 (Operand.tmp 104) (Operand.tmp 107) 4, type := 4, pos := _, after := #[{ on := 4, ground := Ground.data }, { on := 7, ground := Ground.data }, { on := 1, ground := Ground.guard }], guard := some (1, true) }) (v := ?_) rfl (by kernel_rfl) (by kernel_rfl) (by kernel_rfl) (fun _ _ _ h => h) (Or.inl ⟨by rfl, ?_⟩) (by assumption) ?_
      rotate_left
      · ((intro w hSw); (try dsimp only at hSw); go_simp; (try with_reducible rfl))
      try simp only [Act.put, List.setIfInBounds_toArray, List.set_cons_zero, List.set_cons_succ]
      refine wpAnyH_take (i := 9) (oi := { dst := some 109, op := Op.pick (Operand.tmp 101) (Operand.tmp 108) (Operand.const (Value.bool false)), type := 4, pos := _, after := #[{ on := 1, ground := Ground.data }, { on := 8, ground := Ground.data }], guard := none }) (v := ?_) rfl (by kernel_rfl) (by kernel_rfl) (by kernel_rfl) (fun _ _ _ h => h) (Or.inl ⟨by rfl, ?_⟩) (by assumption) ?_
      rotate_left
      · ((intro w hSw); (try dsimp only at hSw); go_simp; (try with_reducible rfl))
      try simp only [Act.put, List.setIfInBounds_toArray, List.set_cons_zero, List.set_cons_succ]
      refine wpAnyH_take (i := 10) (oi := { dst := some 110, op := Op.move (Operand.tmp 109), type := 4, pos := _, after := #[{ on := 9, ground := Ground.data }, { on := 7, ground := Ground.chain }], guard := none }) (v := ?_) rfl (by kernel_rfl) (by kernel_rfl) (by kernel_rfl) (fun _ _ _ h => h) (Or.inl ⟨by rfl, ?_⟩) (by assumption) ?_
      rotate_left
      · ((intro w hSw); (try dsimp only at hSw); go_simp; (try with_reducible rfl))
      try simp only [Act.put, List.setIfInBounds_toArray, List.set_cons_zero, List.set_cons_succ]
      refine wpAnyH_take (i := 11) (oi := { dst := some 111, op := Op.move (Operand.tmp 9), type := 4, pos := _, after := #[{ on := 10, ground := Ground.guard }], guard := some (10, true) }) (v := ?_) rfl (by kernel_rfl) (by kernel_rfl) (by kernel_rfl) (fun _ _ _ h => h) (Or.inl ⟨by rfl, ?_⟩) (by assumption) ?_
      rotate_left
      · ((intro w hSw); (try dsimp only at hSw); go_simp; (try with_reducible rfl))
      try simp only [Act.put, List.setIfInBounds_toArray, List.set_cons_zero, List.set_cons_succ]
      refine wpAnyH_take (i := 12) (oi := { dst := some 112, op := Op.unOp UnOp.not 4 (Operand.tmp 111), type := 4, pos := _, after := #[{ on := 11, ground := Ground.data }, { on := 10, ground := Ground.guard }], guard := some (10, true) }) (v := ?_) rfl (by kernel_rfl) (by kernel_rfl) (by kernel_rfl) (fun _ _ _ h => h) (Or.inl ⟨by rfl, ?_⟩) (by assumption) ?_
      rotate_left
      · ((intro w hSw); (try dsimp only at hSw); go_simp; (try with_reducible rfl))
      try simp only [Act.put, List.setIfInBounds_toArray, List.set_cons_zero, List.set_cons_succ]
      refine wpAnyH_take (i := 13) (oi := { dst := some 113, op := Op.pick (Operand.tmp 110) (Operand.tmp 112) (Operand.const (Value.bool false)), type := 4, pos := _, after := #[{ on := 10, ground := Ground.data }, { on := 12, ground := Ground.data }], guard := none }) (v := ?_) rfl (by kernel_rfl) (by kernel_rfl) (by kernel_rfl) (fun _ _ _ h => h) (Or.inl ⟨by rfl, ?_⟩) (by assumption) ?_
      rotate_left
      · ((intro w hSw); (try dsimp only at hSw); go_simp; (try with_reducible rfl))
      try simp only [Act.put, List.setIfInBounds_toArray, List.set_cons_zero, List.set_cons_succ]
      refine wpAnyH_take (i := 14) (oi := { dst := some 114, op := Op.move (Operand.tmp 113), type := 4, pos := _, after := #[{ on := 13, ground := Ground.data }, { on := 10, ground := Ground.chain }], guard := none }) (v := ?_) rfl (by kernel_rfl) (by kernel_rfl) (by kernel_rfl) (fun _ _ _ h => h) (Or.inl ⟨by rfl, ?_⟩) (by assumption) ?_
      rotate_left
      · ((intro w hSw); (try dsimp only at hSw); go_simp; (try with_reducible rfl))
      try simp only [Act.put, List.setIfInBounds_toArray, List.set_cons_zero, List.set_cons_succ]
      refine wpAnyH_take (i := 15) (oi := { dst := some 115, op := Op.move (Operand.tmp 12), type := 27, pos := _, after := #[{ on := 14, ground := Ground.guard }], guard := some (14, true) }) (v := ?_) rfl (by kernel_rfl) (by kernel_rfl) (by kernel_rfl) (fun _ _ _ h => h) (Or.inl ⟨by rfl, ?_⟩) (by assumption) ?_
      rotate_left
      · ((intro w hSw); (try dsimp only at hSw); go_simp; (try with_reducible rfl))
      try simp only [Act.put, List.setIfInBounds_toArray, List.set_cons_zero, List.set_cons_succ]
      refine wpAnyH_take (i := 16) (oi := { dst := some 116, op := Op.binOp BinOp.eql 27 (Operand.tmp 115) (Operand.const (Value.int IntKind.i64 0)) 27, type := 4, pos := _, after := #[{ on := 15, ground := Ground.data }, { on := 14, ground := Ground.guard }], guard := some (14, true) }) (v := ?_) rfl (by kernel_rfl) (by kernel_rfl) (by kernel_rfl) (fun _ _ _ h => h) (Or.inl ⟨by rfl, ?_⟩) (by assumption) ?_
      rotate_left
      · ((intro w hSw); (try dsimp only at hSw); go_simp; (try with_reducible rfl))
      try simp only [Act.put, List.setIfInBounds_toArray, List.set_cons_zero, List.set_cons_succ]
      refine wpAnyH_take (i := 17) (oi := { dst := some 117, op := Op.pick (Operand.tmp 114) (Operand.tmp 116) (Operand.const (Value.bool false)), type := 4, pos := _, after := #[{ on := 14, ground := Ground.data }, { on := 16, ground := Ground.data }], guard := none }) (v := ?_) rfl (by kernel_rfl) (by kernel_rfl) (by kernel_rfl) (fun _ _ _ h => h) (Or.inl ⟨by rfl, ?_⟩) (by assumption) ?_
      rotate_left
      · ((intro w hSw); (try dsimp only at hSw); go_simp; (try with_reducible rfl))
      try simp only [Act.put, List.setIfInBounds_toArray, List.set_cons_zero, List.set_cons_succ]
      refine wpAnyH_take (i := 18) (oi := { dst := some 118, op := Op.move (Operand.tmp 117), type := 4, pos := _, after := #[{ on := 17, ground := Ground.data }, { on := 14, ground := Ground.chain }], guard := none }) (v := ?_) rfl (by kernel_rfl) (by kernel_rfl) (by kernel_rfl) (fun _ _ _ h => h) (Or.inl ⟨by rfl, ?_⟩) (by assumption) ?_
      rotate_left
      · ((intro w hSw); (try dsimp only at hSw); go_simp; (try with_reducible rfl))
      try simp only [Act.put, List.setIfInBounds_toArray, List.set_cons_zero, List.set_cons_succ]
      refine wpAnyH_take (i := 19) (oi := { dst := some 119, op := Op.load 25 (Operand.tmp 10), type := 25, pos := _, after := #[{ on := 18, ground := Ground.guard }], guard := some (18, true) }) (v := ?_) rfl (by kernel_rfl) (by kernel_rfl) (by kernel_rfl) (fun _ _ _ h => h) (Or.inl ⟨by rfl, ?_⟩) (by assumption) ?_
      rotate_left
      · ((intro w hSw); (try dsimp only at hSw); go_simp; (try with_reducible rfl))
      try simp only [Act.put, List.setIfInBounds_toArray, List.set_cons_zero, List.set_cons_succ]
      refine wpAnyH_take (i := 20) (oi := { dst := some 120, op := Op.load 25 (Operand.tmp 3), type := 25, pos := _, after := #[{ on := 18, ground := Ground.guard }], guard := some (18, true) }) (v := ?_) rfl (by kernel_rfl) (by kernel_rfl) (by kernel_rfl) (fun _ _ _ h => h) (Or.inl ⟨by rfl, ?_⟩) (by assumption) ?_
      rotate_left
      · ((intro w hSw); (try dsimp only at hSw); go_simp; (try with_reducible rfl))
      try simp only [Act.put, List.setIfInBounds_toArray, List.set_cons_zero, List.set_cons_succ]
      refine wpAnyH_ready (rs := [21]) (by kernel_rfl) (by simp) ?_
      refine (AllReadyH.cons (o := { dst := some 121, op := Op.call { callee := Callee.value (Operand.func 20), args := #[Operand.tmp 119, Operand.tmp 120], argTypes := #[25, 25] }, type := 4, pos := _, after := #[{ on := 19, ground := Ground.data }, { on := 20, ground := Ground.data }, { on := 18, ground := Ground.chain }, { on := 18, ground := Ground.guard }], guard := some (18, true) }) rfl (fun K hK => ?_) AllReadyH.nil)
      go_simp
      (go_at_call 20; (with_reducible refine (sameK (K2 : Int) s2 t2 ua l2.length uc l2 (K2 : Int) s2 t2 a2 l2.length c2 l2 _ rfl rfl (sl_then (KB.out _ hHeld) (Nat.le_refl _) HUz.out) (sl_then (KB.out _ hHeld) (Nat.le_refl _) HS2z.out) HX2.out HX2.out true HSS.out).mono ?_); rintro e wa ⟨rfl, ba⟩; have hN := below_then (KB.out _ hHeld) ba (KB.out _ hHeld).size; clear ba)
      go_wp2_with fail
      refine hK.out _ _ ?_ (fun hHeld => ?_)
      · ((try dsimp only); (first | (with_reducible exact KS.out _ hN) | (with_reducible exact hHeld) | exact KS.out _ (Below.refl _ _).drew | exact KS.out _ (Below.refl _ _)))
      clear hK K
      try simp only [Act.put, List.setIfInBounds_toArray, List.set_cons_zero, List.set_cons_succ]
      refine wpAnyH_take (i := 22) (oi := { dst := some 122, op := Op.pick (Operand.tmp 118) (Operand.tmp 121) (Operand.const (Value.bool false)), type := 4, pos := _, after := #[{ on := 18, ground := Ground.data }, { on := 21, ground := Ground.data }], guard := none }) (v := ?_) rfl (by kernel_rfl) (by kernel_rfl) (by kernel_rfl) (fun _ _ _ h => h) (Or.inl ⟨by rfl, ?_⟩) (by assumption) ?_
      rotate_left
      · ((intro w hSw); (try dsimp only at hSw); go_simp; (try with_reducible rfl))
      try simp only [Act.put, List.setIfInBounds_toArray, List.set_cons_zero, List.set_cons_succ]
      refine wpAnyH_take (i := 23) (oi := { dst := some 123, op := Op.move (Operand.tmp 122), type := 4, pos := _, after := #[{ on := 22, ground := Ground.data }, { on := 21, ground := Ground.chain }], guard := none }) (v := ?_) rfl (by kernel_rfl) (by kernel_rfl) (by kernel_rfl) (fun _ _ _ h => h) (Or.inl ⟨by rfl, ?_⟩) (by assumption) ?_
      rotate_left
      · ((intro w hSw); (try dsimp only at hSw); go_simp; (try with_reducible rfl))
      try simp only [Act.put, List.setIfInBounds_toArray, List.set_cons_zero, List.set_cons_succ]
      refine wpAnyH_take (i := 24) (oi := { dst := some 124, op := Op.move (Operand.tmp 11), type := 3, pos := _, after := #[{ on := 23, ground := Ground.guard }], guard := some (23, true) }) (v := ?_) rfl (by kernel_rfl) (by kernel_rfl) (by kernel_rfl) (fun _ _ _ h => h) (Or.inl ⟨by rfl, ?_⟩) (by assumption) ?_
      rotate_left
      · ((intro w hSw); (try dsimp only at hSw); go_simp; (try with_reducible rfl))
      try simp only [Act.put, List.setIfInBounds_toArray, List.set_cons_zero, List.set_cons_succ]
      refine wpAnyH_take (i := 25) (oi := { dst := some 125, op := Op.move (Operand.tmp 5), type := 23, pos := _, after := #[{ on := 23, ground := Ground.guard }], guard := some (23, true) }) (v := ?_) rfl (by kernel_rfl) (by kernel_rfl) (by kernel_rfl) (fun _ _ _ h => h) (Or.inl ⟨by rfl, ?_⟩) (by assumption) ?_
      rotate_left
      · ((intro w hSw); (try dsimp only at hSw); go_simp; (try with_reducible rfl))
      try simp only [Act.put, List.setIfInBounds_toArray, List.set_cons_zero, List.set_cons_succ]
      refine wpAnyH_take (i := 26) (oi := { dst := some 126, op := Op.call { callee := Callee.builtin Builtin.len, args := #[Operand.tmp 125], argTypes := #[23] }, type := 3, pos := _, after := #[{ on := 25, ground := Ground.data }, { on := 23, ground := Ground.guard }], guard := some (23, true) }) (v := ?_) rfl (by kernel_rfl) (by kernel_rfl) (by kernel_rfl) (fun _ _ _ h => h) (Or.inl ⟨by rfl, ?_⟩) (by assumption) ?_
      rotate_left
      · ((intro w hSw); (try dsimp only at hSw); go_simp; (try with_reducible rfl))
      try simp only [Act.put, List.setIfInBounds_toArray, List.set_cons_zero, List.set_cons_succ]
      refine wpAnyH_take (i := 27) (oi := { dst := some 127, op := Op.move (Operand.tmp 7), type := 23, pos := _, after := #[{ on := 23, ground := Ground.guard }], guard := some (23, true) }) (v := ?_) rfl (by kernel_rfl) (by kernel_rfl) (by kernel_rfl) (fun _ _ _ h => h) (Or.inl ⟨by rfl, ?_⟩) (by assumption) ?_
      rotate_left
      · ((intro w hSw); (try dsimp only at hSw); go_simp; (try with_reducible rfl))
      try simp only [Act.put, List.setIfInBounds_toArray, List.set_cons_zero, List.set_cons_succ]
      refine wpAnyH_take (i := 28) (oi := { dst := some 128, op := Op.call { callee := Callee.builtin Builtin.len, args := #[Operand.tmp 127], argTypes := #[23] }, type := 3, pos := _, after := #[{ on := 27, ground := Ground.data }, { on := 23, ground := Ground.guard }], guard := some (23, true) }) (v := ?_) rfl (by kernel_rfl) (by kernel_rfl) (by kernel_rfl) (fun _ _ _ h => h) (Or.inl ⟨by rfl, ?_⟩) (by assumption) ?_
      rotate_left
      · ((intro w hSw); (try dsimp only at hSw); go_simp; (try with_reducible rfl))
      try simp only [Act.put, List.setIfInBounds_toArray, List.set_cons_zero, List.set_cons_succ]
      refine wpAnyH_take (i := 29) (oi := { dst := some 129, op := Op.binOp BinOp.add 3 (Operand.tmp 126) (Operand.tmp 128) 3, type := 3, pos := _, after := #[{ on := 26, ground := Ground.data }, { on := 28, ground := Ground.data }, { on := 23, ground := Ground.guard }], guard := some (23, true) }) (v := ?_) rfl (by kernel_rfl) (by kernel_rfl) (by kernel_rfl) (fun _ _ _ h => h) (Or.inl ⟨by rfl, ?_⟩) (by assumption) ?_
      rotate_left
      · ((intro w hSw); (try dsimp only at hSw); go_simp; (try with_reducible rfl))
      try simp only [Act.put, List.setIfInBounds_toArray, List.set_cons_zero, List.set_cons_succ]
      refine wpAnyH_take (i := 30) (oi := { dst := some 130, op := Op.binOp BinOp.eql 3 (Operand.tmp 124) (Operand.tmp 129) 3, type := 4, pos := _, after := #[{ on := 24, ground := Ground.data }, { on := 29, ground := Ground.data }, { on := 23, ground := Ground.guard }], guard := some (23, true) }) (v := ?_) rfl (by kernel_rfl) (by kernel_rfl) (by kernel_rfl) (fun _ _ _ h => h) (Or.inl ⟨by rfl, ?_⟩) (by assumption) ?_
      rotate_left
      · ((intro w hSw); (try dsimp only at hSw); go_simp; (try with_reducible rfl))
      try simp only [Act.put, List.setIfInBounds_toArray, List.set_cons_zero, List.set_cons_succ]
      refine wpAnyH_take (i := 31) (oi := { dst := some 131, op := Op.pick (Operand.tmp 123) (Operand.tmp 130) (Operand.const (Value.bool false)), type := 4, pos := _, after := #[{ on := 23, ground := Ground.data }, { on := 30, ground := Ground.data }], guard := none }) (v := ?_) rfl (by kernel_rfl) (by kernel_rfl) (by kernel_rfl) (fun _ _ _ h => h) (Or.inl ⟨by rfl, ?_⟩) (by assumption) ?_
      rotate_left
      · ((intro w hSw); (try dsimp only at hSw); go_simp; (try with_reducible rfl))
      try simp only [Act.put, List.setIfInBounds_toArray, List.set_cons_zero, List.set_cons_succ]
      refine wpAnyH_take (i := 32) (oi := { dst := some 4, op := Op.assign (Operand.tmp 131), type := 4, pos := _, after := #[{ on := 31, ground := Ground.data }, { on := 23, ground := Ground.chain }, { on := 0, ground := Ground.phase }, { on := 1, ground := Ground.phase }, { on := 2, ground := Ground.phase }, { on := 3, ground := Ground.phase }, { on := 4, ground := Ground.phase }, { on := 5, ground := Ground.phase }, { on := 6, ground := Ground.phase }, { on := 7, ground := Ground.phase }, { on := 8, ground := Ground.phase }, { on := 9, ground := Ground.phase }, { on := 10, ground := Ground.phase }, { on := 11, ground := Ground.phase }, { on := 12, ground := Ground.phase }, { on := 13, ground := Ground.phase }, { on := 14, ground := Ground.phase }, { on := 15, ground := Ground.phase }, { on := 16, ground := Ground.phase }, { on := 17, ground := Ground.phase }, { on := 18, ground := Ground.phase }, { on := 19, ground := Ground.phase }, { on := 20, ground := Ground.phase }, { on := 21, ground := Ground.phase }, { on := 22, ground := Ground.phase }, { on := 23, ground := Ground.phase }, { on := 24, ground := Ground.phase }, { on := 25, ground := Ground.phase }, { on := 26, ground := Ground.phase }, { on := 27, ground := Ground.phase }, { on := 28, ground := Ground.phase }, { on := 29, ground := Ground.phase }, { on := 30, ground := Ground.phase }, { on := 31, ground := Ground.phase }], guard := none }) (v := ?_) rfl (by kernel_rfl) (by kernel_rfl) (by kernel_rfl) (fun _ _ _ h => h) (Or.inl ⟨by rfl, ?_⟩) (by assumption) ?_
      rotate_left
      · ((intro w hSw); (try dsimp only at hSw); go_simp; (try with_reducible rfl))
      try simp only [Act.put, List.setIfInBounds_toArray, List.set_cons_zero, List.set_cons_succ]
      refine wpAnyH_done (by kernel_rfl) ?_ _
      clear hN
      go_wp2
      go_ret
      exact ⟨rfl, below_then HBA.out (below_then HQZ.out (KB.out _ hHeld) HQZ.out.size) HBA.out.size⟩

set_option maxRecDepth 100000 in
set_option maxHeartbeats 4000000 in
theorem apart_gt (K1 s1 t1 : Nat) (a1 : Option Addr) (c1 : Nat) (l1 : List Nat) (K2 s2 t2 : Nat) (a2 : Option Addr) (c2 : Nat) (l2 : List Nat) (w : World) (z1 : Sl w a1 l1) (n1 : a1 = none → c1 = 0) (h1 : l1.length ≤ c1) (x1 : ∀ c ∈ l1, c < 256) (m1 : l1.length ≤ 3000) (z2 : Sl w a2 l2) (n2 : a2 = none → c2 = 0) (h2 : l2.length ≤ c2) (x2 : ∀ c ∈ l2, c < 256) (m2 : l2.length ≤ 3000) (hm1 : mayR (K1 : Int) s1 t1 l1.length = true) (hm2 : mayR (K2 : Int) s2 t2 l2.length = true) (hlt : (recL K2 s2 t2 l2).length < (recL K1 s1 t1 l1).length) (hT : TabC w) :
    Calls Tryd.prog 5 #[.agg #[.int .i64 (K1 : Int), .int .u64 (s1 : Int), .int .u64 (t1 : Int), .slice a1 l1.length c1], .agg #[.int .i64 (K2 : Int), .int .u64 (s2 : Int), .int .u64 (t2 : Int), .slice a2 l2.length c2]] w fun e w' => e = .returned (.bool true) ∧ Below w.heap.size w w' := by
  have HS1 := Lib.hid z1
  have HZ1 := Lib.hid n1
  have HC1 := Lib.hid h1
  have HX1 := Lib.hid x1
  have HN1 := Lib.hid (show l1.length ≤ 900000 by omega)
  have tl1 : ¬ 3000 < (l1.length : Int) := by omega
  have HS2 := Lib.hid z2
  have HZ2 := Lib.hid n2
  have HC2 := Lib.hid h2
  have HX2 := Lib.hid x2
  have HN2 := Lib.hid (show l2.length ≤ 900000 by omega)
  have tl2 : ¬ 3000 < (l2.length : Int) := by omega
  have HT := Lib.hid hT
  have HM1 := Lib.hid hm1
  have HM2 := Lib.hid hm2
  obtain ⟨X1, hX1⟩ : ∃ X, X = recL K1 s1 t1 l1 := ⟨_, rfl⟩
  have HXE1 := Lib.hid hX1
  have HXL1 := Lib.hid (show 7 ≤ X1.length ∧ X1.length ≤ 4000 by
    obtain ⟨_, _, e1, e2, _⟩ := mayR_of hm1
    have := varL_ten (u64_of e1)
    have := varL_ten (u64_of e2)
    have := varL_ten (show l1.length < 18446744073709551616 by omega)
    rw [hX1, recL_len]; omega)
  have HXX1 := Lib.hid (show ∀ c ∈ X1, c < 256 by rw [hX1]; exact recL_lt (by have := (mayR_of hm1).1; omega) x1)
  obtain ⟨X2, hX2⟩ : ∃ X, X = recL K2 s2 t2 l2 := ⟨_, rfl⟩
  have HXE2 := Lib.hid hX2
  have HXL2 := Lib.hid (show 7 ≤ X2.length ∧ X2.length ≤ 4000 by
    obtain ⟨_, _, e1, e2, _⟩ := mayR_of hm2
    have := varL_ten (u64_of e1)
    have := varL_ten (u64_of e2)
    have := varL_ten (show l2.length < 18446744073709551616 by omega)
    rw [hX2, recL_len]; omega)
  have HXX2 := Lib.hid (show ∀ c ∈ X2, c < 256 by rw [hX2]; exact recL_lt (by have := (mayR_of hm2).1; omega) x2)
  have CL := Lib.hid (fun W (h : Below ((w.alloc (.cells #[.int .i64 (K1 : Int), .int .u64 (s1 : Int), .int .u64 (t1 : Int), .slice a1 l1.length c1] 25)).alloc (.cells #[.int .i64 (K2 : Int), .int .u64 (s2 : Int), .int .u64 (t2 : Int), .slice a2 l2.length c2] 25)).heap.size ((w.alloc (.cells #[.int .i64 (K1 : Int), .int .u64 (s1 : Int), .int .u64 (t1 : Int), .slice a1 l1.length c1] 25)).alloc (.cells #[.int .i64 (K2 : Int), .int .u64 (s2 : Int), .int .u64 (t2 : Int), .slice a2 l2.length c2] 25)) W) => boxes2 w W 25 _ _ _ _ _ _ _ _ h)
  have HBA := Lib.hid (show Below w.heap.size w ((w.alloc (.cells #[.int .i64 (K1 : Int), .int .u64 (s1 : Int), .int .u64 (t1 : Int), .slice a1 l1.length c1] 25)).alloc (.cells #[.int .i64 (K2 : Int), .int .u64 (s2 : Int), .int .u64 (t2 : Int), .slice a2 l2.length c2] 25)) from ((Below.refl _ w).alloc (Nat.le_refl _) _).alloc (by simp) _)
  rw [← hX1, ← hX2] at hlt
  obtain ⟨Z, hZ⟩ : ∃ Z, Z = X1 ++ X2 := ⟨_, rfl⟩
  have HZZ := Lib.hid hZ
  obtain ⟨EE, hEE⟩ : ∃ E, E = X1.length + X2.length := ⟨_, rfl⟩
  have HZL := Lib.hid (show Z.length ≤ 90000 by have := HXL1.out; have := HXL2.out; rw [hZ, List.length_append]; omega)
  have HZX := Lib.hid (show ∀ c ∈ Z, c < 256 by
    rw [hZ]; intro c hc
    rcases List.mem_append.1 hc with h | h
    · exact HXX1.out c h
    · exact HXX2.out c h)
  have HDD := Lib.hid (show decA Z (X1.length : Int) = ⟨0, K2, s2, t2, l2, X2.length⟩ by
    have := dec_at (A := X1) [] hm2
    rw [← hX2, List.append_nil] at this
    rw [hZ]; exact this)
  have HEE := Lib.hid (show (EE : Int) = (X1.length : Int) + X2.length by rw [hEE]; simp)
  have y1 : (X1.length : Int) + (X2.length : Int) = (EE : Int) := by omega
  have y2 : EE ≤ 100000 := by have := HXL1.out; have := HXL2.out; omega
  obtain ⟨RR, hRR⟩ : ∃ R, R = decide (X1 = X2) := ⟨_, rfl⟩
  have HRR := Lib.hid hRR
  have HRS := Lib.hid (show RR = sameR (K1 : Int) s1 t1 l1 (K2 : Int) s2 t2 l2 by rw [hRR, hX1, hX2]; exact rec_same hm1 hm2)
  have HSS := Lib.hid (show true = sameR (K2 : Int) s2 t2 l2 (K2 : Int) s2 t2 l2 by simp [sameR])
  have HL1 := Lib.hid (show X1.length ≤ 1000000 by have := HXL1.out; omega)
  have HLL := Lib.hid (show X1.length + X2.length ≤ 1000000 by have := HXL1.out; have := HXL2.out; omega)
  have y3 : (X2.length : Int) < (X1.length : Int) := by omega
  have y4 : ¬ (X1.length : Int) < (X2.length : Int) := by omega
  have HTL := Lib.hid (show X2.length = (X1.take X2.length).length by rw [List.length_take]; omega)
  have HTX := Lib.hid (show ∀ c ∈ X1.take X2.length, c < 256 from fun c hc => HXX1.out c (List.mem_of_mem_take hc))
  have HTE := Lib.hid (show false = decide (X1.take X2.length = X2) by
    symm; refine decide_eq_false (fun h => ?_)
    have := rec_front hm2 hm1 (by rw [← hX1, ← hX2]; omega) (by rw [← hX1, ← hX2]; exact h)
    rw [← hX1, ← hX2] at this; omega)
  have HSUB := Lib.hid (fun (b o cap : Nat) (hc : X1.length ≤ cap) => sub_front (b := b) (o := o) (show X2.length ≤ X1.length by omega) (by have := HXL1.out; omega) hc)
  clear hZ hEE hRR hlt
  clear z1 n1 h1 x1 m1 z2 n2 h2 x2 m2 hT hm1 hm2 hX1 hX2
  as_aux_lemma =>
    go_enter Tryd.func5, Tryd.ntmps5
    go_wp2_with fail
    generalize ((w.alloc (.cells #[.int .i64 (K1 : Int), .int .u64 (s1 : Int), .int .u64 (t1 : Int), .slice a1 l1.length c1] 25)).alloc (.cells #[.int .i64 (K2 : Int), .int .u64 (s2 : Int), .int .u64 (t2 : Int), .slice a2 l2.length c2] 25)) = w0 at *
    have HS10 := Lib.hid (sl_then HBA.out (Nat.le_refl _) HS1.out)
    have HS20 := Lib.hid (sl_then HBA.out (Nat.le_refl _) HS2.out)
    have HT0 := Lib.hid (tabC_then HBA.out (Nat.le_refl _) HT.out)
    have HQ0 := Lib.hid (Below.refl w0.heap.size w0)
    obtain ⟨p0, p1, p2, p3, q0, q1, q2, q3⟩ := CL.out _ HQ0.out
    go_wp2_with (first
      | (go_at_call 10; (with_reducible refine (firstC w0 (tabC_then HQ0.out (Nat.le_refl _) HT0.out)).mono ?_); rintro e wq1 ⟨rfl, bq⟩; have HQ1 := Lib.hid (below_then HQ0.out bq HQ0.out.size); clear bq; clear p0 p1 p2 p3 q0 q1 q2 q3; obtain ⟨p0, p1, p2, p3, q0, q1, q2, q3⟩ := CL.out _ HQ1.out)
      | (go_at_call 11; (with_reducible refine (encY K1 s1 t1 a1 l1.length c1 l1 X1 wq1 HXE1.out rfl HM1.out (sl_then HQ1.out (Nat.le_refl _) HS10.out) HZ1.out HC1.out HX1.out HN1.out (tabC_then HQ1.out (Nat.le_refl _) HT0.out)).mono ?_); rintro e wq2 ⟨xb, xo, xc, rfl, lx, kx, _, bq⟩; have HQ2 := Lib.hid (below_then HQ1.out bq HQ1.out.size); have X_2 := Lib.hid lx; clear bq lx; clear p0 p1 p2 p3 q0 q1 q2 q3; obtain ⟨p0, p1, p2, p3, q0, q1, q2, q3⟩ := CL.out _ HQ2.out; have HKX := Lib.hid kx; clear kx; have hs1 := HSUB.out xb xo xc HKX.out)
      | (go_at_call 11; (with_reducible refine (encY K2 s2 t2 a2 l2.length c2 l2 X2 wq2 HXE2.out rfl HM2.out (sl_then HQ2.out (Nat.le_refl _) HS20.out) HZ2.out HC2.out HX2.out HN2.out (tabC_then HQ2.out (Nat.le_refl _) HT0.out)).mono ?_); rintro e wq3 ⟨yb, yo, yc, rfl, ly, ky, _, bq⟩; have HQ3 := Lib.hid (below_then HQ2.out bq HQ2.out.size); have X_3 := Lib.hid (sl_then bq (Nat.le_refl _) X_2.out); have Y_3 := Lib.hid ly; clear bq ly; clear p0 p1 p2 p3 q0 q1 q2 q3; obtain ⟨p0, p1, p2, p3, q0, q1, q2, q3⟩ := CL.out _ HQ3.out; have HKY := Lib.hid ky; clear ky)
      | (go_at_call 18; (with_reducible refine (mayE (K1 : Int) s1 t1 a1 l1.length c1 l1 wq3 true rfl HM1.out).mono ?_); rintro e wq4 ⟨rfl, bq⟩; have HQ4 := Lib.hid (below_then HQ3.out bq HQ3.out.size); have X_4 := Lib.hid (sl_then bq (Nat.le_refl _) X_3.out); have Y_4 := Lib.hid (sl_then bq (Nat.le_refl _) Y_3.out); clear bq; clear p0 p1 p2 p3 q0 q1 q2 q3; obtain ⟨p0, p1, p2, p3, q0, q1, q2, q3⟩ := CL.out _ HQ4.out)
      | (go_at_call 16; (with_reducible refine (bytesK (some ⟨xb, xo, none⟩) (some ⟨yb, yo, none⟩) xc yc X2.length X2.length (X1.take X2.length) X2 wq4 false HTL.out rfl (sl_of (cells_take X_4.out X2.length _ rfl)) Y_4.out HTX.out HXX2.out HTE.out).mono ?_); rintro e w' ⟨rfl, rfl⟩)
      | (go_at_call 21; (with_reducible refine (copyC (some ⟨xb, xo, none⟩) xc X1 wq4 HL1.out X_4.out (fun h => by cases h)).mono ?_); rintro e wq5 ⟨cv, rfl, co, bq⟩; have HQ5 := Lib.hid (below_then HQ4.out bq HQ4.out.size); have X_5 := Lib.hid (sl_then bq (Nat.le_refl _) X_4.out); have Y_5 := Lib.hid (sl_then bq (Nat.le_refl _) Y_4.out); have HCO := Lib.hid co; have HBC := Lib.hid bq; have HBS := Lib.hid (show wq4.heap.size ≤ wq5.heap.size from bq.size); clear bq co; clear p0 p1 p2 p3 q0 q1 q2 q3; obtain ⟨p0, p1, p2, p3, q0, q1, q2, q3⟩ := CL.out _ HQ5.out)
      | (at_builtin; (refine app_sl rfl _ _ rfl wq4.heap.size _ X1 rfl HCO.out (some ⟨yb, yo, none⟩) X2.length yc X2 rfl rfl (fun h => by cases h) Y_5.out HLL.out HBS.out ?_; intro v6 wq6 o6 b6; have HQ6 := Lib.hid (b6 _ _ HQ4.out.size HQ5.out); have X_6 := Lib.hid (sl_then (b6 _ _ (Nat.le_refl _) HBC.out) (Nat.le_refl _) X_4.out); have Y_6 := Lib.hid (sl_then (b6 _ _ (Nat.le_refl _) HBC.out) (Nat.le_refl _) Y_4.out); rw [← HZZ.out] at o6; obtain ⟨za, zc, rfl, zl, zs, _, _⟩ := rb_sl o6; have HZS := Lib.hid zs; have HZC := Lib.hid zl; clear b6 o6 zl zs; clear p0 p1 p2 p3 q0 q1 q2 q3; obtain ⟨p0, p1, p2, p3, q0, q1, q2, q3⟩ := CL.out _ HQ6.out))
      | (go_at_call 14; (with_reducible refine (decK za Z.length zc Z (X1.length : Int) K2 s2 t2 l2 X2.length EE wq6 rfl HDD.out HEE.out HZS.out HZC.out HZX.out HZL.out (tabC_then HQ6.out (Nat.le_refl _) HT0.out)).mono ?_); rintro e wq7 ⟨ua, uc, rfl, lu, bq⟩; have HQ7 := Lib.hid (below_then HQ6.out bq HQ6.out.size); have X_7 := Lib.hid (sl_then bq (Nat.le_refl _) X_6.out); have Y_7 := Lib.hid (sl_then bq (Nat.le_refl _) Y_6.out); have U_7 := Lib.hid lu; clear bq lu; clear p0 p1 p2 p3 q0 q1 q2 q3; obtain ⟨p0, p1, p2, p3, q0, q1, q2, q3⟩ := CL.out _ HQ7.out))
    have HQZ := Lib.hid (HQ7.out.alloc HQ7.out.size (.cells #[.int .i64 (K2 : Int), .int .u64 (s2 : Int), .int .u64 (t2 : Int), .slice ua l2.length uc] 25))
    have HXz := Lib.hid (sl_alloc X_7.out (.cells #[.int .i64 (K2 : Int), .int .u64 (s2 : Int), .int .u64 (t2 : Int), .slice ua l2.length uc] 25))
    have HYz := Lib.hid (sl_alloc Y_7.out (.cells #[.int .i64 (K2 : Int), .int .u64 (s2 : Int), .int .u64 (t2 : Int), .slice ua l2.length uc] 25))
    have HUz := Lib.hid (sl_alloc U_7.out (.cells #[.int .i64 (K2 : Int), .int .u64 (s2 : Int), .int .u64 (t2 : Int), .slice ua l2.length uc] 25))
    have CU := Lib.hid (fun W (h : Below (wq7.alloc (.cells #[.int .i64 (K2 : Int), .int .u64 (s2 : Int), .int .u64 (t2 : Int), .slice ua l2.length uc] 25)).heap.size (wq7.alloc (.cells #[.int .i64 (K2 : Int), .int .u64 (s2 : Int), .int .u64 (t2 : Int), .slice ua l2.length uc] 25)) W) => box1 wq7 W 25 _ _ _ _ h)
    clear p0 p1 p2 p3 q0 q1 q2 q3
    as_aux_lemma =>
      generalize (wq7.alloc (.cells #[.int .i64 (K2 : Int), .int .u64 (s2 : Int), .int .u64 (t2 : Int), .slice ua l2.length uc] 25)) = wz at *
      generalize wq7.heap.size = g3 at *
      have HS1z := Lib.hid (sl_then HQZ.out (Nat.le_refl _) HS10.out)
      have HS2z := Lib.hid (sl_then HQZ.out (Nat.le_refl _) HS20.out)
      have HTz := Lib.hid (tabC_then HQZ.out (Nat.le_refl _) HT0.out)
      have KS := Lib.hid (show ∀ W, Below wz.heap.size wz W → W.cell? ⟨w.heap.size, 0, none⟩ = some (.int .i64 (K1 : Int)) ∧ W.cell? ⟨w.heap.size, 1, none⟩ = some (.int .u64 (s1 : Int)) ∧ W.cell? ⟨w.heap.size, 2, none⟩ = some (.int .u64 (t1 : Int)) ∧ W.cell? ⟨w.heap.size, 3, none⟩ = some (.slice a1 l1.length c1) ∧ W.cell? ⟨w.heap.size + 1, 0, none⟩ = some (.int .i64 (K2 : Int)) ∧ W.cell? ⟨w.heap.size + 1, 1, none⟩ = some (.int .u64 (s2 : Int)) ∧ W.cell? ⟨w.heap.size + 1, 2, none⟩ = some (.int .u64 (t2 : Int)) ∧ W.cell? ⟨w.heap.size + 1, 3, none⟩ = some (.slice a2 l2.length c2) ∧ W.cell? ⟨g3, 0, none⟩ = some (.int .i64 (K2 : Int)) ∧ W.cell? ⟨g3, 1, none⟩ = some (.int .u64 (s2 : Int)) ∧ W.cell? ⟨g3, 2, none⟩ = some (.int .u64 (t2 : Int)) ∧ W.cell? ⟨g3, 3, none⟩ = some (.slice ua l2.length uc) ∧ Below wz.heap.size wz W from fun W h => by
        obtain ⟨p0, p1, p2, p3, q0, q1, q2, q3⟩ := CL.out _ (below_then HQZ.out h HQZ.out.size)
        obtain ⟨r0, r1, r2, r3⟩ := CU.out _ h
        exact ⟨p0, p1, p2, p3, q0, q1, q2, q3, r0, r1, r2, r3, h⟩)
      have KB := Lib.hid (show ∀ W, (W.cell? ⟨w.heap.size, 0, none⟩ = some (.int .i64 (K1 : Int)) ∧ W.cell? ⟨w.heap.size, 1, none⟩ = some (.int .u64 (s1 : Int)) ∧ W.cell? ⟨w.heap.size, 2, none⟩ = some (.int .u64 (t1 : Int)) ∧ W.cell? ⟨w.heap.size, 3, none⟩ = some (.slice a1 l1.length c1) ∧ W.cell? ⟨w.heap.size + 1, 0, none⟩ = some (.int .i64 (K2 : Int)) ∧ W.cell? ⟨w.heap.size + 1, 1, none⟩ = some (.int .u64 (s2 : Int)) ∧ W.cell? ⟨w.heap.size + 1, 2, none⟩ = some (.int .u64 (t2 : Int)) ∧ W.cell? ⟨w.heap.size + 1, 3, none⟩ = some (.slice a2 l2.length c2) ∧ W.cell? ⟨g3, 0, none⟩ = some (.int .i64 (K2 : Int)) ∧ W.cell? ⟨g3, 1, none⟩ = some (.int .u64 (s2 : Int)) ∧ W.cell? ⟨g3, 2, none⟩ = some (.int .u64 (t2 : Int)) ∧ W.cell? ⟨g3, 3, none⟩ = some (.slice ua l2.length uc) ∧ Below wz.heap.size wz W) → Below wz.heap.size wz W from fun W h => h.2.2.2.2.2.2.2.2.2.2.2.2)
      have y9 := wr_i EE y2
      go_wp2_with fail
      refine wp_region_held_drew (S := (fun W => W.cell? ⟨w.heap.size, 0, none⟩ = some (.int .i64 (K1 : Int)) ∧ W.cell? ⟨w.heap.size, 1, none⟩ = some (.int .u64 (s1 : Int)) ∧ W.cell? ⟨w.heap.size, 2, none⟩ = some (.int .u64 (t1 : Int)) ∧ W.cell? ⟨w.heap.size, 3, none⟩ = some (.slice a1 l1.length c1) ∧ W.cell? ⟨w.heap.size + 1, 0, none⟩ = some (.int .i64 (K2 : Int)) ∧ W.cell? ⟨w.heap.size + 1, 1, none⟩ = some (.int .u64 (s2 : Int)) ∧ W.cell? ⟨w.heap.size + 1, 2, none⟩ = some (.int .u64 (t2 : Int)) ∧ W.cell? ⟨w.heap.size + 1, 3, none⟩ = some (.slice a2 l2.length c2) ∧ W.cell? ⟨g3, 0, none⟩ = some (.int .i64 (K2 : Int)) ∧ W.cell? ⟨g3, 1, none⟩ = some (.int .u64 (s2 : Int)) ∧ W.cell? ⟨g3, 2, none⟩ = some (.int .u64 (t2 : Int)) ∧ W.cell? ⟨g3, 3, none⟩ = some (.slice ua l2.length uc) ∧ Below wz.heap.size wz W)) (by kernel_rfl) ?_ (fun hHeld => ?_)
      · ((try dsimp only); (first | (with_reducible exact KS.out _ hN) | (with_reducible exact hHeld) | exact KS.out _ (Below.refl _ _).drew | exact KS.out _ (Below.refl _ _)))
      refine wpAnyH_ready (rs := [0]) (by kernel_rfl) (by simp) ?_
      refine (AllReadyH.cons (o := { dst := some 100, op := Op.call { callee := Callee.value (Operand.func 10), args := #[], argTypes := #[] }, type := 4, pos := _, after := #[], guard := none }) rfl (fun K hK => ?_) AllReadyH.nil)
      go_simp
      (go_at_call 10; (with_reducible refine (firstC _ (tabC_then (KB.out _ hHeld) (Nat.le_refl _) HTz.out)).mono ?_); rintro e wa ⟨rfl, ba⟩; have hN := below_then (KB.out _ hHeld) ba (KB.out _ hHeld).size; clear ba)
      go_wp2_with fail
      refine hK.out _ _ ?_ (fun hHeld => ?_)
      · ((try dsimp only); (first | (with_reducible exact KS.out _ hN) | (with_reducible exact hHeld) | exact KS.out _ (Below.refl _ _).drew | exact KS.out _ (Below.refl _ _)))
      clear hK K
      try simp only [Act.put, List.setIfInBounds_toArray, List.set_cons_zero, List.set_cons_succ]
      refine wpAnyH_take (i := 1) (oi := { dst := some 101, op := Op.move (Operand.tmp 100), type := 4, pos := _, after := #[{ on := 0, ground := Ground.data }, { on := 0, ground := Ground.chain }], guard := none }) (v := ?_) rfl (by kernel_rfl) (by kernel_rfl) (by kernel_rfl) (fun _ _ _ h => h) (Or.inl ⟨by rfl, ?_⟩) (by assumption) ?_
      rotate_left
      · ((intro w hSw); (try dsimp only at hSw); go_simp; (try with_reducible rfl))
      try simp only [Act.put, List.setIfInBounds_toArray, List.set_cons_zero, List.set_cons_succ]
      refine wpAnyH_take (i := 2) (oi := { dst := some 102, op := Op.move (Operand.tmp 5), type := 23, pos := _, after := #[{ on := 1, ground := Ground.guard }], guard := some (1, true) }) (v := ?_) rfl (by kernel_rfl) (by kernel_rfl) (by kernel_rfl) (fun _ _ _ h => h) (Or.inl ⟨by rfl, ?_⟩) (by assumption) ?_
      rotate_left
      · ((intro w hSw); (try dsimp only at hSw); go_simp; (try with_reducible rfl))
      try simp only [Act.put, List.setIfInBounds_toArray, List.set_cons_zero, List.set_cons_succ]
      refine wpAnyH_take (i := 3) (oi := { dst := some 103, op := Op.move (Operand.tmp 7), type := 23, pos := _, after := #[{ on := 1, ground := Ground.guard }], guard := some (1, true) }) (v := ?_) rfl (by kernel_rfl) (by kernel_rfl) (by kernel_rfl) (fun _ _ _ h => h) (Or.inl ⟨by rfl, ?_⟩) (by assumption) ?_
      rotate_left
      · ((intro w hSw); (try dsimp only at hSw); go_simp; (try with_reducible rfl))
      try simp only [Act.put, List.setIfInBounds_toArray, List.set_cons_zero, List.set_cons_succ]
      refine wpAnyH_take (i := 5) (oi := { dst := some 105, op := Op.load 25 (Operand.tmp 2), type := 25, pos := _, after := #[{ on := 1, ground := Ground.guard }], guard := some (1, true) }) (v := ?_) rfl (by kernel_rfl) (by kernel_rfl) (by kernel_rfl) (fun _ _ _ h => h) (Or.inl ⟨by rfl, ?_⟩) (by assumption) ?_
      rotate_left
      · ((intro w hSw); (try dsimp only at hSw); go_simp; (try with_reducible rfl))
      try simp only [Act.put, List.setIfInBounds_toArray, List.set_cons_zero, List.set_cons_succ]
      refine wpAnyH_take (i := 6) (oi := { dst := some 106, op := Op.load 25 (Operand.tmp 3), type := 25, pos := _, after := #[{ on := 1, ground := Ground.guard }], guard := some (1, true) }) (v := ?_) rfl (by kernel_rfl) (by kernel_rfl) (by kernel_rfl) (fun _ _ _ h => h) (Or.inl ⟨by rfl, ?_⟩) (by assumption) ?_
      rotate_left
      · ((intro w hSw); (try dsimp only at hSw); go_simp; (try with_reducible rfl))
      try simp only [Act.put, List.setIfInBounds_toArray, List.set_cons_zero, List.set_cons_succ]
      refine wpAnyH_ready (rs := [4]) (by kernel_rfl) (by simp) ?_
      refine (AllReadyH.cons (o := { dst := some 104, op := Op.call { callee := Callee.value (Operand.func 16), args := #[Operand.tmp 102, Operand.tmp 103], argTypes := #[23, 23] }, type := 4, pos := _, after := #[{ on := 2, ground := Ground.data }, { on := 3, ground := Ground.data }, { on := 1, ground := Ground.chain }, { on := 1, ground := Ground.guard }], guard := some (1, true) }) rfl (fun K hK => ?_) AllReadyH.nil)
      go_simp
      (go_at_call 16; (with_reducible refine (bytesK (some ⟨xb, xo, none⟩) (some ⟨yb, yo, none⟩) xc yc X1.length X2.length X1 X2 _ RR rfl rfl (sl_then (KB.out _ hHeld) (Nat.le_refl _) HXz.out) (sl_then (KB.out _ hHeld) (Nat.le_refl _) HYz.out) HXX1.out HXX2.out HRR.out).mono ?_); rintro e wb ⟨rfl, rfl⟩)
      go_wp2_with fail
      refine hK.out _ _ ?_ (fun hHeld => ?_)
      · ((try dsimp only); (first | (with_reducible exact KS.out _ hN) | (with_reducible exact hHeld) | exact KS.out _ (Below.refl _ _).drew | exact KS.out _ (Below.refl _ _)))
      clear hK K
      try simp only [Act.put, List.setIfInBounds_toArray, List.set_cons_zero, List.set_cons_succ]
      refine wpAnyH_ready (rs := [7]) (by kernel_rfl) (by simp) ?_
      refine (AllReadyH.cons (o := { dst := some 107, op := Op.call { callee := Callee.value (Operand.func 20), args := #[Operand.tmp 105, Operand.tmp 106], argTypes := #[25, 25] }, type := 4, pos := _, after := #[{ on := 5, ground := Ground.data }, { on := 6, ground := Ground.data }, { on := 4, ground := Ground.chain }, { on := 1, ground := Ground.guard }], guard := some (1, true) }) rfl (fun K hK => ?_) AllReadyH.nil)
      go_simp
      (go_at_call 20; (with_reducible refine (sameK (K1 : Int) s1 t1 a1 l1.length c1 l1 (K2 : Int) s2 t2 a2 l2.length c2 l2 _ rfl rfl (sl_then (KB.out _ hHeld) (Nat.le_refl _) HS1z.out) (sl_then (KB.out _ hHeld) (Nat.le_refl _) HS2z.out) HX1.out HX2.out RR HRS.out).mono ?_); rintro e wa ⟨rfl, ba⟩; have hN := below_then (KB.out _ hHeld) ba (KB.out _ hHeld).size; clear ba)
      go_wp2_with fail
      refine hK.out _ _ ?_ (fun hHeld => ?_)
      · ((try dsimp only); (first | (with_reducible exact KS.out _ hN) | (with_reducible exact hHeld) | exact KS.out _ (Below.refl _ _).drew | exact KS.out _ (Below.refl _ _)))
      clear hK K
      try simp only [Act.put, List.setIfInBounds_toArray, List.set_cons_zero, List.set_cons_succ]
      refine wpAnyH_take (i := 8) (oi := { dst := some 108, op := Op.binOp BinOp.eql 4 (Operand.tmp 104) (Operand.tmp 107) 4, type := 4, pos := _, after := #[{ on := 4, ground := Ground.data }, { on := 7, ground := Ground.data }, { on := 1, ground := Ground.guard }], guard := some (1, true) }) (v := ?_) rfl (by kernel_rfl) (by kernel_rfl) (by kernel_rfl) (fun _ _ _ h => h) (Or.inl ⟨by rfl, ?_⟩) (by assumption) ?_
      rotate_left
      · ((intro w hSw); (try dsimp only at hSw); go_simp; (try with_reducible rfl))
      try simp only [Act.put, List.setIfInBounds_toArray, List.set_cons_zero, List.set_cons_succ]
      refine wpAnyH_take (i := 9) (oi := { dst := some 109, op := Op.pick (Operand.tmp 101) (Operand.tmp 108) (Operand.const (Value.bool false)), type := 4, pos := _, after := #[{ on := 1, ground := Ground.data }, { on := 8, ground := Ground.data }], guard := none }) (v := ?_) rfl (by kernel_rfl) (by kernel_rfl) (by kernel_rfl) (fun _ _ _ h => h) (Or.inl ⟨by rfl, ?_⟩) (by assumption) ?_
      rotate_left
      · ((intro w hSw); (try dsimp only at hSw); go_simp; (try with_reducible rfl))
      try simp only [Act.put, List.setIfInBounds_toArray, List.set_cons_zero, List.set_cons_succ]
      refine wpAnyH_take (i := 10) (oi := { dst := some 110, op := Op.move (Operand.tmp 109), type := 4, pos := _, after := #[{ on := 9, ground := Ground.data }, { on := 7, ground := Ground.chain }], guard := none }) (v := ?_) rfl (by kernel_rfl) (by kernel_rfl) (by kernel_rfl) (fun _ _ _ h => h) (Or.inl ⟨by rfl, ?_⟩) (by assumption) ?_
      rotate_left
      · ((intro w hSw); (try dsimp only at hSw); go_simp; (try with_reducible rfl))
      try simp only [Act.put, List.setIfInBounds_toArray, List.set_cons_zero, List.set_cons_succ]
      refine wpAnyH_take (i := 11) (oi := { dst := some 111, op := Op.move (Operand.tmp 9), type := 4, pos := _, after := #[{ on := 10, ground := Ground.guard }], guard := some (10, true) }) (v := ?_) rfl (by kernel_rfl) (by kernel_rfl) (by kernel_rfl) (fun _ _ _ h => h) (Or.inl ⟨by rfl, ?_⟩) (by assumption) ?_
      rotate_left
      · ((intro w hSw); (try dsimp only at hSw); go_simp; (try with_reducible rfl))
      try simp only [Act.put, List.setIfInBounds_toArray, List.set_cons_zero, List.set_cons_succ]
      refine wpAnyH_take (i := 12) (oi := { dst := some 112, op := Op.unOp UnOp.not 4 (Operand.tmp 111), type := 4, pos := _, after := #[{ on := 11, ground := Ground.data }, { on := 10, ground := Ground.guard }], guard := some (10, true) }) (v := ?_) rfl (by kernel_rfl) (by kernel_rfl) (by kernel_rfl) (fun _ _ _ h => h) (Or.inl ⟨by rfl, ?_⟩) (by assumption) ?_
      rotate_left
      · ((intro w hSw); (try dsimp only at hSw); go_simp; (try with_reducible rfl))
      try simp only [Act.put, List.setIfInBounds_toArray, List.set_cons_zero, List.set_cons_succ]
      refine wpAnyH_take (i := 13) (oi := { dst := some 113, op := Op.pick (Operand.tmp 110) (Operand.tmp 112) (Operand.const (Value.bool false)), type := 4, pos := _, after := #[{ on := 10, ground := Ground.data }, { on := 12, ground := Ground.data }], guard := none }) (v := ?_) rfl (by kernel_rfl) (by kernel_rfl) (by kernel_rfl) (fun _ _ _ h => h) (Or.inl ⟨by rfl, ?_⟩) (by assumption) ?_
      rotate_left
      · ((intro w hSw); (try dsimp only at hSw); go_simp; (try with_reducible rfl))
      try simp only [Act.put, List.setIfInBounds_toArray, List.set_cons_zero, List.set_cons_succ]
      refine wpAnyH_take (i := 14) (oi := { dst := some 114, op := Op.move (Operand.tmp 113), type := 4, pos := _, after := #[{ on := 13, ground := Ground.data }, { on := 10, ground := Ground.chain }], guard := none }) (v := ?_) rfl (by kernel_rfl) (by kernel_rfl) (by kernel_rfl) (fun _ _ _ h => h) (Or.inl ⟨by rfl, ?_⟩) (by assumption) ?_
      rotate_left
      · ((intro w hSw); (try dsimp only at hSw); go_simp; (try with_reducible rfl))
      try simp only [Act.put, List.setIfInBounds_toArray, List.set_cons_zero, List.set_cons_succ]
      refine wpAnyH_take (i := 15) (oi := { dst := some 115, op := Op.move (Operand.tmp 12), type := 27, pos := _, after := #[{ on := 14, ground := Ground.guard }], guard := some (14, true) }) (v := ?_) rfl (by kernel_rfl) (by kernel_rfl) (by kernel_rfl) (fun _ _ _ h => h) (Or.inl ⟨by rfl, ?_⟩) (by assumption) ?_
      rotate_left
      · ((intro w hSw); (try dsimp only at hSw); go_simp; (try with_reducible rfl))
      try simp only [Act.put, List.setIfInBounds_toArray, List.set_cons_zero, List.set_cons_succ]
      refine wpAnyH_take (i := 16) (oi := { dst := some 116, op := Op.binOp BinOp.eql 27 (Operand.tmp 115) (Operand.const (Value.int IntKind.i64 0)) 27, type := 4, pos := _, after := #[{ on := 15, ground := Ground.data }, { on := 14, ground := Ground.guard }], guard := some (14, true) }) (v := ?_) rfl (by kernel_rfl) (by kernel_rfl) (by kernel_rfl) (fun _ _ _ h => h) (Or.inl ⟨by rfl, ?_⟩) (by assumption) ?_
      rotate_left
      · ((intro w hSw); (try dsimp only at hSw); go_simp; (try with_reducible rfl))
      try simp only [Act.put, List.setIfInBounds_toArray, List.set_cons_zero, List.set_cons_succ]
      refine wpAnyH_take (i := 17) (oi := { dst := some 117, op := Op.pick (Operand.tmp 114) (Operand.tmp 116) (Operand.const (Value.bool false)), type := 4, pos := _, after := #[{ on := 14, ground := Ground.data }, { on := 16, ground := Ground.data }], guard := none }) (v := ?_) rfl (by kernel_rfl) (by kernel_rfl) (by kernel_rfl) (fun _ _ _ h => h) (Or.inl ⟨by rfl, ?_⟩) (by assumption) ?_
      rotate_left
      · ((intro w hSw); (try dsimp only at hSw); go_simp; (try with_reducible rfl))
      try simp only [Act.put, List.setIfInBounds_toArray, List.set_cons_zero, List.set_cons_succ]
      refine wpAnyH_take (i := 18) (oi := { dst := some 118, op := Op.move (Operand.tmp 117), type := 4, pos := _, after := #[{ on := 17, ground := Ground.data }, { on := 14, ground := Ground.chain }], guard := none }) (v := ?_) rfl (by kernel_rfl) (by kernel_rfl) (by kernel_rfl) (fun _ _ _ h => h) (Or.inl ⟨by rfl, ?_⟩) (by assumption) ?_
      rotate_left
      · ((intro w hSw); (try dsimp only at hSw); go_simp; (try with_reducible rfl))
      try simp only [Act.put, List.setIfInBounds_toArray, List.set_cons_zero, List.set_cons_succ]
      refine wpAnyH_take (i := 19) (oi := { dst := some 119, op := Op.load 25 (Operand.tmp 10), type := 25, pos := _, after := #[{ on := 18, ground := Ground.guard }], guard := some (18, true) }) (v := ?_) rfl (by kernel_rfl) (by kernel_rfl) (by kernel_rfl) (fun _ _ _ h => h) (Or.inl ⟨by rfl, ?_⟩) (by assumption) ?_
      rotate_left
      · ((intro w hSw); (try dsimp only at hSw); go_simp; (try with_reducible rfl))
      try simp only [Act.put, List.setIfInBounds_toArray, List.set_cons_zero, List.set_cons_succ]
      refine wpAnyH_take (i := 20) (oi := { dst := some 120, op := Op.load 25 (Operand.tmp 3), type := 25, pos := _, after := #[{ on := 18, ground := Ground.guard }], guard := some (18, true) }) (v := ?_) rfl (by kernel_rfl) (by kernel_rfl) (by kernel_rfl) (fun _ _ _ h => h) (Or.inl ⟨by rfl, ?_⟩) (by assumption) ?_
      rotate_left
      · ((intro w hSw); (try dsimp only at hSw); go_simp; (try with_reducible rfl))
      try simp only [Act.put, List.setIfInBounds_toArray, List.set_cons_zero, List.set_cons_succ]
      refine wpAnyH_ready (rs := [21]) (by kernel_rfl) (by simp) ?_
      refine (AllReadyH.cons (o := { dst := some 121, op := Op.call { callee := Callee.value (Operand.func 20), args := #[Operand.tmp 119, Operand.tmp 120], argTypes := #[25, 25] }, type := 4, pos := _, after := #[{ on := 19, ground := Ground.data }, { on := 20, ground := Ground.data }, { on := 18, ground := Ground.chain }, { on := 18, ground := Ground.guard }], guard := some (18, true) }) rfl (fun K hK => ?_) AllReadyH.nil)
      go_simp
      (go_at_call 20; (with_reducible refine (sameK (K2 : Int) s2 t2 ua l2.length uc l2 (K2 : Int) s2 t2 a2 l2.length c2 l2 _ rfl rfl (sl_then (KB.out _ hHeld) (Nat.le_refl _) HUz.out) (sl_then (KB.out _ hHeld) (Nat.le_refl _) HS2z.out) HX2.out HX2.out true HSS.out).mono ?_); rintro e wa ⟨rfl, ba⟩; have hN := below_then (KB.out _ hHeld) ba (KB.out _ hHeld).size; clear ba)
      go_wp2_with fail
      refine hK.out _ _ ?_ (fun hHeld => ?_)
      · ((try dsimp only); (first | (with_reducible exact KS.out _ hN) | (with_reducible exact hHeld) | exact KS.out _ (Below.refl _ _).drew | exact KS.out _ (Below.refl _ _)))
      clear hK K
      try simp only [Act.put, List.setIfInBounds_toArray, List.set_cons_zero, List.set_cons_succ]
      refine wpAnyH_take (i := 22) (oi := { dst := some 122, op := Op.pick (Operand.tmp 118) (Operand.tmp 121) (Operand.const (Value.bool false)), type := 4, pos := _, after := #[{ on := 18, ground := Ground.data }, { on := 21, ground := Ground.data }], guard := none }) (v := ?_) rfl (by kernel_rfl) (by kernel_rfl) (by kernel_rfl) (fun _ _ _ h => h) (Or.inl ⟨by rfl, ?_⟩) (by assumption) ?_
      rotate_left
      · ((intro w hSw); (try dsimp only at hSw); go_simp; (try with_reducible rfl))
      try simp only [Act.put, List.setIfInBounds_toArray, List.set_cons_zero, List.set_cons_succ]
      refine wpAnyH_take (i := 23) (oi := { dst := some 123, op := Op.move (Operand.tmp 122), type := 4, pos := _, after := #[{ on := 22, ground := Ground.data }, { on := 21, ground := Ground.chain }], guard := none }) (v := ?_) rfl (by kernel_rfl) (by kernel_rfl) (by kernel_rfl) (fun _ _ _ h => h) (Or.inl ⟨by rfl, ?_⟩) (by assumption) ?_
      rotate_left
      · ((intro w hSw); (try dsimp only at hSw); go_simp; (try with_reducible rfl))
      try simp only [Act.put, List.setIfInBounds_toArray, List.set_cons_zero, List.set_cons_succ]
      refine wpAnyH_take (i := 24) (oi := { dst := some 124, op := Op.move (Operand.tmp 11), type := 3, pos := _, after := #[{ on := 23, ground := Ground.guard }], guard := some (23, true) }) (v := ?_) rfl (by kernel_rfl) (by kernel_rfl) (by kernel_rfl) (fun _ _ _ h => h) (Or.inl ⟨by rfl, ?_⟩) (by assumption) ?_
      rotate_left
      · ((intro w hSw); (try dsimp only at hSw); go_simp; (try with_reducible rfl))
      try simp only [Act.put, List.setIfInBounds_toArray, List.set_cons_zero, List.set_cons_succ]
      refine wpAnyH_take (i := 25) (oi := { dst := some 125, op := Op.move (Operand.tmp 5), type := 23, pos := _, after := #[{ on := 23, ground := Ground.guard }], guard := some (23, true) }) (v := ?_) rfl (by kernel_rfl) (by kernel_rfl) (by kernel_rfl) (fun _ _ _ h => h) (Or.inl ⟨by rfl, ?_⟩) (by assumption) ?_
      rotate_left
      · ((intro w hSw); (try dsimp only at hSw); go_simp; (try with_reducible rfl))
      try simp only [Act.put, List.setIfInBounds_toArray, List.set_cons_zero, List.set_cons_succ]
      refine wpAnyH_take (i := 26) (oi := { dst := some 126, op := Op.call { callee := Callee.builtin Builtin.len, args := #[Operand.tmp 125], argTypes := #[23] }, type := 3, pos := _, after := #[{ on := 25, ground := Ground.data }, { on := 23, ground := Ground.guard }], guard := some (23, true) }) (v := ?_) rfl (by kernel_rfl) (by kernel_rfl) (by kernel_rfl) (fun _ _ _ h => h) (Or.inl ⟨by rfl, ?_⟩) (by assumption) ?_
      rotate_left
      · ((intro w hSw); (try dsimp only at hSw); go_simp; (try with_reducible rfl))
      try simp only [Act.put, List.setIfInBounds_toArray, List.set_cons_zero, List.set_cons_succ]
      refine wpAnyH_take (i := 27) (oi := { dst := some 127, op := Op.move (Operand.tmp 7), type := 23, pos := _, after := #[{ on := 23, ground := Ground.guard }], guard := some (23, true) }) (v := ?_) rfl (by kernel_rfl) (by kernel_rfl) (by kernel_rfl) (fun _ _ _ h => h) (Or.inl ⟨by rfl, ?_⟩) (by assumption) ?_
      rotate_left
      · ((intro w hSw); (try dsimp only at hSw); go_simp; (try with_reducible rfl))
      try simp only [Act.put, List.setIfInBounds_toArray, List.set_cons_zero, List.set_cons_succ]
      refine wpAnyH_take (i := 28) (oi := { dst := some 128, op := Op.call { callee := Callee.builtin Builtin.len, args := #[Operand.tmp 127], argTypes := #[23] }, type := 3, pos := _, after := #[{ on := 27, ground := Ground.data }, { on := 23, ground := Ground.guard }], guard := some (23, true) }) (v := ?_) rfl (by kernel_rfl) (by kernel_rfl) (by kernel_rfl) (fun _ _ _ h => h) (Or.inl ⟨by rfl, ?_⟩) (by assumption) ?_
      rotate_left
      · ((intro w hSw); (try dsimp only at hSw); go_simp; (try with_reducible rfl))
      try simp only [Act.put, List.setIfInBounds_toArray, List.set_cons_zero, List.set_cons_succ]
      refine wpAnyH_take (i := 29) (oi := { dst := some 129, op := Op.binOp BinOp.add 3 (Operand.tmp 126) (Operand.tmp 128) 3, type := 3, pos := _, after := #[{ on := 26, ground := Ground.data }, { on := 28, ground := Ground.data }, { on := 23, ground := Ground.guard }], guard := some (23, true) }) (v := ?_) rfl (by kernel_rfl) (by kernel_rfl) (by kernel_rfl) (fun _ _ _ h => h) (Or.inl ⟨by rfl, ?_⟩) (by assumption) ?_
      rotate_left
      · ((intro w hSw); (try dsimp only at hSw); go_simp; (try with_reducible rfl))
      try simp only [Act.put, List.setIfInBounds_toArray, List.set_cons_zero, List.set_cons_succ]
      refine wpAnyH_take (i := 30) (oi := { dst := some 130, op := Op.binOp BinOp.eql 3 (Operand.tmp 124) (Operand.tmp 129) 3, type := 4, pos := _, after := #[{ on := 24, ground := Ground.data }, { on := 29, ground := Ground.data }, { on := 23, ground := Ground.guard }], guard := some (23, true) }) (v := ?_) rfl (by kernel_rfl) (by kernel_rfl) (by kernel_rfl) (fun _ _ _ h => h) (Or.inl ⟨by rfl, ?_⟩) (by assumption) ?_
      rotate_left
      · ((intro w hSw); (try dsimp only at hSw); go_simp; (try with_reducible rfl))
      try simp only [Act.put, List.setIfInBounds_toArray, List.set_cons_zero, List.set_cons_succ]
      refine wpAnyH_take (i := 31) (oi := { dst := some 131, op := Op.pick (Operand.tmp 123) (Operand.tmp 130) (Operand.const (Value.bool false)), type := 4, pos := _, after := #[{ on := 23, ground := Ground.data }, { on := 30, ground := Ground.data }], guard := none }) (v := ?_) rfl (by kernel_rfl) (by kernel_rfl) (by kernel_rfl) (fun _ _ _ h => h) (Or.inl ⟨by rfl, ?_⟩) (by assumption) ?_
      rotate_left
      · ((intro w hSw); (try dsimp only at hSw); go_simp; (try with_reducible rfl))
      try simp only [Act.put, List.setIfInBounds_toArray, List.set_cons_zero, List.set_cons_succ]
      refine wpAnyH_take (i := 32) (oi := { dst := some 4, op := Op.assign (Operand.tmp 131), type := 4, pos := _, after := #[{ on := 31, ground := Ground.data }, { on := 23, ground := Ground.chain }, { on := 0, ground := Ground.phase }, { on := 1, ground := Ground.phase }, { on := 2, ground := Ground.phase }, { on := 3, ground := Ground.phase }, { on := 4, ground := Ground.phase }, { on := 5, ground := Ground.phase }, { on := 6, ground := Ground.phase }, { on := 7, ground := Ground.phase }, { on := 8, ground := Ground.phase }, { on := 9, ground := Ground.phase }, { on := 10, ground := Ground.phase }, { on := 11, ground := Ground.phase }, { on := 12, ground := Ground.phase }, { on := 13, ground := Ground.phase }, { on := 14, ground := Ground.phase }, { on := 15, ground := Ground.phase }, { on := 16, ground := Ground.phase }, { on := 17, ground := Ground.phase }, { on := 18, ground := Ground.phase }, { on := 19, ground := Ground.phase }, { on := 20, ground := Ground.phase }, { on := 21, ground := Ground.phase }, { on := 22, ground := Ground.phase }, { on := 23, ground := Ground.phase }, { on := 24, ground := Ground.phase }, { on := 25, ground := Ground.phase }, { on := 26, ground := Ground.phase }, { on := 27, ground := Ground.phase }, { on := 28, ground := Ground.phase }, { on := 29, ground := Ground.phase }, { on := 30, ground := Ground.phase }, { on := 31, ground := Ground.phase }], guard := none }) (v := ?_) rfl (by kernel_rfl) (by kernel_rfl) (by kernel_rfl) (fun _ _ _ h => h) (Or.inl ⟨by rfl, ?_⟩) (by assumption) ?_
      rotate_left
      · ((intro w hSw); (try dsimp only at hSw); go_simp; (try with_reducible rfl))
      try simp only [Act.put, List.setIfInBounds_toArray, List.set_cons_zero, List.set_cons_succ]
      refine wpAnyH_done (by kernel_rfl) ?_ _
      clear hN
      go_wp2
      go_ret
      exact ⟨rfl, below_then HBA.out (below_then HQZ.out (KB.out _ hHeld) HQZ.out.size) HBA.out.size⟩

set_option maxRecDepth 100000 in
set_option maxHeartbeats 4000000 in
theorem apart_eq (K1 s1 t1 : Nat) (a1 : Option Addr) (c1 : Nat) (l1 : List Nat) (K2 s2 t2 : Nat) (a2 : Option Addr) (c2 : Nat) (l2 : List Nat) (w : World) (z1 : Sl w a1 l1) (n1 : a1 = none → c1 = 0) (h1 : l1.length ≤ c1) (x1 : ∀ c ∈ l1, c < 256) (m1 : l1.length ≤ 3000) (z2 : Sl w a2 l2) (n2 : a2 = none → c2 = 0) (h2 : l2.length ≤ c2) (x2 : ∀ c ∈ l2, c < 256) (m2 : l2.length ≤ 3000) (hm1 : mayR (K1 : Int) s1 t1 l1.length = true) (hm2 : mayR (K2 : Int) s2 t2 l2.length = true) (hlt : (recL K1 s1 t1 l1).length = (recL K2 s2 t2 l2).length) (hT : TabC w) :
    Calls Tryd.prog 5 #[.agg #[.int .i64 (K1 : Int), .int .u64 (s1 : Int), .int .u64 (t1 : Int), .slice a1 l1.length c1], .agg #[.int .i64 (K2 : Int), .int .u64 (s2 : Int), .int .u64 (t2 : Int), .slice a2 l2.length c2]] w fun e w' => e = .returned (.bool true) ∧ Below w.heap.size w w' := by
  have HS1 := Lib.hid z1
  have HZ1 := Lib.hid n1
  have HC1 := Lib.hid h1
  have HX1 := Lib.hid x1
  have HN1 := Lib.hid (show l1.length ≤ 900000 by omega)
  have tl1 : ¬ 3000 < (l1.length : Int) := by omega
  have HS2 := Lib.hid z2
  have HZ2 := Lib.hid n2
  have HC2 := Lib.hid h2
  have HX2 := Lib.hid x2
  have HN2 := Lib.hid (show l2.length ≤ 900000 by omega)
  have tl2 : ¬ 3000 < (l2.length : Int) := by omega
  have HT := Lib.hid hT
  have HM1 := Lib.hid hm1
  have HM2 := Lib.hid hm2
  obtain ⟨X1, hX1⟩ : ∃ X, X = recL K1 s1 t1 l1 := ⟨_, rfl⟩
  have HXE1 := Lib.hid hX1
  have HXL1 := Lib.hid (show 7 ≤ X1.length ∧ X1.length ≤ 4000 by
    obtain ⟨_, _, e1, e2, _⟩ := mayR_of hm1
    have := varL_ten (u64_of e1)
    have := varL_ten (u64_of e2)
    have := varL_ten (show l1.length < 18446744073709551616 by omega)
    rw [hX1, recL_len]; omega)
  have HXX1 := Lib.hid (show ∀ c ∈ X1, c < 256 by rw [hX1]; exact recL_lt (by have := (mayR_of hm1).1; omega) x1)
  obtain ⟨X2, hX2⟩ : ∃ X, X = recL K2 s2 t2 l2 := ⟨_, rfl⟩
  have HXE2 := Lib.hid hX2
  have HXL2 := Lib.hid (show 7 ≤ X2.length ∧ X2.length ≤ 4000 by
    obtain ⟨_, _, e1, e2, _⟩ := mayR_of hm2
    have := varL_ten (u64_of e1)
    have := varL_ten (u64_of e2)
    have := varL_ten (show l2.length < 18446744073709551616 by omega)
    rw [hX2, recL_len]; omega)
  have HXX2 := Lib.hid (show ∀ c ∈ X2, c < 256 by rw [hX2]; exact recL_lt (by have := (mayR_of hm2).1; omega) x2)
  have CL := Lib.hid (fun W (h : Below ((w.alloc (.cells #[.int .i64 (K1 : Int), .int .u64 (s1 : Int), .int .u64 (t1 : Int), .slice a1 l1.length c1] 25)).alloc (.cells #[.int .i64 (K2 : Int), .int .u64 (s2 : Int), .int .u64 (t2 : Int), .slice a2 l2.length c2] 25)).heap.size ((w.alloc (.cells #[.int .i64 (K1 : Int), .int .u64 (s1 : Int), .int .u64 (t1 : Int), .slice a1 l1.length c1] 25)).alloc (.cells #[.int .i64 (K2 : Int), .int .u64 (s2 : Int), .int .u64 (t2 : Int), .slice a2 l2.length c2] 25)) W) => boxes2 w W 25 _ _ _ _ _ _ _ _ h)
  have HBA := Lib.hid (show Below w.heap.size w ((w.alloc (.cells #[.int .i64 (K1 : Int), .int .u64 (s1 : Int), .int .u64 (t1 : Int), .slice a1 l1.length c1] 25)).alloc (.cells #[.int .i64 (K2 : Int), .int .u64 (s2 : Int), .int .u64 (t2 : Int), .slice a2 l2.length c2] 25)) from ((Below.refl _ w).alloc (Nat.le_refl _) _).alloc (by simp) _)
  rw [← hX1, ← hX2] at hlt
  obtain ⟨Z, hZ⟩ : ∃ Z, Z = X1 ++ X2 := ⟨_, rfl⟩
  have HZZ := Lib.hid hZ
  obtain ⟨EE, hEE⟩ : ∃ E, E = X1.length + X2.length := ⟨_, rfl⟩
  have HZL := Lib.hid (show Z.length ≤ 90000 by have := HXL1.out; have := HXL2.out; rw [hZ, List.length_append]; omega)
  have HZX := Lib.hid (show ∀ c ∈ Z, c < 256 by
    rw [hZ]; intro c hc
    rcases List.mem_append.1 hc with h | h
    · exact HXX1.out c h
    · exact HXX2.out c h)
  have HDD := Lib.hid (show decA Z (X1.length : Int) = ⟨0, K2, s2, t2, l2, X2.length⟩ by
    have := dec_at (A := X1) [] hm2
    rw [← hX2, List.append_nil] at this
    rw [hZ]; exact this)
  have HEE := Lib.hid (show (EE : Int) = (X1.length : Int) + X2.length by rw [hEE]; simp)
  have y1 : (X1.length : Int) + (X2.length : Int) = (EE : Int) := by omega
  have y2 : EE ≤ 100000 := by have := HXL1.out; have := HXL2.out; omega
  obtain ⟨RR, hRR⟩ : ∃ R, R = decide (X1 = X2) := ⟨_, rfl⟩
  have HRR := Lib.hid hRR
  have HRS := Lib.hid (show RR = sameR (K1 : Int) s1 t1 l1 (K2 : Int) s2 t2 l2 by rw [hRR, hX1, hX2]; exact rec_same hm1 hm2)
  have HSS := Lib.hid (show true = sameR (K2 : Int) s2 t2 l2 (K2 : Int) s2 t2 l2 by simp [sameR])
  have HL1 := Lib.hid (show X1.length ≤ 1000000 by have := HXL1.out; omega)
  have HLL := Lib.hid (show X1.length + X2.length ≤ 1000000 by have := HXL1.out; have := HXL2.out; omega)
  have y3 : ¬ (X2.length : Int) < (X1.length : Int) := by omega
  have y4 : ¬ (X1.length : Int) < (X2.length : Int) := by omega
  clear hZ hEE hRR hlt
  clear z1 n1 h1 x1 m1 z2 n2 h2 x2 m2 hT hm1 hm2 hX1 hX2
  as_aux_lemma =>
    go_enter Tryd.func5, Tryd.ntmps5
    go_wp2_with fail
    generalize ((w.alloc (.cells #[.int .i64 (K1 : Int), .int .u64 (s1 : Int), .int .u64 (t1 : Int), .slice a1 l1.length c1] 25)).alloc (.cells #[.int .i64 (K2 : Int), .int .u64 (s2 : Int), .int .u64 (t2 : Int), .slice a2 l2.length c2] 25)) = w0 at *
    have HS10 := Lib.hid (sl_then HBA.out (Nat.le_refl _) HS1.out)
    have HS20 := Lib.hid (sl_then HBA.out (Nat.le_refl _) HS2.out)
    have HT0 := Lib.hid (tabC_then HBA.out (Nat.le_refl _) HT.out)
    have HQ0 := Lib.hid (Below.refl w0.heap.size w0)
    obtain ⟨p0, p1, p2, p3, q0, q1, q2, q3⟩ := CL.out _ HQ0.out
    go_wp2_with (first
      | (go_at_call 10; (with_reducible refine (firstC w0 (tabC_then HQ0.out (Nat.le_refl _) HT0.out)).mono ?_); rintro e wq1 ⟨rfl, bq⟩; have HQ1 := Lib.hid (below_then HQ0.out bq HQ0.out.size); clear bq; clear p0 p1 p2 p3 q0 q1 q2 q3; obtain ⟨p0, p1, p2, p3, q0, q1, q2, q3⟩ := CL.out _ HQ1.out)
      | (go_at_call 11; (with_reducible refine (encY K1 s1 t1 a1 l1.length c1 l1 X1 wq1 HXE1.out rfl HM1.out (sl_then HQ1.out (Nat.le_refl _) HS10.out) HZ1.out HC1.out HX1.out HN1.out (tabC_then HQ1.out (Nat.le_refl _) HT0.out)).mono ?_); rintro e wq2 ⟨xb, xo, xc, rfl, lx, kx, _, bq⟩; have HQ2 := Lib.hid (below_then HQ1.out bq HQ1.out.size); have X_2 := Lib.hid lx; clear bq lx; clear p0 p1 p2 p3 q0 q1 q2 q3; obtain ⟨p0, p1, p2, p3, q0, q1, q2, q3⟩ := CL.out _ HQ2.out; have HKX := Lib.hid kx; clear kx)
      | (go_at_call 11; (with_reducible refine (encY K2 s2 t2 a2 l2.length c2 l2 X2 wq2 HXE2.out rfl HM2.out (sl_then HQ2.out (Nat.le_refl _) HS20.out) HZ2.out HC2.out HX2.out HN2.out (tabC_then HQ2.out (Nat.le_refl _) HT0.out)).mono ?_); rintro e wq3 ⟨yb, yo, yc, rfl, ly, ky, _, bq⟩; have HQ3 := Lib.hid (below_then HQ2.out bq HQ2.out.size); have X_3 := Lib.hid (sl_then bq (Nat.le_refl _) X_2.out); have Y_3 := Lib.hid ly; clear bq ly; clear p0 p1 p2 p3 q0 q1 q2 q3; obtain ⟨p0, p1, p2, p3, q0, q1, q2, q3⟩ := CL.out _ HQ3.out; have HKY := Lib.hid ky; clear ky)
      | (go_at_call 18; (with_reducible refine (mayE (K1 : Int) s1 t1 a1 l1.length c1 l1 wq3 true rfl HM1.out).mono ?_); rintro e wq4 ⟨rfl, bq⟩; have HQ4 := Lib.hid (below_then HQ3.out bq HQ3.out.size); have X_4 := Lib.hid (sl_then bq (Nat.le_refl _) X_3.out); have Y_4 := Lib.hid (sl_then bq (Nat.le_refl _) Y_3.out); clear bq; clear p0 p1 p2 p3 q0 q1 q2 q3; obtain ⟨p0, p1, p2, p3, q0, q1, q2, q3⟩ := CL.out _ HQ4.out)
      | (go_at_call 21; (with_reducible refine (copyC (some ⟨xb, xo, none⟩) xc X1 wq4 HL1.out X_4.out (fun h => by cases h)).mono ?_); rintro e wq5 ⟨cv, rfl, co, bq⟩; have HQ5 := Lib.hid (below_then HQ4.out bq HQ4.out.size); have X_5 := Lib.hid (sl_then bq (Nat.le_refl _) X_4.out); have Y_5 := Lib.hid (sl_then bq (Nat.le_refl _) Y_4.out); have HCO := Lib.hid co; have HBC := Lib.hid bq; have HBS := Lib.hid (show wq4.heap.size ≤ wq5.heap.size from bq.size); clear bq co; clear p0 p1 p2 p3 q0 q1 q2 q3; obtain ⟨p0, p1, p2, p3, q0, q1, q2, q3⟩ := CL.out _ HQ5.out)
      | (at_builtin; (refine app_sl rfl _ _ rfl wq4.heap.size _ X1 rfl HCO.out (some ⟨yb, yo, none⟩) X2.length yc X2 rfl rfl (fun h => by cases h) Y_5.out HLL.out HBS.out ?_; intro v6 wq6 o6 b6; have HQ6 := Lib.hid (b6 _ _ HQ4.out.size HQ5.out); have X_6 := Lib.hid (sl_then (b6 _ _ (Nat.le_refl _) HBC.out) (Nat.le_refl _) X_4.out); have Y_6 := Lib.hid (sl_then (b6 _ _ (Nat.le_refl _) HBC.out) (Nat.le_refl _) Y_4.out); rw [← HZZ.out] at o6; obtain ⟨za, zc, rfl, zl, zs, _, _⟩ := rb_sl o6; have HZS := Lib.hid zs; have HZC := Lib.hid zl; clear b6 o6 zl zs; clear p0 p1 p2 p3 q0 q1 q2 q3; obtain ⟨p0, p1, p2, p3, q0, q1, q2, q3⟩ := CL.out _ HQ6.out))
      | (go_at_call 14; (with_reducible refine (decK za Z.length zc Z (X1.length : Int) K2 s2 t2 l2 X2.length EE wq6 rfl HDD.out HEE.out HZS.out HZC.out HZX.out HZL.out (tabC_then HQ6.out (Nat.le_refl _) HT0.out)).mono ?_); rintro e wq7 ⟨ua, uc, rfl, lu, bq⟩; have HQ7 := Lib.hid (below_then HQ6.out bq HQ6.out.size); have X_7 := Lib.hid (sl_then bq (Nat.le_refl _) X_6.out); have Y_7 := Lib.hid (sl_then bq (Nat.le_refl _) Y_6.out); have U_7 := Lib.hid lu; clear bq lu; clear p0 p1 p2 p3 q0 q1 q2 q3; obtain ⟨p0, p1, p2, p3, q0, q1, q2, q3⟩ := CL.out _ HQ7.out))
    have HQZ := Lib.hid (HQ7.out.alloc HQ7.out.size (.cells #[.int .i64 (K2 : Int), .int .u64 (s2 : Int), .int .u64 (t2 : Int), .slice ua l2.length uc] 25))
    have HXz := Lib.hid (sl_alloc X_7.out (.cells #[.int .i64 (K2 : Int), .int .u64 (s2 : Int), .int .u64 (t2 : Int), .slice ua l2.length uc] 25))
    have HYz := Lib.hid (sl_alloc Y_7.out (.cells #[.int .i64 (K2 : Int), .int .u64 (s2 : Int), .int .u64 (t2 : Int), .slice ua l2.length uc] 25))
    have HUz := Lib.hid (sl_alloc U_7.out (.cells #[.int .i64 (K2 : Int), .int .u64 (s2 : Int), .int .u64 (t2 : Int), .slice ua l2.length uc] 25))
    have CU := Lib.hid (fun W (h : Below (wq7.alloc (.cells #[.int .i64 (K2 : Int), .int .u64 (s2 : Int), .int .u64 (t2 : Int), .slice ua l2.length uc] 25)).heap.size (wq7.alloc (.cells #[.int .i64 (K2 : Int), .int .u64 (s2 : Int), .int .u64 (t2 : Int), .slice ua l2.length uc] 25)) W) => box1 wq7 W 25 _ _ _ _ h)
    clear p0 p1 p2 p3 q0 q1 q2 q3
    as_aux_lemma =>
      generalize (wq7.alloc (.cells #[.int .i64 (K2 : Int), .int .u64 (s2 : Int), .int .u64 (t2 : Int), .slice ua l2.length uc] 25)) = wz at *
      generalize wq7.heap.size = g3 at *
      have HS1z := Lib.hid (sl_then HQZ.out (Nat.le_refl _) HS10.out)
      have HS2z := Lib.hid (sl_then HQZ.out (Nat.le_refl _) HS20.out)
      have HTz := Lib.hid (tabC_then HQZ.out (Nat.le_refl _) HT0.out)
      have KS := Lib.hid (show ∀ W, Below wz.heap.size wz W → W.cell? ⟨w.heap.size, 0, none⟩ = some (.int .i64 (K1 : Int)) ∧ W.cell? ⟨w.heap.size, 1, none⟩ = some (.int .u64 (s1 : Int)) ∧ W.cell? ⟨w.heap.size, 2, none⟩ = some (.int .u64 (t1 : Int)) ∧ W.cell? ⟨w.heap.size, 3, none⟩ = some (.slice a1 l1.length c1) ∧ W.cell? ⟨w.heap.size + 1, 0, none⟩ = some (.int .i64 (K2 : Int)) ∧ W.cell? ⟨w.heap.size + 1, 1, none⟩ = some (.int .u64 (s2 : Int)) ∧ W.cell? ⟨w.heap.size + 1, 2, none⟩ = some (.int .u64 (t2 : Int)) ∧ W.cell? ⟨w.heap.size + 1, 3, none⟩ = some (.slice a2 l2.length c2) ∧ W.cell? ⟨g3, 0, none⟩ = some (.int .i64 (K2 : Int)) ∧ W.cell? ⟨g3, 1, none⟩ = some (.int .u64 (s2 : Int)) ∧ W.cell? ⟨g3, 2, none⟩ = some (.int .u64 (t2 : Int)) ∧ W.cell? ⟨g3, 3, none⟩ = some (.slice ua l2.length uc) ∧ Below wz.heap.size wz W from fun W h => by
        obtain ⟨p0, p1, p2, p3, q0, q1, q2, q3⟩ := CL.out _ (below_then HQZ.out h HQZ.out.size)
        obtain ⟨r0, r1, r2, r3⟩ := CU.out _ h
        exact ⟨p0, p1, p2, p3, q0, q1, q2, q3, r0, r1, r2, r3, h⟩)
      have KB := Lib.hid (show ∀ W, (W.cell? ⟨w.heap.size, 0, none⟩ = some (.int .i64 (K1 : Int)) ∧ W.cell? ⟨w.heap.size, 1, none⟩ = some (.int .u64 (s1 : Int)) ∧ W.cell? ⟨w.heap.size, 2, none⟩ = some (.int .u64 (t1 : Int)) ∧ W.cell? ⟨w.heap.size, 3, none⟩ = some (.slice a1 l1.length c1) ∧ W.cell? ⟨w.heap.size + 1, 0, none⟩ = some (.int .i64 (K2 : Int)) ∧ W.cell? ⟨w.heap.size + 1, 1, none⟩ = some (.int .u64 (s2 : Int)) ∧ W.cell? ⟨w.heap.size + 1, 2, none⟩ = some (.int .u64 (t2 : Int)) ∧ W.cell? ⟨w.heap.size + 1, 3, none⟩ = some (.slice a2 l2.length c2) ∧ W.cell? ⟨g3, 0, none⟩ = some (.int .i64 (K2 : Int)) ∧ W.cell? ⟨g3, 1, none⟩ = some (.int .u64 (s2 : Int)) ∧ W.cell? ⟨g3, 2, none⟩ = some (.int .u64 (t2 : Int)) ∧ W.cell? ⟨g3, 3, none⟩ = some (.slice ua l2.length uc) ∧ Below wz.heap.size wz W) → Below wz.heap.size wz W from fun W h => h.2.2.2.2.2.2.2.2.2.2.2.2)
      have y9 := wr_i EE y2
      go_wp2_with fail
      refine wp_region_held_drew (S := (fun W => W.cell? ⟨w.heap.size, 0, none⟩ = some (.int .i64 (K1 : Int)) ∧ W.cell? ⟨w.heap.size, 1, none⟩ = some (.int .u64 (s1 : Int)) ∧ W.cell? ⟨w.heap.size, 2, none⟩ = some (.int .u64 (t1 : Int)) ∧ W.cell? ⟨w.heap.size, 3, none⟩ = some (.slice a1 l1.length c1) ∧ W.cell? ⟨w.heap.size + 1, 0, none⟩ = some (.int .i64 (K2 : Int)) ∧ W.cell? ⟨w.heap.size + 1, 1, none⟩ = some (.int .u64 (s2 : Int)) ∧ W.cell? ⟨w.heap.size + 1, 2, none⟩ = some (.int .u64 (t2 : Int)) ∧ W.cell? ⟨w.heap.size + 1, 3, none⟩ = some (.slice a2 l2.length c2) ∧ W.cell? ⟨g3, 0, none⟩ = some (.int .i64 (K2 : Int)) ∧ W.cell? ⟨g3, 1, none⟩ = some (.int .u64 (s2 : Int)) ∧ W.cell? ⟨g3, 2, none⟩ = some (.int .u64 (t2 : Int)) ∧ W.cell? ⟨g3, 3, none⟩ = some (.slice ua l2.length uc) ∧ Below wz.heap.size wz W)) (by kernel_rfl) ?_ (fun hHeld => ?_)
      · ((try dsimp only); (first | (with_reducible exact KS.out _ hN) | (with_reducible exact hHeld) | exact KS.out _ (Below.refl _ _).drew | exact KS.out _ (Below.refl _ _)))
      refine wpAnyH_ready (rs := [0]) (by kernel_rfl) (by simp) ?_
      refine (AllReadyH.cons (o := { dst := some 100, op := Op.call { callee := Callee.value (Operand.func 10), args := #[], argTypes := #[] }, type := 4, pos := _, after := #[], guard := none }) rfl (fun K hK => ?_) AllReadyH.nil)
      go_simp
      (go_at_call 10; (with_reducible refine (firstC _ (tabC_then (KB.out _ hHeld) (Nat.le_refl _) HTz.out)).mono ?_); rintro e wa ⟨rfl, ba⟩; have hN := below_then (KB.out _ hHeld) ba (KB.out _ hHeld).size; clear ba)
      go_wp2_with fail
      refine hK.out _ _ ?_ (fun hHeld => ?_)
      · ((try dsimp only); (first | (with_reducible exact KS.out _ hN) | (with_reducible exact hHeld) | exact KS.out _ (Below.refl _ _).drew | exact KS.out _ (Below.refl _ _)))
      clear hK K
      try simp only [Act.put, List.setIfInBounds_toArray, List.set_cons_zero, List.set_cons_succ]
      refine wpAnyH_take (i := 1) (oi := { dst := some 101, op := Op.move (Operand.tmp 100), type := 4, pos := _, after := #[{ on := 0, ground := Ground.data }, { on := 0, ground := Ground.chain }], guard := none }) (v := ?_) rfl (by kernel_rfl) (by kernel_rfl) (by kernel_rfl) (fun _ _ _ h => h) (Or.inl ⟨by rfl, ?_⟩) (by assumption) ?_
      rotate_left
      · ((intro w hSw); (try dsimp only at hSw); go_simp; (try with_reducible rfl))
      try simp only [Act.put, List.setIfInBounds_toArray, List.set_cons_zero, List.set_cons_succ]
      refine wpAnyH_take (i := 2) (oi := { dst := some 102, op := Op.move (Operand.tmp 5), type := 23, pos := _, after := #[{ on := 1, ground := Ground.guard }], guard := some (1, true) }) (v := ?_) rfl (by kernel_rfl) (by kernel_rfl) (by kernel_rfl) (fun _ _ _ h => h) (Or.inl ⟨by rfl, ?_⟩) (by assumption) ?_
      rotate_left
      · ((intro w hSw); (try dsimp only at hSw); go_simp; (try with_reducible rfl))
      try simp only [Act.put, List.setIfInBounds_toArray, List.set_cons_zero, List.set_cons_succ]
      refine wpAnyH_take (i := 3) (oi := { dst := some 103, op := Op.move (Operand.tmp 7), type := 23, pos := _, after := #[{ on := 1, ground := Ground.guard }], guard := some (1, true) }) (v := ?_) rfl (by kernel_rfl) (by kernel_rfl) (by kernel_rfl) (fun _ _ _ h => h) (Or.inl ⟨by rfl, ?_⟩) (by assumption) ?_
      rotate_left
      · ((intro w hSw); (try dsimp only at hSw); go_simp; (try with_reducible rfl))
      try simp only [Act.put, List.setIfInBounds_toArray, List.set_cons_zero, List.set_cons_succ]
      refine wpAnyH_take (i := 5) (oi := { dst := some 105, op := Op.load 25 (Operand.tmp 2), type := 25, pos := _, after := #[{ on := 1, ground := Ground.guard }], guard := some (1, true) }) (v := ?_) rfl (by kernel_rfl) (by kernel_rfl) (by kernel_rfl) (fun _ _ _ h => h) (Or.inl ⟨by rfl, ?_⟩) (by assumption) ?_
      rotate_left
      · ((intro w hSw); (try dsimp only at hSw); go_simp; (try with_reducible rfl))
      try simp only [Act.put, List.setIfInBounds_toArray, List.set_cons_zero, List.set_cons_succ]
      refine wpAnyH_take (i := 6) (oi := { dst := some 106, op := Op.load 25 (Operand.tmp 3), type := 25, pos := _, after := #[{ on := 1, ground := Ground.guard }], guard := some (1, true) }) (v := ?_) rfl (by kernel_rfl) (by kernel_rfl) (by kernel_rfl) (fun _ _ _ h => h) (Or.inl ⟨by rfl, ?_⟩) (by assumption) ?_
      rotate_left
      · ((intro w hSw); (try dsimp only at hSw); go_simp; (try with_reducible rfl))
      try simp only [Act.put, List.setIfInBounds_toArray, List.set_cons_zero, List.set_cons_succ]
      refine wpAnyH_ready (rs := [4]) (by kernel_rfl) (by simp) ?_
      refine (AllReadyH.cons (o := { dst := some 104, op := Op.call { callee := Callee.value (Operand.func 16), args := #[Operand.tmp 102, Operand.tmp 103], argTypes := #[23, 23] }, type := 4, pos := _, after := #[{ on := 2, ground := Ground.data }, { on := 3, ground := Ground.data }, { on := 1, ground := Ground.chain }, { on := 1, ground := Ground.guard }], guard := some (1, true) }) rfl (fun K hK => ?_) AllReadyH.nil)
      go_simp
      (go_at_call 16; (with_reducible refine (bytesK (some ⟨xb, xo, none⟩) (some ⟨yb, yo, none⟩) xc yc X1.length X2.length X1 X2 _ RR rfl rfl (sl_then (KB.out _ hHeld) (Nat.le_refl _) HXz.out) (sl_then (KB.out _ hHeld) (Nat.le_refl _) HYz.out) HXX1.out HXX2.out HRR.out).mono ?_); rintro e wb ⟨rfl, rfl⟩)
      go_wp2_with fail
      refine hK.out _ _ ?_ (fun hHeld => ?_)
      · ((try dsimp only); (first | (with_reducible exact KS.out _ hN) | (with_reducible exact hHeld) | exact KS.out _ (Below.refl _ _).drew | exact KS.out _ (Below.refl _ _)))
      clear hK K
      try simp only [Act.put, List.setIfInBounds_toArray, List.set_cons_zero, List.set_cons_succ]
      refine wpAnyH_ready (rs := [7]) (by kernel_rfl) (by simp) ?_
      refine (AllReadyH.cons (o := { dst := some 107, op := Op.call { callee := Callee.value (Operand.func 20), args := #[Operand.tmp 105, Operand.tmp 106], argTypes := #[25, 25] }, type := 4, pos := _, after := #[{ on := 5, ground := Ground.data }, { on := 6, ground := Ground.data }, { on := 4, ground := Ground.chain }, { on := 1, ground := Ground.guard }], guard := some (1, true) }) rfl (fun K hK => ?_) AllReadyH.nil)
      go_simp
      (go_at_call 20; (with_reducible refine (sameK (K1 : Int) s1 t1 a1 l1.length c1 l1 (K2 : Int) s2 t2 a2 l2.length c2 l2 _ rfl rfl (sl_then (KB.out _ hHeld) (Nat.le_refl _) HS1z.out) (sl_then (KB.out _ hHeld) (Nat.le_refl _) HS2z.out) HX1.out HX2.out RR HRS.out).mono ?_); rintro e wa ⟨rfl, ba⟩; have hN := below_then (KB.out _ hHeld) ba (KB.out _ hHeld).size; clear ba)
      go_wp2_with fail
      refine hK.out _ _ ?_ (fun hHeld => ?_)
      · ((try dsimp only); (first | (with_reducible exact KS.out _ hN) | (with_reducible exact hHeld) | exact KS.out _ (Below.refl _ _).drew | exact KS.out _ (Below.refl _ _)))
      clear hK K
      try simp only [Act.put, List.setIfInBounds_toArray, List.set_cons_zero, List.set_cons_succ]
      refine wpAnyH_take (i := 8) (oi := { dst := some 108, op := Op.binOp BinOp.eql 4 (Operand.tmp 104) (Operand.tmp 107) 4, type := 4, pos := _, after := #[{ on := 4, ground := Ground.data }, { on := 7, ground := Ground.data }, { on := 1, ground := Ground.guard }], guard := some (1, true) }) (v := ?_) rfl (by kernel_rfl) (by kernel_rfl) (by kernel_rfl) (fun _ _ _ h => h) (Or.inl ⟨by rfl, ?_⟩) (by assumption) ?_
      rotate_left
      · ((intro w hSw); (try dsimp only at hSw); go_simp; (try with_reducible rfl))
      try simp only [Act.put, List.setIfInBounds_toArray, List.set_cons_zero, List.set_cons_succ]
      refine wpAnyH_take (i := 9) (oi := { dst := some 109, op := Op.pick (Operand.tmp 101) (Operand.tmp 108) (Operand.const (Value.bool false)), type := 4, pos := _, after := #[{ on := 1, ground := Ground.data }, { on := 8, ground := Ground.data }], guard := none }) (v := ?_) rfl (by kernel_rfl) (by kernel_rfl) (by kernel_rfl) (fun _ _ _ h => h) (Or.inl ⟨by rfl, ?_⟩) (by assumption) ?_
      rotate_left
      · ((intro w hSw); (try dsimp only at hSw); go_simp; (try with_reducible rfl))
      try simp only [Act.put, List.setIfInBounds_toArray, List.set_cons_zero, List.set_cons_succ]
      refine wpAnyH_take (i := 10) (oi := { dst := some 110, op := Op.move (Operand.tmp 109), type := 4, pos := _, after := #[{ on := 9, ground := Ground.data }, { on := 7, ground := Ground.chain }], guard := none }) (v := ?_) rfl (by kernel_rfl) (by kernel_rfl) (by kernel_rfl) (fun _ _ _ h => h) (Or.inl ⟨by rfl, ?_⟩) (by assumption) ?_
      rotate_left
      · ((intro w hSw); (try dsimp only at hSw); go_simp; (try with_reducible rfl))
      try simp only [Act.put, List.setIfInBounds_toArray, List.set_cons_zero, List.set_cons_succ]
      refine wpAnyH_take (i := 11) (oi := { dst := some 111, op := Op.move (Operand.tmp 9), type := 4, pos := _, after := #[{ on := 10, ground := Ground.guard }], guard := some (10, true) }) (v := ?_) rfl (by kernel_rfl) (by kernel_rfl) (by kernel_rfl) (fun _ _ _ h => h) (Or.inl ⟨by rfl, ?_⟩) (by assumption) ?_
      rotate_left
      · ((intro w hSw); (try dsimp only at hSw); go_simp; (try with_reducible rfl))
      try simp only [Act.put, List.setIfInBounds_toArray, List.set_cons_zero, List.set_cons_succ]
      refine wpAnyH_take (i := 12) (oi := { dst := some 112, op := Op.unOp UnOp.not 4 (Operand.tmp 111), type := 4, pos := _, after := #[{ on := 11, ground := Ground.data }, { on := 10, ground := Ground.guard }], guard := some (10, true) }) (v := ?_) rfl (by kernel_rfl) (by kernel_rfl) (by kernel_rfl) (fun _ _ _ h => h) (Or.inl ⟨by rfl, ?_⟩) (by assumption) ?_
      rotate_left
      · ((intro w hSw); (try dsimp only at hSw); go_simp; (try with_reducible rfl))
      try simp only [Act.put, List.setIfInBounds_toArray, List.set_cons_zero, List.set_cons_succ]
      refine wpAnyH_take (i := 13) (oi := { dst := some 113, op := Op.pick (Operand.tmp 110) (Operand.tmp 112) (Operand.const (Value.bool false)), type := 4, pos := _, after := #[{ on := 10, ground := Ground.data }, { on := 12, ground := Ground.data }], guard := none }) (v := ?_) rfl (by kernel_rfl) (by kernel_rfl) (by kernel_rfl) (fun _ _ _ h => h) (Or.inl ⟨by rfl, ?_⟩) (by assumption) ?_
      rotate_left
      · ((intro w hSw); (try dsimp only at hSw); go_simp; (try with_reducible rfl))
      try simp only [Act.put, List.setIfInBounds_toArray, List.set_cons_zero, List.set_cons_succ]
      refine wpAnyH_take (i := 14) (oi := { dst := some 114, op := Op.move (Operand.tmp 113), type := 4, pos := _, after := #[{ on := 13, ground := Ground.data }, { on := 10, ground := Ground.chain }], guard := none }) (v := ?_) rfl (by kernel_rfl) (by kernel_rfl) (by kernel_rfl) (fun _ _ _ h => h) (Or.inl ⟨by rfl, ?_⟩) (by assumption) ?_
      rotate_left
      · ((intro w hSw); (try dsimp only at hSw); go_simp; (try with_reducible rfl))
      try simp only [Act.put, List.setIfInBounds_toArray, List.set_cons_zero, List.set_cons_succ]
      refine wpAnyH_take (i := 15) (oi := { dst := some 115, op := Op.move (Operand.tmp 12), type := 27, pos := _, after := #[{ on := 14, ground := Ground.guard }], guard := some (14, true) }) (v := ?_) rfl (by kernel_rfl) (by kernel_rfl) (by kernel_rfl) (fun _ _ _ h => h) (Or.inl ⟨by rfl, ?_⟩) (by assumption) ?_
      rotate_left
      · ((intro w hSw); (try dsimp only at hSw); go_simp; (try with_reducible rfl))
      try simp only [Act.put, List.setIfInBounds_toArray, List.set_cons_zero, List.set_cons_succ]
      refine wpAnyH_take (i := 16) (oi := { dst := some 116, op := Op.binOp BinOp.eql 27 (Operand.tmp 115) (Operand.const (Value.int IntKind.i64 0)) 27, type := 4, pos := _, after := #[{ on := 15, ground := Ground.data }, { on := 14, ground := Ground.guard }], guard := some (14, true) }) (v := ?_) rfl (by kernel_rfl) (by kernel_rfl) (by kernel_rfl) (fun _ _ _ h => h) (Or.inl ⟨by rfl, ?_⟩) (by assumption) ?_
      rotate_left
      · ((intro w hSw); (try dsimp only at hSw); go_simp; (try with_reducible rfl))
      try simp only [Act.put, List.setIfInBounds_toArray, List.set_cons_zero, List.set_cons_succ]
      refine wpAnyH_take (i := 17) (oi := { dst := some 117, op := Op.pick (Operand.tmp 114) (Operand.tmp 116) (Operand.const (Value.bool false)), type := 4, pos := _, after := #[{ on := 14, ground := Ground.data }, { on := 16, ground := Ground.data }], guard := none }) (v := ?_) rfl (by kernel_rfl) (by kernel_rfl) (by kernel_rfl) (fun _ _ _ h => h) (Or.inl ⟨by rfl, ?_⟩) (by assumption) ?_
      rotate_left
      · ((intro w hSw); (try dsimp only at hSw); go_simp; (try with_reducible rfl))
      try simp only [Act.put, List.setIfInBounds_toArray, List.set_cons_zero, List.set_cons_succ]
      refine wpAnyH_take (i := 18) (oi := { dst := some 118, op := Op.move (Operand.tmp 117), type := 4, pos := _, after := #[{ on := 17, ground := Ground.data }, { on := 14, ground := Ground.chain }], guard := none }) (v := ?_) rfl (by kernel_rfl) (by kernel_rfl) (by kernel_rfl) (fun _ _ _ h => h) (Or.inl ⟨by rfl, ?_⟩) (by assumption) ?_
      rotate_left
      · ((intro w hSw); (try dsimp only at hSw); go_simp; (try with_reducible rfl))
      try simp only [Act.put, List.setIfInBounds_toArray, List.set_cons_zero, List.set_cons_succ]
      refine wpAnyH_take (i := 19) (oi := { dst := some 119, op := Op.load 25 (Operand.tmp 10), type := 25, pos := _, after := #[{ on := 18, ground := Ground.guard }], guard := some (18, true) }) (v := ?_) rfl (by kernel_rfl) (by kernel_rfl) (by kernel_rfl) (fun _ _ _ h => h) (Or.inl ⟨by rfl, ?_⟩) (by assumption) ?_
      rotate_left
      · ((intro w hSw); (try dsimp only at hSw); go_simp; (try with_reducible rfl))
      try simp only [Act.put, List.setIfInBounds_toArray, List.set_cons_zero, List.set_cons_succ]
      refine wpAnyH_take (i := 20) (oi := { dst := some 120, op := Op.load 25 (Operand.tmp 3), type := 25, pos := _, after := #[{ on := 18, ground := Ground.guard }], guard := some (18, true) }) (v := ?_) rfl (by kernel_rfl) (by kernel_rfl) (by kernel_rfl) (fun _ _ _ h => h) (Or.inl ⟨by rfl, ?_⟩) (by assumption) ?_
      rotate_left
      · ((intro w hSw); (try dsimp only at hSw); go_simp; (try with_reducible rfl))
      try simp only [Act.put, List.setIfInBounds_toArray, List.set_cons_zero, List.set_cons_succ]
      refine wpAnyH_ready (rs := [21]) (by kernel_rfl) (by simp) ?_
      refine (AllReadyH.cons (o := { dst := some 121, op := Op.call { callee := Callee.value (Operand.func 20), args := #[Operand.tmp 119, Operand.tmp 120], argTypes := #[25, 25] }, type := 4, pos := _, after := #[{ on := 19, ground := Ground.data }, { on := 20, ground := Ground.data }, { on := 18, ground := Ground.chain }, { on := 18, ground := Ground.guard }], guard := some (18, true) }) rfl (fun K hK => ?_) AllReadyH.nil)
      go_simp
      (go_at_call 20; (with_reducible refine (sameK (K2 : Int) s2 t2 ua l2.length uc l2 (K2 : Int) s2 t2 a2 l2.length c2 l2 _ rfl rfl (sl_then (KB.out _ hHeld) (Nat.le_refl _) HUz.out) (sl_then (KB.out _ hHeld) (Nat.le_refl _) HS2z.out) HX2.out HX2.out true HSS.out).mono ?_); rintro e wa ⟨rfl, ba⟩; have hN := below_then (KB.out _ hHeld) ba (KB.out _ hHeld).size; clear ba)
      go_wp2_with fail
      refine hK.out _ _ ?_ (fun hHeld => ?_)
      · ((try dsimp only); (first | (with_reducible exact KS.out _ hN) | (with_reducible exact hHeld) | exact KS.out _ (Below.refl _ _).drew | exact KS.out _ (Below.refl _ _)))
      clear hK K
      try simp only [Act.put, List.setIfInBounds_toArray, List.set_cons_zero, List.set_cons_succ]
      refine wpAnyH_take (i := 22) (oi := { dst := some 122, op := Op.pick (Operand.tmp 118) (Operand.tmp 121) (Operand.const (Value.bool false)), type := 4, pos := _, after := #[{ on := 18, ground := Ground.data }, { on := 21, ground := Ground.data }], guard := none }) (v := ?_) rfl (by kernel_rfl) (by kernel_rfl) (by kernel_rfl) (fun _ _ _ h => h) (Or.inl ⟨by rfl, ?_⟩) (by assumption) ?_
      rotate_left
      · ((intro w hSw); (try dsimp only at hSw); go_simp; (try with_reducible rfl))
      try simp only [Act.put, List.setIfInBounds_toArray, List.set_cons_zero, List.set_cons_succ]
      refine wpAnyH_take (i := 23) (oi := { dst := some 123, op := Op.move (Operand.tmp 122), type := 4, pos := _, after := #[{ on := 22, ground := Ground.data }, { on := 21, ground := Ground.chain }], guard := none }) (v := ?_) rfl (by kernel_rfl) (by kernel_rfl) (by kernel_rfl) (fun _ _ _ h => h) (Or.inl ⟨by rfl, ?_⟩) (by assumption) ?_
      rotate_left
      · ((intro w hSw); (try dsimp only at hSw); go_simp; (try with_reducible rfl))
      try simp only [Act.put, List.setIfInBounds_toArray, List.set_cons_zero, List.set_cons_succ]
      refine wpAnyH_take (i := 24) (oi := { dst := some 124, op := Op.move (Operand.tmp 11), type := 3, pos := _, after := #[{ on := 23, ground := Ground.guard }], guard := some (23, true) }) (v := ?_) rfl (by kernel_rfl) (by kernel_rfl) (by kernel_rfl) (fun _ _ _ h => h) (Or.inl ⟨by rfl, ?_⟩) (by assumption) ?_
      rotate_left
      · ((intro w hSw); (try dsimp only at hSw); go_simp; (try with_reducible rfl))
      try simp only [Act.put, List.setIfInBounds_toArray, List.set_cons_zero, List.set_cons_succ]
      refine wpAnyH_take (i := 25) (oi := { dst := some 125, op := Op.move (Operand.tmp 5), type := 23, pos := _, after := #[{ on := 23, ground := Ground.guard }], guard := some (23, true) }) (v := ?_) rfl (by kernel_rfl) (by kernel_rfl) (by kernel_rfl) (fun _ _ _ h => h) (Or.inl ⟨by rfl, ?_⟩) (by assumption) ?_
      rotate_left
      · ((intro w hSw); (try dsimp only at hSw); go_simp; (try with_reducible rfl))
      try simp only [Act.put, List.setIfInBounds_toArray, List.set_cons_zero, List.set_cons_succ]
      refine wpAnyH_take (i := 26) (oi := { dst := some 126, op := Op.call { callee := Callee.builtin Builtin.len, args := #[Operand.tmp 125], argTypes := #[23] }, type := 3, pos := _, after := #[{ on := 25, ground := Ground.data }, { on := 23, ground := Ground.guard }], guard := some (23, true) }) (v := ?_) rfl (by kernel_rfl) (by kernel_rfl) (by kernel_rfl) (fun _ _ _ h => h) (Or.inl ⟨by rfl, ?_⟩) (by assumption) ?_
      rotate_left
      · ((intro w hSw); (try dsimp only at hSw); go_simp; (try with_reducible rfl))
      try simp only [Act.put, List.setIfInBounds_toArray, List.set_cons_zero, List.set_cons_succ]
      refine wpAnyH_take (i := 27) (oi := { dst := some 127, op := Op.move (Operand.tmp 7), type := 23, pos := _, after := #[{ on := 23, ground := Ground.guard }], guard := some (23, true) }) (v := ?_) rfl (by kernel_rfl) (by kernel_rfl) (by kernel_rfl) (fun _ _ _ h => h) (Or.inl ⟨by rfl, ?_⟩) (by assumption) ?_
      rotate_left
      · ((intro w hSw); (try dsimp only at hSw); go_simp; (try with_reducible rfl))
      try simp only [Act.put, List.setIfInBounds_toArray, List.set_cons_zero, List.set_cons_succ]
      refine wpAnyH_take (i := 28) (oi := { dst := some 128, op := Op.call { callee := Callee.builtin Builtin.len, args := #[Operand.tmp 127], argTypes := #[23] }, type := 3, pos := _, after := #[{ on := 27, ground := Ground.data }, { on := 23, ground := Ground.guard }], guard := some (23, true) }) (v := ?_) rfl (by kernel_rfl) (by kernel_rfl) (by kernel_rfl) (fun _ _ _ h => h) (Or.inl ⟨by rfl, ?_⟩) (by assumption) ?_
      rotate_left
      · ((intro w hSw); (try dsimp only at hSw); go_simp; (try with_reducible rfl))
      try simp only [Act.put, List.setIfInBounds_toArray, List.set_cons_zero, List.set_cons_succ]
      refine wpAnyH_take (i := 29) (oi := { dst := some 129, op := Op.binOp BinOp.add 3 (Operand.tmp 126) (Operand.tmp 128) 3, type := 3, pos := _, after := #[{ on := 26, ground := Ground.data }, { on := 28, ground := Ground.data }, { on := 23, ground := Ground.guard }], guard := some (23, true) }) (v := ?_) rfl (by kernel_rfl) (by kernel_rfl) (by kernel_rfl) (fun _ _ _ h => h) (Or.inl ⟨by rfl, ?_⟩) (by assumption) ?_
      rotate_left
      · ((intro w hSw); (try dsimp only at hSw); go_simp; (try with_reducible rfl))
      try simp only [Act.put, List.setIfInBounds_toArray, List.set_cons_zero, List.set_cons_succ]
      refine wpAnyH_take (i := 30) (oi := { dst := some 130, op := Op.binOp BinOp.eql 3 (Operand.tmp 124) (Operand.tmp 129) 3, type := 4, pos := _, after := #[{ on := 24, ground := Ground.data }, { on := 29, ground := Ground.data }, { on := 23, ground := Ground.guard }], guard := some (23, true) }) (v := ?_) rfl (by kernel_rfl) (by kernel_rfl) (by kernel_rfl) (fun _ _ _ h => h) (Or.inl ⟨by rfl, ?_⟩) (by assumption) ?_
      rotate_left
      · ((intro w hSw); (try dsimp only at hSw); go_simp; (try with_reducible rfl))
      try simp only [Act.put, List.setIfInBounds_toArray, List.set_cons_zero, List.set_cons_succ]
      refine wpAnyH_take (i := 31) (oi := { dst := some 131, op := Op.pick (Operand.tmp 123) (Operand.tmp 130) (Operand.const (Value.bool false)), type := 4, pos := _, after := #[{ on := 23, ground := Ground.data }, { on := 30, ground := Ground.data }], guard := none }) (v := ?_) rfl (by kernel_rfl) (by kernel_rfl) (by kernel_rfl) (fun _ _ _ h => h) (Or.inl ⟨by rfl, ?_⟩) (by assumption) ?_
      rotate_left
      · ((intro w hSw); (try dsimp only at hSw); go_simp; (try with_reducible rfl))
      try simp only [Act.put, List.setIfInBounds_toArray, List.set_cons_zero, List.set_cons_succ]
      refine wpAnyH_take (i := 32) (oi := { dst := some 4, op := Op.assign (Operand.tmp 131), type := 4, pos := _, after := #[{ on := 31, ground := Ground.data }, { on := 23, ground := Ground.chain }, { on := 0, ground := Ground.phase }, { on := 1, ground := Ground.phase }, { on := 2, ground := Ground.phase }, { on := 3, ground := Ground.phase }, { on := 4, ground := Ground.phase }, { on := 5, ground := Ground.phase }, { on := 6, ground := Ground.phase }, { on := 7, ground := Ground.phase }, { on := 8, ground := Ground.phase }, { on := 9, ground := Ground.phase }, { on := 10, ground := Ground.phase }, { on := 11, ground := Ground.phase }, { on := 12, ground := Ground.phase }, { on := 13, ground := Ground.phase }, { on := 14, ground := Ground.phase }, { on := 15, ground := Ground.phase }, { on := 16, ground := Ground.phase }, { on := 17, ground := Ground.phase }, { on := 18, ground := Ground.phase }, { on := 19, ground := Ground.phase }, { on := 20, ground := Ground.phase }, { on := 21, ground := Ground.phase }, { on := 22, ground := Ground.phase }, { on := 23, ground := Ground.phase }, { on := 24, ground := Ground.phase }, { on := 25, ground := Ground.phase }, { on := 26, ground := Ground.phase }, { on := 27, ground := Ground.phase }, { on := 28, ground := Ground.phase }, { on := 29, ground := Ground.phase }, { on := 30, ground := Ground.phase }, { on := 31, ground := Ground.phase }], guard := none }) (v := ?_) rfl (by kernel_rfl) (by kernel_rfl) (by kernel_rfl) (fun _ _ _ h => h) (Or.inl ⟨by rfl, ?_⟩) (by assumption) ?_
      rotate_left
      · ((intro w hSw); (try dsimp only at hSw); go_simp; (try with_reducible rfl))
      try simp only [Act.put, List.setIfInBounds_toArray, List.set_cons_zero, List.set_cons_succ]
      refine wpAnyH_done (by kernel_rfl) ?_ _
      clear hN
      go_wp2
      go_ret
      exact ⟨rfl, below_then HBA.out (below_then HQZ.out (KB.out _ hHeld) HQZ.out.size) HBA.out.size⟩

set_option maxRecDepth 100000 in
theorem apartOut (k1 : Int) (s1 t1 : Nat) (a1 : Option Addr) (m1 c1 : Nat) (k2 : Int) (s2 t2 : Nat) (a2 : Option Addr) (m2 c2 : Nat) (w : World) (hno : 3000 < m1 ∨ 3000 < m2) (hT : TabC w) :
    Calls Tryd.prog 5 #[.agg #[.int .i64 k1, .int .u64 (s1 : Int), .int .u64 (t1 : Int), .slice a1 m1 c1], .agg #[.int .i64 k2, .int .u64 (s2 : Int), .int .u64 (t2 : Int), .slice a2 m2 c2]] w fun e w' => e = .returned (.bool true) ∧ Below w.heap.size w w' := by
  have CL := Lib.hid (fun W (h : Below ((w.alloc (.cells #[.int .i64 k1, .int .u64 (s1 : Int), .int .u64 (t1 : Int), .slice a1 m1 c1] 25)).alloc (.cells #[.int .i64 k2, .int .u64 (s2 : Int), .int .u64 (t2 : Int), .slice a2 m2 c2] 25)).heap.size ((w.alloc (.cells #[.int .i64 k1, .int .u64 (s1 : Int), .int .u64 (t1 : Int), .slice a1 m1 c1] 25)).alloc (.cells #[.int .i64 k2, .int .u64 (s2 : Int), .int .u64 (t2 : Int), .slice a2 m2 c2] 25)) W) => boxes2 w W 25 _ _ _ _ _ _ _ _ h)
  have HBA := Lib.hid (show Below w.heap.size w ((w.alloc (.cells #[.int .i64 k1, .int .u64 (s1 : Int), .int .u64 (t1 : Int), .slice a1 m1 c1] 25)).alloc (.cells #[.int .i64 k2, .int .u64 (s2 : Int), .int .u64 (t2 : Int), .slice a2 m2 c2] 25)) from ((Below.refl _ w).alloc (Nat.le_refl _) _).alloc (by simp) _)
  have HT0 := Lib.hid (tabC_then HBA.out (Nat.le_refl _) hT)
  clear hT
  by_cases g1 : 3000 < (m1 : Int)
  · clear hno
    go_enter Tryd.func5, Tryd.ntmps5
    go_wp2_with fail
    generalize ((w.alloc (.cells #[.int .i64 k1, .int .u64 (s1 : Int), .int .u64 (t1 : Int), .slice a1 m1 c1] 25)).alloc (.cells #[.int .i64 k2, .int .u64 (s2 : Int), .int .u64 (t2 : Int), .slice a2 m2 c2] 25)) = w0 at *
    have HQ0 := Lib.hid (Below.refl w0.heap.size w0)
    obtain ⟨p0, p1, p2, p3, q0, q1, q2, q3⟩ := CL.out _ HQ0.out
    go_wp2_with (first
      | (go_at_call 10; (with_reducible refine (firstC w0 (tabC_then HQ0.out (Nat.le_refl _) HT0.out)).mono ?_); rintro e wq1 ⟨rfl, bq⟩; have HQ1 := Lib.hid (below_then HQ0.out bq HQ0.out.size); clear bq; clear p0 p1 p2 p3 q0 q1 q2 q3; obtain ⟨p0, p1, p2, p3, q0, q1, q2, q3⟩ := CL.out _ HQ1.out)
      | (go_at_call 10; (with_reducible refine (firstC wq1 (tabC_then HQ1.out (Nat.le_refl _) HT0.out)).mono ?_); rintro e wq2 ⟨rfl, bq⟩; have HQ2 := Lib.hid (below_then HQ1.out bq HQ1.out.size); clear bq; clear p0 p1 p2 p3 q0 q1 q2 q3; obtain ⟨p0, p1, p2, p3, q0, q1, q2, q3⟩ := CL.out _ HQ2.out))
    go_ret
    exact ⟨rfl, below_then HBA.out HQ2.out HBA.out.size⟩
  · have g2 : 3000 < (m2 : Int) := by omega
    clear hno
    go_enter Tryd.func5, Tryd.ntmps5
    go_wp2_with fail
    generalize ((w.alloc (.cells #[.int .i64 k1, .int .u64 (s1 : Int), .int .u64 (t1 : Int), .slice a1 m1 c1] 25)).alloc (.cells #[.int .i64 k2, .int .u64 (s2 : Int), .int .u64 (t2 : Int), .slice a2 m2 c2] 25)) = w0 at *
    have HQ0 := Lib.hid (Below.refl w0.heap.size w0)
    obtain ⟨p0, p1, p2, p3, q0, q1, q2, q3⟩ := CL.out _ HQ0.out
    go_wp2_with (first
      | (go_at_call 10; (with_reducible refine (firstC w0 (tabC_then HQ0.out (Nat.le_refl _) HT0.out)).mono ?_); rintro e wq1 ⟨rfl, bq⟩; have HQ1 := Lib.hid (below_then HQ0.out bq HQ0.out.size); clear bq; clear p0 p1 p2 p3 q0 q1 q2 q3; obtain ⟨p0, p1, p2, p3, q0, q1, q2, q3⟩ := CL.out _ HQ1.out)
      | (go_at_call 10; (with_reducible refine (firstC wq1 (tabC_then HQ1.out (Nat.le_refl _) HT0.out)).mono ?_); rintro e wq2 ⟨rfl, bq⟩; have HQ2 := Lib.hid (below_then HQ1.out bq HQ1.out.size); clear bq; clear p0 p1 p2 p3 q0 q1 q2 q3; obtain ⟨p0, p1, p2, p3, q0, q1, q2, q3⟩ := CL.out _ HQ2.out))
    go_ret
    exact ⟨rfl, below_then HBA.out HQ2.out HBA.out.size⟩

theorem walk (k1 s1 t1 : Int) (a1 : Option Addr) (m1 c1 : Nat) (z1 : List Int) (k2 s2 t2 : Int) (a2 : Option Addr) (m2 c2 : Nat) (z2 : List Int) (W : World)
    (_ : (Lit.int .i64 k1).wf = true) (w1 : (Lit.int .u64 s1).wf = true) (v1 : (Lit.int .u64 t1).wf = true) (r1 : IsRow .u8 W a1 m1 c1 z1) (_ : (Lit.int .i64 k2).wf = true) (w2 : (Lit.int .u64 s2).wf = true) (v2 : (Lit.int .u64 t2).wf = true) (r2 : IsRow .u8 W a2 m2 c2 z2)
    (h1 : Lib.TabIs Tryd.prog W "tickertape/wire.crcSteps" .u32 [0, 498536548, 997073096, 651767980, 1994146192, 1802195444, 1303535960, 1342533948, 3988292384, 4027552580, 3604390888, 3412177804, 2607071920, 2262029012, 2685067896, 3183342108]) :
    Calls Tryd.prog 5 #[.agg #[.int .i64 k1, .int .u64 s1, .int .u64 t1, .slice a1 m1 c1], .agg #[.int .i64 k2, .int .u64 s2, .int .u64 t2, .slice a2 m2 c2]] W fun e W' => e = .returned (.bool true) ∧ Below W.heap.size W W' := by
  have hT := ArgB.tab h1 rfl
  obtain ⟨s1, rfl⟩ := Int.eq_ofNat_of_zero_le (inU w1).1
  obtain ⟨t1, rfl⟩ := Int.eq_ofNat_of_zero_le (inU v1).1
  obtain ⟨s2, rfl⟩ := Int.eq_ofNat_of_zero_le (inU w2).1
  obtain ⟨t2, rfl⟩ := Int.eq_ofNat_of_zero_le (inU v2).1
  by_cases hno : 3000 < m1 ∨ 3000 < m2
  · exact apartOut k1 s1 t1 a1 m1 c1 k2 s2 t2 a2 m2 c2 W hno hT
  · obtain ⟨l1, rfl, x1, y1, n1, q1, _⟩ := row_bytes r1
    obtain ⟨l2, rfl, x2, y2, n2, q2, _⟩ := row_bytes r2
    cases g1 : mayR k1 s1 t1 l1.length with
    | false =>
      cases g2 : mayR k2 s2 t2 l2.length with
      | false => exact apartNN k1 s1 t1 a1 c1 l1 k2 s2 t2 a2 c2 l2 W y1 n1 q1 x1 (by omega) y2 n2 q2 x2 (by omega) g1 g2 hT
      | true =>
        obtain ⟨K2, rfl, _⟩ := may_nat g2
        exact apartNY k1 s1 t1 a1 c1 l1 K2 s2 t2 a2 c2 l2 W y1 n1 q1 x1 (by omega) y2 n2 q2 x2 (by omega) g1 g2 hT
    | true =>
      obtain ⟨K1, rfl, _⟩ := may_nat g1
      cases g2 : mayR k2 s2 t2 l2.length with
      | false => exact apartYN K1 s1 t1 a1 c1 l1 k2 s2 t2 a2 c2 l2 W y1 n1 q1 x1 (by omega) y2 n2 q2 x2 (by omega) g1 g2 hT
      | true =>
        obtain ⟨K2, rfl, _⟩ := may_nat g2
        rcases Nat.lt_trichotomy (recL K1 s1 t1 l1).length (recL K2 s2 t2 l2).length with h | h | h
        · exact apart_lt K1 s1 t1 a1 c1 l1 K2 s2 t2 a2 c2 l2 W y1 n1 q1 x1 (by omega) y2 n2 q2 x2 (by omega) g1 g2 h hT
        · exact apart_eq K1 s1 t1 a1 c1 l1 K2 s2 t2 a2 c2 l2 W y1 n1 q1 x1 (by omega) y2 n2 q2 x2 (by omega) g1 g2 h hT
        · exact apart_gt K1 s1 t1 a1 c1 l1 K2 s2 t2 a2 c2 l2 W y1 n1 q1 x1 (by omega) y2 n2 q2 x2 (by omega) g1 g2 h hT

end Go.Proofs.YtabgelmmjpjejaaDoor.Rp
