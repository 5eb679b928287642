/- Packets: are they alike; the document's packet. -/
import Derived.Test.YtmfkfpgomglplaaDoorDh
import Derived.Test.YtmfkfpgomglplaaDoorOq
import Derived.Test.YtmfkfpgomglplaaDoorPg
set_option linter.unusedVariables false
namespace Go.Proofs.YtmfkfpgomglplaaDoor.Dk
open Go Go.RowKit Kit Mb Sha Ap Mc1 Sc Mx Sb Pd Su Pa Hm Mm Tg Mf Pk Se Op Pe Ps Pt Oq Pg Dq Db Ds Dh


/-- are two packets alike? -/
def sameB (d1 v1 : Int) (n1 : Nat) (l1 : List Nat) (d2 v2 : Int) (n2 : Nat) (l2 : List Nat) : Bool := decide (d1 = d2) && decide (v1 = v2) && decide (n1 = n2) && decide (l1 = l2)
theorem equal57 (a1 a2 : Option Addr) (c1 c2 n1 n2 : Nat) (l1 l2 : List Nat) (w : World) (r : Bool) (e1 : n1 = l1.length) (e2 : n2 = l2.length) (h1 : Sl w a1 l1) (h2 : Sl w a2 l2) (m1 : ∀ c ∈ l1, c < 256) (m2 : ∀ c ∈ l2, c < 256) (hr : r = decide (l1 = l2)) :
    Calls Tryd.prog 57 #[.slice a1 n1 c1, .slice a2 n2 c2] w fun e w' => e = .returned (.bool r) ∧ w = w' := by
  subst e1 e2 hr
  have k1 := conv_sl a1 c1 l1 w h1
  have k2 := conv_sl a2 c2 l2 w h2
  have E := Lib.hid (strL_inj m1 m2)
  clear h1 h2 m1 m2
  go_enter Tryd.func57, Tryd.ntmps57
  go_wp2
  go_ret
  exact ⟨ret_bool E.out, rfl⟩

set_option maxRecDepth 100000 in
set_option maxHeartbeats 1000000 in
theorem sameP (d1 v1 : Int) (n1 : Nat) (a1 : Option Addr) (m1 c1 : Nat) (l1 : List Nat) (d2 v2 : Int) (n2 : Nat) (a2 : Option Addr) (m2 c2 : Nat) (l2 : List Nat) (w : World) (e1 : m1 = l1.length) (e2 : m2 = l2.length) (s1 : Sl w a1 l1) (s2 : Sl w a2 l2) (x1 : ∀ c ∈ l1, c < 256) (x2 : ∀ c ∈ l2, c < 256) (r : Bool) (hr : r = sameB d1 v1 n1 l1 d2 v2 n2 l2) :
    Calls Tryd.prog 32 #[.agg #[.int .i64 d1, .int .i64 v1, .int .u64 (n1 : Int), .slice a1 m1 c1], .agg #[.int .i64 d2, .int .i64 v2, .int .u64 (n2 : Int), .slice a2 m2 c2]] w fun e w' => e = .returned (.bool r) ∧ Below w.heap.size w w' := by
  have HB0 := Lib.hid (show Below w.heap.size w ((w.alloc (.cells #[.int .i64 d1, .int .i64 v1, .int .u64 (n1 : Int), .slice a1 m1 c1] 35)).alloc (.cells #[.int .i64 d2, .int .i64 v2, .int .u64 (n2 : Int), .slice a2 m2 c2] 35)) from ((Below.refl _ w).alloc (Nat.le_refl _) _).alloc (by simp) _)
  have HS1 := Lib.hid (sl_then HB0.out (Nat.le_refl _) s1)
  have HS2 := Lib.hid (sl_then HB0.out (Nat.le_refl _) s2)
  have HX1 := Lib.hid x1
  have HX2 := Lib.hid x2
  have HE1 := Lib.hid e1
  have HE2 := Lib.hid e2
  obtain ⟨q, hq⟩ : ∃ q, q = decide (l1 = l2) := ⟨_, rfl⟩
  have HQ := Lib.hid hq
  unfold sameB at hr
  rw [← hq] at hr
  clear s1 s2 x1 x2 e1 e2 hq
  by_cases h0 : d1 = d2
  · have j0 : (d1 == d2) = true := by rw [beq_iff_eq]; omega
    have k0 : decide (d1 = d2) = true := decide_eq_true (by omega)
    by_cases h1 : v1 = v2
    · have j1 : (v1 == v2) = true := by rw [beq_iff_eq]; omega
      have k1 : decide (v1 = v2) = true := decide_eq_true (by omega)
      by_cases h2 : n1 = n2
      · have j2 : ((n1 : Int) == (n2 : Int)) = true := by rw [beq_iff_eq]; omega
        have k2 : decide ((n1 : Int) = (n2 : Int)) = true := decide_eq_true (by omega)
        have hq : r = q := by rw [hr]; simp [h0, h1, h2]
        have HRQ := Lib.hid hq
        clear hr hq h0 h1 h2
        go_enter Tryd.func32, Tryd.ntmps32
        go_wp2_with (go_at_call 57; (with_reducible refine (equal57 a1 a2 c1 c2 m1 m2 l1 l2 _ q HE1.out HE2.out HS1.out HS2.out HX1.out HX2.out HQ.out).mono ?_); rintro e w' ⟨rfl, rfl⟩)
        go_ret
        exact ⟨ret_bool HRQ.out.symm, HB0.out⟩
      · have j2 : ((n1 : Int) == (n2 : Int)) = false := by rw [beq_eq_false_iff_ne]; omega
        have k2 : decide ((n1 : Int) = (n2 : Int)) = false := decide_eq_false (by omega)
        have hq : r = false := by rw [hr]; simp [h2]
        subst hq
        clear hr h0 h1 h2
        go_enter Tryd.func32, Tryd.ntmps32
        go_wp2
        go_ret
        exact ⟨rfl, HB0.out⟩
    · have j1 : (v1 == v2) = false := by rw [beq_eq_false_iff_ne]; omega
      have k1 : decide (v1 = v2) = false := decide_eq_false (by omega)
      have hq : r = false := by rw [hr]; simp [h1]
      subst hq
      clear hr h0 h1
      go_enter Tryd.func32, Tryd.ntmps32
      go_wp2
      go_ret
      exact ⟨rfl, HB0.out⟩
  · have j0 : (d1 == d2) = false := by rw [beq_eq_false_iff_ne]; omega
    have k0 : decide (d1 = d2) = false := decide_eq_false (by omega)
    have hq : r = false := by rw [hr]; simp [h0]
    subst hq
    clear hr h0
    go_enter Tryd.func32, Tryd.ntmps32
    go_wp2
    go_ret
    exact ⟨rfl, HB0.out⟩

set_option maxRecDepth 100000 in
set_option maxHeartbeats 1000000 in
theorem dsameP (d1 v1 : Int) (n1 : Nat) (a1 : Option Addr) (m1 c1 : Nat) (l1 : List Nat) (d2 v2 : Int) (n2 : Nat) (a2 : Option Addr) (m2 c2 : Nat) (l2 : List Nat) (w : World) (e1 : m1 = l1.length) (e2 : m2 = l2.length) (s1 : Sl w a1 l1) (s2 : Sl w a2 l2) (x1 : ∀ c ∈ l1, c < 256) (x2 : ∀ c ∈ l2, c < 256) (r : Bool) (hr : r = sameB d1 v1 n1 l1 d2 v2 n2 l2) :
    Calls Tryd.prog 29 #[.agg #[.int .i64 d1, .int .i64 v1, .int .u64 (n1 : Int), .slice a1 m1 c1], .agg #[.int .i64 d2, .int .i64 v2, .int .u64 (n2 : Int), .slice a2 m2 c2]] w fun e w' => e = .returned (.bool r) ∧ Below w.heap.size w w' := by
  have HB0 := Lib.hid (show Below w.heap.size w ((w.alloc (.cells #[.int .i64 d1, .int .i64 v1, .int .u64 (n1 : Int), .slice a1 m1 c1] 40)).alloc (.cells #[.int .i64 d2, .int .i64 v2, .int .u64 (n2 : Int), .slice a2 m2 c2] 40)) from ((Below.refl _ w).alloc (Nat.le_refl _) _).alloc (by simp) _)
  have HS1 := Lib.hid (sl_then HB0.out (Nat.le_refl _) s1)
  have HS2 := Lib.hid (sl_then HB0.out (Nat.le_refl _) s2)
  have HX1 := Lib.hid x1
  have HX2 := Lib.hid x2
  have HE1 := Lib.hid e1
  have HE2 := Lib.hid e2
  obtain ⟨q, hq⟩ : ∃ q, q = decide (l1 = l2) := ⟨_, rfl⟩
  have HQ := Lib.hid hq
  unfold sameB at hr
  rw [← hq] at hr
  clear s1 s2 x1 x2 e1 e2 hq
  by_cases h0 : d1 = d2
  · have j0 : (d1 == d2) = true := by rw [beq_iff_eq]; omega
    have k0 : decide (d1 = d2) = true := decide_eq_true (by omega)
    by_cases h1 : v1 = v2
    · have j1 : (v1 == v2) = true := by rw [beq_iff_eq]; omega
      have k1 : decide (v1 = v2) = true := decide_eq_true (by omega)
      by_cases h2 : n1 = n2
      · have j2 : ((n1 : Int) == (n2 : Int)) = true := by rw [beq_iff_eq]; omega
        have k2 : decide ((n1 : Int) = (n2 : Int)) = true := decide_eq_true (by omega)
        have hq : r = q := by rw [hr]; simp [h0, h1, h2]
        have HRQ := Lib.hid hq
        clear hr hq h0 h1 h2
        go_enter Tryd.func29, Tryd.ntmps29
        go_wp2_with (go_at_call 15; (with_reducible refine (bytesD a1 a2 c1 c2 m1 m2 l1 l2 _ q HE1.out HE2.out HS1.out HS2.out HX1.out HX2.out HQ.out).mono ?_); rintro e w' ⟨rfl, rfl⟩)
        go_ret
        exact ⟨ret_bool HRQ.out.symm, HB0.out⟩
      · have j2 : ((n1 : Int) == (n2 : Int)) = false := by rw [beq_eq_false_iff_ne]; omega
        have k2 : decide ((n1 : Int) = (n2 : Int)) = false := decide_eq_false (by omega)
        have hq : r = false := by rw [hr]; simp [h2]
        subst hq
        clear hr h0 h1 h2
        go_enter Tryd.func29, Tryd.ntmps29
        go_wp2
        go_ret
        exact ⟨rfl, HB0.out⟩
    · have j1 : (v1 == v2) = false := by rw [beq_eq_false_iff_ne]; omega
      have k1 : decide (v1 = v2) = false := decide_eq_false (by omega)
      have hq : r = false := by rw [hr]; simp [h1]
      subst hq
      clear hr h0 h1
      go_enter Tryd.func29, Tryd.ntmps29
      go_wp2
      go_ret
      exact ⟨rfl, HB0.out⟩
  · have j0 : (d1 == d2) = false := by rw [beq_eq_false_iff_ne]; omega
    have k0 : decide (d1 = d2) = false := decide_eq_false (by omega)
    have hq : r = false := by rw [hr]; simp [h0]
    subst hq
    clear hr h0
    go_enter Tryd.func29, Tryd.ntmps29
    go_wp2
    go_ret
    exact ⟨rfl, HB0.out⟩

theorem plainP (d v : Int) (n : Int) (a : Option Addr) (m c : Nat) (w : World) :
    Calls Tryd.prog 26 #[.agg #[.int .i64 d, .int .i64 v, .int .u64 n, .slice a m c]] w fun e w' => e = .returned (.agg #[.int .i64 d, .int .i64 v, .int .u64 n, .slice a m c]) ∧ Below w.heap.size w w' := by
  go_enter Tryd.func26, Tryd.ntmps26
  go_wp2
  exact bodyPost_ret (v := .agg #[.int .i64 d, .int .i64 v, .int .u64 n, .slice a m c]) (by simp [results, Tryd.results26, go_sem]) rfl ⟨rfl, by repeat (first | exact (Below.refl _ _).alloc (Nat.le_refl _) _ | refine Below.setCell ?_ (by simp) _ | refine Below.alloc ?_ (by simp) _)⟩
theorem be8_inj (n m : Nat) (hn : n < 18446744073709551616) (hm : m < 18446744073709551616) (h : be8 n = be8 m) : n = m := by rw [← be8_num n hn, ← be8_num m hm, h]
theorem pktL_inj {D V n D2 V2 n2 : Nat} {l l2 : List Nat} (hn : n < 18446744073709551616) (hm : n2 < 18446744073709551616) (h : pktL D V n l = pktL D2 V2 n2 l2) : D = D2 ∧ V = V2 ∧ n = n2 ∧ l = l2 := by
  rw [pktL_is, pktL_is] at h
  injection h with h1 h
  injection h with h2 h
  obtain ⟨h3, h4⟩ := List.append_inj h (by rw [be8_len, be8_len])
  exact ⟨h1, h2, be8_inj _ _ hn hm h3, h4⟩
theorem sealL_inj {key : List Nat} {D V n D2 V2 n2 : Nat} {l l2 : List Nat} (hn : n < 18446744073709551616) (hm : n2 < 18446744073709551616) (h : sealL key D V n l = sealL key D2 V2 n2 l2) : D = D2 ∧ V = V2 ∧ n = n2 ∧ l = l2 := by
  have hl := congrArg List.length h
  rw [sealL_len, sealL_len] at hl
  have h2 := congrArg (List.take (10 + l.length)) h
  rw [sealL_take, show l.length = l2.length by omega, sealL_take] at h2
  exact pktL_inj hn hm h2
theorem sealL_same (key : List Nat) (D V n D2 V2 n2 : Nat) (l l2 : List Nat) (hn : n < 18446744073709551616) (hm : n2 < 18446744073709551616) : decide (sealL key D V n l = sealL key D2 V2 n2 l2) = sameB (D : Int) (V : Int) n l (D2 : Int) (V2 : Int) n2 l2 := by
  unfold sameB
  by_cases h : sealL key D V n l = sealL key D2 V2 n2 l2
  · obtain ⟨rfl, rfl, rfl, rfl⟩ := sealL_inj hn hm h
    simp
  · rw [decide_eq_false h]
    symm
    rw [Bool.eq_false_iff]
    intro hh
    simp only [Bool.and_eq_true, decide_eq_true_eq] at hh
    obtain ⟨⟨⟨h1, h2⟩, h3⟩, h4⟩ := hh
    have e1 : D = D2 := by omega
    have e2 : V = V2 := by omega
    subst e1 e2 h3 h4
    exact h rfl

end Go.Proofs.YtmfkfpgomglplaaDoor.Dk
