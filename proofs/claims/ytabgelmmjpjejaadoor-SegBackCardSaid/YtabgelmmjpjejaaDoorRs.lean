/- Are two records the same; the first example. -/
import Derived.Test.YtabgelmmjpjejaaDoorDc
import Derived.Test.YtabgelmmjpjejaaDoorRz
set_option linter.unusedVariables false
namespace Go.Proofs.YtabgelmmjpjejaaDoor.Rs
open Go Go.RowKit Kit Crc Var Get Ref3 Copy Bytes Bx Py Py2 Ry Rz Dn Df Dd Da Dc


/-- are two records alike? -/
def sameR (k1 : Int) (s1 t1 : Nat) (l1 : List Nat) (k2 : Int) (s2 t2 : Nat) (l2 : List Nat) : Bool := decide (k1 = k2) && decide (s1 = s2) && decide (t1 = t2) && decide (l1 = l2)
theorem bytesK (a1 a2 : Option Addr) (c1 c2 n1 n2 : Nat) (l1 l2 : List Nat) (w : World) (r : Bool) (e1 : n1 = l1.length) (e2 : n2 = l2.length) (h1 : Sl w a1 l1) (h2 : Sl w a2 l2) (m1 : ∀ c ∈ l1, c < 256) (m2 : ∀ c ∈ l2, c < 256) (hr : r = decide (l1 = l2)) :
    Calls Tryd.prog 16 #[.slice a1 n1 c1, .slice a2 n2 c2] w fun e w' => e = .returned (.bool r) ∧ w = w' := by
  subst e1 e2 hr
  exact bytesC a1 a2 c1 c2 l1 l2 w h1 h2 m1 m2

set_option maxRecDepth 100000 in
set_option maxHeartbeats 1000000 in
theorem sameK (k1 : Int) (s1 t1 : Nat) (a1 : Option Addr) (m1 c1 : Nat) (l1 : List Nat) (k2 : Int) (s2 t2 : Nat) (a2 : Option Addr) (m2 c2 : Nat) (l2 : List Nat) (w : World) (e1 : m1 = l1.length) (e2 : m2 = l2.length) (z1 : Sl w a1 l1) (z2 : Sl w a2 l2) (x1 : ∀ c ∈ l1, c < 256) (x2 : ∀ c ∈ l2, c < 256) (r : Bool) (hr : r = sameR k1 s1 t1 l1 k2 s2 t2 l2) :
    Calls Tryd.prog 20 #[.agg #[.int .i64 k1, .int .u64 (s1 : Int), .int .u64 (t1 : Int), .slice a1 m1 c1], .agg #[.int .i64 k2, .int .u64 (s2 : Int), .int .u64 (t2 : Int), .slice a2 m2 c2]] w fun e w' => e = .returned (.bool r) ∧ Below w.heap.size w w' := by
  have HB0 := Lib.hid (show Below w.heap.size w ((w.alloc (.cells #[.int .i64 k1, .int .u64 (s1 : Int), .int .u64 (t1 : Int), .slice a1 m1 c1] 25)).alloc (.cells #[.int .i64 k2, .int .u64 (s2 : Int), .int .u64 (t2 : Int), .slice a2 m2 c2] 25)) from ((Below.refl _ w).alloc (Nat.le_refl _) _).alloc (by simp) _)
  have HS1 := Lib.hid (sl_then HB0.out (Nat.le_refl _) z1)
  have HS2 := Lib.hid (sl_then HB0.out (Nat.le_refl _) z2)
  have HX1 := Lib.hid x1
  have HX2 := Lib.hid x2
  have HE1 := Lib.hid e1
  have HE2 := Lib.hid e2
  obtain ⟨q, hq⟩ : ∃ q, q = decide (l1 = l2) := ⟨_, rfl⟩
  have HQ := Lib.hid hq
  unfold sameR at hr
  rw [← hq] at hr
  clear z1 z2 x1 x2 e1 e2 hq
  by_cases h0 : k1 = k2
  · have j0 : (k1 == k2) = true := by rw [beq_iff_eq]; omega
    have k0' : decide (k1 = k2) = true := decide_eq_true (by omega)
    by_cases h1 : s1 = s2
    · have j1 : ((s1 : Int) == (s2 : Int)) = true := by rw [beq_iff_eq]; omega
      have k1' : decide ((s1 : Int) = (s2 : Int)) = true := decide_eq_true (by omega)
      by_cases h2 : t1 = t2
      · have j2 : ((t1 : Int) == (t2 : Int)) = true := by rw [beq_iff_eq]; omega
        have k2' : decide ((t1 : Int) = (t2 : Int)) = true := decide_eq_true (by omega)
        have hq : r = q := by rw [hr]; simp [h0, h1, h2]
        have HRQ := Lib.hid hq
        clear hr hq h0 h1 h2
        go_enter Tryd.func20, Tryd.ntmps20
        go_wp2_with (go_at_call 44; (with_reducible refine (equalK a1 a2 c1 c2 m1 m2 l1 l2 _ q HE1.out HE2.out HS1.out HS2.out HX1.out HX2.out HQ.out).mono ?_); rintro e w' ⟨rfl, rfl⟩)
        go_ret
        exact ⟨ret_bool HRQ.out.symm, HB0.out⟩
      · have j2 : ((t1 : Int) == (t2 : Int)) = false := by rw [beq_eq_false_iff_ne]; omega
        have k2' : decide ((t1 : Int) = (t2 : Int)) = false := decide_eq_false (by omega)
        have hq : r = false := by rw [hr]; simp [h2]
        subst hq
        clear hr h0 h1 h2
        go_enter Tryd.func20, Tryd.ntmps20
        go_wp2
        go_ret
        exact ⟨rfl, HB0.out⟩
    · have j1 : ((s1 : Int) == (s2 : Int)) = false := by rw [beq_eq_false_iff_ne]; omega
      have k1' : decide ((s1 : Int) = (s2 : Int)) = false := decide_eq_false (by omega)
      have hq : r = false := by rw [hr]; simp [h1]
      subst hq
      clear hr h0 h1
      go_enter Tryd.func20, Tryd.ntmps20
      go_wp2
      go_ret
      exact ⟨rfl, HB0.out⟩
  · have j0 : (k1 == k2) = false := by rw [beq_eq_false_iff_ne]; omega
    have k0' : decide (k1 = k2) = false := decide_eq_false (by omega)
    have hq : r = false := by rw [hr]; simp [h0]
    subst hq
    clear hr h0
    go_enter Tryd.func20, Tryd.ntmps20
    go_wp2
    go_ret
    exact ⟨rfl, HB0.out⟩

set_option maxRecDepth 100000 in
set_option maxHeartbeats 1000000 in
theorem dsameK (k1 : Int) (s1 t1 : Nat) (a1 : Option Addr) (m1 c1 : Nat) (l1 : List Nat) (k2 : Int) (s2 t2 : Nat) (a2 : Option Addr) (m2 c2 : Nat) (l2 : List Nat) (w : World) (e1 : m1 = l1.length) (e2 : m2 = l2.length) (z1 : Sl w a1 l1) (z2 : Sl w a2 l2) (x1 : ∀ c ∈ l1, c < 256) (x2 : ∀ c ∈ l2, c < 256) (r : Bool) (hr : r = sameR k1 s1 t1 l1 k2 s2 t2 l2) :
    Calls Tryd.prog 17 #[.agg #[.int .i64 k1, .int .u64 (s1 : Int), .int .u64 (t1 : Int), .slice a1 m1 c1], .agg #[.int .i64 k2, .int .u64 (s2 : Int), .int .u64 (t2 : Int), .slice a2 m2 c2]] w fun e w' => e = .returned (.bool r) ∧ Below w.heap.size w w' := by
  have HB0 := Lib.hid (show Below w.heap.size w ((w.alloc (.cells #[.int .i64 k1, .int .u64 (s1 : Int), .int .u64 (t1 : Int), .slice a1 m1 c1] 31)).alloc (.cells #[.int .i64 k2, .int .u64 (s2 : Int), .int .u64 (t2 : Int), .slice a2 m2 c2] 31)) from ((Below.refl _ w).alloc (Nat.le_refl _) _).alloc (by simp) _)
  have HS1 := Lib.hid (sl_then HB0.out (Nat.le_refl _) z1)
  have HS2 := Lib.hid (sl_then HB0.out (Nat.le_refl _) z2)
  have HX1 := Lib.hid x1
  have HX2 := Lib.hid x2
  have HE1 := Lib.hid e1
  have HE2 := Lib.hid e2
  obtain ⟨q, hq⟩ : ∃ q, q = decide (l1 = l2) := ⟨_, rfl⟩
  have HQ := Lib.hid hq
  unfold sameR at hr
  rw [← hq] at hr
  clear z1 z2 x1 x2 e1 e2 hq
  by_cases h0 : k1 = k2
  · have j0 : (k1 == k2) = true := by rw [beq_iff_eq]; omega
    have k0' : decide (k1 = k2) = true := decide_eq_true (by omega)
    by_cases h1 : s1 = s2
    · have j1 : ((s1 : Int) == (s2 : Int)) = true := by rw [beq_iff_eq]; omega
      have k1' : decide ((s1 : Int) = (s2 : Int)) = true := decide_eq_true (by omega)
      by_cases h2 : t1 = t2
      · have j2 : ((t1 : Int) == (t2 : Int)) = true := by rw [beq_iff_eq]; omega
        have k2' : decide ((t1 : Int) = (t2 : Int)) = true := decide_eq_true (by omega)
        have hq : r = q := by rw [hr]; simp [h0, h1, h2]
        have HRQ := Lib.hid hq
        clear hr hq h0 h1 h2
        go_enter Tryd.func17, Tryd.ntmps17
        go_wp2_with (go_at_call 16; (with_reducible refine (bytesK a1 a2 c1 c2 m1 m2 l1 l2 _ q HE1.out HE2.out HS1.out HS2.out HX1.out HX2.out HQ.out).mono ?_); rintro e w' ⟨rfl, rfl⟩)
        go_ret
        exact ⟨ret_bool HRQ.out.symm, HB0.out⟩
      · have j2 : ((t1 : Int) == (t2 : Int)) = false := by rw [beq_eq_false_iff_ne]; omega
        have k2' : decide ((t1 : Int) = (t2 : Int)) = false := decide_eq_false (by omega)
        have hq : r = false := by rw [hr]; simp [h2]
        subst hq
        clear hr h0 h1 h2
        go_enter Tryd.func17, Tryd.ntmps17
        go_wp2
        go_ret
        exact ⟨rfl, HB0.out⟩
    · have j1 : ((s1 : Int) == (s2 : Int)) = false := by rw [beq_eq_false_iff_ne]; omega
      have k1' : decide ((s1 : Int) = (s2 : Int)) = false := decide_eq_false (by omega)
      have hq : r = false := by rw [hr]; simp [h1]
      subst hq
      clear hr h0 h1
      go_enter Tryd.func17, Tryd.ntmps17
      go_wp2
      go_ret
      exact ⟨rfl, HB0.out⟩
  · have j0 : (k1 == k2) = false := by rw [beq_eq_false_iff_ne]; omega
    have k0' : decide (k1 = k2) = false := decide_eq_false (by omega)
    have hq : r = false := by rw [hr]; simp [h0]
    subst hq
    clear hr h0
    go_enter Tryd.func17, Tryd.ntmps17
    go_wp2
    go_ret
    exact ⟨rfl, HB0.out⟩

theorem crc_first : recL 1 1 0 [] = [167, 92] ++ fourL ((crc [1, 1, 0, 0] : Nat) : Int) ++ [1, 1, 0, 0] := by
  unfold recL restL
  rw [varL_small (by decide), varL_small (by decide), varL_small (by decide)]; rfl
theorem enc_first : encL 1 1 0 [] = recL 1 1 0 [] := by unfold encL; rw [if_pos (by decide)]; rfl
theorem may_first : mayR 1 1 0 ([] : List Nat).length = true := by decide
theorem rec_ten : (recL 1 1 0 []).length = 10 := by rw [crc_first]; rfl
theorem dec_first : decA (recL 1 1 0 []) 0 = ⟨0, 1, 1, 0, [], 10⟩ := by
  have := dec_on 1 1 0 [] [] may_first
  rw [List.append_nil] at this
  rw [decA, if_neg (by omega), show (0 : Int).toNat = 0 from rfl, List.drop_zero, this, rec_ten]

end Go.Proofs.YtabgelmmjpjejaaDoor.Rs
