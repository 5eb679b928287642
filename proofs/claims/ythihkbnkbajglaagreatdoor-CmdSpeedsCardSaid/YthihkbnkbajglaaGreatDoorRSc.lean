/- RateScales: the document's Scale, and the walk of the law. -/
import Derived.Test.YthihkbnkbajglaaGreatDoorScale2
import Derived.LoopTactic
import Derived.Deep.RegionHeld3
import Derived.Deep.QuietTactic
import Derived.BigQuiet
import Derived.Handy
set_option linter.unusedVariables false
namespace Go.Proofs.YthihkbnkbajglaaGreatDoor.RSc
open Go Go.RowKit Kit Nums Rate1 Scale Scale2

set_option maxRecDepth 100000 in
set_option maxHeartbeats 1000000 in
theorem rMay (n d : Nat) (w : World) (hn : n < 18446744073709551616) (hd : d < 18446744073709551616) :
    Calls Tryz.prog 87 #[.agg #[.int .u64 n, .int .u64 d]] w fun e w' => e = .returned (.bool (mayN n d)) ∧ w.alloc (.cells #[.int .u64 n, .int .u64 d] 39) = w' := by
  by_cases h0 : d = 0
  · subst h0
    have HE := Lib.hid (show mayN n 0 = false from by simp [mayN, mayX])
    go_enter Tryz.func87, Tryz.ntmps87
    go_wp2
    go_ret
    exact ⟨ret_bool HE.out.symm, rfl⟩
  · obtain ⟨X, hX⟩ : ∃ X, X = d &&& (d - 1) := ⟨_, rfl⟩
    have eX : bits .and .u64 (d : Int) ((d : Int) - 1) = (X : Int) := by
      have := u64_and_nat d (d - 1) hd (by omega)
      rw [show ((d - 1 : Nat) : Int) = (d : Int) - 1 from by omega] at this
      rw [this, hX]
    have HE := Lib.hid (show mayN n d = mayX n d X from by rw [mayN, hX])
    generalize mayN n d = B at HE
    have hne : ((d : Int) == 0) = false := by simp; omega
    have h1 : 1 ≤ d := by omega
    clear hX hn hd h0
    go_enter Tryz.func87, Tryz.ntmps87
    go_wp2
    all_goals go_ret
    all_goals refine ⟨ret_bool ?_, ?_⟩
    all_goals first
      | rfl
      | (simp_all; done)
      | (rw [HE.out]; simp_all [mayX]; done)
      | (rw [HE.out]; simp_all [mayX]; omega)
      | (rw [HE.out]; simp_all [mayX, par]; done)
      | (rw [HE.out]; simp_all [mayX, par]; omega)
      | (rw [HE.out, par, Bool.eq_iff_iff]; unfold mayX; simp_all; omega)


theorem pow_eq {k : Nat} (hk : k ≤ 20) : IntKind.u64.wrap (2 ^ k) = ((2 ^ k : Nat) : Int) := by
  have : 2 ^ k ≤ 2 ^ 20 := Nat.pow_le_pow_right (by decide) hk
  have e : (2 : Nat) ^ 20 = 1048576 := by decide
  rw [wu, show (2 : Int) ^ k = ((2 ^ k : Nat) : Int) from by rw [Int.natCast_pow]; rfl]
  generalize 2 ^ k = F at *
  omega
theorem pow_lt {j k : Nat} (hk : k ≤ 20) (h : j < k) : IntKind.u64.wrap (2 ^ j) < ((2 ^ k : Nat) : Int) := by
  rw [pow_eq (by omega)]
  have : 2 ^ j < 2 ^ k := Nat.pow_lt_pow_right (by decide) h
  exact_mod_cast this
theorem three {a b c x y : Int} (h : a = x) (g : b = y) : Ending.returned (.tuple #[.int .u64 a, .int .u64 b, .int .i64 c]) = .returned (.tuple #[.int .u64 x, .int .u64 y, .int .i64 c]) := by rw [h, g]
theorem rs_no {t r n d : Nat} (h : mayN n d = false ∨ d ≤ r) : scaleN t r n d = (0, 0, 1) := sc_no h
set_option maxRecDepth 100000 in
theorem rsNo (t r n d : Nat) (w : World) (hn : n < 18446744073709551616) (hd : d < 18446744073709551616) (hno : mayN n d = false ∨ d ≤ r) :
    Calls Tryz.prog 89 #[.int .u64 t, .int .u64 r, .agg #[.int .u64 n, .int .u64 d]] w (ScP (0, 0, 1) w) := by
  have hm := fun w => rMay n d w hn hd
  cases hB : mayN n d
  · rw [hB] at hm
    have HM := Lib.hid hm
    clear hm hB hno hn hd
    go_enter Tryz.func89, Tryz.ntmps89
    go_wp2_with fail
    refine (HM.out _).mono ?_
    rintro e w' ⟨rfl, rfl⟩
    go_wp2_with fail
    go_ret3
    exact ⟨rfl, ((Below.refl _ _).alloc (Nat.le_refl _) _).alloc (by simp) _⟩
  · rw [hB] at hm
    have HM := Lib.hid hm
    have hdr : (d : Int) ≤ r := by rw [hB] at hno; simp at hno; omega
    clear hm hB hno hn hd
    go_enter Tryz.func89, Tryz.ntmps89
    go_wp2_with fail
    refine (HM.out _).mono ?_
    rintro e w' ⟨rfl, rfl⟩
    go_wp2_with fail
    go_ret3
    exact ⟨rfl, ((Below.refl _ _).alloc (Nat.le_refl _) _).alloc (by simp) _⟩
set_option maxRecDepth 100000 in
set_option maxHeartbeats 2000000 in
/-- the document's steps, by names for what they reckon. -/
theorem rsBig (t r n d k : Nat) (w : World) (M : Hid (∀ w, Calls Tryz.prog 87 #[.agg #[.int .u64 n, .int .u64 d]] w fun e w' => e = .returned (.bool true) ∧ w.alloc (.cells #[.int .u64 n, .int .u64 d] 39) = w')) (hdr : ¬ (d : Int) ≤ r) (hk : k ≤ 20) (HD : Hid (d = 2 ^ k))
    (T0 T1 X L B Q R : Int) (m1 : bits .and .u64 (t : Int) 4294967295 = T0) (e1 : IntKind.u64.wrap (IntKind.u64.wrap (T0 * (n : Int)) + (r : Int)) = T1) (e2 : IntKind.u64.wrap (IntKind.u64.wrap ((t : Int) / 4294967296 * (n : Int)) + T1 / 4294967296) = X) (m2 : bits .and .u64 T1 4294967295 = L)
    (e3 : IntKind.u64.wrap (2 ^ (31 + k)) = B) (e4 : IntKind.u64.wrap (IntKind.u64.wrap (X * 2 ^ (32 - k)) + L / 2 ^ k) = Q) (e5 : bits .and .u64 L ((d : Int) - 1) = R)
    (S : Nat × Nat × Nat) (H1 : Hid (B ≤ X → S = (0, 0, 1))) (H2 : Hid (X < B → 4611686018427387904 < Q → S = (0, 0, 1))) (H3 : Hid (X < B → Q ≤ 4611686018427387904 → ∃ q r : Nat, Q = q ∧ R = r ∧ S = (q, r, 0))) :
    Calls Tryz.prog 89 #[.int .u64 t, .int .u64 r, .agg #[.int .u64 n, .int .u64 d]] w (ScP S w) := by
  have hd1 : 1 ≤ d := by rw [HD.out]; exact Nat.two_pow_pos k
  have hd20 : d ≤ 1048576 := by rw [HD.out]; exact Nat.pow_le_pow_right (n := 2) (by decide) hk
  have hdW : IntKind.u64.wrap ((d : Int) - 1) = (d : Int) - 1 := by rw [wu]; omega
  go_enter Tryz.func89, Tryz.ntmps89
  go_wp2_with fail
  refine (M.out _).mono ?_
  rintro e w' ⟨rfl, rfl⟩
  go_wp2_with fail
  go_loop [12] (fun s => ∃ j : Nat, j ≤ k ∧ s = .int .i64 (j : Int)) (fun s => k - (intOf s).toNat)
  case atStart => exact ⟨0, Nat.zero_le _, rfl⟩
  case round =>
    obtain ⟨j, hj, rfl⟩ := hrel
    by_cases hlt : j < k
    · obtain ⟨J, hJ, hJd⟩ : ∃ J : Int, IntKind.u64.wrap (2 ^ j) = J ∧ J < (d : Int) := ⟨_, rfl, by rw [HD.out]; exact pow_lt hk hlt⟩
      go_wp2_with fail
      go_round
      case rel => exact ⟨j + 1, by omega, by go_num⟩
      case measure => simp [intOf]; omega
    · obtain rfl : j = k := by omega
      have hJ : IntKind.u64.wrap (2 ^ j) = (d : Int) := by rw [HD.out]; exact pow_eq hk
      go_wp2_with fail
      · go_ret3
        rw [H1.out (by assumption)]
        exact ⟨rfl, ((Below.refl _ _).alloc (Nat.le_refl _) _).alloc (by simp) _⟩
      · go_ret3
        rw [H2.out (by assumption) (by assumption)]
        exact ⟨rfl, ((Below.refl _ _).alloc (Nat.le_refl _) _).alloc (by simp) _⟩
      · obtain ⟨q, r', hq, hr', hS⟩ := H3.out (by assumption) (by assumption)
        have HQ := Lib.hid hq
        have HR := Lib.hid hr'
        have HS := Lib.hid hS
        clear hq hr' hS
        go_quiet (fail)
        go_wp2
        go_ret3
        rw [HS.out]
        exact ⟨three HQ.out HR.out, below_drewN (((Below.refl _ _).alloc (Nat.le_refl _) _).alloc (by simp) _) _⟩
theorem rScale (t r n d : Nat) (w : World) (ht : t < 18446744073709551616) (hr : r < 18446744073709551616) (hn : n < 18446744073709551616) (hd : d < 18446744073709551616) :
    Calls Tryz.prog 89 #[.int .u64 t, .int .u64 r, .agg #[.int .u64 n, .int .u64 d]] w (ScP (scaleN t r n d) w) := by
  by_cases hno : mayN n d = false ∨ d ≤ r
  · rw [sc_no hno]; exact rsNo t r n d w hn hd hno
  · have hB : mayN n d = true := by cases h : mayN n d <;> simp_all
    have hrd : r < d := by rw [hB] at hno; simp at hno; omega
    have hm := fun w => rMay n d w hn hd
    rw [hB] at hm
    obtain ⟨k, hk, hdk, hnk, _⟩ := may_pow hB
    obtain ⟨p1, p2, p3⟩ := halves hk ht (by rw [← hdk]; exact hrd) hnk
    have c1 : ((t : Int) % 4294967296 * (n : Int)) = ((t % 4294967296 * n : Nat) : Int) := by rw [Int.natCast_mul, Int.natCast_emod]; rfl
    have c2 : ((t : Int) / 4294967296 * (n : Int)) = ((t / 4294967296 * n : Nat) : Int) := by rw [Int.natCast_mul, Int.natCast_ediv]; rfl
    have HS1 := @sc_big t r n d
    have HS2 := @sc_ok t r n d hB hrd
    generalize scaleN t r n d = S at HS1 HS2 ⊢
    generalize t % 4294967296 * n = A at *
    generalize t / 4294967296 * n = C at *
    obtain ⟨x, hx⟩ : ∃ x, x = C + (A + r) / 4294967296 := ⟨_, rfl⟩
    obtain ⟨low, hlow⟩ : ∃ low, low = (A + r) % 4294967296 := ⟨_, rfl⟩
    rw [← hx, ← hlow] at p3
    rw [← hx] at p2
    have hlowb : low < 4294967296 := by omega
    have e4 : x < 2 ^ (31 + k) → IntKind.u64.wrap (IntKind.u64.wrap ((x : Int) * 2 ^ (32 - k)) + (low : Int) / 2 ^ k) = ((x * 2 ^ (32 - k) + low / 2 ^ k : Nat) : Int) := by
      intro hxb
      obtain ⟨s1, s2⟩ := small hk hxb hlowb
      have a1 : ((x : Int) * 2 ^ (32 - k)) = ((x * 2 ^ (32 - k) : Nat) : Int) := by rw [Int.natCast_mul, Int.natCast_pow]; rfl
      have a2 : ((low : Int) / 2 ^ k) = ((low / 2 ^ k : Nat) : Int) := by rw [Int.natCast_ediv, Int.natCast_pow]; rfl
      rw [a1, a2, wu, wu]
      generalize x * 2 ^ (32 - k) = F at *
      generalize low / 2 ^ k = G at *
      omega
    have e5 : bits .and .u64 (low : Int) ((d : Int) - 1) = ((low % 2 ^ k : Nat) : Int) := by
      have hdp := Nat.two_pow_pos k
      rw [show (d : Int) - 1 = ((d - 1 : Nat) : Int) from by omega, u64_and_nat low (d - 1) (by omega) (by omega), hdk, Nat.and_two_pow_sub_one_eq_mod]
    have hpk : ((2 ^ (31 + k) : Nat) : Int) = IntKind.u64.wrap (2 ^ (31 + k)) := by
      have : 2 ^ (31 + k) ≤ 2 ^ 51 := Nat.pow_le_pow_right (by decide) (by omega)
      have e : (2 : Nat) ^ 51 = 2251799813685248 := by decide
      rw [wu, show (2 : Int) ^ (31 + k) = ((2 ^ (31 + k) : Nat) : Int) from by rw [Int.natCast_pow]; rfl]
      generalize 2 ^ (31 + k) = F at *
      omega
    have q1 := (quot (x := x) (low := low) hk).1
    have q2 := (quot (x := x) (low := low) hk).2
    rw [p3] at q1 q2
    rw [← hdk] at q1 q2
    refine rsBig t r n d k w (Lib.hid hm) (by omega) hk (Lib.hid hdk) ((t : Int) % 4294967296) ((A + r : Nat) : Int) x low ((2 ^ (31 + k) : Nat) : Int) _ _ (mask32 t ht) (by rw [c1, wu, wu]; omega) (by rw [c2, wu, wu]; omega) (by rw [mask32 (A + r) (by omega)]; omega) hpk.symm rfl e5 S
      (Lib.hid fun h => HS1 (by have := big (x := x) (low := low) hk (by exact_mod_cast h); rw [p3, ← hdk] at this; exact this))
      (Lib.hid fun h g => HS1 (by rw [e4 (by exact_mod_cast h)] at g; rw [q1, hdk]; omega))
      (Lib.hid fun h g => ⟨x * 2 ^ (32 - k) + low / 2 ^ k, low % 2 ^ k, e4 (by exact_mod_cast h), rfl, by
        rw [e4 (by exact_mod_cast h)] at g
        rw [HS2 (by rw [q1, hdk]; omega), q1, q2, hdk]⟩)
end Go.Proofs.YthihkbnkbajglaaGreatDoor.RSc
