/- Speeds: what may be one, and how far ticks go (rate.May, rate.Scale, the document's the same). -/
import Derived.Test.YthihkbnkbajglaaGreatDoorKit
import Derived.Test.YthihkbnkbajglaaGreatDoorNums
import Derived.Test.YthihkbnkbajglaaGreatDoorRate1
import Derived.BigQuiet
import Derived.IntWalk
import Derived.Deep.QuietTactic
import Derived.LoopTactic
import Derived.Outline
set_option linter.unusedVariables false
namespace Go.Proofs.YthihkbnkbajglaaGreatDoor.Scale
open Go Go.RowKit Kit Nums Rate1

/-- may a fraction be a speed? -/
def mayX (n d X : Nat) : Bool := decide (1 ≤ d ∧ d ≤ 1048576 ∧ X = 0 ∧ n ≤ 1024 * d ∧ (d = 1 ∨ n % 2 = 1))
def mayN (n d : Nat) : Bool := mayX n d (d &&& (d - 1))
theorem may_pow {n d : Nat} (h : mayN n d = true) : ∃ k, k ≤ 20 ∧ d = 2 ^ k ∧ n ≤ 1024 * 2 ^ k ∧ (k = 0 ∨ n % 2 = 1) := by
  simp only [mayN, mayX, decide_eq_true_eq] at h
  obtain ⟨h1, h2, h3, h4, h5⟩ := h
  obtain ⟨k, hk⟩ := (Nat.and_sub_one_eq_zero_iff_isPowerOfTwo (by omega)).1 h3
  have hk20 : k ≤ 20 := by
    rcases Nat.lt_or_ge 20 k with hgt | hle
    · exfalso
      have : 2 ^ 21 ≤ 2 ^ k := Nat.pow_le_pow_right (by decide) hgt
      have e : (2 : Nat) ^ 21 = 2097152 := by decide
      omega
    · exact hle
  refine ⟨k, hk20, hk, by rw [← hk]; exact h4, ?_⟩
  rcases h5 with h5 | h5
  · left
    rcases Nat.eq_zero_or_pos k with h0 | h0
    · exact h0
    · exfalso
      have : 2 ^ 1 ≤ 2 ^ k := Nat.pow_le_pow_right (by decide) h0
      omega
  · exact .inr h5
/-- how far ticks go, and what is left. -/
def scaleN (t r n d : Nat) : Nat × Nat × Nat :=
  if mayN n d = true ∧ r < d then if (t * n + r) / d ≤ 4611686018427387904 then ((t * n + r) / d, (t * n + r) % d, 0) else (0, 0, 1) else (0, 0, 1)
/-- the document's halves. -/
theorem halves {t r n k : Nat} (hk : k ≤ 20) (ht : t < 18446744073709551616) (hr : r < 2 ^ k) (hn : n ≤ 1024 * 2 ^ k) :
    t % 4294967296 * n + r < 18446744073709551616 ∧ t / 4294967296 * n + (t % 4294967296 * n + r) / 4294967296 < 9223372036854775808 ∧
    (t / 4294967296 * n + (t % 4294967296 * n + r) / 4294967296) * 4294967296 + (t % 4294967296 * n + r) % 4294967296 = t * n + r := by
  have hp : 2 ^ k ≤ 2 ^ 20 := Nat.pow_le_pow_right (by decide) hk
  have e : (2 : Nat) ^ 20 = 1048576 := by decide
  have hn' : n ≤ 1073741824 := by omega
  have m1 : t % 4294967296 * n ≤ 4294967295 * 1073741824 := Nat.mul_le_mul (by omega) hn'
  have m2 : t / 4294967296 * n ≤ 4294967295 * 1073741824 := Nat.mul_le_mul (by omega) hn'
  refine ⟨by omega, by omega, ?_⟩
  have : t * n = (t / 4294967296 * n) * 4294967296 + t % 4294967296 * n := by
    conv => lhs; rw [← Nat.div_add_mod t 4294967296]
    rw [Nat.add_mul, Nat.mul_assoc, Nat.mul_comm 4294967296]
  omega
theorem quot {x low k : Nat} (hk : k ≤ 20) : (x * 4294967296 + low) / 2 ^ k = x * 2 ^ (32 - k) + low / 2 ^ k ∧ (x * 4294967296 + low) % 2 ^ k = low % 2 ^ k := by
  have e : x * 4294967296 = x * 2 ^ (32 - k) * 2 ^ k := by
    rw [Nat.mul_assoc, ← Nat.pow_add, show 32 - k + k = 32 by omega]
  rw [e]
  refine ⟨?_, ?_⟩
  · rw [Nat.add_comm, Nat.add_mul_div_right _ _ (Nat.two_pow_pos k), Nat.add_comm]
  · rw [Nat.add_comm, Nat.add_mul_mod_self_right]
theorem big {x low k : Nat} (hk : k ≤ 20) (h : 2 ^ (31 + k) ≤ x) : 4611686018427387904 < (x * 4294967296 + low) / 2 ^ k := by
  rw [(quot hk).1]
  have : 2 ^ (31 + k) * 2 ^ (32 - k) ≤ x * 2 ^ (32 - k) := Nat.mul_le_mul_right _ h
  rw [← Nat.pow_add, show 31 + k + (32 - k) = 63 by omega] at this
  have e : (2 : Nat) ^ 63 = 9223372036854775808 := by decide
  generalize low / 2 ^ k = z
  omega
theorem small {x low k : Nat} (hk : k ≤ 20) (h : x < 2 ^ (31 + k)) (hl : low < 4294967296) : x * 2 ^ (32 - k) < 9223372036854775808 ∧ x * 2 ^ (32 - k) + low / 2 ^ k < 9223372036854775808 := by
  have h1 : (x + 1) * 2 ^ (32 - k) ≤ 2 ^ (31 + k) * 2 ^ (32 - k) := Nat.mul_le_mul_right _ h
  rw [← Nat.pow_add, show 31 + k + (32 - k) = 63 by omega, Nat.add_mul] at h1
  have e : (2 : Nat) ^ 63 = 9223372036854775808 := by decide
  have h2 : low / 2 ^ k < 2 ^ (32 - k) := by
    rw [Nat.div_lt_iff_lt_mul (Nat.two_pow_pos k), ← Nat.pow_add, show 32 - k + k = 32 by omega]
    exact hl
  have h3 := Nat.two_pow_pos (32 - k)
  omega
theorem par (n : Nat) : ((n : Int) % 2 == 1) = decide (n % 2 = 1) := by
  rw [Bool.eq_iff_iff]; simp; omega
set_option maxRecDepth 100000 in
set_option maxHeartbeats 1000000 in
theorem mayC (n d : Nat) (w : World) (hn : n < 18446744073709551616) (hd : d < 18446744073709551616) :
    Calls Tryz.prog 56 #[.agg #[.int .u64 n, .int .u64 d]] w fun e w' => e = .returned (.bool (mayN n d)) ∧ w.alloc (.cells #[.int .u64 n, .int .u64 d] 51) = w' := by
  by_cases h0 : d = 0
  · subst h0
    have HE := Lib.hid (show mayN n 0 = false from by simp [mayN, mayX])
    go_enter Tryz.func56, Tryz.ntmps56
    go_wp2
    go_ret
    exact ⟨ret_bool HE.out.symm, rfl⟩
  · obtain ⟨X, hX⟩ : ∃ X, X = d &&& (d - 1) := ⟨_, rfl⟩
    have eX : bits .and .u64 (d : Int) ((d : Int) - 1) = (X : Int) := by
      have := u64_and_nat d (d - 1) hd (by omega)
      rw [show ((d - 1 : Nat) : Int) = (d : Int) - 1 from by omega] at this
      rw [this, hX]
    have HE := Lib.hid (show mayN n d = mayX n d X from by rw [mayN, hX])
    generalize mayN n d = B at HE
    have hne : ((d : Int) == 0) = false := by simp; omega
    have h1 : 1 ≤ d := by omega
    clear hX hn hd h0
    go_enter Tryz.func56, Tryz.ntmps56
    go_wp2
    all_goals go_ret
    all_goals refine ⟨ret_bool ?_, ?_⟩
    all_goals first
      | rfl
      | (simp_all; done)
      | (rw [HE.out]; simp_all [mayX]; done)
      | (rw [HE.out]; simp_all [mayX]; omega)
      | (rw [HE.out]; simp_all [mayX, par]; done)
      | (rw [HE.out]; simp_all [mayX, par]; omega)
      | (rw [HE.out, par, Bool.eq_iff_iff]; unfold mayX; simp_all; omega)
set_option maxRecDepth 100000 in
set_option maxHeartbeats 1000000 in
theorem divBig (hi lo d : Nat) (s : Nat) (w : World) (h0 : 0 < hi) (hh : hi < d) (hs1 : 43 ≤ s) (hs2 : s ≤ 63) (L : Hid (∀ w, Calls Tryz.prog 122 #[.int .u64 (d : Int)] w fun e w' => e = .returned (.int .i64 (s : Int)) ∧ w = w'))
    (Y U V M : Int) (e1 : IntKind.u64.wrap ((d : Int) * 2 ^ s) = Y) (e2 : Y / 4294967296 = 2147483648) (e3 : bits .and .u64 Y 4294967295 = 0)
    (e4 : bits .or .u64 (IntKind.u64.wrap ((hi : Int) * 2 ^ s)) ((lo : Int) / 2 ^ (64 - s)) = U) (e5 : IntKind.u64.wrap ((lo : Int) * 2 ^ s) = V) (e6 : bits .and .u64 V 4294967295 = M) (hU0 : 0 ≤ U) (hU : U < 9223372036854775808) (N : Int) (eN : V / 4294967296 = N) (hN0 : 0 ≤ N) (hN : N < 4294967296) (hM0 : 0 ≤ M) (hM : M < 4294967296) (W : Int) (eW : IntKind.u64.wrap (IntKind.u64.wrap (IntKind.u64.wrap (U * 4294967296) + N) - IntKind.u64.wrap (U / 2147483648 * Y)) = W) (hW0 : 0 ≤ W) (hW : W < 9223372036854775808) (Q R : Int)
    (eQ : U / 2147483648 * 4294967296 + W / 2147483648 = Q) (eR : IntKind.u64.wrap (IntKind.u64.wrap (IntKind.u64.wrap (W * 4294967296) + M) - IntKind.u64.wrap (W / 2147483648 * Y)) / 2 ^ s = R) :
    Calls Tryz.prog 103 #[.int .u64 hi, .int .u64 lo, .int .u64 (d : Int)] w fun e w' => e = .returned (.tuple #[.int .u64 Q, .int .u64 R]) ∧ w = w' := by
  have hne : ((hi : Int) == 0) = false := by simp; omega
  have hd0 : ((d : Int) == 0) = false := by simp; omega
  have hdh : ¬ (d : Int) ≤ hi := by omega
  go_enter Tryz.func103, Tryz.ntmps103
  go_wp2_with fail
  refine (L.out _).mono ?_
  rintro e w1 ⟨rfl, rfl⟩
  go_wp2_with fail
  refine wp_loop_rounds 1 ?_
  rw [rounds_succ]
  go_wp2_with fail
  refine wp_loop_rounds 1 ?_
  rw [rounds_succ]
  go_wp2_with fail
  go_ret2
  exact ⟨rfl, rfl⟩
theorem wu (n : Int) : IntKind.u64.wrap n = n % 18446744073709551616 := IntKind.wrap_u64 n
/-- the two halves, put together: s places up, then the quotients by half a word (T: 2^64, H: 2^63). -/
theorem up_parts {hi lo s t T H : Nat} (hT : 2 ^ (t + 1) * 2 ^ s = T) (hH : 2 ^ s * 2 ^ t = H) (hTH : T = 2 * H) (hh : hi < 2 ^ t) (hl : lo < T) :
    (hi * T + lo) * 2 ^ s = (hi * 2 ^ s + lo / 2 ^ (t + 1)) * T + lo * 2 ^ s % T ∧ hi * 2 ^ s + lo / 2 ^ (t + 1) < H ∧
      (hi * T + lo) / 2 ^ t = ((hi * 2 ^ s + lo / 2 ^ (t + 1)) * T + lo * 2 ^ s % T) / H ∧ (hi * T + lo) % 2 ^ t = ((hi * 2 ^ s + lo / 2 ^ (t + 1)) * T + lo * 2 ^ s % T) % H / 2 ^ s := by
  have hv : lo * 2 ^ s / T = lo / 2 ^ (t + 1) := by
    rw [← hT, Nat.mul_div_mul_right _ _ (Nat.two_pow_pos s)]
  have hN : (hi * T + lo) * 2 ^ s = (hi * 2 ^ s + lo / 2 ^ (t + 1)) * T + lo * 2 ^ s % T := by
    have := Nat.div_add_mod (lo * 2 ^ s) T
    rw [hv] at this
    rw [Nat.add_mul, Nat.add_mul, Nat.mul_right_comm hi, Nat.add_assoc, Nat.mul_comm (lo / 2 ^ (t + 1)), this]
  refine ⟨hN, ?_, ?_, ?_⟩
  · have h1 : (hi + 1) * 2 ^ s ≤ 2 ^ t * 2 ^ s := Nat.mul_le_mul_right _ hh
    rw [Nat.mul_comm (2 ^ t), hH, Nat.add_mul] at h1
    have h2 : lo / 2 ^ (t + 1) < 2 ^ s := by
      rw [Nat.div_lt_iff_lt_mul (Nat.two_pow_pos _), Nat.mul_comm, hT]; exact hl
    omega
  · rw [← hN, ← hH, Nat.mul_comm (2 ^ s), Nat.mul_div_mul_right _ _ (Nat.two_pow_pos s)]
  · rw [← hN, ← hH, Nat.mul_comm (2 ^ s), Nat.mul_mod_mul_right, Nat.mul_div_cancel _ (Nat.two_pow_pos s)]
theorem split_q (u v : Nat) : (u * 18446744073709551616 + v) / 9223372036854775808 = u / 2147483648 * 4294967296 + ((u % 2147483648) * 4294967296 + v / 4294967296) / 2147483648 := by omega
theorem split_r (u v : Nat) : (u * 18446744073709551616 + v) % 9223372036854775808 = ((u % 2147483648) * 4294967296 + v / 4294967296) % 2147483648 * 4294967296 + v % 4294967296 := by omega

theorem or_parts {a b j : Nat} (hb : b < 2 ^ j) (hs : a * 2 ^ j + b < 18446744073709551616) : bits .or .u64 ((a * 2 ^ j : Nat) : Int) (b : Int) = ((a * 2 ^ j + b : Nat) : Int) := by
  rw [u64_or_nat _ _ (by omega) (by omega), Nat.mul_comm, ← Nat.two_pow_add_eq_or_of_lt hb]
theorem mask32 (V : Nat) (h1 : V < 18446744073709551616) : bits .and .u64 (V : Int) 4294967295 = (V : Int) % 4294967296 := by
  have := u64_and_nat V 4294967295 h1 (by decide)
  rw [show ((4294967295 : Nat) : Int) = 4294967295 from rfl] at this
  rw [this, show (4294967295 : Nat) = 2 ^ 32 - 1 from rfl, Nat.and_two_pow_sub_one_eq_mod]
  omega
theorem w_eq (u N : Int) (h0 : 0 ≤ u) (h1 : u < 9223372036854775808) (hN0 : 0 ≤ N) (hN : N < 4294967296) :
    IntKind.u64.wrap (IntKind.u64.wrap (IntKind.u64.wrap (u * 4294967296) + N) - IntKind.u64.wrap (u / 2147483648 * 9223372036854775808)) = u % 2147483648 * 4294967296 + N := by
  simp only [wu]; omega
set_option maxRecDepth 100000 in
theorem len_1 (w : World) : Calls Tryz.prog 122 #[.int .u64 2] w fun e w' => e = .returned (.int .i64 62) ∧ w = w' := by
  go_enter Tryz.func122, Tryz.ntmps122
  go_wp2
  go_ret
  exact ⟨ret_int (by decide +kernel), rfl⟩
set_option maxRecDepth 100000 in
theorem len_2 (w : World) : Calls Tryz.prog 122 #[.int .u64 4] w fun e w' => e = .returned (.int .i64 61) ∧ w = w' := by
  go_enter Tryz.func122, Tryz.ntmps122
  go_wp2
  go_ret
  exact ⟨ret_int (by decide +kernel), rfl⟩
set_option maxRecDepth 100000 in
theorem len_3 (w : World) : Calls Tryz.prog 122 #[.int .u64 8] w fun e w' => e = .returned (.int .i64 60) ∧ w = w' := by
  go_enter Tryz.func122, Tryz.ntmps122
  go_wp2
  go_ret
  exact ⟨ret_int (by decide +kernel), rfl⟩
set_option maxRecDepth 100000 in
theorem len_4 (w : World) : Calls Tryz.prog 122 #[.int .u64 16] w fun e w' => e = .returned (.int .i64 59) ∧ w = w' := by
  go_enter Tryz.func122, Tryz.ntmps122
  go_wp2
  go_ret
  exact ⟨ret_int (by decide +kernel), rfl⟩
set_option maxRecDepth 100000 in
theorem len_5 (w : World) : Calls Tryz.prog 122 #[.int .u64 32] w fun e w' => e = .returned (.int .i64 58) ∧ w = w' := by
  go_enter Tryz.func122, Tryz.ntmps122
  go_wp2
  go_ret
  exact ⟨ret_int (by decide +kernel), rfl⟩
set_option maxRecDepth 100000 in
theorem len_6 (w : World) : Calls Tryz.prog 122 #[.int .u64 64] w fun e w' => e = .returned (.int .i64 57) ∧ w = w' := by
  go_enter Tryz.func122, Tryz.ntmps122
  go_wp2
  go_ret
  exact ⟨ret_int (by decide +kernel), rfl⟩
set_option maxRecDepth 100000 in
theorem len_7 (w : World) : Calls Tryz.prog 122 #[.int .u64 128] w fun e w' => e = .returned (.int .i64 56) ∧ w = w' := by
  go_enter Tryz.func122, Tryz.ntmps122
  go_wp2
  go_ret
  exact ⟨ret_int (by decide +kernel), rfl⟩
set_option maxRecDepth 100000 in
theorem len_8 (w : World) : Calls Tryz.prog 122 #[.int .u64 256] w fun e w' => e = .returned (.int .i64 55) ∧ w = w' := by
  go_enter Tryz.func122, Tryz.ntmps122
  go_wp2
  go_ret
  exact ⟨ret_int (by decide +kernel), rfl⟩
set_option maxRecDepth 100000 in
theorem len_9 (w : World) : Calls Tryz.prog 122 #[.int .u64 512] w fun e w' => e = .returned (.int .i64 54) ∧ w = w' := by
  go_enter Tryz.func122, Tryz.ntmps122
  go_wp2
  go_ret
  exact ⟨ret_int (by decide +kernel), rfl⟩
set_option maxRecDepth 100000 in
theorem len_10 (w : World) : Calls Tryz.prog 122 #[.int .u64 1024] w fun e w' => e = .returned (.int .i64 53) ∧ w = w' := by
  go_enter Tryz.func122, Tryz.ntmps122
  go_wp2
  go_ret
  exact ⟨ret_int (by decide +kernel), rfl⟩
set_option maxRecDepth 100000 in
theorem len_11 (w : World) : Calls Tryz.prog 122 #[.int .u64 2048] w fun e w' => e = .returned (.int .i64 52) ∧ w = w' := by
  go_enter Tryz.func122, Tryz.ntmps122
  go_wp2
  go_ret
  exact ⟨ret_int (by decide +kernel), rfl⟩
set_option maxRecDepth 100000 in
theorem len_12 (w : World) : Calls Tryz.prog 122 #[.int .u64 4096] w fun e w' => e = .returned (.int .i64 51) ∧ w = w' := by
  go_enter Tryz.func122, Tryz.ntmps122
  go_wp2
  go_ret
  exact ⟨ret_int (by decide +kernel), rfl⟩
set_option maxRecDepth 100000 in
theorem len_13 (w : World) : Calls Tryz.prog 122 #[.int .u64 8192] w fun e w' => e = .returned (.int .i64 50) ∧ w = w' := by
  go_enter Tryz.func122, Tryz.ntmps122
  go_wp2
  go_ret
  exact ⟨ret_int (by decide +kernel), rfl⟩
set_option maxRecDepth 100000 in
theorem len_14 (w : World) : Calls Tryz.prog 122 #[.int .u64 16384] w fun e w' => e = .returned (.int .i64 49) ∧ w = w' := by
  go_enter Tryz.func122, Tryz.ntmps122
  go_wp2
  go_ret
  exact ⟨ret_int (by decide +kernel), rfl⟩
set_option maxRecDepth 100000 in
theorem len_15 (w : World) : Calls Tryz.prog 122 #[.int .u64 32768] w fun e w' => e = .returned (.int .i64 48) ∧ w = w' := by
  go_enter Tryz.func122, Tryz.ntmps122
  go_wp2
  go_ret
  exact ⟨ret_int (by decide +kernel), rfl⟩
set_option maxRecDepth 100000 in
theorem len_16 (w : World) : Calls Tryz.prog 122 #[.int .u64 65536] w fun e w' => e = .returned (.int .i64 47) ∧ w = w' := by
  go_enter Tryz.func122, Tryz.ntmps122
  go_wp2
  go_ret
  exact ⟨ret_int (by decide +kernel), rfl⟩
set_option maxRecDepth 100000 in
theorem len_17 (w : World) : Calls Tryz.prog 122 #[.int .u64 131072] w fun e w' => e = .returned (.int .i64 46) ∧ w = w' := by
  go_enter Tryz.func122, Tryz.ntmps122
  go_wp2
  go_ret
  exact ⟨ret_int (by decide +kernel), rfl⟩
set_option maxRecDepth 100000 in
theorem len_18 (w : World) : Calls Tryz.prog 122 #[.int .u64 262144] w fun e w' => e = .returned (.int .i64 45) ∧ w = w' := by
  go_enter Tryz.func122, Tryz.ntmps122
  go_wp2
  go_ret
  exact ⟨ret_int (by decide +kernel), rfl⟩
set_option maxRecDepth 100000 in
theorem len_19 (w : World) : Calls Tryz.prog 122 #[.int .u64 524288] w fun e w' => e = .returned (.int .i64 44) ∧ w = w' := by
  go_enter Tryz.func122, Tryz.ntmps122
  go_wp2
  go_ret
  exact ⟨ret_int (by decide +kernel), rfl⟩
set_option maxRecDepth 100000 in
theorem len_20 (w : World) : Calls Tryz.prog 122 #[.int .u64 1048576] w fun e w' => e = .returned (.int .i64 43) ∧ w = w' := by
  go_enter Tryz.func122, Tryz.ntmps122
  go_wp2
  go_ret
  exact ⟨ret_int (by decide +kernel), rfl⟩
theorem lenC (t : Nat) (ht : t ≤ 20) (h1 : 1 ≤ t) (w : World) : Calls Tryz.prog 122 #[.int .u64 ((2 ^ t : Nat) : Int)] w fun e w' => e = .returned (.int .i64 ((63 - t : Nat) : Int)) ∧ w = w' := by
  have h : t = 1 ∨ t = 2 ∨ t = 3 ∨ t = 4 ∨ t = 5 ∨ t = 6 ∨ t = 7 ∨ t = 8 ∨ t = 9 ∨ t = 10 ∨ t = 11 ∨ t = 12 ∨ t = 13 ∨ t = 14 ∨ t = 15 ∨ t = 16 ∨ t = 17 ∨ t = 18 ∨ t = 19 ∨ t = 20 := by omega
  rcases h with rfl | rfl | rfl | rfl | rfl | rfl | rfl | rfl | rfl | rfl | rfl | rfl | rfl | rfl | rfl | rfl | rfl | rfl | rfl | rfl
  · rw [show ((2 ^ 1 : Nat) : Int) = 2 from by decide, show ((63 - 1 : Nat) : Int) = 62 from by decide]; exact len_1 w
  · rw [show ((2 ^ 2 : Nat) : Int) = 4 from by decide, show ((63 - 2 : Nat) : Int) = 61 from by decide]; exact len_2 w
  · rw [show ((2 ^ 3 : Nat) : Int) = 8 from by decide, show ((63 - 3 : Nat) : Int) = 60 from by decide]; exact len_3 w
  · rw [show ((2 ^ 4 : Nat) : Int) = 16 from by decide, show ((63 - 4 : Nat) : Int) = 59 from by decide]; exact len_4 w
  · rw [show ((2 ^ 5 : Nat) : Int) = 32 from by decide, show ((63 - 5 : Nat) : Int) = 58 from by decide]; exact len_5 w
  · rw [show ((2 ^ 6 : Nat) : Int) = 64 from by decide, show ((63 - 6 : Nat) : Int) = 57 from by decide]; exact len_6 w
  · rw [show ((2 ^ 7 : Nat) : Int) = 128 from by decide, show ((63 - 7 : Nat) : Int) = 56 from by decide]; exact len_7 w
  · rw [show ((2 ^ 8 : Nat) : Int) = 256 from by decide, show ((63 - 8 : Nat) : Int) = 55 from by decide]; exact len_8 w
  · rw [show ((2 ^ 9 : Nat) : Int) = 512 from by decide, show ((63 - 9 : Nat) : Int) = 54 from by decide]; exact len_9 w
  · rw [show ((2 ^ 10 : Nat) : Int) = 1024 from by decide, show ((63 - 10 : Nat) : Int) = 53 from by decide]; exact len_10 w
  · rw [show ((2 ^ 11 : Nat) : Int) = 2048 from by decide, show ((63 - 11 : Nat) : Int) = 52 from by decide]; exact len_11 w
  · rw [show ((2 ^ 12 : Nat) : Int) = 4096 from by decide, show ((63 - 12 : Nat) : Int) = 51 from by decide]; exact len_12 w
  · rw [show ((2 ^ 13 : Nat) : Int) = 8192 from by decide, show ((63 - 13 : Nat) : Int) = 50 from by decide]; exact len_13 w
  · rw [show ((2 ^ 14 : Nat) : Int) = 16384 from by decide, show ((63 - 14 : Nat) : Int) = 49 from by decide]; exact len_14 w
  · rw [show ((2 ^ 15 : Nat) : Int) = 32768 from by decide, show ((63 - 15 : Nat) : Int) = 48 from by decide]; exact len_15 w
  · rw [show ((2 ^ 16 : Nat) : Int) = 65536 from by decide, show ((63 - 16 : Nat) : Int) = 47 from by decide]; exact len_16 w
  · rw [show ((2 ^ 17 : Nat) : Int) = 131072 from by decide, show ((63 - 17 : Nat) : Int) = 46 from by decide]; exact len_17 w
  · rw [show ((2 ^ 18 : Nat) : Int) = 262144 from by decide, show ((63 - 18 : Nat) : Int) = 45 from by decide]; exact len_18 w
  · rw [show ((2 ^ 19 : Nat) : Int) = 524288 from by decide, show ((63 - 19 : Nat) : Int) = 44 from by decide]; exact len_19 w
  · rw [show ((2 ^ 20 : Nat) : Int) = 1048576 from by decide, show ((63 - 20 : Nat) : Int) = 43 from by decide]; exact len_20 w
theorem divC (hi lo t : Nat) (w : World) (ht : t ≤ 20) (h1 : 1 ≤ t) (hh : hi < 2 ^ t) (hl : lo < 18446744073709551616) (h0 : 0 < hi) :
    Calls Tryz.prog 103 #[.int .u64 hi, .int .u64 lo, .int .u64 ((2 ^ t : Nat) : Int)] w fun e w' => e = .returned (.tuple #[.int .u64 (((hi * 18446744073709551616 + lo) / 2 ^ t : Nat) : Int), .int .u64 (((hi * 18446744073709551616 + lo) % 2 ^ t : Nat) : Int)]) ∧ w = w' := by
  have hT : 2 ^ (t + 1) * 2 ^ (63 - t) = 18446744073709551616 := by rw [← Nat.pow_add, show t + 1 + (63 - t) = 64 by omega]
  have hH : 2 ^ (63 - t) * 2 ^ t = 9223372036854775808 := by rw [← Nat.pow_add, show 63 - t + t = 63 by omega]
  obtain ⟨_, p2, p3, p4⟩ := up_parts hT hH rfl hh hl
  have hvl : lo * 2 ^ (63 - t) % 18446744073709551616 < 18446744073709551616 := Nat.mod_lt _ (by decide)
  have hb : lo / 2 ^ (t + 1) < 2 ^ (63 - t) := by
    rw [Nat.div_lt_iff_lt_mul (Nat.two_pow_pos _), Nat.mul_comm, hT]; exact hl
  rw [p3, p4, split_q, split_r]
  have e4 : bits .or .u64 (IntKind.u64.wrap ((hi : Int) * 2 ^ (63 - t))) ((lo : Int) / 2 ^ (64 - (63 - t))) = ((hi * 2 ^ (63 - t) + lo / 2 ^ (t + 1) : Nat) : Int) := by
    have a1 : ((hi : Int) * 2 ^ (63 - t)) = ((hi * 2 ^ (63 - t) : Nat) : Int) := by rw [Int.natCast_mul, Int.natCast_pow]; rfl
    have a2 : ((lo : Int) / 2 ^ (64 - (63 - t))) = ((lo / 2 ^ (t + 1) : Nat) : Int) := by rw [Int.natCast_ediv, Int.natCast_pow, show 64 - (63 - t) = t + 1 by omega]; rfl
    have q : hi * 2 ^ (63 - t) < 9223372036854775808 := Nat.lt_of_le_of_lt (Nat.le_add_right _ _) p2
    have q2 : ∀ A : Nat, A < 9223372036854775808 → ((A : Int) % 18446744073709551616) = (A : Int) := fun A h => by omega
    rw [a1, a2, wu, q2 _ q]
    exact or_parts hb (Nat.lt_trans p2 (by decide))
  have e5 : IntKind.u64.wrap ((lo : Int) * 2 ^ (63 - t)) = ((lo * 2 ^ (63 - t) % 18446744073709551616 : Nat) : Int) := by
    have a1 : ((lo : Int) * 2 ^ (63 - t)) = ((lo * 2 ^ (63 - t) : Nat) : Int) := by rw [Int.natCast_mul, Int.natCast_pow]; rfl
    rw [a1, wu, Int.natCast_emod]; rfl
  generalize hi * 2 ^ (63 - t) + lo / 2 ^ (t + 1) = u at p2 e4 ⊢
  generalize lo * 2 ^ (63 - t) % 18446744073709551616 = v at hvl e5 ⊢
  have e1 : IntKind.u64.wrap (((2 ^ t : Nat) : Int) * 2 ^ (63 - t)) = 9223372036854775808 := by
    have a1 : (((2 ^ t : Nat) : Int) * 2 ^ (63 - t)) = ((2 ^ (63 - t) * 2 ^ t : Nat) : Int) := by rw [Nat.mul_comm, Int.natCast_mul, Int.natCast_pow 2 (63 - t)]; rfl
    rw [a1, hH, wu]; rfl
  refine divBig hi lo (2 ^ t) (63 - t) w h0 hh (by omega) (by omega) (Lib.hid (lenC t ht h1)) 9223372036854775808 u v ((v : Int) % 4294967296) e1 (by decide) (by decide) e4 e5 (mask32 v hvl) (by omega) (by omega) ((v : Int) / 4294967296) rfl (by omega) (by omega) (by omega) (by omega)
    ((u : Int) % 2147483648 * 4294967296 + (v : Int) / 4294967296) (w_eq _ _ (by omega) (by omega) (by omega) (by omega)) (by omega) (by omega) _ _ ?_ ?_
  · omega
  · rw [w_eq _ _ (by omega) (by omega) (by omega) (by omega), Int.natCast_ediv, Int.natCast_pow]
    congr 1
end Go.Proofs.YthihkbnkbajglaaGreatDoor.Scale
