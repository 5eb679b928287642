/- Numbers at the front of bytes: what was written is read, and nothing else has that text (pure). -/
import Derived.Test.YtellhkcleicfbaaRef3
set_option linter.unusedVariables false
namespace Go.Proofs.Ytellhkcleicfbaa.Fr
open Go Go.RowKit Kit Crc Var Get Ref3

theorem pow7 (i : Nat) : 2 ^ (7 * (i + 1)) = 128 * 2 ^ (7 * i) := by rw [show 7 * (i + 1) = 7 * i + 7 by omega, Nat.pow_add]; omega
theorem pow64 {i : Nat} (h : i ≤ 8) : 2 ^ (64 - 7 * i) = 128 * 2 ^ (64 - 7 * (i + 1)) := by rw [show 64 - 7 * i = 64 - 7 * (i + 1) + 7 by omega, Nat.pow_add]; omega
theorem not9 {n i : Nat} (hi : i ≤ 9) (h : n < 2 ^ (64 - 7 * i)) (hn : 128 ≤ n) : i ≤ 8 := by
  rcases Nat.lt_or_ge i 9 with h1 | h1
  · omega
  · obtain rfl : i = 9 := by omega
    have : (2 : Nat) ^ (64 - 7 * 9) = 2 := by decide
    omega
theorem getF_app (r : List Nat) : ∀ (k n : Nat), n ≤ k → ∀ (i acc : Nat), i ≤ 9 → n < 2 ^ (64 - 7 * i) → (n = 0 → i = 0) → getF (varL n ++ r) i acc = (acc + n * 2 ^ (7 * i), i + (varL n).length, 0) := by
  intro k
  induction k with
  | zero =>
    intro n hn i acc hi h h0
    obtain rfl : n = 0 := by omega
    obtain rfl : i = 0 := h0 rfl
    rw [varL_small (by omega), List.cons_append, getF_end (by omega) (by omega) (by omega)]; simp
  | succ k ih =>
    intro n hn i acc hi h h0
    by_cases hs : n < 128
    · rw [varL_small hs, List.cons_append, getF_end (fun e => by subst e; have : (2 : Nat) ^ (64 - 7 * 9) = 2 := by decide
                                                                 omega) hs h0]; simp
    · have hi8 := not9 hi h (by omega)
      have hp := pow64 hi8
      rw [varL_more hs, List.cons_append, getF_more (by omega) (by omega), ih (n / 128) (by omega) (i + 1) _ (by omega) (by omega) (by omega), pow7]
      have e : n * 2 ^ (7 * i) = (n % 128 + 128 * (n / 128)) * 2 ^ (7 * i) := by rw [Nat.mod_add_div]
      rw [e, Nat.add_mul]
      have e2 : (n % 128 + 128) % 128 = n % 128 := by omega
      have e3 : n / 128 * (128 * 2 ^ (7 * i)) = 128 * (n / 128) * 2 ^ (7 * i) := by rw [← Nat.mul_assoc, Nat.mul_comm (n / 128) 128]
      rw [e2, e3]
      simp only [List.length_cons]
      rw [Nat.add_assoc]
      congr 2
      omega
/-- the last byte of a number's text; with its top bit and a nought behind it is none. -/
theorem varL_split : ∀ (k n : Nat), n ≤ k → ∃ p x, varL n = p ++ [x] ∧ x < 128 ∧ ∀ i acc, i ≤ 9 → n < 2 ^ (64 - 7 * i) → getF (p ++ [x + 128, 0]) i acc = (0, 0, 2) := by
  have small : ∀ n, n < 128 → ∃ p x, varL n = p ++ [x] ∧ x < 128 ∧ ∀ i acc, i ≤ 9 → n < 2 ^ (64 - 7 * i) → getF (p ++ [x + 128, 0]) i acc = (0, 0, 2) := by
    intro n hn
    refine ⟨[], n, by rw [varL_small hn]; rfl, hn, fun i acc hi h => ?_⟩
    by_cases h9 : i = 9
    · subst h9; exact getF_err9 (by omega)
    · show getF ((n + 128) :: [0]) i acc = _
      rw [getF_more h9 (by omega), getF_zero (by omega)]
  intro k
  induction k with
  | zero => intro n hn; exact small n (by omega)
  | succ k ih =>
    intro n hn
    by_cases hs : n < 128
    · exact small n hs
    · obtain ⟨p, x, e, hx, hg⟩ := ih (n / 128) (by omega)
      refine ⟨(n % 128 + 128) :: p, x, by rw [varL_more hs, e]; rfl, hx, fun i acc hi h => ?_⟩
      have hi8 := not9 hi h (by omega)
      have hp := pow64 hi8
      rw [List.cons_append, getF_more (by omega) (by omega)]
      exact hg _ _ (by omega) (by omega)
theorem getA_front (la lb : List Nat) (n : Nat) (h : n < 18446744073709551616) : getA (la ++ varL n ++ lb) (la.length : Nat) = ((n : Int), ((la.length : Int) + ((varL n).length : Nat)), 0) := by
  have e : (la ++ varL n ++ lb).drop la.length = varL n ++ lb := by rw [List.append_assoc, List.drop_left]
  have g := getF_app lb n n (Nat.le_refl _) 0 0 (by omega) (by simpa using h) (fun _ => rfl)
  rw [getA, if_neg (by simp; omega)]
  simp only [Int.toNat_natCast, e, g]
  simp [end_]
theorem varL_inj {m n : Nat} {s t : List Nat} (hm : m < 18446744073709551616) (hn : n < 18446744073709551616) (h : varL m ++ s = varL n ++ t) : m = n ∧ s = t := by
  have h1 := getA_front [] s m hm
  have h2 := getA_front [] t n hn
  rw [List.nil_append, h] at h1
  rw [List.nil_append] at h2
  rw [h1] at h2
  have e : m = n := by have := congrArg Prod.fst h2; simp only at this; omega
  subst e
  exact ⟨rfl, List.append_cancel_left h⟩
theorem varL_pos (n : Nat) : 1 ≤ (varL n).length := by
  by_cases h : n < 128
  · rw [varL_small h]; simp
  · rw [varL_more h]; simp
theorem varL_one {n : Nat} (h : n < 128) : (varL n).length = 1 := by rw [varL_small h]; rfl
theorem varL_two {n : Nat} (h : n < 16384) : (varL n).length ≤ 2 := varL_len 1 n (by omega)
theorem varL_three {n : Nat} (h : n < 2097152) : (varL n).length ≤ 3 := varL_len 2 n (by omega)
theorem varL_four {n : Nat} (h : n < 268435456) : (varL n).length ≤ 4 := varL_len 3 n (by omega)
end Go.Proofs.Ytellhkcleicfbaa.Fr
