/- What rate.Of answers, as numbers; the order of floats at 1024 and at nought. No program in sight. -/
import Derived.Test.YthihkbnkbajglaaGreatDoorFord
import Derived.Test.YthihkbnkbajglaaGreatDoorTz
set_option linter.unusedVariables false
namespace Go.Proofs.YthihkbnkbajglaaGreatDoor.OfA
open Go Go.RowKit Nums Flt Ieee Ford Steps Tz Rate0 Rate1 Scale

/-- a fraction of 2^k in its least terms. -/
def leastF : Nat → Nat → Nat × Nat
  | 0, n => (n, 1)
  | k + 1, n => if n % 2 = 0 then leastF k (n / 2) else (n, 2 ^ (k + 1))
def leastN (n : Nat) : Nat × Nat := leastF 20 n
theorem leastF_pow (k : Nat) : ∀ (m c : Nat), m % 2 = 1 → leastF k (m * 2 ^ c) = (m * 2 ^ c / 2 ^ min c k, 2 ^ k / 2 ^ min c k) := by
  induction k with
  | zero => intro m c hm; rw [leastF, Nat.min_zero, Nat.pow_zero, Nat.div_one, Nat.div_one]
  | succ k ih =>
    intro m c hm
    rw [leastF]
    cases c with
    | zero =>
      rw [Nat.pow_zero, Nat.mul_one, if_neg (by omega), Nat.zero_min, Nat.pow_zero, Nat.div_one, Nat.div_one]
    | succ c =>
      have e : m * 2 ^ (c + 1) = m * 2 ^ c * 2 := by rw [Nat.pow_succ, Nat.mul_assoc]
      rw [if_pos (by rw [e]; omega), e, Nat.mul_div_cancel _ (by decide), ih m c hm, Nat.succ_min_succ, Nat.pow_succ, Nat.pow_succ]
      congr 1
      · rw [Nat.mul_div_mul_right _ _ (by decide)]
      · rw [Nat.mul_div_mul_right _ _ (by decide)]
theorem leastF_zero (k : Nat) : leastF k 0 = (0, 1) := by
  induction k with
  | zero => rfl
  | succ k ih => rw [leastF, if_pos rfl]; exact ih
theorem odd_part (n : Nat) (h : 0 < n) : ∃ m c, m % 2 = 1 ∧ n = m * 2 ^ c := by
  induction n using Nat.strongRecOn with
  | _ n ih =>
    by_cases h2 : n % 2 = 1
    · exact ⟨n, 0, h2, by rw [Nat.pow_zero, Nat.mul_one]⟩
    · obtain ⟨m, c, hm, hc⟩ := ih (n / 2) (by omega) (by omega)
      exact ⟨m, c + 1, hm, by rw [Nat.pow_succ, ← Nat.mul_assoc, ← hc]; omega⟩
theorem leastF_may (k : Nat) (hk : k ≤ 20) : ∀ n, n ≤ 1024 * 2 ^ k → ∃ j, j ≤ k ∧ (leastF k n).2 = 2 ^ j ∧ (leastF k n).1 ≤ 1024 * 2 ^ j ∧ (j = 0 ∨ (leastF k n).1 % 2 = 1) := by
  induction k with
  | zero => intro n hn; exact ⟨0, Nat.le_refl _, rfl, hn, .inl rfl⟩
  | succ k ih =>
    intro n hn
    rw [leastF]
    split
    · have e : 2 ^ (k + 1) = 2 * 2 ^ k := by rw [Nat.pow_succ, Nat.mul_comm]
      obtain ⟨j, h1, h2⟩ := ih (by omega) (n / 2) (by omega)
      exact ⟨j, by omega, h2⟩
    · exact ⟨k + 1, Nat.le_refl _, rfl, hn, .inr (by show n % 2 = 1; omega)⟩
theorem mayN_pow {n j : Nat} (hj : j ≤ 20) (h1 : n ≤ 1024 * 2 ^ j) (h2 : j = 0 ∨ n % 2 = 1) : mayN n (2 ^ j) = true := by
  have h3 : 2 ^ j ≤ 2 ^ 20 := Nat.pow_le_pow_right (by decide) hj
  have h4 := Nat.two_pow_pos j
  have e20 : (2 : Nat) ^ 20 = 1048576 := by decide
  unfold mayN mayX
  rw [Nat.and_two_pow_sub_one_eq_mod]
  refine decide_eq_true ⟨by omega, by omega, Nat.mod_self _, h1, ?_⟩
  rcases h2 with rfl | h2
  · exact .inl (by rw [Nat.pow_zero])
  · exact .inr h2
theorem leastN_may {n : Nat} (h : n ≤ 1073741824) : mayN (leastN n).1 (leastN n).2 = true := by
  have e : (2 : Nat) ^ 20 = 1048576 := by decide
  obtain ⟨j, h1, h2, h3, h4⟩ := leastF_may 20 (Nat.le_refl _) n (by omega)
  unfold leastN
  rw [h2]
  exact mayN_pow h1 h3 h4
theorem roundN_le {M D K : Nat} (hD : 1 ≤ D) (h : M ≤ K * 2 ^ D) : roundN M D ≤ K := by
  have hp := Nat.two_pow_pos D
  have hq : M / 2 ^ D ≤ K := by
    have := Nat.div_le_div_right (c := 2 ^ D) h
    rwa [Nat.mul_div_cancel _ hp] at this
  unfold roundN
  split
  · rename_i hr
    by_cases he : M / 2 ^ D = K
    · exfalso
      have hd := Nat.div_add_mod M (2 ^ D)
      rw [he, Nat.mul_comm] at hd
      have h0 : M % 2 ^ D = 0 := by omega
      have hp1 := Nat.two_pow_pos (D - 1)
      rw [h0] at hr
      omega
    · omega
  · exact hq
/-- what a word of no sign up to 1024 is rounded to. -/
theorem steps_le {b : Nat} (h : b ≤ 4652218415073722368) : stepsN b ≤ 1073741824 := by
  unfold stepsN
  split
  · omega
  · rename_i h1
    obtain ⟨D, hD⟩ : ∃ D, D = 1055 - b / 4503599627370496 := ⟨_, rfl⟩
    rw [← hD]
    refine roundN_le (by omega) ?_
    have hD22 : 22 ≤ D := by omega
    by_cases h2 : D = 22
    · subst h2
      have e : (2 : Nat) ^ 22 = 4194304 := by decide
      omega
    · have h3 : 2 ^ 23 ≤ 2 ^ D := Nat.pow_le_pow_right (by decide) (by omega)
      have e : (2 : Nat) ^ 23 = 8388608 := by decide
      have h4 : 1073741824 * 2 ^ 23 ≤ 1073741824 * 2 ^ D := Nat.mul_le_mul_left _ h3
      rw [e] at h4
      omega
/-- what Of answers: a fraction, and an error. -/
def ofN (b : Nat) : Nat × Nat × Int :=
  if errU b ≠ 0 then (0, 0, errU b)
  else if 4652218415073722368 < b then (0, 0, 1)
  else if stepsN b = 0 ∧ b ≠ 0 then (0, 0, 1)
  else ((leastN (stepsN b)).1, (leastN (stepsN b)).2, 0)
theorem of_may {b : Nat} (h : (ofN b).2.2 = 0) : mayN (ofN b).1 (ofN b).2.1 = true := by
  unfold ofN at h ⊢
  split at h
  · rename_i h1; exact absurd h h1
  · rename_i h1
    rw [if_neg h1]
    split at h
    · exact absurd h (by decide)
    · rename_i h2
      rw [if_neg h2]
      split at h
      · exact absurd h (by decide)
      · rename_i h3
        rw [if_neg h3]
        exact leastN_may (steps_le (by omega))
theorem posN {b : Nat} (h : negB (b : Int) = false) : b < 9223372036854775808 := by
  rcases Nat.lt_or_ge b 9223372036854775808 with h1 | h1
  · exact h1
  · rw [(negB_iff b).2 h1] at h; cases h
/-- a word of no sign, that is no NaN's, held against another. -/
theorem order_pos {b c : Nat} (hb : In64 b) (hc : In64 c) (nb : nanB b = false) (nc : nanB c = false) (sb : negB (b : Int) = false) (sc : negB (c : Int) = false) (hcf : c < 9218868437227405312) :
    Ieee.double.order b c = some (compare b c) := by
  have pb := posN sb
  have pc := posN sc
  have eb : b % 9223372036854775808 = b := Nat.mod_eq_of_lt pb
  have ec : c % 9223372036854775808 = c := Nat.mod_eq_of_lt pc
  unfold Ieee.Format.order
  rcases read_val c hc nc with ⟨rc, n, j, qc, hj, vc⟩ | ⟨rc, _⟩
  · rcases read_val b hb nb with ⟨rb, m, i, qb, hi, vb⟩ | ⟨rb, qb⟩
    · rw [qb, qc, order_numbers _ _ _ _ _ _ hi hj, vb, vc, sb, sc, eb, ec]
      congr 1
      unfold sgn
      simp only [Bool.false_eq_true, if_false]
      rcases Nat.lt_trichotomy b c with h | h | h
      · rw [Int.compare_eq_lt.2 (by have := val_mono h; omega), Nat.compare_eq_lt.2 h]
      · subst h; simp
      · rw [Int.compare_eq_gt.2 (by have := val_mono h; omega), Nat.compare_eq_gt.2 h]
    · rw [qb, qc, sb]
      rw [eb] at rb
      rw [Nat.compare_eq_gt.2 (by omega)]
      rfl
  · rw [ec] at rc
    omega
theorem in1024 : In64 ((4652218415073722368 : Nat) : Int) := ⟨by decide, by decide⟩
theorem gt1024 {b : Nat} (hb : In64 b) (nb : nanB b = false) (sb : negB (b : Int) = false) : (Ieee.double.order b 4652218415073722368 == some .gt) = decide (4652218415073722368 < b) := by
  rw [order_pos hb in1024 nb (by decide) sb (by decide) (by decide)]
  rcases Nat.lt_trichotomy b 4652218415073722368 with h | h | h
  · rw [Nat.compare_eq_lt.2 h, decide_eq_false (by omega)]; rfl
  · rw [Nat.compare_eq_eq.2 h, decide_eq_false (by omega)]; rfl
  · rw [Nat.compare_eq_gt.2 h, decide_eq_true h]; rfl
theorem ne_zero {b : Nat} (hb : In64 b) (nb : nanB b = false) (sb : negB (b : Int) = false) : (Ieee.double.order b 0 != some .eq) = decide (b ≠ 0) := by
  rw [order_pos hb (c := 0) ⟨by decide, by decide⟩ nb (by decide) sb (by decide) (by decide)]
  rcases Nat.eq_zero_or_pos b with h | h
  · subst h; rfl
  · rw [Nat.compare_eq_gt.2 h, decide_eq_true (by omega)]; rfl
theorem small_zero {b : Nat} (h : b / 4503599627370496 ≤ 994) : stepsN b = 0 := by
  unfold stepsN
  split
  · rfl
  · rename_i h1
    obtain ⟨D, hD⟩ : ∃ D, D = 1055 - b / 4503599627370496 := ⟨_, rfl⟩
    rw [← hD]
    have h3 : 2 ^ 60 ≤ 2 ^ (D - 1) := Nat.pow_le_pow_right (by decide) (by omega)
    have h4 : 2 ^ (D - 1) ≤ 2 ^ D := Nat.pow_le_pow_right (by decide) (by omega)
    have e : (2 : Nat) ^ 60 = 1152921504606846976 := by decide
    rw [e] at h3
    unfold roundN
    have hM : b % 4503599627370496 + 4503599627370496 < 2 ^ D := by omega
    rw [Nat.div_eq_of_lt hM, Nat.mod_eq_of_lt hM, if_neg (by omega)]
end Go.Proofs.YthihkbnkbajglaaGreatDoor.OfA
