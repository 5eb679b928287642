/- Plain facts: the order of floats by their words. No program in sight. -/
import Derived.Test.YthihkbnkbajglaaGreatDoorFlt
namespace Go.Proofs.YthihkbnkbajglaaGreatDoor.Ford
open Go Go.RowKit Nums Flt Ieee

/-- the size of the number at a rung, in units of the least one. -/
def val (r : Nat) : Nat := if r < 4503599627370496 then r else (4503599627370496 + r % 4503599627370496) * 2 ^ (r / 4503599627370496 - 1)
theorem val_mono {r s : Nat} (h : r < s) : val r < val s := by
  unfold val
  by_cases h1 : s < 4503599627370496
  · rw [if_pos (by omega), if_pos h1]; exact h
  · rw [if_neg h1]
    have p1 : 1 ≤ 2 ^ (s / 4503599627370496 - 1) := Nat.one_le_two_pow
    by_cases h2 : r < 4503599627370496
    · rw [if_pos h2]
      calc r < 4503599627370496 := h2
        _ ≤ 4503599627370496 + s % 4503599627370496 := by omega
        _ = (4503599627370496 + s % 4503599627370496) * 1 := by omega
        _ ≤ _ := Nat.mul_le_mul_left _ p1
    · rw [if_neg h2]
      by_cases hq : r / 4503599627370496 = s / 4503599627370496
      · rw [hq]
        exact Nat.mul_lt_mul_of_pos_right (by omega) (by omega)
      · have hlt : r / 4503599627370496 < s / 4503599627370496 := by omega
        have e : 2 ^ (r / 4503599627370496 - 1) * 2 ≤ 2 ^ (s / 4503599627370496 - 1) := by
          rw [← Nat.pow_succ]; exact Nat.pow_le_pow_right (by decide) (by omega)
        calc (4503599627370496 + r % 4503599627370496) * 2 ^ (r / 4503599627370496 - 1)
            < (4503599627370496 * 2) * 2 ^ (r / 4503599627370496 - 1) := Nat.mul_lt_mul_of_pos_right (by omega) (by have : 1 ≤ 2 ^ (r / 4503599627370496 - 1) := Nat.one_le_two_pow; omega)
          _ = 4503599627370496 * (2 ^ (r / 4503599627370496 - 1) * 2) := by rw [Nat.mul_assoc, Nat.mul_comm 2]
          _ ≤ 4503599627370496 * 2 ^ (s / 4503599627370496 - 1) := Nat.mul_le_mul_left _ e
          _ ≤ _ := Nat.mul_le_mul_right _ (by omega)
theorem val_lt {r s : Nat} (h : val r < val s) : r < s := by
  by_cases h1 : r < s
  · exact h1
  · by_cases h2 : r = s
    · rw [h2] at h; omega
    · have := val_mono (r := s) (s := r) (by omega); omega
theorem val_zero {r : Nat} (h : val r = 0) : r = 0 := by
  by_cases h1 : r = 0
  · exact h1
  · have := val_mono (r := 0) (s := r) (by omega); omega
theorem least_d : Ieee.double.leastPlace = -1074 := by decide
/-- a word that is no NaN's: its rung, and what it reads as. -/
theorem read_val (b : Nat) (h : In64 b) (hn : nanB b = false) :
    (b % 9223372036854775808 < 9218868437227405312 ∧ ∃ m i, Ieee.double.read b = .number (negB b) m i ∧ -1074 ≤ i ∧ m * 2 ^ (i + 1074).toNat = val (b % 9223372036854775808)) ∨
    (b % 9223372036854775808 = 9218868437227405312 ∧ Ieee.double.read b = .infinity (negB b)) := by
  obtain ⟨h0, h1⟩ := h
  have hneg : (b / 9223372036854775808 % 2 == 1) = negB b := by
    unfold negB
    by_cases hc : (9223372036854775808 : Int) ≤ b
    · rw [decide_eq_true hc]; simp; omega
    · rw [decide_eq_false hc]; simp; omega
  have hr : ¬ (9218868437227405312 : Int) < (b : Int) % 9223372036854775808 := by simpa [nanB] using hn
  unfold Ieee.Format.read
  simp only [binade_d, inf_d, sign_d, hneg, least_d]
  by_cases c1 : b % 9223372036854775808 < 4503599627370496
  · rw [if_pos c1]
    refine .inl ⟨by omega, _, _, rfl, by omega, ?_⟩
    rw [val, if_pos c1]; simp
  · rw [if_neg c1]
    by_cases c2 : b % 9223372036854775808 < 9218868437227405312
    · rw [if_pos c2]
      refine .inl ⟨c2, _, _, rfl, by omega, ?_⟩
      rw [val, if_neg c1]
      congr 2
      omega
    · rw [if_neg c2, if_pos (by omega)]; exact .inr ⟨by omega, rfl⟩
/-- a size with its sign. -/
def sgn (s : Bool) (v : Nat) : Int := if s then -(v : Int) else v
theorem signed_eq (s : Bool) (m k : Nat) : signed s m k = sgn s (m * 2 ^ k) := by
  unfold signed sgn; rw [Nat.shiftLeft_eq]
theorem sgn_mul (s : Bool) (v k : Nat) : sgn s (v * k) = sgn s v * k := by
  unfold sgn; cases s <;> simp [Int.neg_mul]
theorem cmp_mul (x y : Int) (k : Nat) (hk : 0 < k) : compare (x * k) (y * k) = compare x y := by
  have hk' : (0 : Int) < k := by omega
  by_cases h : x < y
  · rw [Int.compare_eq_lt.2 h, Int.compare_eq_lt.2 (Int.mul_lt_mul_of_pos_right h hk')]
  · by_cases h2 : x = y
    · subst h2; simp
    · have : y < x := by omega
      rw [Int.compare_eq_gt.2 this, Int.compare_eq_gt.2 (Int.mul_lt_mul_of_pos_right this hk')]
theorem order_numbers (s t : Bool) (m n : Nat) (i j : Int) (hi : -1074 ≤ i) (hj : -1074 ≤ j) :
    Datum.order (.number s m i) (.number t n j) = some (compare (sgn s (m * 2 ^ (i + 1074).toNat)) (sgn t (n * 2 ^ (j + 1074).toNat))) := by
  simp only [Datum.order]
  congr 1
  rw [signed_eq, signed_eq, ← cmp_mul _ _ (2 ^ (min i j + 1074).toNat) (Nat.two_pow_pos _), ← sgn_mul, ← sgn_mul, Nat.mul_assoc, Nat.mul_assoc, ← Nat.pow_add, ← Nat.pow_add]
  congr 4 <;> congr 1 <;> omega
theorem negB_iff (b : Nat) : negB b = true ↔ 9223372036854775808 ≤ b := by simp [negB]; omega
theorem rank_word {b : Nat} (h : In64 b) (hn : nanB b = false) : rankZ b = if negB b then 9223372036854775807 - ((b % 9223372036854775808 : Nat) : Int) else 9223372036854775808 + ((b % 9223372036854775808 : Nat) : Int) := by
  obtain ⟨_, h1⟩ := h
  have e : oneN (b : Int) = b := by simp [oneN, hn]
  unfold rankZ
  rw [e]
  cases hs : negB (b : Int)
  · have : ¬ 9223372036854775808 ≤ b := by rw [← negB_iff]; simp [hs]
    simp; omega
  · have : 9223372036854775808 ≤ b := by rw [← negB_iff]; exact hs
    simp; omega
/-- what is less by its value is less by its place. -/
theorem lt_rank {a b : Nat} (ha : In64 a) (hb : In64 b) (h : (Ieee.double.order a b == some .lt) = true) : rankZ a < rankZ b := by
  have h' : Ieee.double.order a b = some .lt := by simpa using h
  have na : nanB a = false := by
    cases hn : nanB a with
    | false => rfl
    | true => exfalso; revert h'; unfold Ieee.Format.order Ieee.Format.read; simp only [binade_d, inf_d, sign_d]
              have : (9218868437227405312 : Int) < (a : Int) % 9223372036854775808 := by simpa [nanB] using hn
              rw [if_neg (by omega), if_neg (by omega), if_neg (by omega)]; simp [Datum.order]
  have nb : nanB b = false := by
    cases hn : nanB b with
    | false => rfl
    | true => exfalso; revert h'; unfold Ieee.Format.order; rw [show Ieee.double.read b = .nan (b / 9223372036854775808 % 2 == 1) (b % 9223372036854775808 - 9218868437227405312) from by
                unfold Ieee.Format.read; simp only [binade_d, inf_d, sign_d]
                have : (9218868437227405312 : Int) < (b : Int) % 9223372036854775808 := by simpa [nanB] using hn
                rw [if_neg (by omega), if_neg (by omega), if_neg (by omega)]]
              cases Ieee.double.read a <;> simp [Datum.order]
  rw [rank_word ha na, rank_word hb nb]
  unfold Ieee.Format.order at h'
  rcases read_val a ha na with ⟨ra, m, i, ea, hi, va⟩ | ⟨ra, ea⟩ <;> rcases read_val b hb nb with ⟨rb, n, j, eb, hj, vb⟩ | ⟨rb, eb⟩
  · rw [ea, eb, order_numbers _ _ _ _ _ _ hi hj, va, vb] at h'
    have hlt := Int.compare_eq_lt.1 (Option.some.inj h')
    cases hsa : negB (a : Int) <;> cases hsb : negB (b : Int) <;> simp [hsa, hsb, sgn] at hlt ⊢
    · have := val_lt hlt; omega
    · omega
    · omega
    · have := val_lt hlt; omega
  · rw [ea, eb] at h'
    cases hsa : negB (a : Int) <;> cases hsb : negB (b : Int) <;> simp [hsb, Datum.order] at h' ⊢ <;> omega
  · rw [ea, eb] at h'
    cases hsa : negB (a : Int) <;> cases hsb : negB (b : Int) <;> simp [hsa, Datum.order] at h' ⊢ <;> omega
  · rw [ea, eb] at h'
    cases hsa : negB (a : Int) <;> cases hsb : negB (b : Int) <;> simp [hsa, hsb, Datum.order] at h' ⊢ <;> first | omega | (exact absurd h' (by decide))
end Go.Proofs.YthihkbnkbajglaaGreatDoor.Ford
