/- Plain facts on the words of float64: which are no NaNs, what a product and a quotient by a thousand leave, when a float is a whole number of 64 bits. No program in sight. -/
import Derived.Test.YthihkbnkbajglaaGreatDoorNums
import Derived.Laws.FloatArith
namespace Go.Proofs.YthihkbnkbajglaaGreatDoor.Flt
open Go Go.RowKit Nums Ieee

theorem fmt : FloatKind.f64.format = Ieee.double := rfl
theorem binade_d : Ieee.double.binade = 4503599627370496 := by decide
theorem inf_d : Ieee.double.infRung = 9218868437227405312 := by decide
theorem sign_d : Ieee.double.signWeight = 9223372036854775808 := by decide

/-- what a word reads as, if it is no NaN's. -/
theorem read_ok (b : Nat) (h : In64 b) (hn : nanB b = false) : (∃ m i, Ieee.double.read b = .number (negB b) m i) ∨ Ieee.double.read b = .infinity (negB b) := by
  obtain ⟨h0, h1⟩ := h
  have hneg : (b / 9223372036854775808 % 2 == 1) = negB b := by
    unfold negB
    by_cases hc : (9223372036854775808 : Int) ≤ b
    · rw [decide_eq_true hc]; simp; omega
    · rw [decide_eq_false hc]; simp; omega
  have hr : ¬ (9218868437227405312 : Int) < (b : Int) % 9223372036854775808 := by simpa [nanB] using hn
  unfold Ieee.Format.read
  simp only [binade_d, inf_d, sign_d, hneg]
  by_cases c1 : b % 9223372036854775808 < 4503599627370496
  · rw [if_pos c1]; exact .inl ⟨_, _, rfl⟩
  · rw [if_neg c1]
    by_cases c2 : b % 9223372036854775808 < 9218868437227405312
    · rw [if_pos c2]; exact .inl ⟨_, _, rfl⟩
    · rw [if_neg c2, if_pos (by omega)]; exact .inr rfl

theorem word_facts (s : Bool) (r : Nat) (h : r ≤ 9218868437227405312) : nanB (Ieee.double.word s r : Nat) = false ∧ negB (Ieee.double.word s r : Nat) = s ∧ In64 (Ieee.double.word s r : Nat) := by
  unfold Ieee.Format.word
  rw [sign_d]
  cases s
  · refine ⟨?_, ?_, ?_, ?_⟩ <;> simp [nanB, negB] <;> omega
  · refine ⟨?_, ?_, ?_, ?_⟩ <;> simp [nanB, negB] <;> omega
theorem nearest_facts (s : Bool) (m : Nat) (i : Int) : nanB (Ieee.double.nearest s m i : Nat) = false ∧ negB (Ieee.double.nearest s m i : Nat) = s ∧ In64 (Ieee.double.nearest s m i : Nat) := by
  unfold Ieee.Format.nearest
  split
  · exact word_facts _ _ (by omega)
  · exact word_facts _ _ (by rw [inf_d]; omega)
theorem write_facts (d : Datum) (hd : d.isNaN = false) : nanB (Ieee.double.write d : Nat) = false ∧ negB (Ieee.double.write d : Nat) = d.neg ∧ In64 (Ieee.double.write d : Nat) := by
  cases d with
  | number s m i => exact nearest_facts s m i
  | infinity s => exact word_facts _ _ (by rw [inf_d]; omega)
  | nan s t => simp [Datum.isNaN] at hd
theorem ofInt_facts (n : Int) (h : 0 ≤ n) : nanB (floatOfInt .f64 n : Nat) = false ∧ negB (floatOfInt .f64 n : Nat) = false ∧ In64 (floatOfInt .f64 n : Nat) := by
  have := nearest_facts (n < 0) n.natAbs 0
  rw [show (decide (n < 0)) = false from decide_eq_false (by omega)] at this
  have e : floatOfInt .f64 n = Ieee.double.nearest (decide (n < 0)) n.natAbs 0 := rfl
  rw [e, show (decide (n < 0)) = false from decide_eq_false (by omega)]
  exact this

/-- a thousand. -/
def thousand : Nat := 4652007308841189376
theorem read_thousand : Ieee.double.read thousand = .number false 8796093022208000 (-43) := by decide
theorem mul_some (b : Nat) (h : In64 b) (hn : nanB b = false) : ∃ r, floatBits .mul .f64 b thousand = some r ∧ nanB r = false ∧ negB r = negB b ∧ In64 r := by
  rcases read_ok b h hn with ⟨m, i, e⟩ | e
  · refine ⟨Ieee.double.write (.number (negB b ^^ false) (m * 8796093022208000) (i + -43)), ?_, ?_⟩
    · simp only [floatBits, Ieee.Format.mul, fmt, e, read_thousand, Datum.product, Option.map]
    · have := write_facts (.number (negB b ^^ false) (m * 8796093022208000) (i + -43)) rfl
      simpa [Datum.neg] using this
  · refine ⟨Ieee.double.write (.infinity (negB b ^^ false)), ?_, ?_⟩
    · simp [floatBits, Ieee.Format.mul, fmt, e, read_thousand, Datum.product]
    · have := write_facts (.infinity (negB b ^^ false)) rfl
      simpa [Datum.neg] using this
theorem div_some (b : Nat) (h : In64 b) (hn : nanB b = false) : ∃ r, floatBits .quo .f64 b thousand = some r ∧ nanB r = false ∧ negB r = negB b ∧ In64 r := by
  rcases read_ok b h hn with ⟨m, i, e⟩ | e
  · obtain ⟨M, I, hq⟩ : ∃ M I, Datum.quotient (Ieee.double.fractionBits + 2) (.number (negB b) m i) (.number false 8796093022208000 (-43)) = some (.number (negB b ^^ false) M I) := ⟨_, _, rfl⟩
    refine ⟨Ieee.double.write (.number (negB b ^^ false) M I), ?_, ?_⟩
    · simp only [floatBits, Ieee.Format.div, fmt, e, read_thousand, hq, Option.map]
    · have := write_facts (.number (negB b ^^ false) M I) rfl
      simpa [Datum.neg] using this
  · refine ⟨Ieee.double.write (.infinity (negB b ^^ false)), ?_, ?_⟩
    · simp [floatBits, Ieee.Format.div, fmt, e, read_thousand, Datum.quotient]
    · have := write_facts (.infinity (negB b ^^ false)) rfl
      simpa [Datum.neg] using this
/-- 2^53. -/
def exact53 : Nat := 4845873199050653696
theorem read_exact : Ieee.double.read exact53 = .number false 4503599627370496 1 := by decide
theorem cut_le (m d : Nat) (s : Bool) : Toward.zero.cut s m d ≤ m / 2 ^ d := by
  unfold Toward.cut
  simp only [Bool.toNat_false, Nat.add_zero, Nat.one_shiftLeft]
  by_cases h : d ≤ m.log2 + 2
  · rw [Nat.min_eq_left h]; exact Nat.le_refl _
  · rw [Nat.min_eq_right (by omega)]
    have : m < 2 ^ (m.log2 + 2) := Nat.lt_trans (Nat.lt_log2_self (n := m)) (Nat.pow_lt_pow_right (by decide) (by omega))
    rw [Nat.div_eq_of_lt this]; exact Nat.zero_le _
theorem toInt_some (p : Nat) (h : In64 p) (hn : nanB p = false) (hs : negB p = false) (hg : (Ieee.double.order p exact53 == some .gt) = false) : ∃ n, floatToIntVal .f64 p .u64 = some n := by
  rcases read_ok p h hn with ⟨m, i, e⟩ | e
  · rw [hs] at e
    have hle : signed false m (i - min i 1).toNat ≤ signed false 4503599627370496 (1 - min i 1).toNat := by
      simp only [Ieee.Format.order, e, read_exact, Datum.order] at hg
      generalize signed false m (i - min i 1).toNat = x at hg ⊢
      generalize signed false 4503599627370496 (1 - min i 1).toNat = y at hg ⊢
      by_cases hxy : x ≤ y
      · exact hxy
      · rw [show compare x y = Ordering.gt from Int.compare_eq_gt.2 (by omega)] at hg
        simp at hg
    have hle' : m * 2 ^ (i - min i 1).toNat ≤ 4503599627370496 * 2 ^ (1 - min i 1).toNat := by
      simp only [signed, Nat.shiftLeft_eq, Bool.false_eq_true, if_false] at hle
      exact_mod_cast hle
    have hv : (Toward.zero.cut false (m <<< i.toNat) (-i).toNat) ≤ 9007199254740992 := by
      refine Nat.le_trans (cut_le _ _ _) ?_
      rw [Nat.shiftLeft_eq]
      by_cases hi : 1 ≤ i
      · have e1 : (-i).toNat = 0 := by omega
        have e2 : (i - min i 1).toNat + 1 = i.toNat := by omega
        have e3 : (1 - min i 1).toNat = 0 := by omega
        rw [e3] at hle'
        rw [e1, ← e2, Nat.pow_succ, ← Nat.mul_assoc]
        simp at hle' ⊢
        omega
      · have e1 : (i - min i 1).toNat = 0 := by omega
        have e2 : i.toNat = 0 := by omega
        have e3 : (1 - min i 1).toNat = (-i).toNat + 1 := by omega
        rw [e1, e3, Nat.pow_succ] at hle'
        rw [e2]
        simp only [Nat.pow_zero, Nat.mul_one] at hle' ⊢
        apply Nat.div_le_of_le_mul
        rw [Nat.mul_comm]
        have : 4503599627370496 * (2 ^ (-i).toNat * 2) = 9007199254740992 * 2 ^ (-i).toNat := by
          rw [Nat.mul_comm (2 ^ _) 2, ← Nat.mul_assoc]
        omega
    refine ⟨((Toward.zero.cut false (m <<< i.toNat) (-i).toNat : Nat) : Int), ?_⟩
    unfold floatToIntVal
    rw [show FloatKind.f64.decode p = Ieee.double.read p from rfl, e]
    simp only [Datum.toInt, Datum.integral, signed, Nat.shiftLeft_zero, Bool.false_eq_true, if_false]
    rw [if_pos]
    refine ⟨?_, ?_⟩
    · rw [show IntKind.u64.min = 0 from by decide]; simp
    · rw [show IntKind.u64.max = 18446744073709551615 from by decide]; omega
  · rw [hs] at e
    simp [Ieee.Format.order, e, read_exact, Datum.order] at hg
end Go.Proofs.YthihkbnkbajglaaGreatDoor.Flt
