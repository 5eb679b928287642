/- Plain facts on float64: rounding keeps the order, and is exact where it can be. No program in sight. -/
import Derived.Test.YtlhapnnepcnfbaaDoorFord
set_option linter.unusedVariables false
namespace Go.Proofs.YtlhapnnepcnfbaaDoor.Fx
open Go Go.RowKit Nums Flt Ford Ieee

theorem log2_pow {m : Nat} (hm : m ≠ 0) (a : Nat) : (m * 2 ^ a).log2 = m.log2 + a := by
  induction a with
  | zero => simp
  | succ a ih =>
    have h : m * 2 ^ a ≠ 0 := Nat.mul_ne_zero hm (Nat.pos_iff_ne_zero.1 (Nat.two_pow_pos a))
    rw [Nat.pow_succ, ← Nat.mul_assoc, Nat.mul_comm _ 2, Nat.log2_two_mul h, ih]; omega
theorem scale_le {m n a b a' b' : Nat} (h : m * 2 ^ a ≤ n * 2 ^ b) (e : a + b' = a' + b) : m * 2 ^ a' ≤ n * 2 ^ b' := by
  by_cases ha : a ≤ a'
  · obtain ⟨t, rfl⟩ : ∃ t, a' = a + t := ⟨a' - a, by omega⟩
    obtain rfl : b' = b + t := by omega
    rw [Nat.pow_add, Nat.pow_add, ← Nat.mul_assoc, ← Nat.mul_assoc]
    exact Nat.mul_le_mul_right _ h
  · obtain ⟨t, rfl⟩ : ∃ t, a = a' + t := ⟨a - a', by omega⟩
    obtain rfl : b = b' + t := by omega
    rw [Nat.pow_add, Nat.pow_add, ← Nat.mul_assoc, ← Nat.mul_assoc] at h
    exact Nat.le_of_mul_le_mul_right h (Nat.two_pow_pos t)
theorem scale_eq {m n a b a' b' : Nat} (h : m * 2 ^ a = n * 2 ^ b) (e : a + b' = a' + b) : m * 2 ^ a' = n * 2 ^ b' :=
  Nat.le_antisymm (scale_le (Nat.le_of_eq h) e) (scale_le (Nat.le_of_eq h.symm) (by omega))
/-- k is n / D, to the nearest, between two to the even one. -/
def Near (n D k : Nat) : Prop := 2 * (k * D) ≤ 2 * n + D ∧ 2 * n ≤ 2 * (k * D) + D ∧ (2 * (k * D) = 2 * n + D ∨ 2 * n = 2 * (k * D) + D → k % 2 = 0)
theorem near_exact (k D : Nat) (hD : 0 < D) : Near (k * D) D k := by
  unfold Near; refine ⟨by omega, by omega, fun h => by omega⟩
theorem near_mono {n D k m E l : Nat} (h1 : Near n D k) (h2 : Near m E l) (hD : 0 < D) (hE : 0 < E) (h : n * E ≤ m * D) : k ≤ l := by
  obtain ⟨a1, a2, a3⟩ := h1
  obtain ⟨b1, b2, b3⟩ := h2
  refine Nat.le_of_not_lt fun hlt => ?_
  have hX : 0 < D * E := Nat.mul_pos hD hE
  have e1 : (2 * (k * D)) * E ≤ (2 * n + D) * E := Nat.mul_le_mul_right E a1
  have e2 : (2 * m) * D ≤ (2 * (l * E) + E) * D := Nat.mul_le_mul_right D b2
  have f1 : (2 * (k * D)) * E = 2 * (k * (D * E)) := by rw [Nat.mul_assoc, Nat.mul_assoc k]
  have f2 : (2 * n + D) * E = 2 * (n * E) + D * E := by rw [Nat.add_mul, Nat.mul_assoc]
  have f3 : (2 * m) * D = 2 * (m * D) := by rw [Nat.mul_assoc]
  have f4 : (2 * (l * E) + E) * D = 2 * (l * (D * E)) + D * E := by rw [Nat.add_mul, Nat.mul_assoc, Nat.mul_assoc l, Nat.mul_comm E D]
  have f5 : (l + 1) * (D * E) ≤ k * (D * E) := Nat.mul_le_mul_right _ hlt
  rw [Nat.add_mul, Nat.one_mul] at f5
  have g1 : (2 * (k * D)) * E = (2 * n + D) * E := by omega
  have g2 : (2 * m) * D = (2 * (l * E) + E) * D := by omega
  have t1 := a3 (.inl (Nat.eq_of_mul_eq_mul_right hE g1))
  have t2 := b3 (.inr (Nat.eq_of_mul_eq_mul_right hD g2))
  have f6 : k * (D * E) = (l + 1) * (D * E) := by rw [Nat.add_mul, Nat.one_mul]; omega
  have f7 : k = l + 1 := Nat.eq_of_mul_eq_mul_right hX f6
  omega
theorem near_self {k D l : Nat} (hD : 0 < D) (h : Near (k * D) D l) : l = k :=
  Nat.le_antisymm (near_mono h (near_exact k D hD) hD hD (Nat.le_refl _)) (near_mono (near_exact k D hD) h hD hD (Nat.le_refl _))
theorem cut_near (s : Bool) (n d : Nat) : Near n (2 ^ d) (Toward.even.cut s n d) := by
  unfold Toward.cut
  simp only [Nat.one_shiftLeft]
  by_cases h : d ≤ n.log2 + 2
  · rw [Nat.min_eq_left h]
    have hD := Nat.two_pow_pos d
    generalize 2 ^ d = D at *
    have hd := Nat.div_add_mod n D
    have hl := Nat.mod_lt n hD
    rw [Nat.mul_comm] at hd
    generalize n / D = low at *
    generalize n % D = rest at *
    by_cases c1 : D < 2 * rest
    · simp only [decide_eq_true c1, Bool.true_or, Bool.toNat_true]
      unfold Near; rw [Nat.add_mul, Nat.one_mul]
      refine ⟨by omega, by omega, fun h => by omega⟩
    · by_cases c2 : D = 2 * rest ∧ low % 2 = 1
      · have : (decide (D < 2 * rest) || D == 2 * rest && low % 2 == 1) = true := by simp [c2.1, c2.2]
        rw [this]; simp only [Bool.toNat_true]
        unfold Near; rw [Nat.add_mul, Nat.one_mul]
        refine ⟨by omega, by omega, fun h => by omega⟩
      · have : (decide (D < 2 * rest) || D == 2 * rest && low % 2 == 1) = false := by
          rw [decide_eq_false c1]
          simp only [Bool.false_or, Bool.and_eq_false_imp, beq_iff_eq]
          intro h1; rw [beq_eq_false_iff_ne]; intro h2; exact c2 ⟨h1, h2⟩
        rw [this]; simp only [Bool.toNat_false, Nat.add_zero]
        unfold Near
        refine ⟨by omega, by omega, fun h => ?_⟩
        by_cases hl1 : low % 2 = 1
        · exact absurd ⟨by omega, hl1⟩ c2
        · omega
  · rw [Nat.min_eq_right (by omega)]
    have h1 : n < 2 ^ (n.log2 + 1) := Nat.lt_log2_self
    have h2 : 2 ^ (n.log2 + 2) = 2 * 2 ^ (n.log2 + 1) := by rw [Nat.pow_succ, Nat.mul_comm]
    have h3 : 2 ^ (n.log2 + 2) ≤ 2 ^ d := Nat.pow_le_pow_right (by decide) (by omega)
    generalize 2 ^ (n.log2 + 2) = G at *
    generalize 2 ^ (n.log2 + 1) = G1 at *
    rw [Nat.div_eq_of_lt (by omega), Nat.mod_eq_of_lt (by omega), decide_eq_false (by omega), show (G == 2 * n) = false from by rw [beq_eq_false_iff_ne]; omega]
    simp only [Bool.false_and, Bool.or_false, Bool.toNat_false]
    unfold Near
    generalize 2 ^ d = D at *
    refine ⟨by omega, by omega, fun h => by omega⟩
/-- the place of the last digit that is kept. -/
def lastP (m : Nat) (i : Int) : Int := max (i + m.log2 - 52) (-1074)
def keptN (m : Nat) (i : Int) : Nat := Toward.even.cut false (m * 2 ^ (i - lastP m i).toNat) (lastP m i - i).toNat
def rungN (m : Nat) (i : Int) : Nat := if m = 0 then 0 else min ((lastP m i + 1074).toNat * 4503599627370496 + keptN m i) 9218868437227405312
theorem cut_sign (s : Bool) (n d : Nat) : Toward.even.cut s n d = Toward.even.cut false n d := rfl
theorem frac_d : Ieee.double.fractionBits = 52 := rfl
theorem nearest_rung (s : Bool) (m : Nat) (i : Int) : Ieee.double.nearest s m i = Ieee.double.word s (rungN m i) := by
  unfold Ieee.Format.nearest rungN keptN
  have hl : max (i + (m.log2 : Int) - (Ieee.double.fractionBits : Nat)) Ieee.double.leastPlace = lastP m i := by rw [frac_d, least_d]; rfl
  simp only [hl]
  by_cases h : m = 0
  · rw [if_pos h, if_pos h]
  · rw [if_neg h, if_neg h]
    rw [Nat.shiftLeft_eq, binade_d, inf_d, least_d, show lastP m i - -1074 = lastP m i + 1074 from by omega, cut_sign s]
theorem kept_near (m : Nat) (i : Int) : Near (m * 2 ^ (i - lastP m i).toNat) (2 ^ (lastP m i - i).toNat) (keptN m i) := cut_near _ _ _
theorem kept_le {m : Nat} (hm : m ≠ 0) (i : Int) : keptN m i ≤ 9007199254740992 := by
  have hp := Nat.two_pow_pos (lastP m i - i).toNat
  refine near_mono (kept_near m i) (near_exact 9007199254740992 _ hp) hp hp (Nat.mul_le_mul_right _ ?_)
  have h1 : m < 2 ^ (m.log2 + 1) := Nat.lt_log2_self
  have h2 : m * 2 ^ (i - lastP m i).toNat ≤ 2 ^ (m.log2 + 1) * 2 ^ (i - lastP m i).toNat := Nat.mul_le_mul_right _ (by omega)
  refine Nat.le_trans h2 ?_
  rw [← Nat.pow_add, show 9007199254740992 = 2 ^ 53 from by decide, ← Nat.pow_add]
  refine Nat.pow_le_pow_right (by decide) ?_
  unfold lastP
  omega
theorem kept_ge {m : Nat} (hm : m ≠ 0) (i : Int) (h : -1074 < lastP m i) : 4503599627370496 ≤ keptN m i := by
  have hp := Nat.two_pow_pos (lastP m i - i).toNat
  refine near_mono (near_exact 4503599627370496 _ hp) (kept_near m i) hp hp (Nat.mul_le_mul_right _ ?_)
  have h1 : 2 ^ m.log2 ≤ m := Nat.log2_self_le hm
  have h2 : 2 ^ m.log2 * 2 ^ (i - lastP m i).toNat ≤ m * 2 ^ (i - lastP m i).toNat := Nat.mul_le_mul_right _ h1
  refine Nat.le_trans ?_ h2
  rw [← Nat.pow_add, show 4503599627370496 = 2 ^ 52 from by decide, ← Nat.pow_add]
  refine Nat.pow_le_pow_right (by decide) ?_
  unfold lastP at h ⊢
  omega
/-- rounding keeps the order. -/
theorem rung_mono {m n a b : Nat} {i j : Int} (hab : (a : Int) - b = i - j) (h : m * 2 ^ a ≤ n * 2 ^ b) : rungN m i ≤ rungN n j := by
  unfold rungN
  by_cases hm : m = 0
  · rw [if_pos hm]; omega
  · have hn : n ≠ 0 := by
      rintro rfl
      have : 0 < m * 2 ^ a := Nat.mul_pos (by omega) (Nat.two_pow_pos a)
      omega
    rw [if_neg hm, if_neg hn]
    have hlog : m.log2 + a ≤ n.log2 + b := by
      rw [← log2_pow hm, ← log2_pow hn]
      have h0 : m * 2 ^ a ≠ 0 := Nat.mul_ne_zero hm (Nat.pos_iff_ne_zero.1 (Nat.two_pow_pos a))
      exact (Nat.le_log2 (by omega)).2 (Nat.le_trans (Nat.log2_self_le h0) h)
    have hlast : lastP m i ≤ lastP n j := by unfold lastP; omega
    have key : (lastP m i + 1074).toNat * 4503599627370496 + keptN m i ≤ (lastP n j + 1074).toNat * 4503599627370496 + keptN n j := by
      by_cases he : lastP m i = lastP n j
      · have : keptN m i ≤ keptN n j := by
          refine near_mono (kept_near m i) (kept_near n j) (Nat.two_pow_pos _) (Nat.two_pow_pos _) ?_
          rw [Nat.mul_assoc, Nat.mul_assoc, ← Nat.pow_add, ← Nat.pow_add]
          exact scale_le h (by omega)
        rw [he]; omega
      · have h1 := kept_le hm i
        have hl : -1074 ≤ lastP m i := by unfold lastP; omega
        have h2 := kept_ge hn j (by omega)
        have h3 : (lastP m i + 1074).toNat + 1 ≤ (lastP n j + 1074).toNat := by omega
        omega
    exact Nat.le_min.2 ⟨Nat.le_trans (Nat.min_le_left _ _) key, Nat.min_le_right _ _⟩
theorem rung_congr {m n a b : Nat} {i j : Int} (hab : (a : Int) - b = i - j) (h : m * 2 ^ a = n * 2 ^ b) : rungN m i = rungN n j :=
  Nat.le_antisymm (rung_mono hab (Nat.le_of_eq h)) (rung_mono (by omega) (Nat.le_of_eq h.symm))
/-- what a rung stands for is rounded to it. -/
theorem rung_val {r : Nat} (h : r < 9218868437227405312) : rungN (val r) (-1074) = r := by
  unfold rungN
  by_cases h0 : val r = 0
  · rw [if_pos h0, val_zero h0]
  · rw [if_neg h0]
    have key : (lastP (val r) (-1074) + 1074).toNat * 4503599627370496 + keptN (val r) (-1074) = r := by
      by_cases h1 : r < 4503599627370496
      · have hv : val r = r := by unfold val; rw [if_pos h1]
        rw [hv] at h0 ⊢
        have hl : r.log2 < 52 := (Nat.log2_lt h0).2 (by rw [show 2 ^ 52 = 4503599627370496 from by decide]; exact h1)
        have e : lastP r (-1074) = -1074 := by unfold lastP; omega
        have hk := kept_near r (-1074)
        rw [e] at hk ⊢
        have : keptN r (-1074) = r := near_self (k := r) (D := 1) (by decide) (by simpa using hk)
        omega
      · have hv : val r = (4503599627370496 + r % 4503599627370496) * 2 ^ (r / 4503599627370496 - 1) := by unfold val; rw [if_neg h1]
        have hl : (val r).log2 = 52 + (r / 4503599627370496 - 1) := by
          rw [hv, log2_pow (by omega)]
          congr 1
          rw [Nat.log2_eq_iff (by omega)]
          rw [show 2 ^ 52 = 4503599627370496 from by decide, show 2 ^ (52 + 1) = 9007199254740992 from by decide]
          omega
        have e : lastP (val r) (-1074) = (r / 4503599627370496 - 1 : Nat) - 1074 := by unfold lastP; rw [hl]; omega
        have hk := kept_near (val r) (-1074)
        rw [e] at hk ⊢
        have e1 : (-1074 - (((r / 4503599627370496 - 1 : Nat) : Int) - 1074)).toNat = 0 := by omega
        have e2 : ((((r / 4503599627370496 - 1 : Nat) : Int) - 1074) - -1074).toNat = r / 4503599627370496 - 1 := by omega
        rw [e1, e2, hv, Nat.pow_zero, Nat.mul_one] at hk
        have := near_self (Nat.two_pow_pos _) hk
        rw [← hv] at this
        omega
    rw [key]; exact Nat.min_eq_left (Nat.le_of_lt h)
theorem rung_of {m a b r : Nat} {i : Int} (hr : r < 9218868437227405312) (hab : (a : Int) - b = i + 1074) (h : m * 2 ^ a = val r * 2 ^ b) : rungN m i = r := by
  rw [← rung_val hr]
  exact rung_congr (by omega) h
/-- a whole number below 2^53 times a power of two has a rung of its own. -/
theorem rep (n s : Nat) (h : n < 9007199254740992) (hs : 52 ≤ s) (hs2 : s ≤ 1074) : ∃ r, r < 9218868437227405312 ∧ val r = n * 2 ^ s ∧ rungN n ((s : Int) - 1074) = r := by
  by_cases h0 : n = 0
  · subst h0
    exact ⟨0, by decide, by simp [val], by simp [rungN]⟩
  · have hl : n.log2 < 53 := (Nat.log2_lt h0).2 (by rw [show 2 ^ 53 = 9007199254740992 from by decide]; exact h)
    have hlo := Nat.log2_self_le h0
    have hhi : n < 2 ^ (n.log2 + 1) := Nat.lt_log2_self
    obtain ⟨l, hle⟩ : ∃ l, l = n.log2 := ⟨_, rfl⟩
    rw [← hle] at hl hlo hhi
    have p1 : 2 ^ l * 2 ^ (52 - l) = 4503599627370496 := by rw [← Nat.pow_add, show l + (52 - l) = 52 from by omega]
    have p2 : 2 ^ (l + 1) * 2 ^ (52 - l) = 9007199254740992 := by rw [← Nat.pow_add, show l + 1 + (52 - l) = 53 from by omega]
    have q1 : 4503599627370496 ≤ n * 2 ^ (52 - l) := by rw [← p1]; exact Nat.mul_le_mul_right _ hlo
    have q2 : n * 2 ^ (52 - l) < 9007199254740992 := by rw [← p2]; exact Nat.mul_lt_mul_of_pos_right hhi (Nat.two_pow_pos _)
    obtain ⟨r, hrd⟩ : ∃ r, r = (s - 52 + l) * 4503599627370496 + n * 2 ^ (52 - l) := ⟨_, rfl⟩
    have hr : r < 9218868437227405312 := by omega
    have hv : val r = n * 2 ^ s := by
      unfold val
      rw [if_neg (by omega), show r / 4503599627370496 - 1 = s - 52 + l from by omega,
        show 4503599627370496 + r % 4503599627370496 = n * 2 ^ (52 - l) from by omega, Nat.mul_assoc, ← Nat.pow_add, show 52 - l + (s - 52 + l) = s from by omega]
    refine ⟨r, hr, hv, rung_of (a := s) (b := 0) hr (by omega) ?_⟩
    rw [hv, Nat.pow_zero, Nat.mul_one]
end Go.Proofs.YtlhapnnepcnfbaaDoor.Fx
