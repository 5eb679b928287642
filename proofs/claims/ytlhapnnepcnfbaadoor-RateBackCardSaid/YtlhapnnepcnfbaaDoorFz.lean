/- Plain facts: what Of answers, and how near it is; differences of floats. -/
import Derived.Test.YtlhapnnepcnfbaaDoorFy
set_option linter.unusedVariables false
namespace Go.Proofs.YtlhapnnepcnfbaaDoor.Fz
open Go Go.RowKit Nums Flt Ford Ieee Fx Rate0 Rate1 Scale Scale2 Steps OfA Fy

theorem near_scale {n D k c : Nat} (hc : 0 < c) (h : Near n D k) : Near (n * c) (D * c) k := by
  obtain ⟨a1, a2, a3⟩ := h
  have e1 : k * (D * c) = k * D * c := by rw [Nat.mul_assoc]
  have b1 := Nat.mul_le_mul_right c a1
  have b2 := Nat.mul_le_mul_right c a2
  rw [Nat.mul_assoc, Nat.add_mul, Nat.mul_assoc 2 n] at b1
  rw [Nat.add_mul, Nat.mul_assoc, Nat.mul_assoc 2 (k * D)] at b2
  unfold Near
  rw [e1]
  refine ⟨b1, b2, fun h => a3 ?_⟩
  rcases h with h | h
  · left
    refine Nat.eq_of_mul_eq_mul_right hc ?_
    rw [Nat.mul_assoc, Nat.add_mul, Nat.mul_assoc 2 n]; exact h
  · right
    refine Nat.eq_of_mul_eq_mul_right hc ?_
    rw [Nat.mul_assoc, Nat.add_mul, Nat.mul_assoc 2 (k * D)]; exact h
theorem roundN_near (M D : Nat) (hD : 1 ≤ D) : Near M (2 ^ D) (roundN M D) := by
  have e : 2 ^ D = 2 * 2 ^ (D - 1) := by rw [Nat.mul_comm, ← Nat.pow_succ]; congr 1; omega
  have hp := Nat.two_pow_pos (D - 1)
  unfold roundN
  rw [e]
  generalize 2 ^ (D - 1) = G at *
  have hd := Nat.div_add_mod M (2 * G)
  have hl := Nat.mod_lt M (show 0 < 2 * G by omega)
  rw [Nat.mul_comm] at hd
  generalize M / (2 * G) = low at *
  generalize M % (2 * G) = rest at *
  split
  · rename_i h
    unfold Near
    rw [Nat.add_mul, Nat.one_mul]
    refine ⟨by omega, by omega, fun h2 => by omega⟩
  · rename_i h
    unfold Near
    refine ⟨by omega, by omega, fun h2 => ?_⟩
    by_cases h3 : low % 2 = 1
    · exact absurd (.inr ⟨by omega, h3⟩) h
    · omega
/-- the word of 2^-21. -/
theorem val_small : val 4512606826625236992 = 2 ^ (kE - 21) := by
  unfold val
  rw [if_neg (by decide), show 4503599627370496 + 4512606826625236992 % 4503599627370496 = 2 ^ 52 from by decide, show 4512606826625236992 / 4503599627370496 - 1 = kE - 73 from by decide, ← Nat.pow_add]
  congr 1
theorem half (k : Nat) (h : k + 1 ≤ kE) : 2 ^ (kE - k) = 2 * 2 ^ (kE - (k + 1)) := by
  rw [Nat.mul_comm, ← Nat.pow_succ]; congr 1; omega
theorem half20 : 2 ^ (kE - 20) = 2 * 2 ^ (kE - 21) := by
  have h := half 20 (by decide)
  rw [show 20 + 1 = 21 from rfl] at h
  exact h
theorem steps_near {b : Nat} (hb : b ≤ 4652218415073722368) : Near (val b) (2 ^ (kE - 20)) (stepsN b) := by
  unfold stepsN
  split
  · rename_i h
    have h1 : val b ≤ val 4512606826625236992 := val_le (by omega)
    rw [val_small] at h1
    rw [half20]
    unfold Near
    generalize 2 ^ (kE - 21) = G at *
    refine ⟨by omega, by omega, fun h => rfl⟩
  · rename_i h
    obtain ⟨q, hq⟩ : ∃ q, q = b / 4503599627370496 := ⟨_, rfl⟩
    rw [← hq] at h ⊢
    have hv : val b = (b % 4503599627370496 + 4503599627370496) * 2 ^ (q - 1) := by
      unfold val; rw [if_neg (by omega), ← hq, Nat.add_comm]
    have hp : 2 ^ (kE - 20) = 2 ^ (1055 - q) * 2 ^ (q - 1) := by rw [← Nat.pow_add]; congr 1; have := kE_eq; omega
    rw [hv, hp]
    exact near_scale (Nat.two_pow_pos _) (roundN_near _ _ (by omega))
theorem steps_of {b S : Nat} (hb : b ≤ 4652218415073722368) (h : val b = S * 2 ^ (kE - 20)) : stepsN b = S := by
  have := steps_near hb
  rw [h] at this
  exact near_self (Nat.two_pow_pos _) this
/-- in its least terms. -/
theorem least_eq (S : Nat) : ∃ k, k ≤ 20 ∧ (leastN S).2 = 2 ^ k ∧ (leastN S).1 * 2 ^ (20 - k) = S := by
  by_cases h0 : S = 0
  · subst h0
    exact ⟨0, by omega, by unfold leastN; rw [leastF_zero, Nat.pow_zero], by unfold leastN; rw [leastF_zero, Nat.zero_mul]⟩
  · obtain ⟨m, c, hm, rfl⟩ := odd_part S (by omega)
    unfold leastN
    rw [leastF_pow 20 m c hm]
    refine ⟨20 - min c 20, by omega, ?_, ?_⟩
    · show 2 ^ 20 / 2 ^ min c 20 = _
      exact Nat.pow_div (by omega) (by decide)
    · show m * 2 ^ c / 2 ^ min c 20 * 2 ^ (20 - (20 - min c 20)) = _
      rw [show 20 - (20 - min c 20) = min c 20 from by omega]
      refine Nat.div_mul_cancel ?_
      refine Nat.dvd_trans (Nat.pow_dvd_pow 2 (show min c 20 ≤ c by omega)) (Nat.dvd_mul_left _ _)
theorem least_back {n k : Nat} (hk : k ≤ 20) (h : k = 0 ∨ n % 2 = 1) : leastN (n * 2 ^ (20 - k)) = (n, 2 ^ k) := by
  unfold leastN
  by_cases h0 : n = 0
  · subst h0
    obtain rfl : k = 0 := by omega
    rw [Nat.zero_mul, leastF_zero, Nat.pow_zero]
  · rcases h with rfl | h
    · obtain ⟨m, c, hm, rfl⟩ := odd_part n (by omega)
      rw [Nat.mul_assoc, ← Nat.pow_add, leastF_pow 20 m _ hm, show min (c + (20 - 0)) 20 = 20 from by omega, show c + (20 - 0) = c + 20 from rfl, Nat.pow_add, ← Nat.mul_assoc, Nat.mul_div_cancel _ (Nat.two_pow_pos _)]
      try rfl
    · rw [leastF_pow 20 n _ h, show min (20 - k) 20 = 20 - k from by omega, Nat.mul_div_cancel _ (Nat.two_pow_pos _), Nat.pow_div (by omega) (by decide), show 20 - (20 - k) = k from by omega]
theorem r1024 : rungN 1024 0 = 4652218415073722368 := by decide
/-- there and back. -/
theorem of_back {n k : Nat} (hk : k ≤ 20) (h1 : n ≤ 1024 * 2 ^ k) (h2 : k = 0 ∨ n % 2 = 1) : ∃ r, r < 9218868437227405312 ∧ floV n (2 ^ k) = r ∧ ofN r = (n, 2 ^ k, 0) ∧ val r = n * 2 ^ (kE - k) := by
  have hp : 2 ^ k ≤ 2 ^ 20 := Nat.pow_le_pow_right (by decide) hk
  have hn : n < 9007199254740992 := by
    have : 1024 * 2 ^ k ≤ 1024 * 2 ^ 20 := Nat.mul_le_mul_left _ hp
    exact Nat.lt_of_le_of_lt (Nat.le_trans h1 this) (by decide)
  obtain ⟨r, hr, hv, hf, hg⟩ := flo_exact n k hk hn
  have hle : r ≤ 4652218415073722368 := by
    rw [← hg, ← r1024]
    exact rung_mono (a := 0) (b := k) (by omega) (by rw [Nat.pow_zero, Nat.mul_one]; exact h1)
  have hs : stepsN r = n * 2 ^ (20 - k) := by
    refine steps_of hle ?_
    rw [hv, Nat.mul_assoc, ← Nat.pow_add]
    congr 2; have := kE_eq; omega
  refine ⟨r, hr, hf, ?_, hv⟩
  unfold ofN
  rw [if_neg (by rw [err_zero hr]; decide), if_neg (by omega), hs, if_neg ?_, least_back hk h2]
  rintro ⟨h3, h4⟩
  have : n = 0 := by
    rcases Nat.eq_zero_or_pos n with h | h
    · exact h
    · have := Nat.mul_pos h (Nat.two_pow_pos (20 - k)); omega
  subst this
  rw [Nat.zero_mul] at hv
  exact h4 (val_zero hv)
theorem rank_rung {r : Nat} (h : r < 9218868437227405312) : rankZ (r : Int) = 9223372036854775808 + (r : Int) := by
  obtain ⟨h1, h2, h3, h4⟩ := pos_word h
  rw [rank_word h1 h2, h3, h4]; rfl
theorem order_val {r s : Nat} (hr : r < 9218868437227405312) (hs : s < 9218868437227405312) : (ordZ (rankZ (r : Int)) (rankZ (s : Int)) == 1) = decide (val s < val r) := by
  rw [rank_rung hr, rank_rung hs]
  unfold ordZ
  rcases Nat.lt_trichotomy r s with h | h | h
  · rw [if_pos (by omega), decide_eq_false (by have := val_mono h; omega)]; rfl
  · subst h; rw [if_neg (by omega), if_neg (by omega), decide_eq_false (by omega)]; rfl
  · rw [if_neg (by omega), if_pos (by omega), decide_eq_true (val_mono h)]; rfl
/-- a difference that is small. -/
theorem sub_small {r b : Nat} (hr : r < 9218868437227405312) (hb : b < 9218868437227405312) (h1 : val r ≤ val b + 2 ^ (kE - 21)) (h2 : val b ≤ val r + 2 ^ (kE - 21)) :
    ∃ s p, floatBits .sub .f64 r b = some (Ieee.double.word s p) ∧ p ≤ 4512606826625236992 := by
  obtain ⟨m, i, e, hi, hm⟩ := read_rung hr
  obtain ⟨n, j, f, hj, hn⟩ := read_rung hb
  obtain ⟨base, hbase⟩ : ∃ base, base = min i j := ⟨_, rfl⟩
  obtain ⟨T, hT⟩ : ∃ T : Int, T = signed false m (i - base).toNat + signed true n (j - base).toNat := ⟨_, rfl⟩
  obtain ⟨s, hs⟩ : ∃ s : Bool, s = (if T = 0 then false && true else decide (T < 0)) := ⟨_, rfl⟩
  have e1 : floatBits .sub .f64 r b = some (Ieee.double.nearest s T.natAbs base) := by
    simp only [floatBits, Ieee.Format.sub, fmt, e, f, Datum.opposite, Datum.sum, Option.map, Bool.not_false]
    rw [hs, hT, hbase]
    rfl
  refine ⟨s, rungN T.natAbs base, by rw [e1, nearest_rung], ?_⟩
  rw [show 4512606826625236992 = rungN 1 (-21) from by decide]
  refine rung_mono (a := (base + 1074).toNat) (b := kE - 21) (by have := kE_eq; omega) ?_
  rw [Nat.one_mul]
  have f1 : T * (2 ^ (base + 1074).toNat : Nat) = (val r : Int) - (val b : Int) := by
    rw [hT, Int.add_mul, signed_eq, signed_eq, ← sgn_mul, ← sgn_mul, Nat.mul_assoc, Nat.mul_assoc, ← Nat.pow_add, ← Nat.pow_add, show (i - base).toNat + (base + 1074).toNat = (i + 1074).toNat from by omega, show (j - base).toNat + (base + 1074).toNat = (j + 1074).toNat from by omega, hm, hn]
    unfold sgn; simp only [Bool.false_eq_true, if_false, if_true]; omega
  have f2 : T.natAbs * 2 ^ (base + 1074).toNat = ((val r : Int) - (val b : Int)).natAbs := by
    rw [← f1, Int.natAbs_mul, Int.natAbs_natCast]
  rw [f2]
  generalize 2 ^ (kE - 21) = G at *
  omega
/-- a small one is not above 2^-21, whatever its sign. -/
theorem word_le (s : Bool) {p : Nat} (h : p ≤ 4512606826625236992) : Ieee.double.order (Ieee.double.word s p) 4512606826625236992 = some .lt ∨ Ieee.double.order (Ieee.double.word s p) 4512606826625236992 = some .eq := by
  obtain ⟨n1, n2, n3⟩ := word_facts s p (by omega)
  obtain ⟨m, i, e, hi, hm⟩ := read_rung (show 4512606826625236992 < 9218868437227405312 by decide)
  have hp : Ieee.double.word s p % 9223372036854775808 = p := by
    unfold Ieee.Format.word; rw [sign_d]; cases s
    · show p % 9223372036854775808 = p; omega
    · show (9223372036854775808 + p) % 9223372036854775808 = p; omega
  rcases read_val _ n3 n1 with ⟨_, n, j, f, hj, hn⟩ | ⟨h5, _⟩
  · unfold Ieee.Format.order
    rw [e, f, order_numbers _ _ _ _ _ _ hj hi, hn, hm, hp, n2]
    have hv := val_le h
    have hle : sgn s (val p) ≤ sgn false (val 4512606826625236992) := by
      unfold sgn; cases s
      · simp only [Bool.false_eq_true, if_false]; omega
      · simp only [Bool.false_eq_true, if_false, if_true]; omega
    rcases Int.lt_or_eq_of_le hle with h6 | h6
    · left; rw [Int.compare_eq_lt.2 h6]
    · right; rw [h6]; simp
  · omega
/-- what Of answers is near to what was asked. -/
theorem of_near {b : Nat} (hb : b ≤ 4652218415073722368) (h : stepsN b ≠ 0) : ∃ n k r, ofN b = (n, 2 ^ k, 0) ∧ k ≤ 20 ∧ mayN n (2 ^ k) = true ∧ 0 < n ∧ floV n (2 ^ k) = r ∧ r < 9218868437227405312 ∧ val r ≤ val b + 2 ^ (kE - 21) ∧ val b ≤ val r + 2 ^ (kE - 21) := by
  obtain ⟨k, hk, hd, hn⟩ := least_eq (stepsN b)
  have hmay := leastN_may (steps_le hb)
  have hnear := steps_near hb
  have hblt : b < 9218868437227405312 := by omega
  have hof : ofN b = ((leastN (stepsN b)).1, 2 ^ k, 0) := by
    unfold ofN
    rw [if_neg (by rw [err_zero hblt]; decide), if_neg (by omega), if_neg (fun hh => h hh.1), hd]
  rw [hd] at hmay
  obtain ⟨n, hnn⟩ : ∃ n, n = (leastN (stepsN b)).1 := ⟨_, rfl⟩
  rw [← hnn] at hn hmay hof
  have h0 : 0 < n := by
    rcases Nat.eq_zero_or_pos n with h1 | h1
    · rw [h1, Nat.zero_mul] at hn; exact absurd hn.symm h
    · exact h1
  have hnb : n < 9007199254740992 := by
    have h1 := steps_le hb
    have h2 : n * 1 ≤ n * 2 ^ (20 - k) := Nat.mul_le_mul_left _ Nat.one_le_two_pow
    omega
  obtain ⟨r, hr, hv, hf, hg⟩ := flo_exact n k hk hnb
  have hvr : val r = stepsN b * 2 ^ (kE - 20) := by
    rw [hv, ← hn, Nat.mul_assoc, ← Nat.pow_add]
    congr 2; have := kE_eq; omega
  refine ⟨n, k, r, hof, hk, hmay, h0, hf, hr, ?_, ?_⟩
  all_goals
    rw [hvr, half20]
    rw [half20] at hnear
    obtain ⟨a1, a2, _⟩ := hnear
    generalize 2 ^ (kE - 21) = G at *
    omega
theorem of_none {b : Nat} (hb : b ≤ 4652218415073722368) (h : stepsN b = 0) (h0 : b ≠ 0) : ofN b = (0, 0, 1) ∧ b ≤ 4512606826625236992 := by
  have hblt : b < 9218868437227405312 := by omega
  refine ⟨by unfold ofN; rw [if_neg (by rw [err_zero hblt]; decide), if_neg (by omega), if_pos ⟨h, h0⟩], ?_⟩
  have hnear := steps_near hb
  rw [h, half20] at hnear
  obtain ⟨_, a2, _⟩ := hnear
  rcases Nat.lt_or_ge 4512606826625236992 b with h1 | h1
  · have := val_mono h1
    rw [val_small] at this
    generalize 2 ^ (kE - 21) = G at *
    omega
  · exact h1
end Go.Proofs.YtlhapnnepcnfbaaDoor.Fz
