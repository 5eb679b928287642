/- Plain facts: what Seconds, Ticks, Float and Of answer where it can be told exactly. -/
import Derived.Test.YtlhapnnepcnfbaaDoorFx
import Derived.Test.YtlhapnnepcnfbaaDoorOfA
import Derived.Test.YtlhapnnepcnfbaaDoorRate1
import Derived.Test.YtlhapnnepcnfbaaDoorScale2
set_option linter.unusedVariables false
namespace Go.Proofs.YtlhapnnepcnfbaaDoor.Fy
open Go Go.RowKit Nums Flt Ford Ieee Fx Rate0 Rate1 Scale Scale2 Steps OfA

/-- the least place, under a name. -/
def kE : Nat := 1074
theorem kE_eq : kE = 1074 := rfl
theorem word_false (r : Nat) : Ieee.double.word false r = r := rfl
theorem rung_le_inf (m : Nat) (i : Int) : rungN m i ≤ 9218868437227405312 := by
  unfold rungN; split
  · omega
  · exact Nat.min_le_right _ _
theorem ofInt_rung (n : Nat) : floatOfInt .f64 (n : Int) = rungN n 0 := by
  have e : floatOfInt .f64 (n : Int) = Ieee.double.nearest (decide ((n : Int) < 0)) (n : Int).natAbs 0 := rfl
  rw [e, nearest_rung, show decide ((n : Int) < 0) = false from decide_eq_false (by omega), word_false, Int.natAbs_natCast]
/-- a rung below infinity's, as a word. -/
theorem pos_word {r : Nat} (h : r < 9218868437227405312) : In64 (r : Int) ∧ nanB (r : Int) = false ∧ negB (r : Int) = false ∧ r % 9223372036854775808 = r := by
  refine ⟨⟨by omega, by omega⟩, ?_, ?_, Nat.mod_eq_of_lt (by omega)⟩
  · unfold nanB; exact decide_eq_false (by omega)
  · unfold negB; exact decide_eq_false (by omega)
theorem read_rung {r : Nat} (h : r < 9218868437227405312) : ∃ m i, Ieee.double.read r = .number false m i ∧ -1074 ≤ i ∧ m * 2 ^ (i + 1074).toNat = val r := by
  obtain ⟨h1, h2, h3, h4⟩ := pos_word h
  rcases read_val r h1 h2 with ⟨_, m, i, e, hi, hv⟩ | ⟨h5, _⟩
  · rw [h4] at hv; rw [h3] at e; exact ⟨m, i, e, hi, hv⟩
  · omega
theorem mul_rung {r : Nat} (h : r < 9218868437227405312) : mulV r = rungN (1000 * val r) (-1074) := by
  obtain ⟨m, i, e, hi, hv⟩ := read_rung h
  have : mulV r = Ieee.double.write (.number (false ^^ false) (m * 8796093022208000) (i + -43)) := by
    unfold mulV
    simp only [floatBits, Ieee.Format.mul, fmt, e, read_thousand, Datum.product, Option.map, Option.getD]
  rw [this]
  show Ieee.double.nearest false (m * 8796093022208000) (i + -43) = _
  rw [nearest_rung, word_false]
  refine rung_congr (a := (i + 1074).toNat) (b := 43) (by omega) ?_
  rw [← hv, show 8796093022208000 = 1000 * 2 ^ 43 from by decide]
  generalize 2 ^ (i + 1074).toNat = A
  generalize 2 ^ 43 = B
  rw [Nat.mul_assoc, Nat.mul_assoc, Nat.mul_comm B A, Nat.mul_left_comm m 1000, Nat.mul_left_comm 1000 m, Nat.mul_assoc 1000, Nat.mul_assoc, Nat.mul_left_comm m 1000]
theorem zero_cut (s : Bool) (n d : Nat) : Toward.zero.cut s n d = n / 2 ^ d := by
  unfold Toward.cut
  simp only [Bool.toNat_false, Nat.add_zero, Nat.one_shiftLeft]
  by_cases h : d ≤ n.log2 + 2
  · rw [Nat.min_eq_left h]
  · rw [Nat.min_eq_right (by omega)]
    have h1 : n < 2 ^ (n.log2 + 1) := Nat.lt_log2_self
    have h2 : 2 ^ (n.log2 + 1) ≤ 2 ^ (n.log2 + 2) := Nat.pow_le_pow_right (by decide) (by omega)
    have h3 : 2 ^ (n.log2 + 2) ≤ 2 ^ d := Nat.pow_le_pow_right (by decide) (by omega)
    rw [Nat.div_eq_of_lt (by omega), Nat.div_eq_of_lt (by omega)]
/-- a float cut to a whole number. -/
theorem toInt_val {r : Nat} (h : r < 9218868437227405312) (hv : val r / 2 ^ kE < 18446744073709551616) : floatToIntVal .f64 r .u64 = some ((val r / 2 ^ kE : Nat) : Int) := by
  obtain ⟨m, i, e, hi, hm⟩ := read_rung h
  have key : (m <<< i.toNat) / 2 ^ (-i).toNat = val r / 2 ^ kE := by
    rw [← hm, Nat.shiftLeft_eq]
    by_cases h0 : 0 ≤ i
    · rw [show (i + 1074).toNat = i.toNat + kE from by have := kE_eq; omega, show (-i).toNat = 0 from by omega, Nat.pow_add, ← Nat.mul_assoc, Nat.mul_div_cancel _ (Nat.two_pow_pos _), Nat.pow_zero, Nat.div_one]
    · have e1 : 2 ^ kE = 2 ^ (-i).toNat * 2 ^ (i + 1074).toNat := by rw [← Nat.pow_add]; congr 1; have := kE_eq; omega
      rw [e1, show i.toNat = 0 from by omega, Nat.pow_zero, Nat.mul_one, Nat.mul_div_mul_right _ _ (Nat.two_pow_pos _)]
  unfold floatToIntVal
  rw [show FloatKind.f64.decode r = Ieee.double.read r from rfl, e]
  simp only [Datum.toInt, Datum.integral, signed, Nat.shiftLeft_zero, Bool.false_eq_true, if_false, zero_cut, key]
  rw [if_pos]
  refine ⟨?_, ?_⟩
  · rw [show IntKind.u64.min = 0 from by decide]; exact Int.natCast_nonneg _
  · rw [show IntKind.u64.max = 18446744073709551615 from by decide]; omega
theorem val_le {r s : Nat} (h : r ≤ s) : val r ≤ val s := by
  rcases Nat.lt_or_ge r s with h1 | h1
  · exact Nat.le_of_lt (val_mono h1)
  · rw [show r = s from by omega]; exact Nat.le_refl _
theorem err_zero {r : Nat} (h : r < 9218868437227405312) : errU (r : Int) = 0 := by
  obtain ⟨_, h2, h3, _⟩ := pos_word h
  unfold errU; rw [h2, h3]; rfl
theorem gt_rung {r : Nat} (h : r < 9218868437227405312) (c : Nat) (hc : c < 9218868437227405312) : (Ieee.double.order r c == some .gt) = decide (c < r) := by
  obtain ⟨h1, h2, h3, h4⟩ := pos_word h
  obtain ⟨g1, g2, g3, g4⟩ := pos_word hc
  rw [order_pos h1 g1 h2 g2 h3 g3 hc]
  rcases Nat.lt_trichotomy r c with h | h | h
  · rw [Nat.compare_eq_lt.2 h, decide_eq_false (by omega)]; rfl
  · rw [Nat.compare_eq_eq.2 h, decide_eq_false (by omega)]; rfl
  · rw [Nat.compare_eq_gt.2 h, decide_eq_true h]; rfl
theorem r53 : rungN 9007199254740992 0 = exact53 := by decide
theorem v53 : val exact53 = 9007199254740992 * 2 ^ kE := by
  unfold val exact53
  rw [if_neg (by decide), show 4503599627370496 + 4845873199050653696 % 4503599627370496 = 2 ^ 52 from by decide, show 4845873199050653696 / 4503599627370496 - 1 = kE + 1 from by decide, show 9007199254740992 = 4503599627370496 * 2 from by decide, show (2 : Nat) ^ 52 = 4503599627370496 from by decide, Nat.pow_succ, Nat.mul_assoc, Nat.mul_comm 2]
theorem floor_le {r : Nat} (h : r ≤ exact53) : val r / 2 ^ kE ≤ 9007199254740992 := by
  have h1 := Nat.div_le_div_right (c := 2 ^ kE) (val_le h)
  rw [v53, Nat.mul_div_cancel _ (Nat.two_pow_pos _)] at h1
  exact h1
theorem in_exact : exact53 < 9218868437227405312 := by decide
/-- what Ticks answers where it answers. -/
theorem tick_val {r : Nat} (h : r < 9218868437227405312) (hg : gtB r = false) : tickN r = ((val (mulV r) / 2 ^ kE : Nat) : Int) ∧ mulV r ≤ exact53 := by
  have hm : mulV r ≤ 9218868437227405312 := by rw [mul_rung h]; exact rung_le_inf _ _
  have hlt : mulV r < 9218868437227405312 := by
    rcases Nat.lt_or_ge (mulV r) 9218868437227405312 with h1 | h1
    · exact h1
    · exfalso
      have : mulV r = 9218868437227405312 := by omega
      unfold gtB at hg
      rw [this] at hg
      revert hg; decide
  have hle : mulV r ≤ exact53 := by
    unfold gtB at hg
    rw [gt_rung hlt _ in_exact] at hg
    have := of_decide_eq_false hg
    omega
  refine ⟨?_, hle⟩
  unfold tickN
  have hf := floor_le hle
  rw [if_pos (err_zero h), if_neg (by rw [hg]; decide), toInt_val hlt (by omega)]
  rfl
theorem tick_err {r : Nat} (h : r < 9218868437227405312) : tickE r = if gtB r then 1 else 0 := by
  unfold tickE; rw [if_pos (err_zero h)]
/-- whole seconds. -/
theorem whole (n : Nat) (h : n ≤ 1099511627776) : tickE (floatOfInt .f64 (n : Int)) = 0 ∧ tickN (floatOfInt .f64 (n : Int)) = 1000 * (n : Int) := by
  obtain ⟨r, hr, hv, he⟩ := rep n kE (by omega) (by have := kE_eq; omega) (by have := kE_eq; omega)
  obtain ⟨s, hs, hw, hf⟩ := rep (1000 * n) kE (by omega) (by have := kE_eq; omega) (by have := kE_eq; omega)
  rw [show ((kE : Nat) : Int) - 1074 = 0 from by decide] at he hf
  rw [ofInt_rung, he]
  have hmul : mulV r = s := by
    rw [mul_rung hr, hv, ← Nat.mul_assoc, ← hf]
    refine rung_congr (a := 0) (b := kE) (by have := kE_eq; omega) ?_
    rw [Nat.pow_zero, Nat.mul_one]
  have hle : s ≤ exact53 := by
    rw [← hf, ← r53]
    exact rung_mono (a := 0) (b := 0) (by omega) (by omega)
  have hg : gtB r = false := by
    unfold gtB; rw [hmul, gt_rung hs _ in_exact]; exact decide_eq_false (by omega)
  refine ⟨by rw [tick_err hr, hg]; rfl, ?_⟩
  rw [(tick_val hr hg).1, hmul, hw, Nat.mul_div_cancel _ (Nat.two_pow_pos _)]
  omega
/-- a later time never has fewer ticks. -/
theorem tick_mono {a b : Nat} (hab : a ≤ b) (hb : b ≤ 9218868437227405312) (h2 : tickE b = 0) : tickN a ≤ tickN b := by
  have hbl : b < 9218868437227405312 := by
    rcases Nat.lt_or_ge b 9218868437227405312 with h1 | h1
    · exact h1
    · exfalso
      have : b = 9218868437227405312 := by omega
      rw [this] at h2
      revert h2; decide
  rw [tick_err hbl] at h2
  have gb : gtB b = false := by
    cases hg : gtB b
    · rfl
    · rw [hg] at h2; exact absurd h2 (by decide)
  obtain ⟨v1, l1⟩ := tick_val hbl gb
  have hal : a < 9218868437227405312 := by omega
  have hmm : mulV a ≤ mulV b := by
    rw [mul_rung hal, mul_rung hbl]
    exact rung_mono (a := 0) (b := 0) (by omega) (by have := val_le hab; omega)
  have ga : gtB a = false := by
    unfold gtB
    rw [gt_rung (by have := in_exact; omega) _ in_exact]
    exact decide_eq_false (by omega)
  rw [v1, (tick_val hal ga).1]
  have := Nat.div_le_div_right (c := 2 ^ kE) (val_le hmm)
  omega
/-- a quotient that comes out. -/
theorem quo_exact {x y m N q : Nat} {i j e : Int} (hx : Ieee.double.read x = .number false m i) (hy : Ieee.double.read y = .number false N j) (hN : N ≠ 0) (hq : q < 9007199254740992) (a b : Nat) (hab : (a : Int) - b = i - e - j) (h : m * 2 ^ a = q * N * 2 ^ b) :
    floatBits .quo .f64 x y = some (rungN q e) := by
  obtain ⟨more, hmore⟩ : ∃ more, more = 54 + N.log2 - m.log2 := ⟨_, rfl⟩
  have e1 : floatBits .quo .f64 x y = some (Ieee.double.nearest false (2 * (m * 2 ^ more / N) + (m * 2 ^ more % N != 0).toNat) (i - j - (more : Int) - 1)) := by
    simp only [floatBits, Ieee.Format.div, fmt, hx, hy, Datum.quotient, if_neg hN, Option.map, frac_d, Nat.shiftLeft_eq]
    rw [hmore]
    rfl
  rw [e1, nearest_rung, word_false]
  congr 1
  by_cases hm : m = 0
  · subst hm
    have hq0 : q = 0 := by
      rw [Nat.zero_mul] at h
      rcases Nat.eq_zero_or_pos q with h0 | h0
      · exact h0
      · have := Nat.mul_pos (Nat.mul_pos h0 (Nat.pos_of_ne_zero hN)) (Nat.two_pow_pos b)
        omega
    subst hq0
    simp [rungN]
  · have hb1 : 2 ^ (54 + N.log2) ≤ m * 2 ^ more := by
      refine Nat.le_trans ?_ (Nat.mul_le_mul_right _ (Nat.log2_self_le hm))
      rw [← Nat.pow_add]
      exact Nat.pow_le_pow_right (by decide) (by omega)
    have hb2 : q * N < 2 ^ (54 + N.log2) := by
      have h1 : N < 2 ^ (N.log2 + 1) := Nat.lt_log2_self
      have h2 : q * N ≤ q * 2 ^ (N.log2 + 1) := Nat.mul_le_mul_left _ (by omega)
      have h3 : q * 2 ^ (N.log2 + 1) < 2 ^ 53 * 2 ^ (N.log2 + 1) := Nat.mul_lt_mul_of_pos_right (by rw [show 2 ^ 53 = 9007199254740992 from by decide]; exact hq) (Nat.two_pow_pos _)
      rw [← Nat.pow_add, show 53 + (N.log2 + 1) = 54 + N.log2 from by omega] at h3
      omega
    by_cases hc : 0 ≤ e + j - i + more
    · obtain ⟨c, hcc⟩ : ∃ c : Nat, (c : Int) = e + j - i + more := ⟨(e + j - i + more).toNat, by omega⟩
      have h1 : m * 2 ^ more = q * 2 ^ c * N := by
        rw [Nat.mul_assoc, Nat.mul_comm (2 ^ c) N, ← Nat.mul_assoc]
        exact scale_eq h (by omega)
      rw [h1, Nat.mul_div_cancel _ (Nat.pos_of_ne_zero hN), Nat.mul_mod_left]
      refine rung_congr (a := 0) (b := c + 1) (by omega) ?_
      simp only [bne_self_eq_false, Bool.toNat_false, Nat.add_zero, Nat.pow_zero, Nat.mul_one]
      rw [Nat.pow_succ, Nat.mul_comm (2 ^ c) 2, Nat.mul_left_comm]
    · exfalso
      obtain ⟨c, hcc⟩ : ∃ c : Nat, (c : Int) = -(e + j - i + more) := ⟨(-(e + j - i + more)).toNat, by omega⟩
      have h1 : m * 2 ^ (more + c) = q * N * 2 ^ 0 := scale_eq h (by omega)
      rw [Nat.pow_add, ← Nat.mul_assoc, Nat.pow_zero, Nat.mul_one] at h1
      have h2 : m * 2 ^ more * 1 ≤ m * 2 ^ more * 2 ^ c := Nat.mul_le_mul_left _ (Nat.one_le_two_pow)
      omega
theorem sec_whole (n : Nat) (h : n ≤ 1099511627776) : secV (1000 * (n : Int)) = floatOfInt .f64 (n : Int) := by
  obtain ⟨s, hs, hw, hf⟩ := rep (1000 * n) kE (by omega) (by have := kE_eq; omega) (by have := kE_eq; omega)
  rw [show ((kE : Nat) : Int) - 1074 = 0 from by decide] at hf
  obtain ⟨m, i, e, hi, hm⟩ := read_rung hs
  have hx : floatOfInt .f64 (1000 * (n : Int)) = s := by
    rw [show 1000 * (n : Int) = ((1000 * n : Nat) : Int) from by omega, ofInt_rung, hf]
  obtain ⟨t, ht⟩ : ∃ t : Nat, t = 1031 := ⟨_, rfl⟩
  unfold secV
  rw [hx, quo_exact (q := n) (e := 0) e read_thousand (by decide) (by omega) (i + 1074).toNat t (by omega) ?_, ofInt_rung]
  · rfl
  · rw [hm, hw, show (8796093022208000 : Nat) = 1000 * 2 ^ 43 from by decide, show kE = 43 + t from by rw [ht]; rfl, Nat.pow_add, ← Nat.mul_assoc, ← Nat.mul_assoc, Nat.mul_comm 1000 n]
/-- a speed's float. -/
theorem flo_exact (n k : Nat) (hk : k ≤ 20) (hn : n < 9007199254740992) : ∃ r, r < 9218868437227405312 ∧ val r = n * 2 ^ (kE - k) ∧ floV n (2 ^ k) = r ∧ rungN n (-(k : Int)) = r := by
  obtain ⟨r, hr, hv, he⟩ := rep n (kE - k) hn (by have := kE_eq; omega) (by have := kE_eq; omega)
  rw [show ((kE - k : Nat) : Int) - 1074 = -(k : Int) from by have := kE_eq; omega] at he
  refine ⟨r, hr, hv, ?_, he⟩
  obtain ⟨s, hs, hw, hf⟩ := rep n kE hn (by have := kE_eq; omega) (by have := kE_eq; omega)
  obtain ⟨t, ht, hz, hg⟩ := rep (2 ^ k) kE (Nat.lt_of_le_of_lt (Nat.pow_le_pow_right (by decide) hk : 2 ^ k ≤ 2 ^ 20) (by decide)) (by have := kE_eq; omega) (by have := kE_eq; omega)
  rw [show ((kE : Nat) : Int) - 1074 = 0 from by decide] at hf hg
  obtain ⟨m, i, e, hi, hm⟩ := read_rung hs
  obtain ⟨N, j, f, hj, hN⟩ := read_rung ht
  have hN0 : N ≠ 0 := by
    rintro rfl
    rw [Nat.zero_mul, hz] at hN
    have := Nat.mul_pos (Nat.two_pow_pos k) (Nat.two_pow_pos kE)
    omega
  unfold floV
  rw [ofInt_rung, ofInt_rung, hf, hg, quo_exact (q := n) (e := -(k : Int)) e f hN0 hn ((i + 1074).toNat + (k + kE)) (kE + (j + 1074).toNat) (by have := kE_eq; omega) ?_, he]
  · rfl
  · rw [Nat.pow_add, ← Nat.mul_assoc, hm, hw, Nat.pow_add 2 kE, ← Nat.mul_assoc, Nat.mul_right_comm (n * N), Nat.mul_assoc n N, hN, hz, Nat.pow_add 2 k]
    generalize 2 ^ kE = P
    generalize 2 ^ k = Q
    rw [Nat.mul_assoc n P, Nat.mul_assoc n (Q * P), Nat.mul_comm P (Q * P)]
end Go.Proofs.YtlhapnnepcnfbaaDoor.Fy
