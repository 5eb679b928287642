/- Plain facts on 64-bit words: the sign bit, the words of NaNs. No program in sight. -/
import Derived.WalkKit
import Derived.Laws.BitsAllLaws
namespace Go.Proofs.Ytellhkcleicfbaa.Nums
open Go Go.RowKit

/-- a word of 64 bits. -/
def In64 (b : Int) : Prop := 0 ≤ b ∧ b < 18446744073709551616
/-- is it the word of a NaN? -/
def nanB (b : Int) : Bool := decide (9218868437227405312 < b % 9223372036854775808)
/-- does the word bear the sign bit? -/
def negB (b : Int) : Bool := decide (9223372036854775808 ≤ b)

theorem not63 (b : Int) (hb64 : In64 b) : bits .andNot .u64 b 9223372036854775808 = b % 9223372036854775808 := by
  obtain ⟨h0, h1⟩ := hb64
  rw [u64_andNot b _ h0 h1 (by decide) (by decide)]
  have : b.toNat &&& (18446744073709551615 - (9223372036854775808 : Int).toNat) = b.toNat % 2 ^ 63 := by
    rw [← Nat.and_two_pow_sub_one_eq_mod]; rfl
  rw [this]; omega
theorem and63 (b : Int) (hb64 : In64 b) : bits .and .u64 b 9223372036854775808 = if negB b then 9223372036854775808 else 0 := by
  obtain ⟨h0, h1⟩ := hb64
  rw [u64_and b _ h0 h1 (by decide) (by decide)]
  have : b.toNat &&& (9223372036854775808 : Int).toNat = b.toNat / 2 ^ 63 % 2 * 2 ^ 63 := by
    rw [show (9223372036854775808 : Int).toNat = 2 ^ 63 from rfl]
    apply Nat.eq_of_testBit_eq
    intro i
    rw [Nat.testBit_and, Nat.testBit_two_pow, Nat.testBit_mul_two_pow]
    by_cases hi : 63 = i
    · subst hi
      simp [Nat.testBit_eq_decide_div_mod_eq]
    · by_cases hl : 63 ≤ i
      · have h2 : b.toNat / 2 ^ 63 % 2 = 0 ∨ b.toNat / 2 ^ 63 % 2 = 1 := by omega
        rcases h2 with h2 | h2
        · simp [hi, h2]
        · have : Nat.testBit 1 (i - 63) = false := by
            cases h : Nat.testBit 1 (i - 63)
            · rfl
            · have := Nat.testBit_one_eq_true_iff_self_eq_zero.1 h; omega
          simp [hi, h2, this]
      · simp [hi, hl]
  rw [this]
  unfold negB
  by_cases h : 9223372036854775808 ≤ b
  · rw [if_pos (by simpa using h)]; omega
  · rw [if_neg (by simpa using h)]; omega
theorem or63 (b : Int) (hb64 : In64 b) (hn : negB b = false) : bits .or .u64 b 9223372036854775808 = b + 9223372036854775808 := by
  obtain ⟨h0, h1⟩ := hb64
  have hb : b < 9223372036854775808 := by simpa [negB] using hn
  rw [u64_or b _ h0 h1 (by decide) (by decide)]
  have : b.toNat ||| (9223372036854775808 : Int).toNat = b.toNat + 2 ^ 63 := by
    have hlt : b.toNat < 2 ^ 63 := by omega
    have := Nat.two_pow_add_eq_or_of_lt hlt 1
    rw [show (9223372036854775808 : Int).toNat = 2 ^ 63 * 1 from rfl, Nat.or_comm, ← this]; omega
  rw [this]; omega
theorem nan_dec (b : Int) (hb64 : In64 b) : decide (9218868437227405312 < bits .andNot .u64 b 9223372036854775808) = nanB b := by
  rw [not63 b hb64]; rfl
theorem rnan_dec (b : Int) (hb64 : In64 b) : decide (18437736874454810624 < IntKind.u64.wrap (b * 2)) = nanB b := by
  obtain ⟨h0, h1⟩ := hb64
  unfold nanB; congr 1; rw [IntKind.wrap_u64]; apply propext; omega
theorem xor_max (c : Int) (h : In64 c) : bits .xor .u64 IntKind.u64.max c = 18446744073709551615 - c := by
  obtain ⟨h0, h1⟩ := h
  rw [show IntKind.u64.max = 18446744073709551615 from by decide, u64_xor _ c (by decide) (by decide) h0 h1]
  have hb : c.toNat < 2 ^ 64 := by omega
  have e : (BitVec.allOnes 64 ^^^ BitVec.ofNat 64 c.toNat).toNat = 2 ^ 64 - 1 - c.toNat := by
    rw [BitVec.allOnes_xor, BitVec.toNat_not, BitVec.toNat_ofNat, Nat.mod_eq_of_lt hb]
  rw [BitVec.toNat_xor, BitVec.toNat_allOnes, BitVec.toNat_ofNat, Nat.mod_eq_of_lt hb] at e
  rw [show (18446744073709551615 : Int).toNat = 2 ^ 64 - 1 from rfl, e]
  omega
/-- one form for all NaNs. -/
def oneN (b : Int) : Int := if nanB b then 9221120237041090560 else b
theorem oneN_in {b : Int} (h : In64 b) : In64 (oneN b) := by unfold oneN; split; exact ⟨by omega, by omega⟩; exact h
theorem and_neg {b : Int} (h : In64 b) : (bits BinOp.and IntKind.u64 b 9223372036854775808 != 0) = negB b := by
  rw [and63 b h]; cases negB b <;> rfl
/-- the code's place of a float in the order, and the document's. -/
def rankZ (b : Int) : Int := if negB (oneN b) then 18446744073709551615 - oneN b else oneN b + 9223372036854775808
def rrankZ (b : Int) : Int := if oneN b == 9221120237041090560 then 18446744073709551615 else if oneN b / 9223372036854775808 == 1 then 18446744073709551615 - oneN b else oneN b + 9223372036854775808
def ordZ (x y : Int) : Int := if x < y then -1 else if y < x then 1 else 0
theorem neg_div {c : Int} (h : In64 c) : (c / 9223372036854775808 == 1) = negB c := by
  obtain ⟨h0, h1⟩ := h
  unfold negB
  by_cases hc : 9223372036854775808 ≤ c
  · rw [decide_eq_true hc]; simp; omega
  · rw [decide_eq_false hc]; simp; omega
theorem ord_same {a b : Int} (ha : In64 a) (hb : In64 b) : ordZ (rankZ a) (rankZ b) = ordZ (rrankZ a) (rrankZ b) := by
  obtain ⟨a0, a1⟩ := ha
  obtain ⟨b0, b1⟩ := hb
  have key : ∀ c : Int, 0 ≤ c → c < 18446744073709551616 →
      (rankZ c = 18444492273895866368 ∧ rrankZ c = 18446744073709551615) ∨ (rankZ c = rrankZ c ∧ (rankZ c < 18444492273895866368)) := by
    intro c c0 c1
    unfold rankZ rrankZ
    rw [neg_div (oneN_in ⟨c0, c1⟩)]
    by_cases hn : nanB c = true
    · left; simp [oneN, hn, negB]
    · right
      have hm : ¬ 9218868437227405312 < c % 9223372036854775808 := by simpa [nanB] using hn
      have e : oneN c = c := by simp [oneN, hn]
      rw [e]
      have hne : (c == 9221120237041090560) = false := by simp; omega
      rw [hne]
      refine ⟨by simp, ?_⟩
      by_cases hg : 9223372036854775808 ≤ c
      · rw [if_pos (by simp [negB, hg])]; omega
      · rw [if_neg (by simp [negB, hg])]; omega
  unfold ordZ
  rcases key a a0 a1 with ⟨p, q⟩ | ⟨p, q⟩ <;> rcases key b b0 b1 with ⟨r, s⟩ | ⟨r, s⟩
  · rw [p, q, r, s]; simp
  · rw [← r, p, q, if_neg (by omega), if_pos (by omega), if_neg (by omega), if_pos (by omega)]
  · rw [← p, r, s, if_pos (by omega), if_pos (by omega)]
  · rw [← p, ← r]
end Go.Proofs.Ytellhkcleicfbaa.Nums
