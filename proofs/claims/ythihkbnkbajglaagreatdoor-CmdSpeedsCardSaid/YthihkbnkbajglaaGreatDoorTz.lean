/- math/bits.TrailingZeros64 and rate.leastTerms: contracts. -/
import Derived.Test.YthihkbnkbajglaaGreatDoorSteps
import Derived.Deep.RegionHeld3
import Derived.Handy
set_option linter.unusedVariables false
namespace Go.Proofs.YthihkbnkbajglaaGreatDoor.Tz
open Go Go.RowKit Kit Nums Rate0 Rate1 Scale Steps

theorem low_bit {q c n : Nat} (hq : q < 2 ^ n) : (2 ^ (c + 1) * q + 2 ^ c) &&& (2 ^ (c + 1) * (2 ^ n - (q + 1)) + 2 ^ c) = 2 ^ c := by
  have hc : 2 ^ c < 2 ^ (c + 1) := Nat.pow_lt_pow_right (by decide) (by omega)
  apply Nat.eq_of_testBit_eq
  intro i
  rw [Nat.testBit_and, Nat.testBit_two_pow_mul_add _ hc, Nat.testBit_two_pow_mul_add _ hc]
  by_cases hi : i < c + 1
  · simp [hi]
  · simp only [if_neg hi]
    rw [Nat.testBit_two_pow_sub_succ hq, Nat.testBit_two_pow]
    have : ¬ c = i := by omega
    simp [this]
    exact fun h _ => h
/-- a number and what is left of it from 2^64: the last bit that is set. -/
theorem and_neg {m c : Nat} (hm : m % 2 = 1) (hx : m * 2 ^ c < 18446744073709551616) (hc : c ≤ 40) : (m * 2 ^ c) &&& (18446744073709551616 - m * 2 ^ c) = 2 ^ c := by
  obtain ⟨q, rfl⟩ : ∃ q, m = 2 * q + 1 := ⟨m / 2, by omega⟩
  have e64 : 2 ^ (c + 1) * 2 ^ (63 - c) = 18446744073709551616 := by rw [← Nat.pow_add, show c + 1 + (63 - c) = 64 by omega]
  have e1 : (2 * q + 1) * 2 ^ c = 2 ^ (c + 1) * q + 2 ^ c := by rw [Nat.add_mul, Nat.pow_succ]; rw [Nat.mul_comm (2 ^ c) 2, Nat.mul_assoc 2, Nat.mul_assoc 2, Nat.mul_comm q]; omega
  have hq : q < 2 ^ (63 - c) := by
    rcases Nat.lt_or_ge q (2 ^ (63 - c)) with h | h
    · exact h
    · exfalso
      have := Nat.mul_le_mul_left (2 ^ (c + 1)) h
      rw [e64] at this
      rw [e1] at hx
      exact absurd (Nat.le_trans this (Nat.le_add_right _ _)) (Nat.not_le.2 hx)
  have e2 : 18446744073709551616 - (2 * q + 1) * 2 ^ c = 2 ^ (c + 1) * (2 ^ (63 - c) - (q + 1)) + 2 ^ c := by
    rw [e1, ← e64, Nat.mul_sub, Nat.mul_add]
    have h1 := Nat.mul_le_mul_left (2 ^ (c + 1)) (show q + 1 ≤ 2 ^ (63 - c) from hq)
    rw [Nat.mul_add] at h1
    have h2 : 2 ^ (c + 1) = 2 * 2 ^ c := by rw [Nat.pow_succ, Nat.mul_comm]
    generalize 2 ^ (c + 1) * q = A at *
    generalize 2 ^ (c + 1) * 2 ^ (63 - c) = B at *
    omega
  rw [e2, e1]
  exact low_bit hq
def tabI : List Nat := [0, 1, 56, 2, 57, 49, 28, 3, 61, 58, 42, 50, 38, 29, 17, 4, 62, 47, 59, 36, 45, 43, 51, 22, 53, 39, 33, 30, 24, 18, 12, 5, 63, 55, 48, 27, 60, 41, 37, 16, 46, 35, 44, 21, 52, 32, 23, 11, 54, 26, 40, 15, 34, 20, 31, 10, 25, 14, 19, 9, 13, 8, 7, 6]
/-- the table's place of a bit. -/
def placeN (c : Nat) : Nat := 2 ^ c * 285870213051353865 % 18446744073709551616 / 288230376151711744
theorem place_tab : ∀ c, c ≤ 40 → placeN c < 64 ∧ tabI.getD (placeN c) 0 = c := by decide
set_option maxRecDepth 100000 in
theorem tzBig (x : Int) (w : World) (N P V : Int) (i c : Nat) (hx : (x == 0) = false) (e0 : IntKind.u64.wrap (-x) = N) (e1 : bits .and .u64 x N = P) (e2 : IntKind.u64.wrap (P * 285870213051353865) = V) (e3 : V / 288230376151711744 = (i : Int)) (hi : i < 64) (hc : c < 64)
    (hT : w.cell? ⟨1, i, none⟩ = some (.int .u8 (c : Int))) : Calls Tryz.prog 74 #[.int .u64 x] w fun e w' => e = .returned (.int .i64 (c : Int)) ∧ w = w' := by
  go_enter Tryz.func74, Tryz.ntmps74
  go_wp2
  go_ret
  exact ⟨rfl, rfl⟩
theorem tzC (m c : Nat) (w : World) (hm : m % 2 = 1) (hc : c ≤ 40) (hx : m * 2 ^ c < 18446744073709551616) (hT : w.cell? ⟨1, placeN c, none⟩ = some (.int .u8 (c : Int))) :
    Calls Tryz.prog 74 #[.int .u64 ((m * 2 ^ c : Nat) : Int)] w fun e w' => e = .returned (.int .i64 (c : Int)) ∧ w = w' := by
  have ha := and_neg hm hx hc
  have hp : 0 < m * 2 ^ c := Nat.mul_pos (by omega) (Nat.two_pow_pos c)
  have hcp : 2 ^ c ≤ 2 ^ 40 := Nat.pow_le_pow_right (by decide) hc
  have e40 : (2 : Nat) ^ 40 = 1099511627776 := by decide
  generalize m * 2 ^ c = x at *
  have hw : ∀ A : Nat, IntKind.u64.wrap (A : Int) = ((A % 18446744073709551616 : Nat) : Int) := fun A => by rw [wu]; omega
  refine tzBig (x : Int) w ((18446744073709551616 - x : Nat) : Int) ((2 ^ c : Nat) : Int) ((2 ^ c * 285870213051353865 % 18446744073709551616 : Nat) : Int) (placeN c) c (by simp; omega) (by rw [wu]; omega) ?_ ?_ ?_ (place_tab c hc).1 (by omega) hT
  · rw [u64_and_nat x _ hx (by omega), ha]
  · rw [← hw]; congr 1
  · unfold placeN; rw [Int.natCast_ediv]; rfl
set_option maxRecDepth 100000 in
theorem leastBig (n c : Nat) (w : World) (hc : c ≤ 64) (T : Hid (∀ o, Calls Tryz.prog 74 #[.int .u64 (n : Int)] (w.alloc o) fun e w' => e = .returned (.int .i64 (c : Int)) ∧ w.alloc o = w')) (s : Nat) (hs : s = min c 20) (N D : Int) (e1 : (n : Int) / 2 ^ s = N) (e2 : (1048576 : Int) / 2 ^ s = D) :
    Calls Tryz.prog 51 #[.int .u64 (n : Int)] w fun e w' => e = .returned (.agg #[.int .u64 N, .int .u64 D]) ∧ Below w.heap.size w w' := by
  by_cases h : c ≤ 20
  · obtain rfl : s = c := by omega
    have h' : (s : Int) ≤ 20 := by omega
    clear hs
    go_enter Tryz.func51, Tryz.ntmps51
    go_wp2_with (go_at_call 74; refine (T.out _).mono ?_; rintro e w' ⟨rfl, rfl⟩)
    go_region_held3 (fun _ => True) (trivial) (fail)
    go_wp2
    go_returns
    exact ⟨rfl, ((Below.refl _ _).alloc (Nat.le_refl _) _).drew⟩
  · obtain rfl : s = 20 := by omega
    have h' : (20 : Int) < c := by omega
    clear hs
    go_enter Tryz.func51, Tryz.ntmps51
    go_wp2_with (go_at_call 74; refine (T.out _).mono ?_; rintro e w' ⟨rfl, rfl⟩)
    go_region_held3 (fun _ => True) (trivial) (fail)
    go_wp2
    go_returns
    exact ⟨by subst e1 e2; simp, ((Below.refl _ _).alloc (Nat.le_refl _) _).drew⟩
end Go.Proofs.YthihkbnkbajglaaGreatDoor.Tz
