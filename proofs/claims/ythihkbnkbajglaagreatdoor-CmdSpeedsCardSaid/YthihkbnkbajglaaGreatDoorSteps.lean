/- rate.steps: the contract of the code. -/
import Derived.Test.YthihkbnkbajglaaGreatDoorScale2
import Derived.Test.YthihkbnkbajglaaGreatDoorRate0
import Derived.Deep.QuietTactic
import Derived.BigQuiet
set_option linter.unusedVariables false
namespace Go.Proofs.YthihkbnkbajglaaGreatDoor.Steps
open Go Go.RowKit Kit Nums Rate0 Rate1 Scale

/-- to multiples, ties to even. -/
def roundN (M D : Nat) : Nat := if 2 ^ (D - 1) < M % 2 ^ D ∨ (M % 2 ^ D = 2 ^ (D - 1) ∧ M / 2 ^ D % 2 = 1) then M / 2 ^ D + 1 else M / 2 ^ D
set_option maxRecDepth 100000 in
theorem stepsSmall (b : Nat) (w : World) (F E : Int) (m1 : bits .and .u64 (b : Int) 4503599627370495 = F) (m2 : bits .and .u64 ((b : Int) / 4503599627370496) 2047 = E) (M : Int) (m3 : bits .or .u64 F 4503599627370496 = M) (hE0 : 0 ≤ E) (hE : E ≤ 991) :
    Calls Tryz.prog 50 #[.int .u64 b] w fun e w' => e = .returned (.int .u64 0) ∧ ∃ n, w.drewN n = w' := by
  by_cases h0 : E = 0
  · subst h0
    go_enter Tryz.func50, Tryz.ntmps50
    go_wp2
    go_ret
    exact ⟨rfl, 0, rfl⟩
  · have hne : (E != 0) = true := by simpa using h0
    go_enter Tryz.func50, Tryz.ntmps50
    go_wp2
    go_ret
    exact ⟨rfl, 0, rfl⟩
set_option maxRecDepth 100000 in
set_option maxHeartbeats 1000000 in
theorem stepsBig (b D : Nat) (w : World) (F : Int) (hD1 : 22 ≤ D) (hD2 : D ≤ 63) (m1 : bits .and .u64 (b : Int) 4503599627370495 = F) (m2 : bits .and .u64 ((b : Int) / 4503599627370496) 2047 = 1055 - (D : Int)) (M : Nat) (m3 : bits .or .u64 F 4503599627370496 = (M : Int))
    (H : Int) (L W Q : Nat) (e1 : IntKind.u64.wrap (2 ^ D) = H) (e2 : IntKind.u64.wrap (H - 1) = H - 1) (e3 : bits .and .u64 (M : Int) (H - 1) = (L : Int)) (e4 : IntKind.u64.wrap (2 ^ (D - 1)) = (W : Int)) (e5 : (M : Int) / 2 ^ D = (Q : Int)) (hQ : Q < 9223372036854775807)
    (R : Nat) (hR : Hid (R = if W < L ∨ (L = W ∧ Q % 2 = 1) then Q + 1 else Q)) :
    Calls Tryz.prog 50 #[.int .u64 b] w fun e w' => e = .returned (.int .u64 R) ∧ ∃ n, w.drewN n = w' := by
  have hne : ((1055 - (D : Int)) != 0) = true := by simp; omega
  have e0 : -(-1074 + (1055 - (D : Int) - 1) + 20) = (D : Int) := by omega
  go_enter Tryz.func50, Tryz.ntmps50
  go_wp2
  go_quiet (fail)
  go_wp2
  all_goals go_ret
  all_goals refine ⟨ret_int ?_, _, rfl⟩
  all_goals rw [hR.out]
  all_goals ((try simp only [beq_iff_eq, beq_eq_false_iff_ne] at *); split <;> omega)
/-- what steps answers of a word with no sign whose exponent is 1033 at most. -/
def stepsN (b : Nat) : Nat := if b / 4503599627370496 ≤ 991 then 0 else roundN (b % 4503599627370496 + 4503599627370496) (1055 - b / 4503599627370496)
theorem stepsC (b : Nat) (w : World) (hb : b / 4503599627370496 ≤ 1033) : Calls Tryz.prog 50 #[.int .u64 b] w fun e w' => e = .returned (.int .u64 (stepsN b)) ∧ ∃ n, w.drewN n = w' := by
  have hb64 : b < 18446744073709551616 := by omega
  have m1 : bits .and .u64 (b : Int) 4503599627370495 = ((b % 4503599627370496 : Nat) : Int) := by
    have := u64_and_nat b 4503599627370495 hb64 (by decide)
    rw [show ((4503599627370495 : Nat) : Int) = 4503599627370495 from rfl] at this
    rw [this, show (4503599627370495 : Nat) = 2 ^ 52 - 1 from rfl, Nat.and_two_pow_sub_one_eq_mod]
  have m2 : bits .and .u64 ((b : Int) / 4503599627370496) 2047 = ((b / 4503599627370496 : Nat) : Int) := by
    have := u64_and_nat (b / 4503599627370496) 2047 (by omega) (by decide)
    rw [show ((2047 : Nat) : Int) = 2047 from rfl, show ((b / 4503599627370496 : Nat) : Int) = (b : Int) / 4503599627370496 from by omega] at this
    rw [this, show (2047 : Nat) = 2 ^ 11 - 1 from rfl, Nat.and_two_pow_sub_one_eq_mod, Nat.mod_eq_of_lt (by omega)]
  have m3 : bits .or .u64 ((b % 4503599627370496 : Nat) : Int) 4503599627370496 = ((b % 4503599627370496 + 4503599627370496 : Nat) : Int) := by
    have := u64_or_nat (b % 4503599627370496) 4503599627370496 (by omega) (by decide)
    rw [show ((4503599627370496 : Nat) : Int) = 4503599627370496 from rfl] at this
    rw [this, Nat.or_comm, nat_join 52 4503599627370496 (b % 4503599627370496) (by decide) (by omega), Nat.add_comm]
  by_cases h : b / 4503599627370496 ≤ 991
  · rw [stepsN, if_pos h]
    exact stepsSmall b w _ _ m1 m2 _ m3 (by omega) (by omega)
  · rw [stepsN, if_neg h]
    obtain ⟨D, hD⟩ : ∃ D, D = 1055 - b / 4503599627370496 := ⟨_, rfl⟩
    rw [← hD]
    have hM : b % 4503599627370496 + 4503599627370496 < 9007199254740992 := by omega
    generalize b % 4503599627370496 + 4503599627370496 = M at *
    have p1 : 2 ^ D ≤ 2 ^ 63 := Nat.pow_le_pow_right (by decide) (by omega)
    have p2 : 2 ^ (D - 1) ≤ 2 ^ 62 := Nat.pow_le_pow_right (by decide) (by omega)
    have p0 := Nat.two_pow_pos D
    have q1 : (2 : Nat) ^ 63 = 9223372036854775808 := by decide
    have q2 : (2 : Nat) ^ 62 = 4611686018427387904 := by decide
    have c1 : ((2 : Int) ^ D) = ((2 ^ D : Nat) : Int) := by rw [Int.natCast_pow]; rfl
    have c2 : ((2 : Int) ^ (D - 1)) = ((2 ^ (D - 1) : Nat) : Int) := by rw [Int.natCast_pow]; rfl
    have c3 : (M : Int) / 2 ^ D = ((M / 2 ^ D : Nat) : Int) := by rw [Int.natCast_ediv, Int.natCast_pow]; rfl
    have c4 : ((2 ^ D : Nat) : Int) - 1 = ((2 ^ D - 1 : Nat) : Int) := by omega
    have small : ∀ A : Nat, A < 18446744073709551616 → IntKind.u64.wrap (A : Int) = (A : Int) := fun A h => by rw [wu]; omega
    have hq : M / 2 ^ D ≤ M := Nat.div_le_self _ _
    refine stepsBig b D w _ (by omega) (by omega) m1 (by rw [m2]; omega) M m3 ((2 ^ D : Nat) : Int) (M % 2 ^ D) (2 ^ (D - 1)) (M / 2 ^ D) (by rw [c1]; exact small _ (by omega)) (by rw [c4]; exact small _ (by omega)) ?_ (by rw [c2]; exact small _ (by omega)) c3 (by omega) (roundN M D) (Lib.hid rfl)
    rw [c4, u64_and_nat M (2 ^ D - 1) (by omega) (by omega), Nat.and_two_pow_sub_one_eq_mod]
end Go.Proofs.YthihkbnkbajglaaGreatDoor.Steps
