/- Contracts on the words of floats: the forms, the order, what is refused. -/
import Derived.Test.YthihkbnkbajglaaGreatDoorKit
import Derived.Test.YthihkbnkbajglaaGreatDoorNums
namespace Go.Proofs.YthihkbnkbajglaaGreatDoor.Rate0
open Go Go.RowKit Kit Nums

theorem run60 (b : Nat) (w : World) : (callFunc 48 #[.float .f64 b]).run Tryz.prog w = .ok (.value (.int .u64 b)) w := by kernel_rfl
theorem run62 (b : Int) (w : World) : (callFunc 75 #[.int .u64 b]).run Tryz.prog w = .ok (.value (.float .f64 b.toNat)) w := by kernel_rfl
theorem isNaN (b : Int) (w : World) (h : In64 b) : Calls Tryz.prog 73 #[.int .u64 b] w fun e w' => e = .returned (.bool (nanB b)) ∧ w = w' := by
  go_enter Tryz.func73, Tryz.ntmps73
  go_wp2
  go_ret
  exact ⟨ret_bool (nan_dec b h), rfl⟩
theorem rIsNaN (b : Int) (w : World) (h : In64 b) : Calls Tryz.prog 84 #[.int .u64 b] w fun e w' => e = .returned (.bool (nanB b)) ∧ w = w' := by
  go_enter Tryz.func84, Tryz.ntmps84
  go_wp2
  go_ret
  exact ⟨ret_bool (rnan_dec b h), rfl⟩
def errU (b : Int) : Int := if nanB b then 10 else if negB b then 11 else 0
theorem unsigned (b : Nat) (w : World) (h : In64 b) : Calls Tryz.prog 49 #[.float .f64 b] w fun e w' => e = .returned (.int .i64 (errU b)) ∧ w = w' := by
  have r := run60
  have ea := Lib.hid (and63 b h)
  go_enter Tryz.func49, Tryz.ntmps49
  go_wp2_with (go_at_call 73; refine (isNaN _ _ h).mono ?_; rintro e w' ⟨rfl, rfl⟩)
  all_goals go_ret
  all_goals refine ⟨ret_int ?_, rfl⟩
  all_goals simp_all [errU, and_neg h]
theorem oneNaN (b : Int) (w : World) (h : In64 b) : Calls Tryz.prog 47 #[.int .u64 b] w fun e w' => e = .returned (.int .u64 (oneN b)) ∧ w = w' := by
  go_enter Tryz.func47, Tryz.ntmps47
  go_wp2_with (go_at_call 73; refine (isNaN _ _ h).mono ?_; rintro e w' ⟨rfl, rfl⟩)
  all_goals go_ret
  all_goals exact ⟨ret_int (by simp [oneN, *]), rfl⟩
theorem bitsC (b : Nat) (w : World) (h : In64 b) : Calls Tryz.prog 18 #[.float .f64 b] w fun e w' => e = .returned (.int .u64 (oneN b)) ∧ w = w' := by
  have r := run60
  go_enter Tryz.func18, Tryz.ntmps18
  go_wp2_with (go_at_call 47; refine (oneNaN _ _ h).mono ?_; rintro e w' ⟨rfl, rfl⟩)
  go_ret
  exact ⟨rfl, rfl⟩
theorem fromC (b : Int) (w : World) (h : In64 b) : Calls Tryz.prog 53 #[.int .u64 b] w fun e w' => e = .returned (.float .f64 (oneN b).toNat) ∧ w = w' := by
  have r := run62
  go_enter Tryz.func53, Tryz.ntmps53
  go_wp2_with (go_at_call 47; refine (oneNaN _ _ h).mono ?_; rintro e w' ⟨rfl, rfl⟩)
  go_ret
  exact ⟨rfl, rfl⟩
theorem rNan (w : World) : Calls Tryz.prog 85 #[] w fun e w' => e = .returned (.int .u64 9221120237041090560) ∧ w = w' := by
  go_enter Tryz.func85, Tryz.ntmps85
  go_wp2
  go_ret
  exact ⟨rfl, rfl⟩
theorem rBits (b : Nat) (w : World) (h : In64 b) : Calls Tryz.prog 60 #[.float .f64 b] w fun e w' => e = .returned (.int .u64 (oneN b)) ∧ w = w' := by
  have r := run60
  go_enter Tryz.func60, Tryz.ntmps60
  go_wp2_with (first | (go_at_call 84; refine (rIsNaN _ _ h).mono ?_; rintro e w' ⟨rfl, rfl⟩) | (go_at_call 85; refine (rNan _).mono ?_; rintro e w' ⟨rfl, rfl⟩))
  all_goals go_ret
  all_goals exact ⟨ret_int (by simp [oneN, *]), rfl⟩
theorem rankZ_neg {b : Int} (h : In64 b) (h1 : (bits BinOp.and IntKind.u64 (oneN b) 9223372036854775808 != 0) = true) : bits BinOp.xor IntKind.u64 IntKind.u64.max (oneN b) = rankZ b := by
  rw [and_neg (oneN_in h)] at h1
  rw [rankZ, if_pos h1, xor_max _ (oneN_in h)]
theorem rankZ_pos {b : Int} (h : In64 b) (h1 : (bits BinOp.and IntKind.u64 (oneN b) 9223372036854775808 != 0) = false) : bits BinOp.or IntKind.u64 (oneN b) 9223372036854775808 = rankZ b := by
  rw [and_neg (oneN_in h)] at h1
  rw [rankZ, if_neg (by simp [h1]), or63 _ (oneN_in h) h1]
theorem rrankZ_nan {b : Int} (h1 : (oneN b == 9221120237041090560) = true) : 18446744073709551615 = rrankZ b := by rw [rrankZ, if_pos h1]
theorem rrankZ_neg {b : Int} (h : In64 b) (h1 : (oneN b == 9221120237041090560) = false) (h2 : (oneN b / 9223372036854775808 == 1) = true) : bits BinOp.xor IntKind.u64 IntKind.u64.max (oneN b) = rrankZ b := by
  rw [rrankZ, if_neg (by rw [h1]; decide), if_pos h2, xor_max _ (oneN_in h)]
theorem rrankZ_pos {b : Int} (h : In64 b) (h1 : (oneN b == 9221120237041090560) = false) (h2 : (oneN b / 9223372036854775808 == 1) = false) : bits BinOp.or IntKind.u64 (oneN b) 9223372036854775808 = rrankZ b := by
  rw [rrankZ, if_neg (by rw [h1]; decide), if_neg (by rw [h2]; decide), or63 _ (oneN_in h) (by rw [← neg_div (oneN_in h)]; exact h2)]
end Go.Proofs.YthihkbnkbajglaaGreatDoor.Rate0
