/- Contracts on the words of floats: the forms, the order, what is refused. -/
import Derived.Test.YtlhapnnepcnfbaaDoorKit
import Derived.Test.YtlhapnnepcnfbaaDoorNums
namespace Go.Proofs.YtlhapnnepcnfbaaDoor.Rate0
open Go Go.RowKit Kit Nums

theorem run60 (b : Nat) (w : World) : (callFunc 60 #[.float .f64 b]).run Tryd.prog w = .ok (.value (.int .u64 b)) w := by kernel_rfl
theorem run62 (b : Int) (w : World) : (callFunc 62 #[.int .u64 b]).run Tryd.prog w = .ok (.value (.float .f64 b.toNat)) w := by kernel_rfl
theorem isNaN (b : Int) (w : World) (h : In64 b) : Calls Tryd.prog 79 #[.int .u64 b] w fun e w' => e = .returned (.bool (nanB b)) ∧ w = w' := by
  go_enter Tryd.func79, Tryd.ntmps79
  go_wp2
  go_ret
  exact ⟨ret_bool (nan_dec b h), rfl⟩
theorem rIsNaN (b : Int) (w : World) (h : In64 b) : Calls Tryd.prog 64 #[.int .u64 b] w fun e w' => e = .returned (.bool (nanB b)) ∧ w = w' := by
  go_enter Tryd.func64, Tryd.ntmps64
  go_wp2
  go_ret
  exact ⟨ret_bool (rnan_dec b h), rfl⟩
def errU (b : Int) : Int := if nanB b then 10 else if negB b then 11 else 0
theorem unsigned (b : Nat) (w : World) (h : In64 b) : Calls Tryd.prog 58 #[.float .f64 b] w fun e w' => e = .returned (.int .i64 (errU b)) ∧ w = w' := by
  have r := run60
  have ea := Lib.hid (and63 b h)
  go_enter Tryd.func58, Tryd.ntmps58
  go_wp2_with (go_at_call 79; refine (isNaN _ _ h).mono ?_; rintro e w' ⟨rfl, rfl⟩)
  all_goals go_ret
  all_goals refine ⟨ret_int ?_, rfl⟩
  all_goals simp_all [errU, and_neg h]
theorem oneNaN (b : Int) (w : World) (h : In64 b) : Calls Tryd.prog 63 #[.int .u64 b] w fun e w' => e = .returned (.int .u64 (oneN b)) ∧ w = w' := by
  go_enter Tryd.func63, Tryd.ntmps63
  go_wp2_with (go_at_call 79; refine (isNaN _ _ h).mono ?_; rintro e w' ⟨rfl, rfl⟩)
  all_goals go_ret
  all_goals exact ⟨ret_int (by simp [oneN, *]), rfl⟩
theorem bitsC (b : Nat) (w : World) (h : In64 b) : Calls Tryd.prog 21 #[.float .f64 b] w fun e w' => e = .returned (.int .u64 (oneN b)) ∧ w = w' := by
  have r := run60
  go_enter Tryd.func21, Tryd.ntmps21
  go_wp2_with (go_at_call 63; refine (oneNaN _ _ h).mono ?_; rintro e w' ⟨rfl, rfl⟩)
  go_ret
  exact ⟨rfl, rfl⟩
theorem fromC (b : Int) (w : World) (h : In64 b) : Calls Tryd.prog 17 #[.int .u64 b] w fun e w' => e = .returned (.float .f64 (oneN b).toNat) ∧ w = w' := by
  have r := run62
  go_enter Tryd.func17, Tryd.ntmps17
  go_wp2_with (go_at_call 63; refine (oneNaN _ _ h).mono ?_; rintro e w' ⟨rfl, rfl⟩)
  go_ret
  exact ⟨rfl, rfl⟩
theorem rNan (w : World) : Calls Tryd.prog 66 #[] w fun e w' => e = .returned (.int .u64 9221120237041090560) ∧ w = w' := by
  go_enter Tryd.func66, Tryd.ntmps66
  go_wp2
  go_ret
  exact ⟨rfl, rfl⟩
theorem rBits (b : Nat) (w : World) (h : In64 b) : Calls Tryd.prog 22 #[.float .f64 b] w fun e w' => e = .returned (.int .u64 (oneN b)) ∧ w = w' := by
  have r := run60
  go_enter Tryd.func22, Tryd.ntmps22
  go_wp2_with (first | (go_at_call 64; refine (rIsNaN _ _ h).mono ?_; rintro e w' ⟨rfl, rfl⟩) | (go_at_call 66; refine (rNan _).mono ?_; rintro e w' ⟨rfl, rfl⟩))
  all_goals go_ret
  all_goals exact ⟨ret_int (by simp [oneN, *]), rfl⟩
theorem rFrom (b : Int) (w : World) (h : In64 b) : Calls Tryd.prog 19 #[.int .u64 b] w fun e w' => e = .returned (.float .f64 (oneN b).toNat) ∧ w = w' := by
  have r := run62
  go_enter Tryd.func19, Tryd.ntmps19
  go_wp2_with (first | (go_at_call 64; refine (rIsNaN _ _ h).mono ?_; rintro e w' ⟨rfl, rfl⟩) | (go_at_call 66; refine (rNan _).mono ?_; rintro e w' ⟨rfl, rfl⟩))
  all_goals go_ret
  all_goals exact ⟨by simp [oneN, *], rfl⟩
theorem rankZ_neg {b : Int} (h : In64 b) (h1 : (bits BinOp.and IntKind.u64 (oneN b) 9223372036854775808 != 0) = true) : bits BinOp.xor IntKind.u64 IntKind.u64.max (oneN b) = rankZ b := by
  rw [and_neg (oneN_in h)] at h1
  rw [rankZ, if_pos h1, xor_max _ (oneN_in h)]
theorem rankZ_pos {b : Int} (h : In64 b) (h1 : (bits BinOp.and IntKind.u64 (oneN b) 9223372036854775808 != 0) = false) : bits BinOp.or IntKind.u64 (oneN b) 9223372036854775808 = rankZ b := by
  rw [and_neg (oneN_in h)] at h1
  rw [rankZ, if_neg (by simp [h1]), or63 _ (oneN_in h) h1]
theorem rankC (b : Nat) (w : World) (hb : In64 b) : Calls Tryd.prog 67 #[.float .f64 b] w fun e w' => e = .returned (.int .u64 (rankZ b)) ∧ w = w' := by
  go_enter Tryd.func67, Tryd.ntmps67
  go_wp2_with (go_at_call 21; refine (bitsC _ _ hb).mono ?_; rintro e w' ⟨rfl, rfl⟩)
  all_goals go_ret
  · exact ⟨ret_int (rankZ_neg hb (by assumption)), rfl⟩
  · exact ⟨ret_int (rankZ_pos hb (by assumption)), rfl⟩
theorem rrankZ_nan {b : Int} (h1 : (oneN b == 9221120237041090560) = true) : 18446744073709551615 = rrankZ b := by rw [rrankZ, if_pos h1]
theorem rrankZ_neg {b : Int} (h : In64 b) (h1 : (oneN b == 9221120237041090560) = false) (h2 : (oneN b / 9223372036854775808 == 1) = true) : bits BinOp.xor IntKind.u64 IntKind.u64.max (oneN b) = rrankZ b := by
  rw [rrankZ, if_neg (by rw [h1]; decide), if_pos h2, xor_max _ (oneN_in h)]
theorem rrankZ_pos {b : Int} (h : In64 b) (h1 : (oneN b == 9221120237041090560) = false) (h2 : (oneN b / 9223372036854775808 == 1) = false) : bits BinOp.or IntKind.u64 (oneN b) 9223372036854775808 = rrankZ b := by
  rw [rrankZ, if_neg (by rw [h1]; decide), if_neg (by rw [h2]; decide), or63 _ (oneN_in h) (by rw [← neg_div (oneN_in h)]; exact h2)]
theorem rRank (b : Nat) (w : World) (hb : In64 b) : Calls Tryd.prog 68 #[.float .f64 b] w fun e w' => e = .returned (.int .u64 (rrankZ b)) ∧ w = w' := by
  go_enter Tryd.func68, Tryd.ntmps68
  go_wp2_with (first | (go_at_call 22; refine (rBits _ _ hb).mono ?_; rintro e w' ⟨rfl, rfl⟩) | (go_at_call 66; refine (rNan _).mono ?_; rintro e w' ⟨rfl, rfl⟩))
  all_goals go_ret
  · exact ⟨ret_int (rrankZ_nan (by assumption)), rfl⟩
  · exact ⟨ret_int (rrankZ_neg hb (by assumption) (by assumption)), rfl⟩
  · exact ⟨ret_int (rrankZ_pos hb (by assumption) (by assumption)), rfl⟩
theorem orderC (a b : Nat) (w : World) (ha : In64 a) (hb : In64 b) : Calls Tryd.prog 23 #[.float .f64 a, .float .f64 b] w fun e w' => e = .returned (.int .i64 (ordZ (rankZ a) (rankZ b))) ∧ w = w' := by
  go_enter Tryd.func23, Tryd.ntmps23
  go_wp2_with fail
  refine (rankC _ _ ha).mono ?_
  rintro e w' ⟨rfl, rfl⟩
  go_wp2_with fail
  refine (rankC _ _ hb).mono ?_
  rintro e w' ⟨rfl, rfl⟩
  go_wp2
  all_goals go_ret
  all_goals refine ⟨ret_int ?_, rfl⟩
  · rw [ordZ, if_pos (by assumption)]
  · rw [ordZ, if_neg (by omega), if_pos (by assumption)]
  · rw [ordZ, if_neg (by omega), if_neg (by omega)]
theorem rOrder (a b : Nat) (w : World) (ha : In64 a) (hb : In64 b) : Calls Tryd.prog 24 #[.float .f64 a, .float .f64 b] w fun e w' => e = .returned (.int .i64 (ordZ (rrankZ a) (rrankZ b))) ∧ w = w' := by
  go_enter Tryd.func24, Tryd.ntmps24
  go_wp2_with fail
  refine (rRank _ _ ha).mono ?_
  rintro e w' ⟨rfl, rfl⟩
  go_wp2_with fail
  refine (rRank _ _ hb).mono ?_
  rintro e w' ⟨rfl, rfl⟩
  go_wp2
  all_goals go_ret
  all_goals refine ⟨ret_int ?_, rfl⟩
  · rw [ordZ, if_pos (by assumption)]
  · rw [ordZ, if_neg (by omega), if_pos (by assumption)]
  · rw [ordZ, if_neg (by omega), if_neg (by omega)]
end Go.Proofs.YtlhapnnepcnfbaaDoor.Rate0
