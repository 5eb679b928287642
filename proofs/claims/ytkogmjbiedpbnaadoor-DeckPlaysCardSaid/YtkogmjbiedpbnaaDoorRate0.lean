/- Contracts on the words of floats: the forms, the order, what is refused. -/
import Derived.Test.YtkogmjbiedpbnaaDoorKit
import Derived.Test.YtkogmjbiedpbnaaDoorNums
namespace Go.Proofs.YtkogmjbiedpbnaaDoor.Rate0
open Go Go.RowKit Kit Nums

theorem run60 (b : Nat) (w : World) : (callFunc 37 #[.float .f64 b]).run Tryd.prog w = .ok (.value (.int .u64 b)) w := by kernel_rfl
theorem run62 (b : Int) (w : World) : (callFunc 47 #[.int .u64 b]).run Tryd.prog w = .ok (.value (.float .f64 b.toNat)) w := by kernel_rfl
theorem isNaN (b : Int) (w : World) (h : In64 b) : Calls Tryd.prog 58 #[.int .u64 b] w fun e w' => e = .returned (.bool (nanB b)) ∧ w = w' := by
  go_enter Tryd.func58, Tryd.ntmps58
  go_wp2
  go_ret
  exact ⟨ret_bool (nan_dec b h), rfl⟩
def errU (b : Int) : Int := if nanB b then 10 else if negB b then 11 else 0
theorem unsigned (b : Nat) (w : World) (h : In64 b) : Calls Tryd.prog 35 #[.float .f64 b] w fun e w' => e = .returned (.int .i64 (errU b)) ∧ w = w' := by
  have r := run60
  have ea := Lib.hid (and63 b h)
  go_enter Tryd.func35, Tryd.ntmps35
  go_wp2_with (go_at_call 58; refine (isNaN _ _ h).mono ?_; rintro e w' ⟨rfl, rfl⟩)
  all_goals go_ret
  all_goals refine ⟨ret_int ?_, rfl⟩
  all_goals simp_all [errU, and_neg h]
theorem oneNaN (b : Int) (w : World) (h : In64 b) : Calls Tryd.prog 48 #[.int .u64 b] w fun e w' => e = .returned (.int .u64 (oneN b)) ∧ w = w' := by
  go_enter Tryd.func48, Tryd.ntmps48
  go_wp2_with (go_at_call 58; refine (isNaN _ _ h).mono ?_; rintro e w' ⟨rfl, rfl⟩)
  all_goals go_ret
  all_goals exact ⟨ret_int (by simp [oneN, *]), rfl⟩
theorem fromC (b : Int) (w : World) (h : In64 b) : Calls Tryd.prog 25 #[.int .u64 b] w fun e w' => e = .returned (.float .f64 (oneN b).toNat) ∧ w = w' := by
  have r := run62
  go_enter Tryd.func25, Tryd.ntmps25
  go_wp2_with (go_at_call 48; refine (oneNaN _ _ h).mono ?_; rintro e w' ⟨rfl, rfl⟩)
  go_ret
  exact ⟨rfl, rfl⟩
end Go.Proofs.YtkogmjbiedpbnaaDoor.Rate0
