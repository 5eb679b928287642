/- The document's own answers on cells (tikref6): what may be. -/
import Derived.Test.YtfogbokifbjjlaaCell
namespace Go.Proofs.Ytfogbokifbjjlaa.Dm
open Go Go.RowKit Kit Cell

def signB (r : Int) : Bool := decide ((0 ≤ r ∧ r < 55296) ∨ (57343 < r ∧ r ≤ 1114111))
theorem sign_t {r : Int} (h : (0 ≤ r ∧ r < 55296) ∨ (57343 < r ∧ r ≤ 1114111)) : true = signB r := by simp [signB, h]
theorem sign_f {r : Int} (h : ¬ ((0 ≤ r ∧ r < 55296) ∨ (57343 < r ∧ r ≤ 1114111))) : false = signB r := by
  simp only [signB]; exact (decide_eq_false h).symm
theorem sign (r : Int) (w : World) : Calls Try.prog 82 #[.int .i32 r] w fun e w' => e = .returned (.bool (signB r)) ∧ w = w' := by
  by_cases h1 : 0 ≤ r
  · by_cases h2 : r < 55296
    · go_enter Try.func82, Try.ntmps82
      go_wp2
      go_ret
      exact ⟨ret_bool (sign_t (by omega)), rfl⟩
    · by_cases h3 : 57343 < r
      · by_cases h4 : r ≤ 1114111
        · go_enter Try.func82, Try.ntmps82
          go_wp2
          go_ret
          exact ⟨ret_bool (sign_t (by omega)), rfl⟩
        · go_enter Try.func82, Try.ntmps82
          go_wp2
          go_ret
          exact ⟨ret_bool (sign_f (by omega)), rfl⟩
      · go_enter Try.func82, Try.ntmps82
        go_wp2
        go_ret
        exact ⟨ret_bool (sign_f (by omega)), rfl⟩
  · have h3 : ¬ 57343 < r := by omega
    go_enter Try.func82, Try.ntmps82
    go_wp2
    go_ret
    exact ⟨ret_bool (sign_f (by omega)), rfl⟩
def inB (r a b : Int) : Bool := decide (a ≤ r ∧ r ≤ b)
theorem inn (r a b : Int) (w : World) : Calls Try.prog 83 #[.int .i32 r, .int .i32 a, .int .i32 b] w fun e w' => e = .returned (.bool (inB r a b)) ∧ w = w' := by
  by_cases h1 : a ≤ r
  · by_cases h2 : r ≤ b
    · go_enter Try.func83, Try.ntmps83
      go_wp2
      go_ret
      exact ⟨ret_bool (by simp [inB]; omega), rfl⟩
    · go_enter Try.func83, Try.ntmps83
      go_wp2
      go_ret
      exact ⟨ret_bool (by simp [inB]; omega), rfl⟩
  · go_enter Try.func83, Try.ntmps83
    go_wp2
    go_ret
    exact ⟨ret_bool (by simp [inB]; omega), rfl⟩

set_option maxHeartbeats 2000000 in
theorem width' (r : Int) (w : World) : Calls Try.prog 59 #[.int .i32 r] w fun e w' => e = .returned (.int .i64 (widthZ r)) ∧ w = w' := by
  go_enter Try.func59, Try.ntmps59
  go_wp2_with (first | (go_at_call 82; refine (sign _ _).mono ?_; rintro e w' ⟨rfl, rfl⟩) | (go_at_call 83; refine (inn _ _ _ _).mono ?_; rintro e w' ⟨rfl, rfl⟩))
  all_goals go_ret
  all_goals (refine ⟨ret_int ?_, rfl⟩; simp [signB, inB] at *; first
    | exact (widthZ_0 (by simp [noneB]; omega))
    | exact (widthZ_2 (by simp [noneB]; omega) (by simp [wideB]; omega))
    | exact (widthZ_1 (by simp [noneB]; omega) (by simp [wideB]; omega)))

theorem rColour (n : Int) (w : World) : Calls Try.prog 84 #[.int .i64 n] w fun e w' => e = .returned (.bool (colB n)) ∧ w = w' := by
  by_cases h1 : 0 ≤ n
  · by_cases h2 : n ≤ 256
    · go_enter Try.func84, Try.ntmps84
      go_wp2
      go_ret
      exact ⟨ret_bool (colB_t (by omega)), rfl⟩
    · by_cases h3 : 16777216 ≤ n
      · by_cases h4 : n < 33554432
        · go_enter Try.func84, Try.ntmps84
          go_wp2
          go_ret
          exact ⟨ret_bool (colB_t (by omega)), rfl⟩
        · go_enter Try.func84, Try.ntmps84
          go_wp2
          go_ret
          exact ⟨ret_bool (colB_f (by omega)), rfl⟩
      · go_enter Try.func84, Try.ntmps84
        go_wp2
        go_ret
        exact ⟨ret_bool (colB_f (by omega)), rfl⟩
  · have h3 : ¬ 16777216 ≤ n := by omega
    go_enter Try.func84, Try.ntmps84
    go_wp2
    go_ret
    exact ⟨ret_bool (colB_f (by omega)), rfl⟩

theorem rMayAttr (f fg bg : Int) (w : World) : Calls Try.prog 60 #[.agg #[.int .i64 f, .int .i64 fg, .int .i64 bg]] w fun e w' => e = .returned (.bool (attrB f fg bg)) ∧ w.alloc (.cells #[.int .i64 f, .int .i64 fg, .int .i64 bg] 50) = w' := by
  go_enter Try.func60, Try.ntmps60
  go_wp2_with (go_at_call 84; refine (rColour _ _).mono ?_; rintro e w' ⟨rfl, rfl⟩)
  all_goals go_ret
  all_goals refine ⟨ret_bool ?_, rfl⟩
  all_goals simp [attrB, *]
  all_goals omega
set_option maxHeartbeats 1000000 in
theorem rMay (r f fg bg wd : Int) (w : World) : Calls Try.prog 30 #[.agg #[.int .i32 r, .int .i64 f, .int .i64 fg, .int .i64 bg, .int .i64 wd]] w fun e w' => e = .returned (.bool (mayB r f fg bg wd)) ∧ (w.alloc (.cells #[.int .i32 r, .int .i64 f, .int .i64 fg, .int .i64 bg, .int .i64 wd] 52)).alloc (.cells #[.int .i64 f, .int .i64 fg, .int .i64 bg] 50) = w' := by
  have hway : (attrB f fg bg = false) ∨ (attrB f fg bg = true) := by cases attrB f fg bg <;> simp
  have hwd : ((wd == 0) = true ∧ (wd == 1) = false ∧ (wd == 2) = false) ∨ ((wd == 0) = false ∧ (wd == 1) = true ∧ (wd == 2) = false) ∨ ((wd == 0) = false ∧ (wd == 1) = false ∧ (wd == 2) = true) ∨ ((wd == 0) = false ∧ (wd == 1) = false ∧ (wd == 2) = false) := by simp; omega
  rcases hway with ha | ha
  · go_enter Try.func30, Try.ntmps30
    go_wp2_with (first | (go_at_call 60; refine (rMayAttr _ _ _ _).mono ?_; rintro e w' ⟨rfl, rfl⟩) | (go_at_call 59; refine (width' _ _).mono ?_; rintro e w' ⟨rfl, rfl⟩))
    all_goals go_ret
    all_goals exact ⟨ret_bool (by simp [mayB, ha]), rfl⟩
  · rcases hwd with ⟨h0, h1, h2⟩ | ⟨h0, h1, h2⟩ | ⟨h0, h1, h2⟩ | ⟨h0, h1, h2⟩
    all_goals
      go_enter Try.func30, Try.ntmps30
      go_wp2_with (first | (go_at_call 60; refine (rMayAttr _ _ _ _).mono ?_; rintro e w' ⟨rfl, rfl⟩) | (go_at_call 59; refine (width' _ _).mono ?_; rintro e w' ⟨rfl, rfl⟩))
    all_goals go_ret
    all_goals exact ⟨ret_bool (by simp_all [mayB]), rfl⟩
end Go.Proofs.Ytfogbokifbjjlaa.Dm
