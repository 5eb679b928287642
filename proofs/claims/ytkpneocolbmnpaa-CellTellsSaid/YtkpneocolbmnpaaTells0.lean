/- Contracts of the reference's functions on cells, over this seat's translation. -/
import Derived.Test.YtkpneocolbmnpaaCell
namespace Go.Proofs.Ytkpneocolbmnpaa.Tells
open Go Go.RowKit Kit Cell

theorem rColour (n : Int) (w : World) : Calls Try.prog 48 #[.int .i64 n] w fun e w' => e = .returned (.bool (colB n)) ∧ w = w' := by
  by_cases h1 : 0 ≤ n
  · by_cases h2 : n ≤ 256
    · go_enter Try.func48, Try.ntmps48
      go_wp2
      go_ret
      exact ⟨ret_bool (colB_t (by omega)), rfl⟩
    · by_cases h3 : 16777216 ≤ n
      · by_cases h4 : n < 33554432
        · go_enter Try.func48, Try.ntmps48
          go_wp2
          go_ret
          exact ⟨ret_bool (colB_t (by omega)), rfl⟩
        · go_enter Try.func48, Try.ntmps48
          go_wp2
          go_ret
          exact ⟨ret_bool (colB_f (by omega)), rfl⟩
      · go_enter Try.func48, Try.ntmps48
        go_wp2
        go_ret
        exact ⟨ret_bool (colB_f (by omega)), rfl⟩
  · have h3 : ¬ 16777216 ≤ n := by omega
    go_enter Try.func48, Try.ntmps48
    go_wp2
    go_ret
    exact ⟨ret_bool (colB_f (by omega)), rfl⟩

theorem rMayAttr (f fg bg : Int) (w : World) : Calls Try.prog 18 #[.agg #[.int .i64 f, .int .i64 fg, .int .i64 bg]] w fun e w' => e = .returned (.bool (attrB f fg bg)) ∧ w.alloc (.cells #[.int .i64 f, .int .i64 fg, .int .i64 bg] 23) = w' := by
  go_enter Try.func18, Try.ntmps18
  go_wp2_with (go_at_call 48; refine (rColour _ _).mono ?_; rintro e w' ⟨rfl, rfl⟩)
  all_goals go_ret
  all_goals refine ⟨ret_bool ?_, rfl⟩
  all_goals simp [attrB, *]
  all_goals omega
set_option maxHeartbeats 1000000 in
theorem rMay (r f fg bg wd : Int) (w : World) : Calls Try.prog 20 #[.agg #[.int .i32 r, .int .i64 f, .int .i64 fg, .int .i64 bg, .int .i64 wd]] w fun e w' => e = .returned (.bool (mayB r f fg bg wd)) ∧ (w.alloc (.cells #[.int .i32 r, .int .i64 f, .int .i64 fg, .int .i64 bg, .int .i64 wd] 25)).alloc (.cells #[.int .i64 f, .int .i64 fg, .int .i64 bg] 23) = w' := by
  have hway : (attrB f fg bg = false) ∨ (attrB f fg bg = true) := by cases attrB f fg bg <;> simp
  have hwd : ((wd == 0) = true ∧ (wd == 1) = false ∧ (wd == 2) = false) ∨ ((wd == 0) = false ∧ (wd == 1) = true ∧ (wd == 2) = false) ∨ ((wd == 0) = false ∧ (wd == 1) = false ∧ (wd == 2) = true) ∨ ((wd == 0) = false ∧ (wd == 1) = false ∧ (wd == 2) = false) := by simp; omega
  rcases hway with ha | ha
  · go_enter Try.func20, Try.ntmps20
    go_wp2_with (first | (go_at_call 18; refine (rMayAttr _ _ _ _).mono ?_; rintro e w' ⟨rfl, rfl⟩) | (go_at_call 14; refine (width' _ _).mono ?_; rintro e w' ⟨rfl, rfl⟩))
    all_goals go_ret
    all_goals exact ⟨ret_bool (by simp [mayB, ha]), rfl⟩
  · rcases hwd with ⟨h0, h1, h2⟩ | ⟨h0, h1, h2⟩ | ⟨h0, h1, h2⟩ | ⟨h0, h1, h2⟩
    all_goals
      go_enter Try.func20, Try.ntmps20
      go_wp2_with (first | (go_at_call 18; refine (rMayAttr _ _ _ _).mono ?_; rintro e w' ⟨rfl, rfl⟩) | (go_at_call 14; refine (width' _ _).mono ?_; rintro e w' ⟨rfl, rfl⟩))
    all_goals go_ret
    all_goals exact ⟨ret_bool (by simp_all [mayB]), rfl⟩
end Go.Proofs.Ytkpneocolbmnpaa.Tells
