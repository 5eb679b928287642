/- Contracts of package cell's small functions over this seat's translation (no statement of its own). -/
import Derived.Test.YtfogbokifbjjlaaKit
namespace Go.Proofs.Ytfogbokifbjjlaa.Cell
open Go Go.RowKit Kit


/-- a colour. -/
def colB (n : Int) : Bool := decide ((0 ≤ n ∧ n ≤ 256) ∨ (16777216 ≤ n ∧ n < 33554432))
theorem colB_iff (n : Int) : colB n = true ↔ ((0 ≤ n ∧ n ≤ 256) ∨ (16777216 ≤ n ∧ n < 33554432)) := by simp [colB]
theorem colB_t {n : Int} (h : (0 ≤ n ∧ n ≤ 256) ∨ (16777216 ≤ n ∧ n < 33554432)) : true = colB n := by simp [colB, h]
theorem colB_f {n : Int} (h : ¬ ((0 ≤ n ∧ n ≤ 256) ∨ (16777216 ≤ n ∧ n < 33554432))) : false = colB n := by
  simp only [colB]; exact (decide_eq_false h).symm

theorem isColour (n : Int) (w : World) : Calls Try.prog 85 #[.int .i64 n] w fun e w' => e = .returned (.bool (colB n)) ∧ w = w' := by
  by_cases h1 : 0 ≤ n
  · by_cases h2 : n ≤ 256
    · go_enter Try.func85, Try.ntmps85
      go_wp2
      go_ret
      exact ⟨ret_bool (colB_t (by omega)), rfl⟩
    · by_cases h3 : 16777216 ≤ n
      · by_cases h4 : n < 33554432
        · go_enter Try.func85, Try.ntmps85
          go_wp2
          go_ret
          exact ⟨ret_bool (colB_t (by omega)), rfl⟩
        · go_enter Try.func85, Try.ntmps85
          go_wp2
          go_ret
          exact ⟨ret_bool (colB_f (by omega)), rfl⟩
      · go_enter Try.func85, Try.ntmps85
        go_wp2
        go_ret
        exact ⟨ret_bool (colB_f (by omega)), rfl⟩
  · have h3 : ¬ 16777216 ≤ n := by omega
    go_enter Try.func85, Try.ntmps85
    go_wp2
    go_ret
    exact ⟨ret_bool (colB_f (by omega)), rfl⟩

def noneB (r : Int) : Bool := decide (r < 32 ∨ (127 ≤ r ∧ r ≤ 159) ∨ (768 ≤ r ∧ r ≤ 879) ∨ (55296 ≤ r ∧ r ≤ 57343) ∨ 1114111 < r)
theorem isNone (r : Int) (w : World) : Calls Try.prog 86 #[.int .i32 r] w fun e w' => e = .returned (.bool (noneB r)) ∧ w = w' := by
  go_enter Try.func86, Try.ntmps86
  go_wp2
  all_goals go_ret
  all_goals exact ⟨ret_bool (by simp [noneB]; try omega), rfl⟩

def wideB (r : Int) : Bool := decide ((4352 ≤ r ∧ r ≤ 4447) ∨ (11904 ≤ r ∧ r ≤ 42191) ∨ (44032 ≤ r ∧ r ≤ 55203) ∨ (63744 ≤ r ∧ r ≤ 64255) ∨ (65072 ≤ r ∧ r ≤ 65135) ∨ (65280 ≤ r ∧ r ≤ 65376) ∨ (65504 ≤ r ∧ r ≤ 65510) ∨ (127744 ≤ r ∧ r ≤ 128591) ∨ (129280 ≤ r ∧ r ≤ 129535) ∨ (131072 ≤ r ∧ r ≤ 262141))
set_option maxHeartbeats 1000000 in
theorem isWide (r : Int) (w : World) : Calls Try.prog 87 #[.int .i32 r] w fun e w' => e = .returned (.bool (wideB r)) ∧ w = w' := by
  go_enter Try.func87, Try.ntmps87
  go_wp2
  all_goals go_ret
  all_goals exact ⟨ret_bool (by simp [wideB]; try omega), rfl⟩

def widthZ (r : Int) : Int := if noneB r then 0 else if wideB r then 2 else 1
theorem width (r : Int) (w : World) : Calls Try.prog 63 #[.int .i32 r] w fun e w' => e = .returned (.int .i64 (widthZ r)) ∧ w = w' := by
  cases hn : noneB r
  · cases hw : wideB r
    · have H := Lib.hid hn; have K := Lib.hid hw; 
      have c1 : ∀ w : World, Calls Try.prog 86 #[.int .i32 r] w fun e w' => e = .returned (.bool false) ∧ w = w' := fun w => by rw [← hn]; exact isNone r w
      have c2 : ∀ w : World, Calls Try.prog 87 #[.int .i32 r] w fun e w' => e = .returned (.bool false) ∧ w = w' := fun w => by rw [← hw]; exact isWide r w
      have c1' := Lib.hid c1; have c2' := Lib.hid c2
      clear hn hw c1 c2
      go_enter Try.func63, Try.ntmps63
      go_wp2_with (first | (go_at_call 86; refine (c1'.out _).mono ?_; rintro e w' ⟨rfl, rfl⟩) | (go_at_call 87; refine (c2'.out _).mono ?_; rintro e w' ⟨rfl, rfl⟩))
      go_ret
      exact ⟨ret_int (by simp [widthZ, H.out, K.out]), rfl⟩
    · have H := Lib.hid hn; have K := Lib.hid hw; 
      have c1 : ∀ w : World, Calls Try.prog 86 #[.int .i32 r] w fun e w' => e = .returned (.bool false) ∧ w = w' := fun w => by rw [← hn]; exact isNone r w
      have c2 : ∀ w : World, Calls Try.prog 87 #[.int .i32 r] w fun e w' => e = .returned (.bool true) ∧ w = w' := fun w => by rw [← hw]; exact isWide r w
      have c1' := Lib.hid c1; have c2' := Lib.hid c2
      clear hn hw c1 c2
      go_enter Try.func63, Try.ntmps63
      go_wp2_with (first | (go_at_call 86; refine (c1'.out _).mono ?_; rintro e w' ⟨rfl, rfl⟩) | (go_at_call 87; refine (c2'.out _).mono ?_; rintro e w' ⟨rfl, rfl⟩))
      go_ret
      exact ⟨ret_int (by simp [widthZ, H.out, K.out]), rfl⟩
  · have H := Lib.hid hn
    have c1 : ∀ w : World, Calls Try.prog 86 #[.int .i32 r] w fun e w' => e = .returned (.bool true) ∧ w = w' := fun w => by rw [← hn]; exact isNone r w
    have c1' := Lib.hid c1
    clear hn c1
    go_enter Try.func63, Try.ntmps63
    go_wp2_with (first | (go_at_call 86; refine (c1'.out _).mono ?_; rintro e w' ⟨rfl, rfl⟩))
    go_ret
    exact ⟨ret_int (by simp [widthZ, H.out]), rfl⟩

theorem widthZ_0 {r : Int} (h : noneB r = true) : 0 = widthZ r := by simp [widthZ, h]
theorem widthZ_2 {r : Int} (h : noneB r = false) (h2 : wideB r = true) : 2 = widthZ r := by simp [widthZ, h, h2]
theorem widthZ_1 {r : Int} (h : noneB r = false) (h2 : wideB r = false) : 1 = widthZ r := by simp [widthZ, h, h2]
def attrB (f fg bg : Int) : Bool := decide (0 ≤ f ∧ f ≤ 255) && colB fg && colB bg
theorem mayAttr (f fg bg : Int) (w : World) : Calls Try.prog 62 #[.agg #[.int .i64 f, .int .i64 fg, .int .i64 bg]] w fun e w' => e = .returned (.bool (attrB f fg bg)) ∧ w.alloc (.cells #[.int .i64 f, .int .i64 fg, .int .i64 bg] 50) = w' := by
  go_enter Try.func62, Try.ntmps62
  go_wp2_with (go_at_call 85; refine (isColour _ _).mono ?_; rintro e w' ⟨rfl, rfl⟩)
  all_goals go_ret
  all_goals refine ⟨ret_bool ?_, rfl⟩
  all_goals simp [attrB, *]
  all_goals omega

theorem cBlank (f fg bg : Int) (w : World) : Calls Try.prog 61 #[.agg #[.int .i64 f, .int .i64 fg, .int .i64 bg]] w fun e w' => e = .returned (.agg #[.int .i32 32, .int .i64 0, .int .i64 0, .int .i64 bg, .int .i64 0]) ∧ (w.alloc (.cells #[.int .i64 f, .int .i64 fg, .int .i64 bg] 50)).alloc (.cells #[.int .i32 32, .int .i64 0, .int .i64 0, .int .i64 bg, .int .i64 0] 52) = w' := by
  go_enter Try.func61, Try.ntmps61
  go_wp2
  exact bodyPost_ret (v := .agg #[.int .i32 32, .int .i64 0, .int .i64 0, .int .i64 bg, .int .i64 0]) (by simp [results, Try.results61, go_sem]) rfl ⟨rfl, rfl⟩
def mayB (r f fg bg wd : Int) : Bool := attrB f fg bg && ((wd == 0 && widthZ r == 1) || (wd == 1 && widthZ r == 2) || (wd == 2 && r == 0))
set_option maxHeartbeats 1000000 in
theorem may (r f fg bg wd : Int) (w : World) : Calls Try.prog 32 #[.agg #[.int .i32 r, .int .i64 f, .int .i64 fg, .int .i64 bg, .int .i64 wd]] w fun e w' => e = .returned (.bool (mayB r f fg bg wd)) ∧ (w.alloc (.cells #[.int .i32 r, .int .i64 f, .int .i64 fg, .int .i64 bg, .int .i64 wd] 52)).alloc (.cells #[.int .i64 f, .int .i64 fg, .int .i64 bg] 50) = w' := by
  go_enter Try.func32, Try.ntmps32
  go_wp2_with (first | (go_at_call 62; refine (mayAttr _ _ _ _).mono ?_; rintro e w' ⟨rfl, rfl⟩) | (go_at_call 63; refine (width _ _).mono ?_; rintro e w' ⟨rfl, rfl⟩))
  all_goals go_ret
  all_goals refine ⟨ret_bool ?_, rfl⟩
  all_goals simp_all [mayB]
end Go.Proofs.Ytfogbokifbjjlaa.Cell
