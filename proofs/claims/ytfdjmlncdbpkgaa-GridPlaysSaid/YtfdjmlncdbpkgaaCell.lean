/- Contracts of package cell's small functions over this seat's translation (no statement of its own). -/
import Derived.Test.YtfdjmlncdbpkgaaKit
namespace Go.Proofs.Ytfdjmlncdbpkgaa.Cell
open Go Go.RowKit Kit


/-- a colour. -/
def colB (n : Int) : Bool := decide ((0 ≤ n ∧ n ≤ 256) ∨ (16777216 ≤ n ∧ n < 33554432))
theorem colB_iff (n : Int) : colB n = true ↔ ((0 ≤ n ∧ n ≤ 256) ∨ (16777216 ≤ n ∧ n < 33554432)) := by simp [colB]
theorem colB_t {n : Int} (h : (0 ≤ n ∧ n ≤ 256) ∨ (16777216 ≤ n ∧ n < 33554432)) : true = colB n := by simp [colB, h]
theorem colB_f {n : Int} (h : ¬ ((0 ≤ n ∧ n ≤ 256) ∨ (16777216 ≤ n ∧ n < 33554432))) : false = colB n := by
  simp only [colB]; exact (decide_eq_false h).symm

theorem isColour (n : Int) (w : World) : Calls Try.prog 52 #[.int .i64 n] w fun e w' => e = .returned (.bool (colB n)) ∧ w = w' := by
  by_cases h1 : 0 ≤ n
  · by_cases h2 : n ≤ 256
    · go_enter Try.func52, Try.ntmps52
      go_wp2
      go_ret
      exact ⟨ret_bool (colB_t (by omega)), rfl⟩
    · by_cases h3 : 16777216 ≤ n
      · by_cases h4 : n < 33554432
        · go_enter Try.func52, Try.ntmps52
          go_wp2
          go_ret
          exact ⟨ret_bool (colB_t (by omega)), rfl⟩
        · go_enter Try.func52, Try.ntmps52
          go_wp2
          go_ret
          exact ⟨ret_bool (colB_f (by omega)), rfl⟩
      · go_enter Try.func52, Try.ntmps52
        go_wp2
        go_ret
        exact ⟨ret_bool (colB_f (by omega)), rfl⟩
  · have h3 : ¬ 16777216 ≤ n := by omega
    go_enter Try.func52, Try.ntmps52
    go_wp2
    go_ret
    exact ⟨ret_bool (colB_f (by omega)), rfl⟩

def noneB (r : Int) : Bool := decide (r < 32 ∨ (127 ≤ r ∧ r ≤ 159) ∨ (768 ≤ r ∧ r ≤ 879) ∨ (55296 ≤ r ∧ r ≤ 57343) ∨ 1114111 < r)
theorem isNone (r : Int) (w : World) : Calls Try.prog 50 #[.int .i32 r] w fun e w' => e = .returned (.bool (noneB r)) ∧ w = w' := by
  go_enter Try.func50, Try.ntmps50
  go_wp2
  all_goals go_ret
  all_goals exact ⟨ret_bool (by simp [noneB]; try omega), rfl⟩

def wideB (r : Int) : Bool := decide ((4352 ≤ r ∧ r ≤ 4447) ∨ (11904 ≤ r ∧ r ≤ 42191) ∨ (44032 ≤ r ∧ r ≤ 55203) ∨ (63744 ≤ r ∧ r ≤ 64255) ∨ (65072 ≤ r ∧ r ≤ 65135) ∨ (65280 ≤ r ∧ r ≤ 65376) ∨ (65504 ≤ r ∧ r ≤ 65510) ∨ (127744 ≤ r ∧ r ≤ 128591) ∨ (129280 ≤ r ∧ r ≤ 129535) ∨ (131072 ≤ r ∧ r ≤ 262141))
set_option maxHeartbeats 1000000 in
theorem isWide (r : Int) (w : World) : Calls Try.prog 51 #[.int .i32 r] w fun e w' => e = .returned (.bool (wideB r)) ∧ w = w' := by
  go_enter Try.func51, Try.ntmps51
  go_wp2
  all_goals go_ret
  all_goals exact ⟨ret_bool (by simp [wideB]; try omega), rfl⟩

def widthZ (r : Int) : Int := if noneB r then 0 else if wideB r then 2 else 1
theorem width (r : Int) (w : World) : Calls Try.prog 29 #[.int .i32 r] w fun e w' => e = .returned (.int .i64 (widthZ r)) ∧ w = w' := by
  cases hn : noneB r
  · cases hw : wideB r
    · have H := Lib.hid hn; have K := Lib.hid hw; 
      have c1 : ∀ w : World, Calls Try.prog 50 #[.int .i32 r] w fun e w' => e = .returned (.bool false) ∧ w = w' := fun w => by rw [← hn]; exact isNone r w
      have c2 : ∀ w : World, Calls Try.prog 51 #[.int .i32 r] w fun e w' => e = .returned (.bool false) ∧ w = w' := fun w => by rw [← hw]; exact isWide r w
      have c1' := Lib.hid c1; have c2' := Lib.hid c2
      clear hn hw c1 c2
      go_enter Try.func29, Try.ntmps29
      go_wp2_with (first | (go_at_call 50; refine (c1'.out _).mono ?_; rintro e w' ⟨rfl, rfl⟩) | (go_at_call 51; refine (c2'.out _).mono ?_; rintro e w' ⟨rfl, rfl⟩))
      go_ret
      exact ⟨ret_int (by simp [widthZ, H.out, K.out]), rfl⟩
    · have H := Lib.hid hn; have K := Lib.hid hw; 
      have c1 : ∀ w : World, Calls Try.prog 50 #[.int .i32 r] w fun e w' => e = .returned (.bool false) ∧ w = w' := fun w => by rw [← hn]; exact isNone r w
      have c2 : ∀ w : World, Calls Try.prog 51 #[.int .i32 r] w fun e w' => e = .returned (.bool true) ∧ w = w' := fun w => by rw [← hw]; exact isWide r w
      have c1' := Lib.hid c1; have c2' := Lib.hid c2
      clear hn hw c1 c2
      go_enter Try.func29, Try.ntmps29
      go_wp2_with (first | (go_at_call 50; refine (c1'.out _).mono ?_; rintro e w' ⟨rfl, rfl⟩) | (go_at_call 51; refine (c2'.out _).mono ?_; rintro e w' ⟨rfl, rfl⟩))
      go_ret
      exact ⟨ret_int (by simp [widthZ, H.out, K.out]), rfl⟩
  · have H := Lib.hid hn
    have c1 : ∀ w : World, Calls Try.prog 50 #[.int .i32 r] w fun e w' => e = .returned (.bool true) ∧ w = w' := fun w => by rw [← hn]; exact isNone r w
    have c1' := Lib.hid c1
    clear hn c1
    go_enter Try.func29, Try.ntmps29
    go_wp2_with (first | (go_at_call 50; refine (c1'.out _).mono ?_; rintro e w' ⟨rfl, rfl⟩))
    go_ret
    exact ⟨ret_int (by simp [widthZ, H.out]), rfl⟩

theorem widthZ_0 {r : Int} (h : noneB r = true) : 0 = widthZ r := by simp [widthZ, h]
theorem widthZ_2 {r : Int} (h : noneB r = false) (h2 : wideB r = true) : 2 = widthZ r := by simp [widthZ, h, h2]
theorem widthZ_1 {r : Int} (h : noneB r = false) (h2 : wideB r = false) : 1 = widthZ r := by simp [widthZ, h, h2]
def signB (r : Int) : Bool := decide ((0 ≤ r ∧ r < 55296) ∨ (57343 < r ∧ r ≤ 1114111))
theorem sign_t {r : Int} (h : (0 ≤ r ∧ r < 55296) ∨ (57343 < r ∧ r ≤ 1114111)) : true = signB r := by simp [signB, h]
theorem sign_f {r : Int} (h : ¬ ((0 ≤ r ∧ r < 55296) ∨ (57343 < r ∧ r ≤ 1114111))) : false = signB r := by
  simp only [signB]; exact (decide_eq_false h).symm
theorem sign (r : Int) (w : World) : Calls Try.prog 60 #[.int .i32 r] w fun e w' => e = .returned (.bool (signB r)) ∧ w = w' := by
  by_cases h1 : 0 ≤ r
  · by_cases h2 : r < 55296
    · go_enter Try.func60, Try.ntmps60
      go_wp2
      go_ret
      exact ⟨ret_bool (sign_t (by omega)), rfl⟩
    · by_cases h3 : 57343 < r
      · by_cases h4 : r ≤ 1114111
        · go_enter Try.func60, Try.ntmps60
          go_wp2
          go_ret
          exact ⟨ret_bool (sign_t (by omega)), rfl⟩
        · go_enter Try.func60, Try.ntmps60
          go_wp2
          go_ret
          exact ⟨ret_bool (sign_f (by omega)), rfl⟩
      · go_enter Try.func60, Try.ntmps60
        go_wp2
        go_ret
        exact ⟨ret_bool (sign_f (by omega)), rfl⟩
  · have h3 : ¬ 57343 < r := by omega
    go_enter Try.func60, Try.ntmps60
    go_wp2
    go_ret
    exact ⟨ret_bool (sign_f (by omega)), rfl⟩
def inB (r a b : Int) : Bool := decide (a ≤ r ∧ r ≤ b)
theorem inn (r a b : Int) (w : World) : Calls Try.prog 61 #[.int .i32 r, .int .i32 a, .int .i32 b] w fun e w' => e = .returned (.bool (inB r a b)) ∧ w = w' := by
  by_cases h1 : a ≤ r
  · by_cases h2 : r ≤ b
    · go_enter Try.func61, Try.ntmps61
      go_wp2
      go_ret
      exact ⟨ret_bool (by simp [inB]; omega), rfl⟩
    · go_enter Try.func61, Try.ntmps61
      go_wp2
      go_ret
      exact ⟨ret_bool (by simp [inB]; omega), rfl⟩
  · go_enter Try.func61, Try.ntmps61
    go_wp2
    go_ret
    exact ⟨ret_bool (by simp [inB]; omega), rfl⟩

set_option maxHeartbeats 2000000 in
theorem width' (r : Int) (w : World) : Calls Try.prog 57 #[.int .i32 r] w fun e w' => e = .returned (.int .i64 (widthZ r)) ∧ w = w' := by
  go_enter Try.func57, Try.ntmps57
  go_wp2_with (first | (go_at_call 60; refine (sign _ _).mono ?_; rintro e w' ⟨rfl, rfl⟩) | (go_at_call 61; refine (inn _ _ _ _).mono ?_; rintro e w' ⟨rfl, rfl⟩))
  all_goals go_ret
  all_goals (refine ⟨ret_int ?_, rfl⟩; simp [signB, inB] at *; first
    | exact (widthZ_0 (by simp [noneB]; omega))
    | exact (widthZ_2 (by simp [noneB]; omega) (by simp [wideB]; omega))
    | exact (widthZ_1 (by simp [noneB]; omega) (by simp [wideB]; omega)))

def attrB (f fg bg : Int) : Bool := decide (0 ≤ f ∧ f ≤ 255) && colB fg && colB bg
theorem mayAttr (f fg bg : Int) (w : World) : Calls Try.prog 30 #[.agg #[.int .i64 f, .int .i64 fg, .int .i64 bg]] w fun e w' => e = .returned (.bool (attrB f fg bg)) ∧ w.alloc (.cells #[.int .i64 f, .int .i64 fg, .int .i64 bg] 35) = w' := by
  go_enter Try.func30, Try.ntmps30
  go_wp2_with (go_at_call 52; refine (isColour _ _).mono ?_; rintro e w' ⟨rfl, rfl⟩)
  all_goals go_ret
  all_goals refine ⟨ret_bool ?_, rfl⟩
  all_goals simp [attrB, *]
  all_goals omega

theorem cBlank (f fg bg : Int) (w : World) : Calls Try.prog 28 #[.agg #[.int .i64 f, .int .i64 fg, .int .i64 bg]] w fun e w' => e = .returned (.agg #[.int .i32 32, .int .i64 0, .int .i64 0, .int .i64 bg, .int .i64 0]) ∧ (w.alloc (.cells #[.int .i64 f, .int .i64 fg, .int .i64 bg] 35)).alloc (.cells #[.int .i32 32, .int .i64 0, .int .i64 0, .int .i64 bg, .int .i64 0] 37) = w' := by
  go_enter Try.func28, Try.ntmps28
  go_wp2
  exact bodyPost_ret (v := .agg #[.int .i32 32, .int .i64 0, .int .i64 0, .int .i64 bg, .int .i64 0]) (by simp [results, Try.results28, go_sem]) rfl ⟨rfl, rfl⟩
theorem rBlank (f fg bg : Int) (w : World) : Calls Try.prog 35 #[.agg #[.int .i64 f, .int .i64 fg, .int .i64 bg]] w fun e w' => e = .returned (.agg #[.int .i32 32, .int .i64 0, .int .i64 0, .int .i64 bg, .int .i64 0]) ∧ (w.alloc (.cells #[.int .i64 f, .int .i64 fg, .int .i64 bg] 35)).alloc (.cells #[.int .i32 32, .int .i64 0, .int .i64 0, .int .i64 bg, .int .i64 0] 37) = w' := by
  go_enter Try.func35, Try.ntmps35
  go_wp2
  exact bodyPost_ret (v := .agg #[.int .i32 32, .int .i64 0, .int .i64 0, .int .i64 bg, .int .i64 0]) (by simp [results, Try.results35, go_sem]) rfl ⟨rfl, rfl⟩
def mayB (r f fg bg wd : Int) : Bool := attrB f fg bg && ((wd == 0 && widthZ r == 1) || (wd == 1 && widthZ r == 2) || (wd == 2 && r == 0))
set_option maxHeartbeats 1000000 in
theorem may (r f fg bg wd : Int) (w : World) : Calls Try.prog 27 #[.agg #[.int .i32 r, .int .i64 f, .int .i64 fg, .int .i64 bg, .int .i64 wd]] w fun e w' => e = .returned (.bool (mayB r f fg bg wd)) ∧ (w.alloc (.cells #[.int .i32 r, .int .i64 f, .int .i64 fg, .int .i64 bg, .int .i64 wd] 37)).alloc (.cells #[.int .i64 f, .int .i64 fg, .int .i64 bg] 35) = w' := by
  go_enter Try.func27, Try.ntmps27
  go_wp2_with (first | (go_at_call 30; refine (mayAttr _ _ _ _).mono ?_; rintro e w' ⟨rfl, rfl⟩) | (go_at_call 29; refine (width _ _).mono ?_; rintro e w' ⟨rfl, rfl⟩))
  all_goals go_ret
  all_goals refine ⟨ret_bool ?_, rfl⟩
  all_goals simp_all [mayB]
theorem rColour (n : Int) (w : World) : Calls Try.prog 59 #[.int .i64 n] w fun e w' => e = .returned (.bool (colB n)) ∧ w = w' := by
  by_cases h1 : 0 ≤ n
  · by_cases h2 : n ≤ 256
    · go_enter Try.func59, Try.ntmps59
      go_wp2
      go_ret
      exact ⟨ret_bool (colB_t (by omega)), rfl⟩
    · by_cases h3 : 16777216 ≤ n
      · by_cases h4 : n < 33554432
        · go_enter Try.func59, Try.ntmps59
          go_wp2
          go_ret
          exact ⟨ret_bool (colB_t (by omega)), rfl⟩
        · go_enter Try.func59, Try.ntmps59
          go_wp2
          go_ret
          exact ⟨ret_bool (colB_f (by omega)), rfl⟩
      · go_enter Try.func59, Try.ntmps59
        go_wp2
        go_ret
        exact ⟨ret_bool (colB_f (by omega)), rfl⟩
  · have h3 : ¬ 16777216 ≤ n := by omega
    go_enter Try.func59, Try.ntmps59
    go_wp2
    go_ret
    exact ⟨ret_bool (colB_f (by omega)), rfl⟩

theorem rMayAttr (f fg bg : Int) (w : World) : Calls Try.prog 56 #[.agg #[.int .i64 f, .int .i64 fg, .int .i64 bg]] w fun e w' => e = .returned (.bool (attrB f fg bg)) ∧ w.alloc (.cells #[.int .i64 f, .int .i64 fg, .int .i64 bg] 35) = w' := by
  go_enter Try.func56, Try.ntmps56
  go_wp2_with (go_at_call 59; refine (rColour _ _).mono ?_; rintro e w' ⟨rfl, rfl⟩)
  all_goals go_ret
  all_goals refine ⟨ret_bool ?_, rfl⟩
  all_goals simp [attrB, *]
  all_goals omega
set_option maxHeartbeats 1000000 in
theorem rMay (r f fg bg wd : Int) (w : World) : Calls Try.prog 54 #[.agg #[.int .i32 r, .int .i64 f, .int .i64 fg, .int .i64 bg, .int .i64 wd]] w fun e w' => e = .returned (.bool (mayB r f fg bg wd)) ∧ (w.alloc (.cells #[.int .i32 r, .int .i64 f, .int .i64 fg, .int .i64 bg, .int .i64 wd] 37)).alloc (.cells #[.int .i64 f, .int .i64 fg, .int .i64 bg] 35) = w' := by
  have hway : (attrB f fg bg = false) ∨ (attrB f fg bg = true) := by cases attrB f fg bg <;> simp
  have hwd : ((wd == 0) = true ∧ (wd == 1) = false ∧ (wd == 2) = false) ∨ ((wd == 0) = false ∧ (wd == 1) = true ∧ (wd == 2) = false) ∨ ((wd == 0) = false ∧ (wd == 1) = false ∧ (wd == 2) = true) ∨ ((wd == 0) = false ∧ (wd == 1) = false ∧ (wd == 2) = false) := by simp; omega
  rcases hway with ha | ha
  · go_enter Try.func54, Try.ntmps54
    go_wp2_with (first | (go_at_call 56; refine (rMayAttr _ _ _ _).mono ?_; rintro e w' ⟨rfl, rfl⟩) | (go_at_call 57; refine (width' _ _).mono ?_; rintro e w' ⟨rfl, rfl⟩))
    all_goals go_ret
    all_goals exact ⟨ret_bool (by simp [mayB, ha]), rfl⟩
  · rcases hwd with ⟨h0, h1, h2⟩ | ⟨h0, h1, h2⟩ | ⟨h0, h1, h2⟩ | ⟨h0, h1, h2⟩
    all_goals
      go_enter Try.func54, Try.ntmps54
      go_wp2_with (first | (go_at_call 56; refine (rMayAttr _ _ _ _).mono ?_; rintro e w' ⟨rfl, rfl⟩) | (go_at_call 57; refine (width' _ _).mono ?_; rintro e w' ⟨rfl, rfl⟩))
    all_goals go_ret
    all_goals exact ⟨ret_bool (by simp_all [mayB]), rfl⟩
end Go.Proofs.Ytfdjmlncdbpkgaa.Cell
