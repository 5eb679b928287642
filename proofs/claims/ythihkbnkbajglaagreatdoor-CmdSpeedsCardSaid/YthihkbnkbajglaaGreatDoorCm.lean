/- cmd.May and the document's; Plain. -/
import Derived.Test.YthihkbnkbajglaaGreatDoorFi
import Derived.Test.YthihkbnkbajglaaGreatDoorCkMath
set_option linter.unusedVariables false
namespace Go.Proofs.YthihkbnkbajglaaGreatDoor.Cm
open Go Go.RowKit Kit Nums Rate0 CkMath Fi

/-- may this be a command? -/
def mayB (kind : Int) (time x : Nat) : Bool :=
  if kind = 1 ∨ kind = 2 ∨ kind = 3 then decide (time = 0) && decide (oneN (x : Int) = 0) else if kind = 4 then decide (time ≤ mx) && decide (oneN (x : Int) = 0) else if kind = 5 then decide (time = 0) else false
theorem kinds {time x : Nat} (kind : Int) :
    (kind = 1 ∧ mayB 1 time x = (decide (time = 0) && decide (oneN (x : Int) = 0))) ∨ (kind = 2 ∧ mayB 2 time x = (decide (time = 0) && decide (oneN (x : Int) = 0))) ∨ (kind = 3 ∧ mayB 3 time x = (decide (time = 0) && decide (oneN (x : Int) = 0))) ∨
    (kind = 4 ∧ mayB 4 time x = (decide (time ≤ mx) && decide (oneN (x : Int) = 0))) ∨ (kind = 5 ∧ mayB 5 time x = decide (time = 0)) ∨
    ((kind == 1) = false ∧ (kind == 2) = false ∧ (kind == 3) = false ∧ (kind == 4) = false ∧ (kind == 5) = false ∧ mayB kind time x = false) := by
  by_cases k1 : kind = 1
  · exact .inl ⟨k1, rfl⟩
  by_cases k2 : kind = 2
  · exact .inr (.inl ⟨k2, rfl⟩)
  by_cases k3 : kind = 3
  · exact .inr (.inr (.inl ⟨k3, rfl⟩))
  by_cases k4 : kind = 4
  · exact .inr (.inr (.inr (.inl ⟨k4, rfl⟩)))
  by_cases k5 : kind = 5
  · exact .inr (.inr (.inr (.inr (.inl ⟨k5, rfl⟩))))
  exact .inr (.inr (.inr (.inr (.inr ⟨by simpa using k1, by simpa using k2, by simpa using k3, by simpa using k4, by simpa using k5, by simp [mayB, k1, k2, k3, k4, k5]⟩))))
theorem eq_t (time : Nat) : decide (time = 0) = ((time : Int) == 0) := by
  by_cases h : time = 0
  · subst h; rfl
  · rw [decide_eq_false h]; symm; rw [beq_eq_false_iff_ne]; omega
theorem eq_u (X : Int) : decide (X = 0) = (X == 0) := rfl
theorem eq_m (time : Nat) : decide (time ≤ mx) = decide ((time : Int) ≤ 4611686018427387904) := by rw [mx_eq, decide_eq_decide]; omega
set_option maxRecDepth 100000 in
theorem mayC (kind : Int) (time x : Nat) (hx : In64 x) (w : World) : Calls Tryz.prog 21 #[.agg #[.int .i64 kind, .int .u64 (time : Int), .float .f64 x]] w fun e w' => e = .returned (.bool (mayB kind time x)) ∧ Below w.heap.size w w' := by
  have HB := Lib.hid (fun w => bitsC x w hx)
  have hbk := (Below.refl w.heap.size w).alloc (Nat.le_refl _) (.cells #[.int .i64 kind, .int .u64 (time : Int), .float .f64 x] 33)
  have HW := Lib.hid hbk
  clear hbk hx
  rcases kinds kind with ⟨rfl, hm⟩ | ⟨rfl, hm⟩ | ⟨rfl, hm⟩ | ⟨rfl, hm⟩ | ⟨rfl, hm⟩ | ⟨n1, n2, n3, n4, n5, hm⟩
  all_goals rw [hm]
  all_goals clear hm
  · obtain ⟨t, ht⟩ : ∃ t, ((time : Int) == 0) = t := ⟨_, rfl⟩
    obtain ⟨u, hu⟩ : ∃ u, (oneN (x : Int) == 0) = u := ⟨_, rfl⟩
    rw [show decide (time = 0) = t from by rw [← ht]; exact eq_t time, show decide (oneN (x : Int) = 0) = u from by rw [← hu]; exact eq_u _]
    generalize oneN (x : Int) = X at *
    cases t <;> cases u <;> (go_enter Tryz.func21, Tryz.ntmps21; go_wp2_with (first | (go_at_call 18; refine (HB.out _).mono ?_; rintro e w2 ⟨rfl, rfl⟩)))
    all_goals go_ret
    all_goals exact ⟨rfl, HW.out⟩
  · obtain ⟨t, ht⟩ : ∃ t, ((time : Int) == 0) = t := ⟨_, rfl⟩
    obtain ⟨u, hu⟩ : ∃ u, (oneN (x : Int) == 0) = u := ⟨_, rfl⟩
    rw [show decide (time = 0) = t from by rw [← ht]; exact eq_t time, show decide (oneN (x : Int) = 0) = u from by rw [← hu]; exact eq_u _]
    generalize oneN (x : Int) = X at *
    cases t <;> cases u <;> (go_enter Tryz.func21, Tryz.ntmps21; go_wp2_with (first | (go_at_call 18; refine (HB.out _).mono ?_; rintro e w2 ⟨rfl, rfl⟩)))
    all_goals go_ret
    all_goals exact ⟨rfl, HW.out⟩
  · obtain ⟨t, ht⟩ : ∃ t, ((time : Int) == 0) = t := ⟨_, rfl⟩
    obtain ⟨u, hu⟩ : ∃ u, (oneN (x : Int) == 0) = u := ⟨_, rfl⟩
    rw [show decide (time = 0) = t from by rw [← ht]; exact eq_t time, show decide (oneN (x : Int) = 0) = u from by rw [← hu]; exact eq_u _]
    generalize oneN (x : Int) = X at *
    cases t <;> cases u <;> (go_enter Tryz.func21, Tryz.ntmps21; go_wp2_with (first | (go_at_call 18; refine (HB.out _).mono ?_; rintro e w2 ⟨rfl, rfl⟩)))
    all_goals go_ret
    all_goals exact ⟨rfl, HW.out⟩
  · obtain ⟨t, ht⟩ : ∃ t, decide ((time : Int) ≤ 4611686018427387904) = t := ⟨_, rfl⟩
    obtain ⟨u, hu⟩ : ∃ u, (oneN (x : Int) == 0) = u := ⟨_, rfl⟩
    rw [show decide (time ≤ mx) = t from by rw [← ht]; exact eq_m time, show decide (oneN (x : Int) = 0) = u from by rw [← hu]; exact eq_u _]
    generalize oneN (x : Int) = X at *
    cases t <;> cases u <;> (go_enter Tryz.func21, Tryz.ntmps21; go_wp2_with (first | (go_at_call 18; refine (HB.out _).mono ?_; rintro e w2 ⟨rfl, rfl⟩)))
    all_goals go_ret
    all_goals exact ⟨rfl, HW.out⟩
  · obtain ⟨t, ht⟩ : ∃ t, ((time : Int) == 0) = t := ⟨_, rfl⟩
    rw [show decide (time = 0) = t from by rw [← ht]; exact eq_t time]
    go_enter Tryz.func21, Tryz.ntmps21
    go_wp2_with (first | (go_at_call 18; refine (HB.out _).mono ?_; rintro e w2 ⟨rfl, rfl⟩))
    all_goals go_ret
    all_goals exact ⟨rfl, HW.out⟩
  · go_enter Tryz.func21, Tryz.ntmps21
    go_wp2_with (first | (go_at_call 18; refine (HB.out _).mono ?_; rintro e w2 ⟨rfl, rfl⟩))
    all_goals go_ret
    all_goals exact ⟨rfl, HW.out⟩
set_option maxRecDepth 100000 in
theorem mayK (kind : Int) (time x : Nat) (hx : In64 x) (w : World) : Calls Tryz.prog 31 #[.agg #[.int .i64 kind, .int .u64 (time : Int), .float .f64 x]] w fun e w' => e = .returned (.bool (mayB kind time x)) ∧ Below w.heap.size w w' := by
  have HB := Lib.hid (fun w => rBits x w hx)
  have hbk := (Below.refl w.heap.size w).alloc (Nat.le_refl _) (.cells #[.int .i64 kind, .int .u64 (time : Int), .float .f64 x] 35)
  have HW := Lib.hid hbk
  clear hbk hx
  rcases kinds kind with ⟨rfl, hm⟩ | ⟨rfl, hm⟩ | ⟨rfl, hm⟩ | ⟨rfl, hm⟩ | ⟨rfl, hm⟩ | ⟨n1, n2, n3, n4, n5, hm⟩
  all_goals rw [hm]
  all_goals clear hm
  · obtain ⟨t, ht⟩ : ∃ t, ((time : Int) == 0) = t := ⟨_, rfl⟩
    obtain ⟨u, hu⟩ : ∃ u, (oneN (x : Int) == 0) = u := ⟨_, rfl⟩
    rw [show decide (time = 0) = t from by rw [← ht]; exact eq_t time, show decide (oneN (x : Int) = 0) = u from by rw [← hu]; exact eq_u _]
    generalize oneN (x : Int) = X at *
    cases t <;> cases u <;> (go_enter Tryz.func31, Tryz.ntmps31; go_wp2_with (first | (go_at_call 60; refine (HB.out _).mono ?_; rintro e w2 ⟨rfl, rfl⟩)))
    all_goals go_ret
    all_goals exact ⟨rfl, HW.out⟩
  · obtain ⟨t, ht⟩ : ∃ t, ((time : Int) == 0) = t := ⟨_, rfl⟩
    obtain ⟨u, hu⟩ : ∃ u, (oneN (x : Int) == 0) = u := ⟨_, rfl⟩
    rw [show decide (time = 0) = t from by rw [← ht]; exact eq_t time, show decide (oneN (x : Int) = 0) = u from by rw [← hu]; exact eq_u _]
    generalize oneN (x : Int) = X at *
    cases t <;> cases u <;> (go_enter Tryz.func31, Tryz.ntmps31; go_wp2_with (first | (go_at_call 60; refine (HB.out _).mono ?_; rintro e w2 ⟨rfl, rfl⟩)))
    all_goals go_ret
    all_goals exact ⟨rfl, HW.out⟩
  · obtain ⟨t, ht⟩ : ∃ t, ((time : Int) == 0) = t := ⟨_, rfl⟩
    obtain ⟨u, hu⟩ : ∃ u, (oneN (x : Int) == 0) = u := ⟨_, rfl⟩
    rw [show decide (time = 0) = t from by rw [← ht]; exact eq_t time, show decide (oneN (x : Int) = 0) = u from by rw [← hu]; exact eq_u _]
    generalize oneN (x : Int) = X at *
    cases t <;> cases u <;> (go_enter Tryz.func31, Tryz.ntmps31; go_wp2_with (first | (go_at_call 60; refine (HB.out _).mono ?_; rintro e w2 ⟨rfl, rfl⟩)))
    all_goals go_ret
    all_goals exact ⟨rfl, HW.out⟩
  · obtain ⟨t, ht⟩ : ∃ t, decide ((time : Int) ≤ 4611686018427387904) = t := ⟨_, rfl⟩
    obtain ⟨u, hu⟩ : ∃ u, (oneN (x : Int) == 0) = u := ⟨_, rfl⟩
    rw [show decide (time ≤ mx) = t from by rw [← ht]; exact eq_m time, show decide (oneN (x : Int) = 0) = u from by rw [← hu]; exact eq_u _]
    generalize oneN (x : Int) = X at *
    cases t <;> cases u <;> (go_enter Tryz.func31, Tryz.ntmps31; go_wp2_with (first | (go_at_call 60; refine (HB.out _).mono ?_; rintro e w2 ⟨rfl, rfl⟩)))
    all_goals go_ret
    all_goals exact ⟨rfl, HW.out⟩
  · obtain ⟨t, ht⟩ : ∃ t, ((time : Int) == 0) = t := ⟨_, rfl⟩
    rw [show decide (time = 0) = t from by rw [← ht]; exact eq_t time]
    go_enter Tryz.func31, Tryz.ntmps31
    go_wp2_with (first | (go_at_call 60; refine (HB.out _).mono ?_; rintro e w2 ⟨rfl, rfl⟩))
    all_goals go_ret
    all_goals exact ⟨rfl, HW.out⟩
  · go_enter Tryz.func31, Tryz.ntmps31
    go_wp2_with (first | (go_at_call 60; refine (HB.out _).mono ?_; rintro e w2 ⟨rfl, rfl⟩))
    all_goals go_ret
    all_goals exact ⟨rfl, HW.out⟩
set_option maxRecDepth 100000 in
theorem plainC (kind : Int) (time x : Nat) (w : World) : Calls Tryz.prog 11 #[.agg #[.int .i64 kind, .int .u64 (time : Int), .float .f64 x]] w fun e w' => e = .returned (.agg #[.int .i64 kind, .int .u64 (time : Int), .float .f64 x]) ∧ Below w.heap.size w w' := by
  have hsf := stF
  go_enter Tryz.func11, Tryz.ntmps11
  go_wp2
  go_returns
  exact ⟨rfl, (((Below.refl w.heap.size w).alloc (Nat.le_refl _) _).alloc (by simp) _)⟩
end Go.Proofs.YthihkbnkbajglaaGreatDoor.Cm
