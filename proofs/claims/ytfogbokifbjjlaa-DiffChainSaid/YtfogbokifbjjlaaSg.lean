/- Screens: counts, titles that are empty, Mended. -/
import Derived.Test.YtfogbokifbjjlaaSf
import Derived.Laws.RangeString
set_option linter.unusedVariables false
namespace Go.Proofs.Ytfogbokifbjjlaa.Sg
open Go Go.RowKit Kit Gm Gv Sa Sb Sd

theorem quo_w (n C R : Nat) (hn : n ≤ 1000000) : (wrap64 ((n : Int) / (C : Int)) == (R : Int)) = decide (n / C = R) := by
  have e : (n : Int) / (C : Int) = ((n / C : Nat) : Int) := (Int.natCast_ediv n C).symm
  have hle : n / C ≤ n := Nat.div_le_self n C
  rw [e]
  generalize n / C = q at *
  clear e
  rw [IntWalk.wrap64_in _ (by omega)]
  by_cases h : q = R
  · rw [decide_eq_true h, beq_iff_eq]; omega
  · rw [decide_eq_false h, beq_eq_false_iff_ne]; omega
/-- counts. -/
theorem countsC (R C n : Nat) (w : World) (hR : 1 ≤ R) (hC : 1 ≤ C) (hn : n ≤ 1000000) (hR2 : R ≤ 1000) (hC2 : C ≤ 1000) :
    Calls Try.prog 81 #[.int .i64 (R : Int), .int .i64 (C : Int), .int .i64 (n : Int)] w fun e w' => e = .returned (.bool (decide (n = R * C))) ∧ w = w' := by
  have h1 : ¬ (R : Int) < 0 := by omega
  have h2 : ¬ (C : Int) < 0 := by omega
  have h3 : ((R : Int) == 0) = false := by rw [beq_eq_false_iff_ne]; omega
  have h4 : ((C : Int) == 0) = false := by rw [beq_eq_false_iff_ne]; omega
  have h5 : (C : Int) ≠ 0 := by omega
  have hem : (n : Int) % (C : Int) = ((n % C : Nat) : Int) := (Int.natCast_emod n C).symm
  have hdm := Nat.div_add_mod n C
  by_cases hm : n % C = 0
  · have m1 : ((n : Int) % (C : Int) == 0) = true := by rw [hem, hm]; rfl
    have HQ := Lib.hid (show (wrap64 ((n : Int) / (C : Int)) == (R : Int)) = decide (n = R * C) by
      rw [quo_w n C R hn, decide_eq_decide]
      rw [hm, Nat.add_zero] at hdm
      constructor
      · intro e; rw [← hdm, e, Nat.mul_comm]
      · intro e; rw [e]; exact Nat.mul_div_cancel _ hC)
    clear hem hdm hm
    go_enter Try.func81, Try.ntmps81
    go_wp2
    go_ret
    exact ⟨ret_bool HQ.out, rfl⟩
  · have m1 : ((n : Int) % (C : Int) == 0) = false := by rw [hem, beq_eq_false_iff_ne]; omega
    have HQ := Lib.hid (show false = decide (n = R * C) by
      symm; rw [decide_eq_false_iff_not]
      intro e
      apply hm
      rw [e]; exact Nat.mul_mod_left R C)
    clear hem hdm hm
    go_enter Try.func81, Try.ntmps81
    go_wp2
    go_ret
    exact ⟨ret_bool HQ.out, rfl⟩
/-- the empty title. -/
theorem title0 (w : World) : Calls Try.prog 56 #[.string ⟨#[]⟩] w fun e w' => e = .returned (.bool true) ∧ Below w.heap.size w w' := by
  have hn := run_next_end (P := Try.prog) w ⟨#[]⟩ 0 0 (by decide)
  have HB := Lib.hid (show Below w.heap.size w (w.iter ⟨#[]⟩ 0) from below_one w _)
  go_enter Try.func56, Try.ntmps56
  go_wp2
  refine wp_loop_rounds 1 ?_
  rw [rounds_succ]
  go_wp2
  go_ret
  exact ⟨rfl, HB.out⟩
end Go.Proofs.Ytfogbokifbjjlaa.Sg
