/- CellColours: the walk of the law, by the contracts of package cell. -/
import Derived.Test.YtkpneocolbmnpaaCell
namespace Go.Proofs.Ytkpneocolbmnpaa.Colours
open Go Go.RowKit Kit Cell

theorem colB_ways (n : Int) : (0 ≤ n ∧ n ≤ 256 ∧ colB n = true) ∨ (0 ≤ n ∧ 256 < n ∧ 16777216 ≤ n ∧ n ≤ 33554431 ∧ colB n = true) ∨ (0 ≤ n ∧ 256 < n ∧ 16777216 ≤ n ∧ 33554431 < n ∧ colB n = false) ∨ (0 ≤ n ∧ 256 < n ∧ n < 16777216 ∧ colB n = false) ∨ (n < 0 ∧ n < 16777216 ∧ colB n = false) := by
  cases h : colB n
  · have := mt (colB_iff n).2 (by simp [h]); simp; omega
  · have := (colB_iff n).1 h; simp; omega
set_option maxHeartbeats 2000000 in
theorem walk (a0 : Int) (a1 : Int) (w : World) (_ : (Lit.int .i64 a0).wf = true) (_ : (Lit.int .i64 a1).wf = true) :
    Calls Try.prog 5 #[.int .i64 a0, .int .i64 a1] w fun e w' => e = .returned (.bool true) ∧ Below w.heap.size w w' := by
  have z0 : colB 0 = true := by decide
  have wA : widthZ 120 = 1 := by decide
  have wB : widthZ 32 = 1 := by decide
  have ka : (0 ≤ a1 ∧ a1 ≤ 255) ∨ (0 ≤ a1 ∧ 255 < a1) ∨ (a1 < 0) := by omega
  rcases colB_ways a0 with ⟨h1, h2, hc⟩ | ⟨h1, h2, h3, h4, hc⟩ | ⟨h1, h2, h3, h4, hc⟩ | ⟨h1, h2, h3, hc⟩ | ⟨h1, h3, hc⟩
  all_goals
    have eA : attrB 0 a0 0 = colB a0 := by simp [attrB, z0]
    have eB : attrB 0 0 a0 = colB a0 := by simp [attrB, z0]
    have eD : mayB 120 0 a0 0 0 = colB a0 := by simp [mayB, eA, wA]
    have eE : mayB 32 0 0 a0 0 = colB a0 := by simp [mayB, eB, wB]
    rw [hc] at eA eB eD eE
    rcases ka with ⟨k1, k2⟩ | ⟨k1, k2⟩ | k1
  all_goals
    have eF : attrB a1 0 0 = decide (0 ≤ a1 ∧ a1 ≤ 255) := by simp [attrB, z0]
    first | rw [decide_eq_true (by omega)] at eF | rw [decide_eq_false (by omega)] at eF
    clear hc wA wB z0
    go_enter Try.func5, Try.ntmps5
    go_wp2_with fail
    refine (first _).mono ?_
    rintro e w1 ⟨rfl, hb1⟩
    go_wp2_with fail
    refine (first _).mono ?_
    rintro e w2 ⟨rfl, hb2⟩
    obtain ⟨hc, hf⟩ := bcell hb2
    have hz : w1.heap.size + 1 + 1 < w2.heap.size := by have := hb2.size; simp at this; omega
    have hz0 : w1.heap.size < w2.heap.size := by omega
    have hz1 : w1.heap.size + 1 < w2.heap.size := by omega
    have hy1 : w1.heap.size < w2.heap.size + 1 := by omega
    have hy2 : w1.heap.size < w2.heap.size + 1 + 1 := by omega
    have hy3 : w1.heap.size < w2.heap.size + 1 + 1 + 1 := by omega
    have hx1 : w1.heap.size + 1 < w2.heap.size + 1 := by omega
    have hx2 : w1.heap.size + 1 < w2.heap.size + 1 + 1 := by omega
    have hx3 : w1.heap.size + 1 < w2.heap.size + 1 + 1 + 1 := by omega
    have hx4 : w1.heap.size + 1 < w2.heap.size + 1 + 1 + 1 + 1 := by omega
    go_wp2_with (first | (go_at_call 15; refine (cBlank _ _ _ _).mono ?_; rintro e w' ⟨rfl, rfl⟩) | (go_at_call 17; refine (mayAttr _ _ _ _).mono ?_; rintro e w' ⟨rfl, rfl⟩) | (go_at_call 19; refine (may _ _ _ _ _ _).mono ?_; rintro e w' ⟨rfl, rfl⟩))
  all_goals go_ret
  all_goals refine ⟨ret_bool (by first | rfl | (simp; omega)), ?_⟩
  all_goals have hB1 := hb1.size
  all_goals have hB2 := hb2.size
  all_goals simp only [World.size_alloc] at hB2
  all_goals repeat (first | exact hb1 | exact Below.refl _ _ | refine Below.alloc ?_ (by first | omega | (simp only [World.size_alloc]; omega)) _ | refine below_then ?_ hb2 (by first | omega | (simp only [World.size_alloc]; omega)))
end Go.Proofs.Ytkpneocolbmnpaa.Colours
