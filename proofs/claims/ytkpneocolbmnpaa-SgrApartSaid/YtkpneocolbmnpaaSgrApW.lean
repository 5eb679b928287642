/- SgrApart: the walk of the law, whatever the arguments. -/
import Derived.Test.YtkpneocolbmnpaaSgrAp1
import Derived.Test.YtkpneocolbmnpaaSgrAp2
import Derived.Test.YtkpneocolbmnpaaSgrAp3
import Derived.Test.YtkpneocolbmnpaaSgrAp4
import Derived.Test.YtkpneocolbmnpaaSgrAp5
import Derived.Test.YtkpneocolbmnpaaSgrAp6
import Derived.Test.YtkpneocolbmnpaaSgrAp7
namespace Go.Proofs.Ytkpneocolbmnpaa.SgrApart
open Go Go.RowKit Kit Sgr Col Apply Cell Params SgrFirst

theorem walk (f fg bg n : Int) (W : World) (w0 : (Lit.int .i64 f).wf = true) (_w1 : (Lit.int .i64 fg).wf = true) (_w2 : (Lit.int .i64 bg).wf = true) (_w3 : (Lit.int .i64 n).wf = true) :
    Calls Try.prog 7 #[.agg #[.int .i64 f, .int .i64 fg, .int .i64 bg], .int .i64 n] W fun e w' => e = .returned (.bool true) ∧ Below W.heap.size W w' := by
  by_cases h : n < 1 ∨ 107 < n ∨ n = 38 ∨ n = 48
  · exact walkOut f fg bg n W h
  · have h1 : 1 ≤ n := by omega
    have h2 : n ≤ 107 := by omega
    have h38 : n ≠ 38 := by omega
    have h48 : n ≠ 48 := by omega
    have hT := Lib.hid (apply_one (f, fg, bg) n h38 h48)
    have hT2 : Hid (applyL (oneF f n, oneFg fg n, oneBg bg n) [n] = (oneF f n, oneFg fg n, oneBg bg n)) := by
      refine Lib.hid ?_
      rw [apply_one _ n h38 h48]
      simp only [oneF_twice, oneFg_twice, oneBg_twice]
    have eF : 29 < n → (oneF f n == f) = true := fun h => by rw [f_same n w0 h]; simp
    have eFg : ¬(30 ≤ n ∧ n ≤ 39) → ¬(90 ≤ n ∧ n ≤ 97) → (oneFg fg n == fg) = true := fun a b => by rw [fg_same fg n h1 a b]; simp
    have eBg : ¬(40 ≤ n ∧ n ≤ 49) → ¬(100 ≤ n) → (oneBg bg n == bg) = true := fun a b => by rw [bg_same bg n h1 h2 a b]; simp
    by_cases r1 : n ≤ 29
    · exact walkR1 f fg bg n W (by omega) (by omega) _ _ _ hT hT2 (eFg (by omega) (by omega)) (eBg (by omega) (by omega))
    by_cases r2 : n ≤ 39
    · exact walkR2 f fg bg n W (by omega) (by omega) h38 _ _ _ hT hT2 (eBg (by omega) (by omega)) (eF (by omega))
    by_cases r3 : n ≤ 49
    · exact walkR3 f fg bg n W (by omega) (by omega) h48 _ _ _ hT hT2 (eFg (by omega) (by omega)) (eF (by omega))
    by_cases r4 : n ≤ 89
    · exact walkR4 f fg bg n W (by omega) (by omega) _ _ _ hT hT2 (eFg (by omega) (by omega)) (eBg (by omega) (by omega)) (eF (by omega))
    by_cases r5 : n ≤ 97
    · exact walkR5 f fg bg n W (by omega) (by omega) _ _ _ hT hT2 (eBg (by omega) (by omega)) (eF (by omega))
    by_cases r6 : n ≤ 99
    · exact walkR6 f fg bg n W (by omega) (by omega) _ _ _ hT hT2 (eFg (by omega) (by omega)) (eBg (by omega) (by omega)) (eF (by omega))
    · exact walkR7 f fg bg n W (by omega) (by omega) _ _ _ hT hT2 (eFg (by omega) (by omega)) (eF (by omega))
end Go.Proofs.Ytkpneocolbmnpaa.SgrApart
