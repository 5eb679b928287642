/- tiklaw9.first: what the examples of chapter 9 fix. -/
import Derived.Test.YtkpneocolbmnpaaParams
set_option linter.unusedVariables false
namespace Go.Proofs.Ytkpneocolbmnpaa.SgrFirst
open Go Go.RowKit Kit Sgr Col Apply Cell Params

set_option maxRecDepth 100000 in
theorem applyNil (f fg bg : Int) (w : World) : Calls Try.prog 23 #[.agg #[.int .i64 f, .int .i64 fg, .int .i64 bg], .slice none 0 0] w fun e w' => e = .returned (.agg #[.int .i64 0, .int .i64 0, .int .i64 0]) ∧ Below w.heap.size w w' := by
  go_enter Try.func23, Try.ntmps23
  go_wp2
  go_returns
  refine ⟨rfl, ?_⟩
  have hle : w.heap.size ≤ w.heap.size + 1 := by omega
  exact ((((Below.refl _ _).alloc (Nat.le_refl _) _).alloc (by simp) _))
theorem a1 : applyL (0, 0, 0) [1, 31] = (1, 2, 0) := by
  rw [applyL_cons, show Apply.step (0, 0, 0) 1 [31] = ((1, 0, 0), [31]) from by decide, applyL_cons, show Apply.step (1, 0, 0) 31 [] = ((1, 2, 0), []) from by decide, applyL_nil]
theorem a2 : applyL (0, 0, 0) [48, 2, 1, 2, 3] = (0, 0, 16843267) := by
  rw [applyL_cons, show Apply.step (0, 0, 0) 48 [2, 1, 2, 3] = ((0, 0, 16843267), []) from by decide, applyL_nil]
theorem p1 : paramsL 1 0 5 = [0, 1, 48, 5, 4] := by decide
set_option maxRecDepth 100000 in
set_option maxHeartbeats 1000000 in
theorem first (w : World) : Calls Try.prog 21 #[] w fun e w' => e = .returned (.bool true) ∧ Below w.heap.size w w' := by
  have A1 := Lib.hid a1
  have A2 := Lib.hid a2
  have P1 := Lib.hid p1
  go_enter Try.func21, Try.ntmps21
  go_wp2_with fail
  refine (applyC 0 0 0 (some ⟨w.heap.size, 0, none⟩) [1, 31] 2 _ (by decide) (by decide) (by decide) (ints_new rfl rfl 3) (by decide)).mono ?_
  rw [A1.out, show agg3 (1, 2, 0) = .agg #[.int .i64 1, .int .i64 2, .int .i64 0] from rfl]
  rintro e w1 ⟨rfl, hb1⟩
  go_wp2_with fail
  refine (applyNil _ _ _ _).mono ?_
  rintro e w2 ⟨rfl, hb2⟩
  go_wp2_with fail
  refine (paramsC _ _ _ _).mono ?_
  rw [P1.out]
  rintro e w3 ⟨a3, cap3, rfl, _, hi3, hb3⟩
  go_wp2_with fail
  refine (intsC a3 (some ⟨w3.heap.size, 0, none⟩) cap3 5 [0, 1, 48, 5, 4] [0, 1, 48, 5, 4] _ (by decide) (ints_alloc hi3) (ints_new rfl rfl 3)).mono ?_
  rintro e w4 ⟨rfl, n4, rfl⟩
  go_wp2_with fail
  refine (applyC 0 0 0 (some ⟨w3.heap.size + 1, 0, none⟩) [48, 2, 1, 2, 3] 5 _ (by decide) (by decide) (by decide) (ints_new (by simp) rfl 3) (by decide)).mono ?_
  rw [A2.out, show agg3 (0, 0, 16843267) = .agg #[.int .i64 0, .int .i64 0, .int .i64 16843267] from rfl]
  rintro e w5 ⟨rfl, hb5⟩
  go_wp2_with fail
  go_ret
  refine ⟨rfl, ?_⟩
  have z1 := hb1.size
  have z2 := hb2.size
  have z3 := hb3.size
  simp only [World.size_alloc] at z1
  have h1 : Below w.heap.size w w1 := below_then ((Below.refl _ _).alloc (Nat.le_refl _) _) hb1 (by simp)
  have h3 : Below w.heap.size w w3 := below_then (below_then h1 hb2 (by omega)) hb3 (by omega)
  exact below_then ((below_drewN (h3.alloc (by omega) _) _).alloc (by simp; omega) _) hb5 (by simp; omega)
end Go.Proofs.Ytkpneocolbmnpaa.SgrFirst
