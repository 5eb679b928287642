/- SgrBack: the walk of the law whatever the arguments. -/
import Derived.Test.YtkpneocolbmnpaaSgrBackN
set_option linter.unusedVariables false
namespace Go.Proofs.Ytkpneocolbmnpaa.SgrBackW
open Go Go.RowKit Kit Sgr Col Apply Cell Params SgrFirst SgrList SgrMath SgrCut

def OutP (w : World) (e : Ending) (w' : World) : Prop := e = .returned (.bool true) ∧ Below w.heap.size w w'
set_option maxRecDepth 100000 in
theorem outLong (f fg bg f2 fg2 bg2 : Int) (al : Option Addr) (len cap : Nat) (w : World) (h : 100 < len) (hm : len ≤ 9223372036854775807) :
    Calls Try.prog 6 #[.agg #[.int .i64 f, .int .i64 fg, .int .i64 bg], .agg #[.int .i64 f2, .int .i64 fg2, .int .i64 bg2], .slice al len cap] w (OutP w) := by
  go_enter Try.func6, Try.ntmps6
  go_wp2_with fail
  refine (SgrFirst.first _).mono ?_
  rintro e w1 ⟨rfl, hb1⟩
  have h1 : Below w.heap.size w w1 := below_then (((Below.refl _ _).alloc (Nat.le_refl _) _).alloc (by simp) _) hb1 (by simp; omega)
  have h6 : Six w1 w.heap.size (w.heap.size + 1) f fg bg f2 fg2 bg2 := ⟨Apply.cell_then hb1 (Nat.le_refl _) (by simp [go_sem]), Apply.cell_then hb1 (Nat.le_refl _) (by simp [go_sem]), Apply.cell_then hb1 (Nat.le_refl _) (by simp [go_sem]), Apply.cell_then hb1 (Nat.le_refl _) (by simp [go_sem]), Apply.cell_then hb1 (Nat.le_refl _) (by simp [go_sem]), Apply.cell_then hb1 (Nat.le_refl _) (by simp [go_sem])⟩
  clear hb1
  obtain ⟨a0, a1, a2, b0, b1, b2⟩ := id h6
  go_wp2_with fail
  refine (SgrFirst.first _).mono ?_
  rintro e w9 ⟨rfl, hb9⟩
  go_wp2
  go_ret
  exact ⟨rfl, SgrApart.below_next h1 hb9⟩
set_option maxRecDepth 100000 in
theorem outA (f fg bg f2 fg2 bg2 : Int) (al : Option Addr) (len cap : Nat) (w : World) (h : ¬ 100 < len) (hA : attrB f fg bg = false) :
    Calls Try.prog 6 #[.agg #[.int .i64 f, .int .i64 fg, .int .i64 bg], .agg #[.int .i64 f2, .int .i64 fg2, .int .i64 bg2], .slice al len cap] w (OutP w) := by
  have MA := fun w => mayAttr f fg bg w
  rw [hA] at MA
  have HMA := Lib.hid MA
  clear MA hA
  go_enter Try.func6, Try.ntmps6
  go_wp2_with fail
  refine (SgrFirst.first _).mono ?_
  rintro e w1 ⟨rfl, hb1⟩
  have h1 : Below w.heap.size w w1 := below_then (((Below.refl _ _).alloc (Nat.le_refl _) _).alloc (by simp) _) hb1 (by simp; omega)
  have h6 : Six w1 w.heap.size (w.heap.size + 1) f fg bg f2 fg2 bg2 := ⟨Apply.cell_then hb1 (Nat.le_refl _) (by simp [go_sem]), Apply.cell_then hb1 (Nat.le_refl _) (by simp [go_sem]), Apply.cell_then hb1 (Nat.le_refl _) (by simp [go_sem]), Apply.cell_then hb1 (Nat.le_refl _) (by simp [go_sem]), Apply.cell_then hb1 (Nat.le_refl _) (by simp [go_sem]), Apply.cell_then hb1 (Nat.le_refl _) (by simp [go_sem])⟩
  clear hb1
  obtain ⟨a0, a1, a2, b0, b1, b2⟩ := id h6
  go_wp2_with fail
  refine (HMA.out _).mono ?_
  rintro e w2 ⟨rfl, rfl⟩
  have hb3 := below_one w1 (.cells #[.int .i64 f, .int .i64 fg, .int .i64 bg] 23)
  replace h1 := SgrApart.below_next h1 hb3
  replace h6 := six_then hb3 h6
  clear hb3 a0 a1 a2 b0 b1 b2
  generalize w1.alloc (.cells #[.int .i64 f, .int .i64 fg, .int .i64 bg] 23) = w1 at *
  obtain ⟨a0, a1, a2, b0, b1, b2⟩ := id h6
  go_wp2_with fail
  refine (SgrFirst.first _).mono ?_
  rintro e w9 ⟨rfl, hb9⟩
  go_wp2
  go_ret
  exact ⟨rfl, SgrApart.below_next h1 hb9⟩
set_option maxRecDepth 100000 in
theorem outB (f fg bg f2 fg2 bg2 : Int) (al : Option Addr) (len cap : Nat) (w : World) (h : ¬ 100 < len) (hA : attrB f fg bg = true) (hB : attrB f2 fg2 bg2 = false) :
    Calls Try.prog 6 #[.agg #[.int .i64 f, .int .i64 fg, .int .i64 bg], .agg #[.int .i64 f2, .int .i64 fg2, .int .i64 bg2], .slice al len cap] w (OutP w) := by
  have MA := fun w => mayAttr f fg bg w
  rw [hA] at MA
  have HMA := Lib.hid MA
  have MB := fun w => mayAttr f2 fg2 bg2 w
  rw [hB] at MB
  have HMB := Lib.hid MB
  clear MA MB hA hB
  go_enter Try.func6, Try.ntmps6
  go_wp2_with fail
  refine (SgrFirst.first _).mono ?_
  rintro e w1 ⟨rfl, hb1⟩
  have h1 : Below w.heap.size w w1 := below_then (((Below.refl _ _).alloc (Nat.le_refl _) _).alloc (by simp) _) hb1 (by simp; omega)
  have h6 : Six w1 w.heap.size (w.heap.size + 1) f fg bg f2 fg2 bg2 := ⟨Apply.cell_then hb1 (Nat.le_refl _) (by simp [go_sem]), Apply.cell_then hb1 (Nat.le_refl _) (by simp [go_sem]), Apply.cell_then hb1 (Nat.le_refl _) (by simp [go_sem]), Apply.cell_then hb1 (Nat.le_refl _) (by simp [go_sem]), Apply.cell_then hb1 (Nat.le_refl _) (by simp [go_sem]), Apply.cell_then hb1 (Nat.le_refl _) (by simp [go_sem])⟩
  clear hb1
  obtain ⟨a0, a1, a2, b0, b1, b2⟩ := id h6
  go_wp2_with fail
  refine (HMA.out _).mono ?_
  rintro e w2 ⟨rfl, rfl⟩
  have hb3 := below_one w1 (.cells #[.int .i64 f, .int .i64 fg, .int .i64 bg] 23)
  replace h1 := SgrApart.below_next h1 hb3
  replace h6 := six_then hb3 h6
  clear hb3 a0 a1 a2 b0 b1 b2
  generalize w1.alloc (.cells #[.int .i64 f, .int .i64 fg, .int .i64 bg] 23) = w1 at *
  obtain ⟨a0, a1, a2, b0, b1, b2⟩ := id h6
  go_wp2_with fail
  refine (HMB.out _).mono ?_
  rintro e w3 ⟨rfl, rfl⟩
  have hb3 := below_one w1 (.cells #[.int .i64 f2, .int .i64 fg2, .int .i64 bg2] 23)
  replace h1 := SgrApart.below_next h1 hb3
  replace h6 := six_then hb3 h6
  clear hb3 a0 a1 a2 b0 b1 b2
  generalize w1.alloc (.cells #[.int .i64 f2, .int .i64 fg2, .int .i64 bg2] 23) = w1 at *
  obtain ⟨a0, a1, a2, b0, b1, b2⟩ := id h6
  go_wp2_with fail
  refine (SgrFirst.first _).mono ?_
  rintro e w9 ⟨rfl, hb9⟩
  go_wp2
  go_ret
  exact ⟨rfl, SgrApart.below_next h1 hb9⟩
/-- a slice of integers that came in. -/
theorem row_l {w : World} {a : Option Addr} {len cap : Nat} {zs : List Int} (h : IsRow .i64 w a len cap zs) : ∃ l : List Int, l.length = len ∧ len ≤ cap ∧ cap ≤ 9223372036854775807 ∧ (a = none → cap = 0) ∧ Ints w a l := by
  rcases h with ⟨rfl, rfl, rfl, rfl⟩ | ⟨⟨b, o, sp⟩, rfl, hlc, hm, hz, hcell, hwf⟩
  · exact ⟨[], rfl, Nat.le_refl _, by decide, fun _ => rfl, .inl rfl⟩
  · unfold maxLen at hm
    by_cases h1 : 1 ≤ len
    · have g0 := hcell 0 (by omega)
      have hspot : sp = none := by simpa [Addr.add] using World.cell?_spot g0
      subst hspot
      refine ⟨zs.take len, by simp; omega, hlc, by omega, fun h => (by cases h), .inr ⟨b, o, rfl, fun i hi => ?_⟩⟩
      simp only [List.length_take] at hi
      have g := hcell i (by omega)
      rw [add_at] at g
      rw [g]
      simp [List.getD_eq_getElem?_getD, show i < zs.length by omega]
    · obtain rfl : len = 0 := by omega
      exact ⟨[], rfl, hlc, by omega, fun h => (by cases h), .inl rfl⟩
theorem walk (f fg bg f2 fg2 bg2 : Int) (al : Option Addr) (len cap : Nat) (zs : List Int) (W : World) (_w0 : (Lit.int .i64 f).wf = true) (_w1 : (Lit.int .i64 fg).wf = true) (_w2 : (Lit.int .i64 bg).wf = true) (_w3 : (Lit.int .i64 f2).wf = true) (_w4 : (Lit.int .i64 fg2).wf = true) (_w5 : (Lit.int .i64 bg2).wf = true) (w6 : IsRow .i64 W al len cap zs) :
    Calls Try.prog 6 #[.agg #[.int .i64 f, .int .i64 fg, .int .i64 bg], .agg #[.int .i64 f2, .int .i64 fg2, .int .i64 bg2], .slice al len cap] W fun e w' => e = .returned (.bool true) ∧ Below W.heap.size W w' := by
  obtain ⟨l, rfl, hcap, hcm, h0, hi⟩ := row_l w6
  by_cases h : 100 < l.length
  · exact outLong f fg bg f2 fg2 bg2 al _ cap W h (by omega)
  · cases hA : attrB f fg bg
    · exact outA f fg bg f2 fg2 bg2 al _ cap W h hA
    · cases hB : attrB f2 fg2 bg2
      · exact outB f fg bg f2 fg2 bg2 al _ cap W h hA hB
      · cases hc : cutL l
        · exact walkNo f fg bg f2 fg2 bg2 al l cap W hcap hcm h0 (by omega) hi hA hB hc
        · exact walkCut f fg bg f2 fg2 bg2 al l cap W hcap hcm h0 (by omega) hi hA hB hc
end Go.Proofs.Ytkpneocolbmnpaa.SgrBackW
