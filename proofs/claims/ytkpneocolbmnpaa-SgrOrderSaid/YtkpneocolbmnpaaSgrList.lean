/- Plain facts on params: at once, or in two calls. -/
import Derived.Test.YtkpneocolbmnpaaSgrFirst
set_option linter.unusedVariables false
namespace Go.Proofs.Ytkpneocolbmnpaa.SgrList
open Go Go.RowKit Kit Sgr Col Apply Cell Params SgrFirst

def isC (c : Int) : Bool := c == 38 || c == 48
/-- is a colour at this place followed by what no colour is? -/
def badAt : List Int → Bool
  | [] => false
  | [c] => isC c
  | c :: d :: l => (isC c && (d != 5 && d != 2)) || badAt (d :: l)
def tailC (l : List Int) : Bool := (l.drop (l.length - 4)).any isC
/-- do params end amidst a colour? -/
def cutL (l : List Int) : Bool := tailC l || badAt l
theorem badAt_tail {c : Int} {l : List Int} (h : badAt (c :: l) = false) : badAt l = false := by
  cases l with
  | nil => rfl
  | cons d l => simp [badAt] at h; exact h.2
theorem tailC_tail {c : Int} {l : List Int} (h : tailC (c :: l) = false) : tailC l = false := by
  unfold tailC at *
  by_cases hl : l.length ≤ 3
  · rw [show (c :: l).length - 4 = 0 by simp; omega] at h
    rw [show l.length - 4 = 0 by omega]
    simp at h ⊢
    exact h.2
  · rw [show (c :: l).length - 4 = (l.length - 4) + 1 by simp; omega] at h
    simpa using h
theorem cut_tail {c : Int} {l : List Int} (h : cutL (c :: l) = false) : cutL l = false := by
  unfold cutL at *
  simp only [Bool.or_eq_false_iff] at *
  exact ⟨tailC_tail h.1, badAt_tail h.2⟩
theorem cut_suffix {l m : List Int} (h : cutL (l ++ m) = false) : cutL m = false := by
  induction l with
  | nil => exact h
  | cons c l ih => exact ih (cut_tail h)
/-- behind a colour's mark stand four more, a 5 or a 2 ahead. -/
theorem cut_colour {c : Int} {r : List Int} (hc : c = 38 ∨ c = 48) (h : cutL (c :: r) = false) : 4 ≤ r.length ∧ ∃ d t, r = d :: t ∧ (d = 5 ∨ d = 2) := by
  unfold cutL at h
  simp only [Bool.or_eq_false_iff] at h
  obtain ⟨h1, h2⟩ := h
  have hC : isC c = true := by rcases hc with rfl | rfl <;> decide
  constructor
  · rcases Nat.lt_or_ge r.length 4 with hlt | hge
    · exfalso
      unfold tailC at h1
      rw [show (c :: r).length - 4 = 0 by simp; omega] at h1
      simp [hC] at h1
    · exact hge
  · cases r with
    | nil => simp [badAt, hC] at h2
    | cons d t =>
      refine ⟨d, t, rfl, ?_⟩
      simp only [badAt, hC, Bool.true_and, Bool.or_eq_false_iff] at h2
      have := h2.1
      simp at this
      by_cases h5 : d = 5
      · exact .inl h5
      · exact .inr (this h5)
theorem col_app {was c : Int} {r m : List Int} (hc : c = 38 ∨ c = 48) (h : cutL (c :: r) = false) : colZ was (r ++ m) = ((colZ was r).1, (colZ was r).2 ++ m) ∧ ∃ p, r = p ++ (colZ was r).2 := by
  obtain ⟨h4, d, t, rfl, h52⟩ := cut_colour hc h
  match t, h4 with
  | x :: y :: z :: t, _ =>
    rcases h52 with rfl | rfl
    · cases hx : okB x
      · exact ⟨by simp [colZ, hx], [5, x], by simp [colZ, hx]⟩
      · exact ⟨by simp [colZ, hx], [5, x], by simp [colZ, hx]⟩
    · cases hb : okB x && okB y && okB z
      · exact ⟨by simp [colZ, hb], [2, x, y, z], by simp [colZ, hb]⟩
      · exact ⟨by simp [colZ, hb], [2, x, y, z], by simp [colZ, hb]⟩
  | [], h => simp at h
  | [_], h => simp at h
  | [_, _], h => simp at h
/-- params at once, or one call behind the other. -/
theorem apply_app (n : Nat) : ∀ (s : Int × Int × Int) (l m : List Int), l.length ≤ n → cutL l = false → applyL s (l ++ m) = applyL (applyL s l) m := by
  induction n with
  | zero =>
    intro s l m hl _
    obtain rfl := List.eq_nil_of_length_eq_zero (by omega : l.length = 0)
    rw [applyL_nil]; rfl
  | succ n ih =>
    intro s l m hl hc
    cases l with
    | nil => rw [applyL_nil]; rfl
    | cons c r =>
      rw [List.cons_append, applyL_cons, applyL_cons]
      simp only [List.length_cons] at hl
      by_cases h : c = 38 ∨ c = 48
      · have hlen := step_len s c r
        rcases h with rfl | rfl
        · obtain ⟨e, p, hp⟩ := col_app (was := s.2.1) (m := m) (.inl rfl) hc
          have e1 : Apply.step s 38 (r ++ m) = ((Apply.step s 38 r).1, (Apply.step s 38 r).2 ++ m) := by simp [Apply.step, e]
          have e2 : (Apply.step s 38 r).2 = (colZ s.2.1 r).2 := by simp [Apply.step]
          rw [e1]
          exact ih _ _ m (by omega) (by rw [e2]; rw [hp] at hc; exact cut_suffix (l := 38 :: p) hc)
        · obtain ⟨e, p, hp⟩ := col_app (was := s.2.2) (m := m) (.inr rfl) hc
          have e1 : Apply.step s 48 (r ++ m) = ((Apply.step s 48 r).1, (Apply.step s 48 r).2 ++ m) := by simp [Apply.step, e]
          have e2 : (Apply.step s 48 r).2 = (colZ s.2.2 r).2 := by simp [Apply.step]
          rw [e1]
          exact ih _ _ m (by omega) (by rw [e2]; rw [hp] at hc; exact cut_suffix (l := 48 :: p) hc)
      · have h38 : c ≠ 38 := fun e => h (.inl e)
        have h48 : c ≠ 48 := fun e => h (.inr e)
        have e1 : ∀ q, Apply.step s c q = ((oneF s.1 c, oneFg s.2.1 c, oneBg s.2.2 c), q) := fun q => by rw [Apply.step, if_neg h38, if_neg h48]
        rw [e1, e1]
        exact ih _ r m (by omega) (cut_tail hc)
theorem apply_reset (s t : Int × Int × Int) (m : List Int) : applyL s (0 :: m) = applyL t (-1 :: m) := by
  have e1 : Apply.step s 0 m = ((0, 0, 0), m) := by simp [Apply.step, oneF, oneFg, oneBg]
  have e2 : Apply.step t (-1) m = ((0, 0, 0), m) := by simp [Apply.step, oneF, oneFg, oneBg]
  rw [applyL_cons, applyL_cons, e1, e2]
end Go.Proofs.Ytkpneocolbmnpaa.SgrList
