/- Plain facts on grids of cells: lists, no program. -/
namespace Go.Proofs.Ytfogbokifbjjlaa.Gm

/-- a cell: its sign, its looks (flags, fore, back), which half it is. -/
structure Ce where
  r : Int
  fl : Int
  fg : Int
  bg : Int
  wd : Int
  deriving DecidableEq
def zeroC : Ce := ⟨0, 0, 0, 0, 0⟩
def blankC (bg : Int) : Ce := ⟨32, 0, 0, bg, 0⟩
def spaceC (c : Ce) : Ce := ⟨32, c.fl, c.fg, c.bg, 0⟩
def rightC (c : Ce) : Ce := ⟨0, c.fl, c.fg, c.bg, 2⟩
def mend : List Ce → List Ce
  | [] => []
  | [c] => if c.wd = 0 then [c] else [spaceC c]
  | c :: d :: t => if c.wd = 0 then c :: mend (d :: t) else if c.wd = 1 ∧ d.wd = 2 then c :: d :: mend t else spaceC c :: mend (d :: t)
theorem mend_zero {c : Ce} {t : List Ce} (h : c.wd = 0) : mend (c :: t) = c :: mend t := by
  cases t with
  | nil => simp [mend, h]
  | cons d t => rw [mend, if_pos h]
theorem mend_pair {c d : Ce} {t : List Ce} (h : c.wd = 1) (h2 : d.wd = 2) : mend (c :: d :: t) = c :: d :: mend t := by
  rw [mend, if_neg (by omega), if_pos ⟨h, h2⟩]
theorem mend_lone {c d : Ce} {t : List Ce} (h : ¬ c.wd = 0) (h2 : ¬ (c.wd = 1 ∧ d.wd = 2)) : mend (c :: d :: t) = spaceC c :: mend (d :: t) := by
  rw [mend, if_neg h, if_neg h2]
theorem mend_last {c : Ce} (h : ¬ c.wd = 0) : mend [c] = [spaceC c] := by simp [mend, h]
theorem mend_len : ∀ (n : Nat) (l : List Ce), l.length ≤ n → (mend l).length = l.length := by
  intro n
  induction n with
  | zero => intro l h; obtain rfl : l = [] := List.eq_nil_of_length_eq_zero (by omega); rfl
  | succ n ih =>
    intro l h
    match l, h with
    | [], _ => rfl
    | [c], _ => simp only [mend]; split <;> rfl
    | c :: d :: t, h =>
      simp only [List.length_cons] at h
      rw [mend]
      split
      · rw [List.length_cons, ih _ (by simp; omega)]; rfl
      · split
        · rw [List.length_cons, List.length_cons, ih _ (by omega)]; rfl
        · rw [List.length_cons, ih _ (by simp; omega)]; rfl
theorem mend_length (l : List Ce) : (mend l).length = l.length := mend_len _ l (Nat.le_refl _)
theorem mend_front {A : List Ce} (h : ∀ c ∈ A, c.wd = 0) (B : List Ce) : mend (A ++ B) = A ++ mend B := by
  induction A with
  | nil => rfl
  | cons a A ih => rw [List.cons_append, mend_zero (h a (by simp)), ih (fun c hc => h c (by simp [hc]))]; rfl
theorem mend_flat {A : List Ce} (h : ∀ c ∈ A, c.wd = 0) : mend A = A := by
  have := mend_front h []
  simpa [mend] using this
end Go.Proofs.Ytfogbokifbjjlaa.Gm
