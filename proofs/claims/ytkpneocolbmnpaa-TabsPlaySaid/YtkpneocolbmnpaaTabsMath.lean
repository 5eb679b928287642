/- Plain facts on stops: lists of bools, no program. -/
namespace Go.Proofs.Ytkpneocolbmnpaa.TabsMath

/-- the stops below k. -/
def stopsU (l : List Bool) : Nat → List Int
  | 0 => []
  | k + 1 => stopsU l k ++ (if l.getD k false then [(k : Int)] else [])
def stops (l : List Bool) : List Int := stopsU l l.length
/-- from column c on the n-th stop; the last column, if there are fewer. -/
def nextG (l : List Bool) (last : Nat) : Nat → Nat → Nat → Nat
  | 0, _, _ => last
  | f + 1, n, c => if l.getD c false then (if n ≤ 1 then c else nextG l last f (n - 1) (c + 1)) else nextG l last f n (c + 1)
def nextN (l : List Bool) (n a : Nat) : Nat := nextG l (l.length - 1) (l.length - 1 - (a + 1)) n (a + 1)
/-- from column c down the n-th stop; the first column, if there are fewer. -/
def prevG (l : List Bool) : Nat → Nat → Nat
  | 0, _ => 0
  | c + 1, n => if l.getD (c + 1) false then (if n ≤ 1 then c + 1 else prevG l c (n - 1)) else prevG l c n
def prevN (l : List Bool) (n a : Nat) : Nat := prevG l (a - 1) n
def clampN (col : Int) (last : Nat) : Nat := (min (max col 0) (last : Int)).toNat
/-- Next and Prev of whatever numbers. -/
def nextZ (l : List Bool) (col n : Int) : Int := nextN l (max n 1).toNat (clampN col (l.length - 1))
def prevZ (l : List Bool) (col n : Int) : Int := prevN l (max n 1).toNat (clampN col (l.length - 1))

theorem nextG_le (l : List Bool) (last : Nat) : ∀ (f n c : Nat), c + f ≤ last → nextG l last f n c ≤ last := by
  intro f
  induction f with
  | zero => intro n c h; exact Nat.le_refl _
  | succ f ih =>
    intro n c h
    rw [nextG]
    split
    · split
      · omega
      · exact ih _ _ (by omega)
    · exact ih _ _ (by omega)
theorem nextG_ge (l : List Bool) (last : Nat) : ∀ (f n c : Nat), c + f = last → c ≤ nextG l last f n c := by
  intro f
  induction f with
  | zero => intro n c h; rw [nextG]; omega
  | succ f ih =>
    intro n c h
    rw [nextG]
    split
    · split
      · exact Nat.le_refl _
      · have := ih (n - 1) (c + 1) (by omega); omega
    · have := ih n (c + 1) (by omega); omega
theorem nextN_le (l : List Bool) (n a : Nat) (h : a ≤ l.length - 1) : nextN l n a ≤ l.length - 1 := by
  unfold nextN
  by_cases h1 : a = l.length - 1
  · rw [h1, show l.length - 1 - (l.length - 1 + 1) = 0 by omega, nextG]; exact Nat.le_refl _
  · exact nextG_le _ _ _ _ _ (by omega)
theorem nextN_gt (l : List Bool) (n a : Nat) (h : a < l.length - 1) : a < nextN l n a := by
  unfold nextN
  have := nextG_ge l (l.length - 1) (l.length - 1 - (a + 1)) n (a + 1) (by omega)
  omega
theorem nextN_last (l : List Bool) (n : Nat) : nextN l n (l.length - 1) = l.length - 1 := by
  unfold nextN
  rw [show l.length - 1 - (l.length - 1 + 1) = 0 by omega, nextG]
theorem nextG_none (l : List Bool) (last : Nat) : ∀ (f c : Nat), c + f = last → ∀ k, c ≤ k → k < nextG l last f 1 c → l.getD k false = false := by
  intro f
  induction f with
  | zero => intro c h k h1 h2; rw [nextG] at h2; omega
  | succ f ih =>
    intro c h k h1 h2
    rw [nextG] at h2
    split at h2
    · rw [if_pos (Nat.le_refl _)] at h2; omega
    · rename_i hc
      by_cases e : k = c
      · subst e; simpa using hc
      · exact ih (c + 1) (by omega) k (by omega) h2
theorem nextN_none (l : List Bool) (a : Nat) (h : a ≤ l.length - 1) (k : Nat) (h1 : a < k) (h2 : k < nextN l 1 a) : l.getD k false = false := by
  by_cases h3 : a = l.length - 1
  · subst h3; rw [nextN_last] at h2; omega
  · exact nextG_none l _ _ _ (by omega) k h1 h2
theorem nextG_step (l : List Bool) (last : Nat) : ∀ (f n c : Nat), c + f = last → 1 ≤ n → nextG l last f (n + 1) c = nextG l last (last - (nextG l last f 1 c + 1)) n (nextG l last f 1 c + 1) := by
  intro f
  induction f with
  | zero => intro n c h h1; rw [nextG, nextG, show last - (last + 1) = 0 by omega, nextG]
  | succ f ih =>
    intro n c h h1
    rw [nextG, nextG]
    split
    · rw [if_neg (by omega), if_pos (Nat.le_refl _), show last - (c + 1) = f by omega, Nat.add_sub_cancel]
    · exact ih n (c + 1) (by omega) h1
theorem nextN_step (l : List Bool) (n a : Nat) (h : a ≤ l.length - 1) (h1 : 1 ≤ n) : nextN l (n + 1) a = nextN l n (nextN l 1 a) := by
  by_cases h3 : a = l.length - 1
  · subst h3; rw [nextN_last, nextN_last, nextN_last]
  · exact nextG_step l _ _ n _ (by omega) h1
theorem prevG_le (l : List Bool) : ∀ (c n : Nat), prevG l c n ≤ c := by
  intro c
  induction c with
  | zero => intro n; exact Nat.le_refl _
  | succ c ih =>
    intro n
    rw [prevG]
    split
    · split
      · exact Nat.le_refl _
      · have := ih (n - 1); omega
    · have := ih n; omega
theorem prevG_none (l : List Bool) : ∀ (c k : Nat), k ≤ c → prevG l c 1 < k → l.getD k false = false := by
  intro c
  induction c with
  | zero => intro k h1 h2; rw [prevG] at h2; omega
  | succ c ih =>
    intro k h1 h2
    rw [prevG] at h2
    split at h2
    · rw [if_pos (Nat.le_refl _)] at h2; omega
    · rename_i hc
      by_cases e : k = c + 1
      · subst e; simpa using hc
      · exact ih k (by omega) h2
theorem prevG_step (l : List Bool) : ∀ (c n : Nat), 1 ≤ n → prevG l c (n + 1) = prevG l (prevG l c 1 - 1) n := by
  intro c
  induction c with
  | zero => intro n h1; rw [prevG, prevG, prevG]
  | succ c ih =>
    intro n h1
    rw [prevG, prevG]
    split
    · rw [if_neg (by omega), if_pos (Nat.le_refl _), Nat.add_sub_cancel, Nat.add_sub_cancel]
    · exact ih n h1
theorem prevN_step (l : List Bool) (n a : Nat) (h1 : 1 ≤ n) : prevN l (n + 1) a = prevN l n (prevN l 1 a) := prevG_step l _ _ h1
theorem prevN_lt (l : List Bool) (n a : Nat) (h : 0 < a) : prevN l n a < a := by
  have := prevG_le l (a - 1) n
  unfold prevN; omega
theorem prevN_zero (l : List Bool) (n : Nat) : prevN l n 0 = 0 := by unfold prevN; rw [Nat.zero_sub, prevG]
theorem prevN_none (l : List Bool) (a k : Nat) (h1 : k < a) (h2 : prevN l 1 a < k) : l.getD k false = false := prevG_none l _ k (by omega) h2
/-- n times one step. -/
def iter (f : Nat → Nat) : Nat → Nat → Nat
  | 0, a => a
  | n + 1, a => f (iter f n a)
theorem iter_in (f : Nat → Nat) (n a : Nat) : iter f (n + 1) a = iter f n (f a) := by
  induction n with
  | zero => rfl
  | succ n ih => rw [iter, ih, iter]
theorem nextN_iter (l : List Bool) (n : Nat) : ∀ a, a ≤ l.length - 1 → nextN l (n + 1) a = iter (nextN l 1) (n + 1) a := by
  induction n with
  | zero => intro a _; rfl
  | succ n ih => intro a h; rw [nextN_step l _ a h (by omega), iter_in, ih _ (nextN_le l 1 a h)]
theorem prevN_iter (l : List Bool) (n : Nat) : ∀ a, prevN l (n + 1) a = iter (prevN l 1) (n + 1) a := by
  induction n with
  | zero => intro a; rfl
  | succ n ih => intro a; rw [prevN_step l _ a (by omega), iter_in, ih _]
theorem stopsU_mem (l : List Bool) (k : Nat) : ∀ x, x ∈ stopsU l k → ∃ i : Nat, x = (i : Int) ∧ i < k ∧ l.getD i false = true := by
  induction k with
  | zero => intro x h; simp [stopsU] at h
  | succ k ih =>
    intro x h
    rw [stopsU, List.mem_append] at h
    rcases h with h | h
    · obtain ⟨i, h1, h2, h3⟩ := ih x h; exact ⟨i, h1, by omega, h3⟩
    · split at h
      · rename_i hc
        simp at h; exact ⟨k, h, by omega, hc⟩
      · simp at h
theorem stopsU_has (l : List Bool) (k i : Nat) (h : i < k) (hc : l.getD i false = true) : (i : Int) ∈ stopsU l k := by
  induction k with
  | zero => omega
  | succ k ih =>
    rw [stopsU, List.mem_append]
    by_cases e : i = k
    · subst e; right; rw [if_pos hc]; simp
    · left; exact ih (by omega)
theorem stopsU_len (l : List Bool) (k : Nat) : (stopsU l k).length ≤ k := by
  induction k with
  | zero => simp [stopsU]
  | succ k ih => rw [stopsU, List.length_append]; split <;> simp <;> omega
theorem stopsU_yes {l : List Bool} {k : Nat} (h : l.getD k false = true) : stopsU l (k + 1) = stopsU l k ++ [(k : Int)] := by rw [stopsU, if_pos h]
theorem stopsU_no {l : List Bool} {k : Nat} (h : l.getD k false = false) : stopsU l (k + 1) = stopsU l k := by rw [stopsU, if_neg (by rw [h]; decide), List.append_nil]
end Go.Proofs.Ytkpneocolbmnpaa.TabsMath
