/- Records, as plain values: their bytes, and what bytes say. -/
import Derived.Test.YtebfblpmihnndaaDoorBx
import Derived.Test.YtebfblpmihnndaaDoorRef3
import Derived.Test.YtebfblpmihnndaaDoorCrcLin
set_option linter.unusedVariables false
namespace Go.Proofs.YtebfblpmihnndaaDoor.Py
open Go Go.RowKit Kit Crc Var Get Ref3 Bx

theorem pow7 (i : Nat) : 2 ^ (7 * (i + 1)) = 128 * 2 ^ (7 * i) := by rw [show 7 * (i + 1) = 7 * i + 7 by omega, Nat.pow_add]; omega
theorem pow64 {i : Nat} (h : i ≤ 8) : 2 ^ (64 - 7 * i) = 128 * 2 ^ (64 - 7 * (i + 1)) := by rw [show 64 - 7 * i = 64 - 7 * (i + 1) + 7 by omega, Nat.pow_add]; omega
theorem varL_pos (n : Nat) : 1 ≤ (varL n).length := by
  by_cases hs : n < 128
  · rw [varL_small hs]; simp
  · rw [varL_more hs]; simp
theorem not9 {n i : Nat} (hi : i ≤ 9) (h : n < 2 ^ (64 - 7 * i)) (hn : 128 ≤ n) : i ≤ 8 := by
  rcases Nat.lt_or_ge i 9 with h1 | h1
  · omega
  · obtain rfl : i = 9 := by omega
    have : (2 : Nat) ^ (64 - 7 * 9) = 2 := by decide
    omega
theorem getF_app (r : List Nat) : ∀ (k n : Nat), n ≤ k → ∀ (i acc : Nat), i ≤ 9 → n < 2 ^ (64 - 7 * i) → (n = 0 → i = 0) → getF (varL n ++ r) i acc = (acc + n * 2 ^ (7 * i), i + (varL n).length, 0) := by
  intro k
  induction k with
  | zero =>
    intro n hn i acc hi h h0
    obtain rfl : n = 0 := by omega
    obtain rfl : i = 0 := h0 rfl
    rw [varL_small (by omega), List.cons_append, getF_end (by omega) (by omega) (by omega)]; simp
  | succ k ih =>
    intro n hn i acc hi h h0
    by_cases hs : n < 128
    · rw [varL_small hs, List.cons_append, getF_end (fun e => by subst e; have : (2 : Nat) ^ (64 - 7 * 9) = 2 := by decide
                                                                 omega) hs h0]; simp
    · have hi8 := not9 hi h (by omega)
      have hp := pow64 hi8
      rw [varL_more hs, List.cons_append, getF_more (by omega) (by omega), ih (n / 128) (by omega) (i + 1) _ (by omega) (by omega) (by omega), pow7]
      have e : n * 2 ^ (7 * i) = (n % 128 + 128 * (n / 128)) * 2 ^ (7 * i) := by rw [Nat.mod_add_div]
      rw [e, Nat.add_mul]
      have e2 : (n % 128 + 128) % 128 = n % 128 := by omega
      have e3 : n / 128 * (128 * 2 ^ (7 * i)) = 128 * (n / 128) * 2 ^ (7 * i) := by rw [← Nat.mul_assoc, Nat.mul_comm (n / 128) 128]
      rw [e2, e3]
      simp only [List.length_cons]
      rw [Nat.add_assoc]
      congr 2
      omega
theorem getF_cut : ∀ (k n : Nat), k < (varL n).length → ∀ (i acc : Nat), i ≤ 9 → n < 2 ^ (64 - 7 * i) → getF ((varL n).take k) i acc = (0, 0, 3) := by
  intro k
  induction k with
  | zero => intro n _ i acc _ _; rw [List.take_zero]; rfl
  | succ k ih =>
    intro n hk i acc hi h
    by_cases hs : n < 128
    · rw [varL_small hs] at hk; simp at hk
    · have hi8 := not9 hi h (by omega)
      have hp := pow64 hi8
      rw [varL_more hs] at hk ⊢
      rw [List.take_succ_cons, getF_more (by omega) (by omega)]
      exact ih (n / 128) (by simpa using hk) (i + 1) _ (by omega) (by omega)
/-- what is read is the number's own bytes. -/
theorem getF_back : ∀ (l : List Nat), (∀ c ∈ l, c < 256) → ∀ (i acc n k : Nat), getF l i acc = (n, k, 0) →
    ∃ q m, k = i + q ∧ 1 ≤ q ∧ q ≤ l.length ∧ n = acc + m * 2 ^ (7 * i) ∧ l.take q = varL m ∧ (m = 0 → i = 0)
  | [], _, i, acc, n, k, h => by simp [getF] at h
  | c :: l, hl, i, acc, n, k, h => by
    rw [getF] at h
    have hc := hl c (List.mem_cons_self ..)
    split at h
    · simp at h
    · split at h
      · rename_i h1 h2
        obtain ⟨q, m, e1, e2, e3, e4, e5, e6⟩ := getF_back l (fun x hx => hl x (List.mem_cons_of_mem _ hx)) (i + 1) _ n k h
        refine ⟨q + 1, c % 128 + 128 * m, by omega, by omega, by simp; omega, ?_, ?_, ?_⟩
        · rw [e4, pow7, Nat.add_mul]
          rw [show m * (128 * 2 ^ (7 * i)) = 128 * m * 2 ^ (7 * i) by rw [← Nat.mul_assoc, Nat.mul_comm m 128]]
          omega
        · have hm : 1 ≤ m := by rcases Nat.eq_zero_or_pos m with hz | hz; have := e6 hz; omega; exact hz
          rw [varL_more (by omega), List.take_succ_cons, e5]
          rw [show (c % 128 + 128 * m) % 128 + 128 = c by omega, show (c % 128 + 128 * m) / 128 = m by omega]
        · intro hz
          have hm : 1 ≤ m := by rcases Nat.eq_zero_or_pos m with hz | hz; have := e6 hz; omega; exact hz
          omega
      · split at h
        · simp at h
        · rename_i h1 h2 h3
          simp only [Prod.mk.injEq, and_true] at h
          refine ⟨1, c, by omega, by omega, by simp, by omega, by rw [varL_small (by omega)]; simp, by omega⟩
theorem getF_eat {l : List Nat} (hl : ∀ c ∈ l, c < 256) {n k : Nat} (h : getF l 0 0 = (n, k, 0)) : 1 ≤ k ∧ k ≤ l.length ∧ l.take k = varL n := by
  obtain ⟨q, m, e1, e2, e3, e4, e5, _⟩ := getF_back l hl 0 0 n k h
  have : n = m := by rw [e4]; simp
  subst this
  have : k = q := by omega
  subst this
  exact ⟨e2, e3, e5⟩
theorem getF_why : ∀ (l : List Nat) (i acc : Nat), (getF l i acc).2.2 ≤ 3
  | [], i, acc => by simp [getF]
  | c :: l, i, acc => by
    rw [getF]
    split
    · simp
    · split
      · exact getF_why l _ _
      · split <;> simp
theorem getF_on (n : Nat) (h : n < 18446744073709551616) (r : List Nat) : getF (varL n ++ r) 0 0 = (n, (varL n).length, 0) := by
  have := getF_app r n n (Nat.le_refl _) 0 0 (by omega) (by simpa using h) (fun _ => rfl)
  simpa using this
theorem getF_off (n k : Nat) (h : n < 18446744073709551616) (hk : k < (varL n).length) : getF ((varL n).take k) 0 0 = (0, 0, 3) := getF_cut k n hk 0 0 (by omega) (by simpa using h)

/-- may it be? -/
def mayR (k : Int) (s t n : Nat) : Bool := (decide (k = 1) || decide (k = 2)) && decide (1 ≤ s) && decide (s ≤ 4611686018427387904) && decide (t ≤ 4611686018427387904) && decide (n ≤ 1048576)
theorem mayR_of {k : Int} {s t n : Nat} (h : mayR k s t n = true) : (k = 1 ∨ k = 2) ∧ 1 ≤ s ∧ s ≤ 4611686018427387904 ∧ t ≤ 4611686018427387904 ∧ n ≤ 1048576 := by
  simp only [mayR, Bool.and_eq_true, Bool.or_eq_true, decide_eq_true_eq] at h
  obtain ⟨⟨⟨⟨a, b⟩, c⟩, d⟩, e⟩ := h
  exact ⟨a, b, c, d, e⟩
def restL (K s t : Nat) (l : List Nat) : List Nat := [K] ++ varL s ++ varL t ++ varL l.length ++ l
def recL (K s t : Nat) (l : List Nat) : List Nat := [167, 92] ++ fourL ((crc (restL K s t l) : Nat) : Int) ++ restL K s t l
theorem fourL_len (n : Int) : (fourL n).length = 4 := rfl
theorem restL_lt {K s t : Nat} {l : List Nat} (hK : K < 256) (hl : ∀ c ∈ l, c < 256) : ∀ c ∈ restL K s t l, c < 256 := by
  intro c hc
  simp only [restL, List.mem_append, List.mem_singleton] at hc
  rcases hc with (((rfl | h) | h) | h) | h
  · exact hK
  · exact varL_bytes _ c h
  · exact varL_bytes _ c h
  · exact varL_bytes _ c h
  · exact hl c h
theorem recL_lt {K s t : Nat} {l : List Nat} (hK : K < 256) (hl : ∀ c ∈ l, c < 256) : ∀ c ∈ recL K s t l, c < 256 := by
  intro c hc
  simp only [recL, List.mem_append, List.mem_cons, List.not_mem_nil, or_false] at hc
  rcases hc with ((rfl | rfl) | h) | h
  · decide
  · decide
  · exact four_bytes _ c h
  · exact restL_lt hK hl c h
theorem restL_len (K s t : Nat) (l : List Nat) : (restL K s t l).length = 1 + (varL s).length + (varL t).length + (varL l.length).length + l.length := by simp [restL]; omega
theorem recL_len (K s t : Nat) (l : List Nat) : (recL K s t l).length = 7 + (varL s).length + (varL t).length + (varL l.length).length + l.length := by simp [recL, restL_len, fourL_len]; omega
/-- what bytes say: why not, or a record, and how many of the bytes are its own. -/
structure Dec where
  e : Nat
  k : Nat
  s : Nat
  t : Nat
  b : List Nat
  n : Nat
def bad (e : Nat) : Dec := ⟨e, 0, 0, 0, [], 0⟩
def dec6 (m : List Nat) (s t n p : Nat) : Dec := if mayR (m.getD 6 0 : Nat) s t n = true then ⟨0, m.getD 6 0, s, t, (m.take (p + n)).drop p, p + n⟩ else bad 2
def dec5 (m : List Nat) (s t n p : Nat) : Dec :=
  if 1048576 < n then bad 2 else if m.length - p < n then bad 3 else
  if (m.take 6).drop 2 = fourL ((crc ((m.take (p + n)).drop 6) : Nat) : Int) then dec6 m s t n p else bad 9
def dec4 (m : List Nat) (s t p : Nat) : Dec := if (getF (m.drop p) 0 0).2.2 = 0 then dec5 m s t (getF (m.drop p) 0 0).1 (p + (getF (m.drop p) 0 0).2.1) else bad (getF (m.drop p) 0 0).2.2
def dec3 (m : List Nat) (s p : Nat) : Dec := if (getF (m.drop p) 0 0).2.2 = 0 then dec4 m s (getF (m.drop p) 0 0).1 (p + (getF (m.drop p) 0 0).2.1) else bad (getF (m.drop p) 0 0).2.2
def dec2 (m : List Nat) (p : Nat) : Dec := if (getF (m.drop p) 0 0).2.2 = 0 then dec3 m (getF (m.drop p) 0 0).1 (p + (getF (m.drop p) 0 0).2.1) else bad (getF (m.drop p) 0 0).2.2
def decM (m : List Nat) : Dec :=
  if m.length < 6 then bad 3 else if ¬ (m.getD 0 0 = 167 ∧ m.getD 1 0 = 92) then bad 2 else if m.length < 7 then bad 3 else dec2 m 7
end Go.Proofs.YtebfblpmihnndaaDoor.Py
