/- Plain facts: numbers read wherever they stand; a number that is cut off. -/
import Derived.Test.YtlhapnnepcnfbaaDoorRef3
set_option linter.unusedVariables false
namespace Go.Proofs.YtlhapnnepcnfbaaDoor.WbM
open Go Go.RowKit Kit Crc Var Get Ref3

theorem pow7 (i : Nat) : 2 ^ (7 * (i + 1)) = 128 * 2 ^ (7 * i) := by rw [show 7 * (i + 1) = 7 * i + 7 by omega, Nat.pow_add]; omega
theorem pow64 {i : Nat} (h : i ≤ 8) : 2 ^ (64 - 7 * i) = 128 * 2 ^ (64 - 7 * (i + 1)) := by rw [show 64 - 7 * i = 64 - 7 * (i + 1) + 7 by omega, Nat.pow_add]; omega
theorem not9 {n i : Nat} (hi : i ≤ 9) (h : n < 2 ^ (64 - 7 * i)) (hn : 128 ≤ n) : i ≤ 8 := by
  rcases Nat.lt_or_ge i 9 with h1 | h1
  · omega
  · obtain rfl : i = 9 := by omega
    have : (2 : Nat) ^ (64 - 7 * 9) = 2 := by decide
    omega
theorem getF_app (r : List Nat) : ∀ (k n : Nat), n ≤ k → ∀ (i acc : Nat), i ≤ 9 → n < 2 ^ (64 - 7 * i) → (n = 0 → i = 0) → getF (varL n ++ r) i acc = (acc + n * 2 ^ (7 * i), i + (varL n).length, 0) := by
  intro k
  induction k with
  | zero =>
    intro n hn i acc hi h h0
    obtain rfl : n = 0 := by omega
    obtain rfl : i = 0 := h0 rfl
    rw [varL_small (by omega), List.cons_append, getF_end (by omega) (by omega) (by omega)]; simp
  | succ k ih =>
    intro n hn i acc hi h h0
    by_cases hs : n < 128
    · rw [varL_small hs, List.cons_append, getF_end (fun e => by subst e; have : (2 : Nat) ^ (64 - 7 * 9) = 2 := by decide
                                                                 omega) hs h0]; simp
    · have hi8 := not9 hi h (by omega)
      have hp := pow64 hi8
      rw [varL_more hs, List.cons_append, getF_more (by omega) (by omega), ih (n / 128) (by omega) (i + 1) _ (by omega) (by omega) (by omega), pow7]
      have e : n * 2 ^ (7 * i) = (n % 128 + 128 * (n / 128)) * 2 ^ (7 * i) := by rw [Nat.mod_add_div]
      rw [e, Nat.add_mul]
      have e2 : (n % 128 + 128) % 128 = n % 128 := by omega
      have e3 : n / 128 * (128 * 2 ^ (7 * i)) = 128 * (n / 128) * 2 ^ (7 * i) := by rw [← Nat.mul_assoc, Nat.mul_comm (n / 128) 128]
      rw [e2, e3]
      simp only [List.length_cons]
      rw [Nat.add_assoc]
      congr 2
      omega
theorem getA_front (la lb : List Nat) (n : Nat) (h : n < 18446744073709551616) : getA (la ++ varL n ++ lb) (la.length : Nat) = ((n : Int), ((la.length : Int) + ((varL n).length : Nat)), 0) := by
  have e : (la ++ varL n ++ lb).drop la.length = varL n ++ lb := by rw [List.append_assoc, List.drop_left]
  have g := getF_app lb n n (Nat.le_refl _) 0 0 (by omega) (by simpa using h) (fun _ => rfl)
  rw [getA, if_neg (by simp; omega)]
  simp only [Int.toNat_natCast, e, g]
  simp [end_]
/-- a number that is cut off is too short. -/
theorem getF_cut : ∀ (k n : Nat), k < (varL n).length → ∀ (i acc : Nat), i ≤ 9 → n < 2 ^ (64 - 7 * i) → getF ((varL n).take k) i acc = (0, 0, 3) := by
  intro k
  induction k with
  | zero => intro n _ i acc _ _; rw [List.take_zero]; rfl
  | succ k ih =>
    intro n hk i acc hi h
    by_cases hs : n < 128
    · rw [varL_small hs] at hk; simp at hk
    · have hi8 := not9 hi h (by omega)
      have hp := pow64 hi8
      rw [varL_more hs] at hk ⊢
      rw [List.take_succ_cons, getF_more (by omega) (by omega)]
      exact ih (n / 128) (by simpa using hk) (i + 1) _ (by omega) (by omega)
theorem getA_cut (n k : Nat) (h : n < 18446744073709551616) (hk : k < (varL n).length) : getA ((varL n).take k) 0 = (0, 0, 3) := by
  have g := getF_cut k n hk 0 0 (by omega) (by simpa using h)
  rw [getA, if_neg (by omega)]
  simp only [Int.toNat_zero, List.drop_zero, g]
  simp [end_]
theorem getA_end (l : List Nat) : getA l (l.length : Nat) = (0, 0, 3) := by
  rw [getA, if_neg (by omega)]
  simp [getF, end_]
/-- the texts of numbers, one behind the other. -/
def catL (l : List Nat) : List Nat := l.flatMap varL
theorem catL_snoc (l : List Nat) (n : Nat) : catL (l ++ [n]) = catL l ++ varL n := by simp [catL]
theorem varL_pos (n : Nat) : 1 ≤ (varL n).length := by
  by_cases hs : n < 128
  · rw [varL_small hs]; simp
  · rw [varL_more hs]; simp
theorem catL_take (l : List Nat) (i : Nat) (h : i < l.length) : catL (l.take (i + 1)) = catL (l.take i) ++ varL l[i] := by
  rw [List.take_succ_eq_append_getElem h, catL_snoc]
theorem catL_len : ∀ (l : List Nat), (∀ n ∈ l, n < 18446744073709551616) → (catL l).length ≤ 10 * l.length := by
  intro l
  induction l with
  | nil => intro _; simp [catL]
  | cons a l ih =>
    intro h
    have h1 := varL_ten (h a (by simp))
    have h2 := ih (fun n hn => h n (by simp [hn]))
    simp only [catL, List.flatMap_cons, List.length_append, List.length_cons] at h2 ⊢
    omega
theorem catL_byte (l : List Nat) : ∀ c ∈ catL l, c < 256 := by
  intro c hc
  simp only [catL, List.mem_flatMap] at hc
  obtain ⟨a, _, hc⟩ := hc
  exact varL_bytes a c hc
/-- what stands at the place of the i-th. -/
theorem getA_cat (l : List Nat) (i : Nat) (h : i < l.length) (hn : l[i] < 18446744073709551616) : getA (catL l) ((catL (l.take i)).length : Nat) = (((l[i] : Nat) : Int), (((catL (l.take (i + 1))).length : Nat) : Int), 0) := by
  have e : catL l = catL (l.take i) ++ varL l[i] ++ catL (l.drop (i + 1)) := by
    have h1 : l = l.take (i + 1) ++ l.drop (i + 1) := (List.take_append_drop _ _).symm
    rw [← catL_take l i h]
    have h2 : catL l = catL (l.take (i + 1) ++ l.drop (i + 1)) := by rw [← h1]
    rw [h2]
    unfold catL
    rw [List.flatMap_append]
  rw [e, getA_front _ _ _ hn, catL_take l i h, List.length_append]
  simp
end Go.Proofs.YtlhapnnepcnfbaaDoor.WbM
