/- KeyShort: screens of cells that are all alike, or all but one (pure). -/
import Derived.Test.YtfogbokifbjjlaaLd
set_option linter.unusedVariables false
namespace Go.Proofs.Ytfogbokifbjjlaa.Le
open Go Go.RowKit Kit Gm Gv Var Ap La Lb Lc Fr Ld Sb

abbrev blkC : Ce := ⟨32, 0, 0, 0, 0⟩
theorem run_rep (c : Ce) (k : Nat) (T : List Ce) (hk : 0 < k) (hT : T = [] ∨ ∃ d t, T = d :: t ∧ d ≠ c) : runL (List.replicate k c ++ T) = k := by
  obtain ⟨j, rfl⟩ : ∃ j, k = j + 1 := ⟨k - 1, by omega⟩
  rw [List.replicate_succ, List.cons_append]
  refine (run_is c _ (j + 1) (by omega) (fun i hi => ?_) ?_).symm
  · rw [← List.cons_append, ← List.replicate_succ, List.getElem?_append_left (by simpa using hi), List.getElem?_replicate, if_pos hi]
  · rcases hT with rfl | ⟨d, t, rfl, hd⟩
    · exact .inl (by simp)
    · refine .inr ⟨d, ?_, hd⟩
      rw [← List.cons_append, ← List.replicate_succ, List.getElem?_append_right (by simp)]; simp
theorem cellsB_rep (c : Ce) (k : Nat) (T : List Ce) (hk : 0 < k) (hT : T = [] ∨ ∃ d t, T = d :: t ∧ d ≠ c) : cellsB (List.replicate k c ++ T) = varL k ++ oneL c ++ cellsB T := by
  have hr := run_rep c k T hk hT
  obtain ⟨j, rfl⟩ : ∃ j, k = j + 1 := ⟨k - 1, by omega⟩
  rw [List.replicate_succ, List.cons_append] at hr ⊢
  rw [cellsB_cons, hr, ← List.cons_append, ← List.replicate_succ]
  rw [show (List.replicate (j + 1) c ++ T).drop (j + 1) = T by rw [List.drop_append_of_le_length (by simp)]; simp]
theorem cellsB_all (c : Ce) (q : Nat) (hq : 0 < q) : cellsB (List.replicate q c) = varL q ++ oneL c := by
  have := cellsB_rep c q [] hq (.inl rfl)
  rwa [List.append_nil, cellsB_nil, List.append_nil] at this
theorem one_ge (c : Ce) : 5 ≤ (oneL c).length := by
  have h1 := varL_pos (un c.r); have h2 := varL_pos (un c.fl); have h3 := varL_pos (un c.fg); have h4 := varL_pos (un c.bg); have h5 := varL_pos (un c.wd)
  simp only [oneP, List.length_append]; omega
theorem colB_le {n : Int} (h : Cell.colB n = true) : 0 ≤ n ∧ n < 33554432 := by
  rw [Cell.colB_iff] at h; omega
theorem may_nums {r f fg bg wd : Int} (h : Cell.mayB r f fg bg wd = true) (hw : wd = 0) : (32 ≤ r ∧ r ≤ 1114111) ∧ (0 ≤ f ∧ f ≤ 255) ∧ (0 ≤ fg ∧ fg < 33554432) ∧ (0 ≤ bg ∧ bg < 33554432) := by
  subst hw
  unfold Cell.mayB at h
  simp only [Cell.attrB, Bool.and_eq_true, Bool.or_eq_true, decide_eq_true_eq, beq_iff_eq] at h
  obtain ⟨⟨⟨hf, h1⟩, h2⟩, h3⟩ := h
  refine ⟨?_, hf, colB_le h1, colB_le h2⟩
  have hn : Cell.noneB r = false := by
    cases e : Cell.noneB r with
    | false => rfl
    | true =>
      have hz : Cell.widthZ r = 0 := (Cell.widthZ_0 e).symm
      rw [hz] at h3
      omega
  unfold Cell.noneB at hn
  rw [decide_eq_false_iff_not] at hn
  omega
theorem un_le {n : Int} {m : Nat} (h0 : 0 ≤ n) (h1 : n < m) (hm : m ≤ 18446744073709551616) : un n < m := by
  obtain ⟨k, rfl⟩ := Int.eq_ofNat_of_zero_le h0
  rw [un_nat k (by omega)]; omega
theorem nums_le {r f fg bg : Int} (a : 32 ≤ r ∧ r ≤ 1114111) (b : 0 ≤ f ∧ f ≤ 255) (d : 0 ≤ fg ∧ fg < 33554432) (e : 0 ≤ bg ∧ bg < 33554432) : (oneL ⟨r, f, fg, bg, 0⟩).length ≤ 14 := by
  have h1 := varL_three (un_le (n := r) (m := 2097152) (by omega) (by omega) (by decide))
  have h2 := varL_two (un_le (n := f) (m := 16384) (by omega) (by omega) (by decide))
  have h3 := varL_four (un_le (n := fg) (m := 268435456) (by omega) (by omega) (by decide))
  have h4 := varL_four (un_le (n := bg) (m := 268435456) (by omega) (by omega) (by decide))
  have h5 := varL_one (un_le (n := 0) (m := 128) (by omega) (by omega) (by decide))
  simp only [oneP, List.length_append]
  omega
theorem un_inj {m n : Int} (h0 : 0 ≤ m) (h1 : m < 18446744073709551616) (h2 : 0 ≤ n) (h3 : n < 18446744073709551616) (h : un m = un n) : m = n := by
  unfold un at h; omega
theorem one_ne {r f g fg bg : Int} (hf : 0 ≤ f ∧ f ≤ 255) (hg : 0 ≤ g ∧ g ≤ 255) (h : f ≠ g) : oneL ⟨r, f, fg, bg, 0⟩ ≠ oneL ⟨r, g, fg, bg, 0⟩ := by
  intro e
  simp only [oneP, List.append_assoc] at e
  obtain ⟨_, e2⟩ := varL_inj (un_lt _) (un_lt _) e
  obtain ⟨e3, _⟩ := varL_inj (un_lt _) (un_lt _) e2
  exact h (un_inj (by omega) (by omega) (by omega) (by omega) e3)
theorem set_rep (c d : Ce) (k q : Nat) (h : k < q) : (List.replicate q c).set k d = List.replicate k c ++ d :: List.replicate (q - (k + 1)) c := by
  rw [List.set_eq_take_append_cons_drop, if_pos (by simpa using h), List.take_replicate, List.drop_replicate, Nat.min_eq_left (by omega)]
/-- one among others. -/
theorem cellsB_one (c d : Ce) (hd : d ≠ c) (k q : Nat) (h : k < q) : cellsB ((List.replicate q c).set k d) = (if k = 0 then [] else varL k ++ oneL c) ++ (varL 1 ++ oneL d) ++ (if q = k + 1 then [] else varL (q - (k + 1)) ++ oneL c) := by
  have hT : cellsB (d :: List.replicate (q - (k + 1)) c) = varL 1 ++ oneL d ++ (if q = k + 1 then [] else varL (q - (k + 1)) ++ oneL c) := by
    by_cases hq : q = k + 1
    · rw [if_pos hq, List.append_nil, show q - (k + 1) = 0 by omega]
      exact cellsB_all d 1 (by decide)
    · rw [if_neg hq]
      obtain ⟨j, hj⟩ : ∃ j, q - (k + 1) = j + 1 := ⟨q - (k + 1) - 1, by omega⟩
      have := cellsB_rep d 1 (List.replicate (q - (k + 1)) c) (by decide) (.inr ⟨c, List.replicate j c, by rw [hj, List.replicate_succ], fun e => hd e.symm⟩)
      rw [cellsB_all c _ (by omega)] at this
      exact this
  rw [set_rep c d k q h]
  by_cases hk : k = 0
  · subst hk
    rw [if_pos rfl, List.replicate_zero, List.nil_append, List.nil_append, hT]
  · rw [if_neg hk, cellsB_rep c k _ (by omega) (.inr ⟨d, _, rfl, hd⟩), hT, List.append_assoc (varL k ++ oneL c)]
theorem head_six (R C : Nat) (hR : R ≤ 60) (hC : C ≤ 200) : (headL ⟨R, C, 0, 0, false, ⟨#[]⟩⟩).length ≤ 7 := by
  have h1 := varL_one (un_le (n := (R : Int)) (m := 128) (by omega) (by omega) (by decide))
  have h2 := varL_two (un_le (n := (C : Int)) (m := 16384) (by omega) (by omega) (by decide))
  have h3 := varL_one (un_le (n := 0) (m := 128) (by omega) (by omega) (by decide))
  have e : headL ⟨R, C, 0, 0, false, ⟨#[]⟩⟩ = varL (un R) ++ varL (un C) ++ varL (un 0) ++ varL (un 0) ++ varL (un 0) ++ varL (un 0) := rfl
  rw [e]
  simp only [List.length_append]
  omega
theorem enc_len (R C : Nat) (L : List Ce) : (encL ⟨R, C, 0, 0, false, ⟨#[]⟩⟩ L).length = (headL ⟨R, C, 0, 0, false, ⟨#[]⟩⟩).length + (cellsB L).length := by
  unfold encL
  have : (byL (⟨#[]⟩ : ByteArray)) = [] := rfl
  rw [this, List.append_nil, List.length_append]
/-- KeyShort's numbers. -/
theorem short (R C : Nat) (hR : 1 ≤ R ∧ R ≤ 60) (hC : 1 ≤ C ∧ C ≤ 200) (r f fg bg g : Int) (h : Cell.mayB r f fg bg 0 = true) (hg : 0 ≤ g ∧ g ≤ 255) (hne : g ≠ f) (k : Nat) (hk : k < R * C) :
    (encL ⟨R, C, 0, 0, false, ⟨#[]⟩⟩ (List.replicate (R * C) blkC)).length ≤ 18 ∧
    (encL ⟨R, C, 0, 0, false, ⟨#[]⟩⟩ (List.replicate (R * C) ⟨r, f, fg, bg, 0⟩)).length ≤ 32 ∧
    (encL ⟨R, C, 0, 0, false, ⟨#[]⟩⟩ ((List.replicate (R * C) ⟨r, f, fg, bg, 0⟩).set k ⟨r, g, fg, bg, 0⟩)).length ≤ 72 ∧
    (R * C = 1 ∨ (encL ⟨R, C, 0, 0, false, ⟨#[]⟩⟩ (List.replicate (R * C) ⟨r, f, fg, bg, 0⟩)).length < (encL ⟨R, C, 0, 0, false, ⟨#[]⟩⟩ ((List.replicate (R * C) ⟨r, f, fg, bg, 0⟩).set k ⟨r, g, fg, bg, 0⟩)).length) ∧
    encL ⟨R, C, 0, 0, false, ⟨#[]⟩⟩ (List.replicate (R * C) ⟨r, f, fg, bg, 0⟩) ≠ encL ⟨R, C, 0, 0, false, ⟨#[]⟩⟩ ((List.replicate (R * C) ⟨r, f, fg, bg, 0⟩).set k ⟨r, g, fg, bg, 0⟩) := by
  have hq2 : R * C ≤ 12000 := Nat.mul_le_mul hR.2 hC.2
  obtain ⟨a, b, d, e⟩ := may_nums h rfl
  have hh := head_six R C hR.2 hC.2
  generalize R * C = q at *
  have hcd : (⟨r, g, fg, bg, 0⟩ : Ce) ≠ ⟨r, f, fg, bg, 0⟩ := fun e => hne (by injection e)
  have l1 := nums_le a b d e
  have l2 := nums_le (f := g) a hg d e
  have l3 := one_ge ⟨r, f, fg, bg, 0⟩
  have l4 := one_ge ⟨r, g, fg, bg, 0⟩
  have e1 := cellsB_all (⟨r, f, fg, bg, 0⟩ : Ce) q (by omega)
  have e2 := cellsB_one _ _ hcd k q hk
  have e3 := cellsB_all blkC q (by omega)
  have v0 := varL_two (n := q) (by omega)
  have v1 : (varL 1).length = 1 := varL_one (by decide)
  have v2 := varL_two (n := k) (by omega)
  have v3 := varL_two (n := q - (k + 1)) (by omega)
  have v4 := varL_pos k
  have v5 := varL_pos (q - (k + 1))
  have b1 : (oneL blkC).length = 5 := by
    have z : ∀ n : Int, 0 ≤ n → n < 128 → (varL (un n)).length = 1 := fun n h0 h1 => varL_one (un_le h0 h1 (by decide))
    simp only [oneP, List.length_append, blkC]
    rw [z 32 (by decide) (by decide), z 0 (by decide) (by decide)]
  have s1 := congrArg List.length e1
  have s2 := congrArg List.length e2
  have s3 := congrArg List.length e3
  refine ⟨?_, ?_, ?_, ?_, ?_⟩
  · rw [enc_len, s3]; simp only [List.length_append]; omega
  · rw [enc_len, s1]; simp only [List.length_append]; omega
  · rw [enc_len, s2]
    split <;> split <;> simp only [List.length_append, List.length_nil] <;> omega
  · by_cases hq1 : q = 1
    · exact .inl hq1
    · right
      rw [enc_len, enc_len, s1, s2]
      by_cases hk0 : k = 0
      · rw [if_pos hk0]
        by_cases hk1 : q = k + 1
        · omega
        · rw [if_neg hk1]; simp only [List.length_append, List.length_nil]; omega
      · rw [if_neg hk0]
        split <;> simp only [List.length_append, List.length_nil] <;> omega
  · intro he
    have hlen := congrArg List.length he
    rw [enc_len, enc_len, s1, s2] at hlen
    by_cases hq1 : q = 1
    · obtain rfl : k = 0 := by omega
      unfold encL at he
      have he2 := List.append_cancel_left he
      rw [e1, e2, if_pos rfl, if_pos (by omega), hq1, List.append_nil, List.nil_append] at he2
      exact one_ne b hg (fun x => hne x.symm) (List.append_cancel_left he2)
    · by_cases hk0 : k = 0
      · rw [if_pos hk0] at hlen
        by_cases hk1 : q = k + 1
        · omega
        · rw [if_neg hk1] at hlen; simp only [List.length_append, List.length_nil] at hlen; omega
      · rw [if_neg hk0] at hlen
        split at hlen <;> simp only [List.length_append, List.length_nil] at hlen <;> omega
end Go.Proofs.Ytfogbokifbjjlaa.Le
