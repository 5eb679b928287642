/- Plain facts on signs that are cut off. -/
import Derived.Test.YtlhapnnepcnfbabUMath
set_option linter.unusedVariables false
namespace Go.Proofs.Ytlhapnnepcnfbab.UMath

/-- the first byte of a sign of more than one. -/
theorem front_enc (r : Int) (h : 128 ≤ fixZ r) : ∃ b0 t s n lo hi, encZ r = b0 :: t ∧ startD b0 = ([], ⟨s, 1, n, lo, hi⟩) ∧ 128 ≤ lo ∧ n = (encZ r).length ∧ (∀ x, t.head? = some x → lo ≤ x ∧ x ≤ hi) ∧ (∀ x ∈ t, 128 ≤ x ∧ x ≤ 191) := by
  have hs := sign_in (fix_sign r)
  rw [← enc_fix]
  generalize hq : fixZ r = q at *
  have hf : fixZ q = q := by rw [← hq]; exact fix_fix r
  unfold encZ
  rw [hf, if_neg (by omega)]
  by_cases h2 : q < 2048
  · rw [if_pos h2]
    refine ⟨_, _, (192 + q / 64) % 32, 2, 128, 191, rfl, by rw [startD, if_neg (by omega), if_pos (by omega)], by omega, rfl, ?_, ?_⟩
    · intro x hx; simp [tailZ] at hx; omega
    · intro x hx; simp [tailZ] at hx; omega
  · rw [if_neg h2]
    by_cases h3 : q < 65536
    · rw [if_pos h3]
      have e1 : ∃ lo hi, startD (224 + q / 4096) = ([], ⟨(224 + q / 4096) % 16, 1, 3, lo, hi⟩) ∧ 128 ≤ lo ∧ lo ≤ 128 + q / 64 % 64 ∧ 128 + q / 64 % 64 ≤ hi := by
        by_cases a : q / 4096 = 0
        · exact ⟨160, 191, by rw [startD, if_neg (by omega), if_neg (by omega), if_pos (by omega)], by omega, by omega, by omega⟩
        · by_cases b : q / 4096 = 13
          · exact ⟨128, 159, by rw [startD, if_neg (by omega), if_neg (by omega), if_neg (by omega), if_pos (by omega)], by omega, by omega, by omega⟩
          · exact ⟨128, 191, by rw [startD, if_neg (by omega), if_neg (by omega), if_neg (by omega), if_neg (by omega), if_pos (by omega)], by omega, by omega, by omega⟩
      obtain ⟨lo, hi, e1, hl, hlo, hhi⟩ := e1
      refine ⟨_, _, _, _, lo, hi, rfl, e1, hl, rfl, ?_, ?_⟩
      · intro x hx; simp [tailZ] at hx; omega
      · intro x hx; simp [tailZ] at hx; omega
    · rw [if_neg h3]
      have e1 : ∃ lo hi, startD (240 + q / 262144) = ([], ⟨(240 + q / 262144) % 8, 1, 4, lo, hi⟩) ∧ 128 ≤ lo ∧ lo ≤ 128 + q / 4096 % 64 ∧ 128 + q / 4096 % 64 ≤ hi := by
        by_cases a : q / 262144 = 0
        · exact ⟨144, 191, by rw [startD, if_neg (by omega), if_neg (by omega), if_neg (by omega), if_neg (by omega), if_neg (by omega), if_pos (by omega)], by omega, by omega, by omega⟩
        · by_cases b : q / 262144 = 4
          · exact ⟨128, 143, by rw [startD, if_neg (by omega), if_neg (by omega), if_neg (by omega), if_neg (by omega), if_neg (by omega), if_neg (by omega), if_neg (by omega), if_pos (by omega)], by omega, by omega, by omega⟩
          · exact ⟨128, 191, by rw [startD, if_neg (by omega), if_neg (by omega), if_neg (by omega), if_neg (by omega), if_neg (by omega), if_neg (by omega), if_pos (by omega)], by omega, by omega, by omega⟩
      obtain ⟨lo, hi, e1, hl, hlo, hhi⟩ := e1
      refine ⟨_, _, _, _, lo, hi, rfl, e1, hl, rfl, ?_, ?_⟩
      · intro x hx; simp [tailZ] at hx; omega
      · intro x hx; simp [tailZ] at hx; omega
/-- bytes that may follow are taken in while more are wanted. -/
theorem run_mid (t : List Int) : ∀ (d : Dec), 0 < d.h → d.h + t.length < d.n → 128 ≤ d.lo → (∀ x, t.head? = some x → d.lo ≤ x ∧ x ≤ d.hi) → (∀ x ∈ t, 128 ≤ x ∧ x ≤ 191) →
    (writeD d t).1 = [] ∧ (writeD d t).2.h = d.h + t.length ∧ 128 ≤ (writeD d t).2.lo := by
  induction t with
  | nil => intro d h _ hl _ _; simp [writeD, hl]
  | cons x t ih =>
    intro d h hn hl hx ht
    have h1 := hx x rfl
    simp only [List.length_cons] at hn
    rw [writeD, take_go h h1.1 h1.2, mid_go (by omega)]
    have := ih ⟨d.s * 64 + x % 64, d.h + 1, d.n, 128, 191⟩ (by simp; omega) (by simp; omega) (by simp) (fun y hy => by
      have hy2 : y ∈ t := List.mem_of_mem_head? hy
      exact ht y (by simp [hy2])) (fun y hy => ht y (by simp [hy]))
    obtain ⟨e1, e2, e3⟩ := this
    refine ⟨by simp [e1], ?_, e3⟩
    rw [e2]; simp; omega
theorem part_enc (r : Int) (cut : Nat) (h1 : 1 ≤ cut) (h2 : cut < (encZ r).length) :
    (writeD d0 ((encZ r).take cut)).1 = [] ∧ (writeD d0 ((encZ r).take cut)).2.h = cut ∧ 128 ≤ (writeD d0 ((encZ r).take cut)).2.lo := by
  have hf : 128 ≤ fixZ r := by
    rcases Int.lt_or_le (fixZ r) 128 with h | h
    · rw [encZ, if_pos h] at h2; simp at h2; omega
    · exact h
  obtain ⟨b0, t, s, n, lo, hi, he, hs, hl, hn, hh, ht⟩ := front_enc r hf
  rw [he] at h2 hn ⊢
  obtain ⟨c, rfl⟩ : ∃ c, cut = c + 1 := ⟨cut - 1, by omega⟩
  rw [List.take_succ_cons, writeD, take_start, hs]
  simp only [List.length_cons] at h2 hn
  have := run_mid (t.take c) ⟨s, 1, n, lo, hi⟩ (by simp) (by simp; omega) hl (fun x hx => by
    refine hh x ?_
    cases t with
    | nil => simp at hx
    | cons y t => cases c with
      | zero => simp at hx
      | succ c => simpa using hx) (fun x hx => ht x (List.mem_of_mem_take hx))
  obtain ⟨e1, e2, e3⟩ := this
  refine ⟨by simp [e1], ?_, e3⟩
  rw [e2]; simp; omega
theorem ascii_write (l : List Int) (h : ∀ c ∈ l, 0 ≤ c ∧ c ≤ 126) : writeD d0 l = (l, d0) := by
  induction l with
  | nil => rfl
  | cons c l ih =>
    have := h c (by simp)
    rw [writeD, take_start, startD, if_pos (by omega), ih (fun x hx => h x (by simp [hx]))]; rfl
theorem ascii_after (d : Dec) (c : Int) (l : List Int) (hd : 0 < d.h) (hl : 128 ≤ d.lo) (h : ∀ x ∈ c :: l, 0 ≤ x ∧ x ≤ 126) : writeD d (c :: l) = (65533 :: c :: l, d0) := by
  have hc := h c (by simp)
  have h1 : takeD d c = ([65533, c], d0) := by
    have hf : folB d c = false := by unfold folB; simp; omega
    rw [takeD, if_neg (by rw [hf]; simp), startD, if_pos (by omega), flushL, if_neg (by omega)]; rfl
  rw [writeD, h1, ascii_write l (fun x hx => h x (by simp [hx]))]; rfl
end Go.Proofs.Ytlhapnnepcnfbab.UMath
