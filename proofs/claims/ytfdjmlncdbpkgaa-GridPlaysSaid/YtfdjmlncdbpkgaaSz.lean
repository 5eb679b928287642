/- GridSizes: what is left of a grid made smaller and larger again. -/
import Derived.Test.YtfdjmlncdbpkgaaSm
set_option linter.unusedVariables false
namespace Go.Proofs.Ytfdjmlncdbpkgaa.Sz
open Go Go.RowKit Kit Gm Gv Fl Me Cp Sl Gg Gh Gp Gq Gk Gs Gt Gu Lw Sm

theorem rowAt_flat {n q C : Nat} {L : List Ce} (h : Flat n L) : ∀ c ∈ Gq.rowAt L q C, c.wd = 0 := fun c hc => h.2 c (List.mem_of_mem_drop (List.mem_of_mem_take hc))
theorem resRow_flat {D : Nat} {M : List Ce} (h : ∀ c ∈ M, c.wd = 0) : resRow D M = M.take D ++ List.replicate (D - M.length) b0C ∧ ∀ c ∈ resRow D M, c.wd = 0 := by
  have hf : ∀ c ∈ M.take D ++ List.replicate (D - M.length) b0C, c.wd = 0 := by
    intro c hc
    rcases List.mem_append.1 hc with hc | hc
    · exact h c (List.mem_of_mem_take hc)
    · rw [List.eq_of_mem_replicate hc]; rfl
  have e : resRow D M = M.take D ++ List.replicate (D - M.length) b0C := mend_flat hf
  exact ⟨e, by rw [e]; exact hf⟩
theorem resRows_at (C D : Nat) (L : List Ce) (i k : Nat) (hk : k < D) : ∀ n, i < n → (resRows C D L n)[i * D + k]? = (resRow D (Gq.rowAt L (i * C) C))[k]? := by
  intro n
  induction n with
  | zero => intro h; omega
  | succ n ih =>
    intro h
    rw [resRows_succ]
    by_cases e : i = n
    · subst e
      rw [List.getElem?_append_right (by rw [resRows_len]; omega), resRows_len, show i * D + k - i * D = k by omega]
    · have hin : i < n := by omega
      have h2 : i * D + k < n * D := by
        have := Nat.mul_le_mul_right D (show i + 1 ≤ n from hin)
        rw [Nat.add_mul] at this; omega
      rw [List.getElem?_append_left (by rw [resRows_len]; exact h2)]
      exact ih hin
theorem resize_get {R C S D : Nat} {L : List Ce} (h : Flat (R * C) L) (i k : Nat) (hi : i < S) (hk : k < D) : (resizeL R C L S D)[i * D + k]? = if i < R ∧ k < C then L[i * C + k]? else some b0C := by
  unfold resizeL
  have hlen := resRows_len C D L (min S R)
  by_cases hiR : i < R
  · have h2 : i * D + k < min S R * D := by
      have := Nat.mul_le_mul_right D (show i + 1 ≤ min S R by omega)
      rw [Nat.add_mul] at this; omega
    rw [List.getElem?_append_left (by rw [hlen]; exact h2), resRows_at C D L i k hk _ (by omega), (resRow_flat (rowAt_flat h)).1]
    have hl := rowAt_len (R := R) (C := C) h.1 hiR
    by_cases hkC : k < C
    · rw [if_pos ⟨hiR, hkC⟩, List.getElem?_append_left (by rw [List.length_take, hl]; omega), List.getElem?_take, if_pos hk]
      unfold Gq.rowAt
      rw [List.getElem?_take, if_pos hkC, List.getElem?_drop]
    · rw [if_neg (by omega), List.getElem?_append_right (by rw [List.length_take, hl]; omega), List.getElem?_replicate, if_pos (by rw [List.length_take, hl]; omega)]
  · have h1 : min S R * D ≤ i * D + k := by
      have := Nat.mul_le_mul_right D (show min S R ≤ i by omega); omega
    have h2 : i * D + k < S * D := by
      have := Nat.mul_le_mul_right D (show i + 1 ≤ S from hi)
      rw [Nat.add_mul] at this; omega
    have h3 : (S - min S R) * D = S * D - min S R * D := Nat.sub_mul _ _ _
    rw [if_neg (by omega), List.getElem?_append_right (by rw [hlen]; exact h1), hlen, List.getElem?_replicate, if_pos (by omega)]
theorem resize_flat {R C S D : Nat} {L : List Ce} (h : Flat (R * C) L) : Flat (S * D) (resizeL R C L S D) := by
  refine ⟨resizeL_len R C L S D, fun c hc => ?_⟩
  unfold resizeL at hc
  rcases List.mem_append.1 hc with hc | hc
  · unfold resRows at hc
    obtain ⟨r, _, hc⟩ := List.mem_flatMap.1 hc
    exact (resRow_flat (rowAt_flat h)).2 c hc
  · rw [List.eq_of_mem_replicate hc]; rfl
theorem at_ik {R C : Nat} {L : List Ce} (i k : Nat) (hi : i < R) (hk : k < C) : atC R C L (i : Int) (k : Int) = (L[i * C + k]?).getD zeroC := by
  unfold atC
  rw [if_pos (hasB_iff.2 (by omega)), Int.toNat_natCast, Int.toNat_natCast, List.getD_eq_getElem?_getD]
section
variable {R C r c : Nat} {L : List Ce} (h : Flat (R * C) L) (i k : Nat) (hi : i < R) (hk : k < C)
include h hi hk
theorem size_in (h1 : i < r) (h2 : k < c) : atC R C L (i : Int) (k : Int) = atC R C (resizeL r c (resizeL R C L r c) R C) (i : Int) (k : Int) := by
  rw [at_ik i k hi hk, at_ik i k hi hk, resize_get (resize_flat h) i k hi hk, if_pos ⟨h1, h2⟩, resize_get h i k h1 h2, if_pos ⟨hi, hk⟩]
theorem size_out (h1 : ¬ (i < r ∧ k < c)) : ⟨32, 0, 0, 0, 0⟩ = atC R C (resizeL r c (resizeL R C L r c) R C) (i : Int) (k : Int) := by
  rw [at_ik i k hi hk, resize_get (resize_flat h) i k hi hk, if_neg h1]; rfl
end
section
variable (W0 w : World) (p b R C : Nat) (L : List Ce) (q d S D cap : Nat) (M : List Ce)
theorem resizeTc (h : Tc W0 w p b R C L q d S D cap M) (S2 D2 : Nat) (hs : 1 ≤ S2 ∧ S2 ≤ 60 ∧ 1 ≤ D2 ∧ D2 ≤ 200) : Calls Try.prog 25 #[.pointer (some ⟨p, 0, none⟩), .int .i64 (S2 : Int), .int .i64 (D2 : Int)] w fun e w' => ∃ b', e = .returned (.int .i64 0) ∧ Tc W0 w' p b' S2 D2 (resizeL R C L S2 D2) q d S D cap M :=
  (resizeYes p b R C S2 D2 L w h.tp.g hs).mono fun e w' ⟨b', h1, h2, h3, h4⟩ => ⟨b', h1, h.kept h2 h3 (.inr h4)⟩
theorem rowsTc (h : Tc W0 w p b R C L q d S D cap M) : Calls Try.prog 15 #[.pointer (some ⟨p, 0, none⟩)] w fun e w' => e = .returned (.int .i64 (R : Int)) ∧ w = w' := rowsT W0 p b R C L w h.tp
theorem colsTc (h : Tc W0 w p b R C L q d S D cap M) : Calls Try.prog 16 #[.pointer (some ⟨p, 0, none⟩)] w fun e w' => e = .returned (.int .i64 (C : Int)) ∧ w = w' := colsT W0 p b R C L w h.tp
end
end Go.Proofs.Ytfdjmlncdbpkgaa.Sz
