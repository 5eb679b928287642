/- GridScrolls: what scrolling up and down leaves. -/
import Derived.Test.YtfdjmlncdbpkgaaSm
set_option linter.unusedVariables false
namespace Go.Proofs.Ytfdjmlncdbpkgaa.Sc
open Go Go.RowKit Kit Gm Gv Fl Me Cp Sl Gg Gh Gp Gq Gk Gs Gt Gu Lw Sm

theorem scroll_col {R t u : Nat} {L : List Ce} (htu : t ≤ u) (hu : u < R) (n : Int) :
    scrollL R 1 L (t : Int) (u : Int) n 0 0 0 = L.take t ++ slideL ((L.drop t).take (u + 1 - t)) (heldZ n ((u + 1 - t : Nat) : Int)) b0C ++ L.drop (u + 1) := by
  have hk : scrollOk R (t : Int) (u : Int) = true := by unfold scrollOk; simp; omega
  unfold scrollL
  rw [hk, if_pos (by decide), Int.toNat_natCast, Int.toNat_natCast, Nat.mul_one, Nat.mul_one, Nat.mul_one, show ((1 : Nat) : Int) = 1 from rfl, Int.mul_one, show (u : Int) - (t : Int) + 1 = ((u + 1 - t : Nat) : Int) by omega]
  rfl
theorem scroll_flat {R t u : Nat} {L : List Ce} (h : Flat R L) (htu : t ≤ u) (hu : u < R) (n : Int) : Flat R (scrollL R 1 L (t : Int) (u : Int) n 0 0 0) := by
  rw [scroll_col htu hu]
  have hd := held_in n (u + 1 - t)
  have hm : ((L.drop t).take (u + 1 - t)).length = u + 1 - t := by rw [List.length_take, List.length_drop, h.1]; omega
  have e := slideL_len ((L.drop t).take (u + 1 - t)) (heldZ n ((u + 1 - t : Nat) : Int)) b0C (by rw [hm]; omega) (by rw [hm]; omega)
  refine ⟨by rw [List.length_append, List.length_append, e, hm, List.length_take, List.length_drop, h.1]; omega, fun c hc => ?_⟩
  rcases List.mem_append.1 hc with hc | hc
  · rcases List.mem_append.1 hc with hc | hc
    · exact h.2 c (List.mem_of_mem_take hc)
    · exact slide_flat (fun c hc => h.2 c (List.mem_of_mem_drop (List.mem_of_mem_take hc))) _ c hc
  · exact h.2 c (List.mem_of_mem_drop hc)
theorem scroll_get {R t u : Nat} {L : List Ce} (h : Flat R L) (htu : t ≤ u) (hu : u < R) (n : Int) (j : Nat) (hj : j < R) :
    (scrollL R 1 L (t : Int) (u : Int) n 0 0 0)[j]? = if j < t ∨ u < j then L[j]? else
      if 0 ≤ ((j - t : Nat) : Int) + heldZ n ((u + 1 - t : Nat) : Int) ∧ ((j - t : Nat) : Int) + heldZ n ((u + 1 - t : Nat) : Int) < (u + 1 - t : Nat) then L[t + (((j - t : Nat) : Int) + heldZ n ((u + 1 - t : Nat) : Int)).toNat]? else some b0C := by
  rw [scroll_col htu hu]
  have hd := held_in n (u + 1 - t)
  have hm : ((L.drop t).take (u + 1 - t)).length = u + 1 - t := by rw [List.length_take, List.length_drop, h.1]; omega
  have e := slideL_len ((L.drop t).take (u + 1 - t)) (heldZ n ((u + 1 - t : Nat) : Int)) b0C (by rw [hm]; omega) (by rw [hm]; omega)
  have ht : (L.take t).length = t := by rw [List.length_take, h.1]; omega
  by_cases h1 : j < t
  · rw [if_pos (.inl h1), List.append_assoc, List.getElem?_append_left (by omega), List.getElem?_take, if_pos h1]
  · by_cases h2 : u < j
    · rw [if_pos (.inr h2), List.getElem?_append_right (by rw [List.length_append, e, hm, ht]; omega), List.length_append, e, hm, ht, List.getElem?_drop]
      congr 1; omega
    · rw [if_neg (by omega), List.append_assoc, List.getElem?_append_right (by omega), ht, List.getElem?_append_left (by rw [e, hm]; omega), slideL_get _ _ _ (by rw [hm]; omega) (by rw [hm]; omega) _ (by rw [hm]; omega), hm]
      by_cases h3 : 0 ≤ ((j - t : Nat) : Int) + heldZ n ((u + 1 - t : Nat) : Int) ∧ ((j - t : Nat) : Int) + heldZ n ((u + 1 - t : Nat) : Int) < (u + 1 - t : Nat)
      · rw [if_pos h3, if_pos h3, List.getElem?_take, if_pos (by omega), List.getElem?_drop]
      · rw [if_neg h3, if_neg h3]
theorem at_col {R j : Nat} {L : List Ce} (hj : j < R) (z : Int) (hz : z = (j : Int)) : atC R 1 L z 0 = L.getD j zeroC := by
  subst hz
  unfold atC
  rw [if_pos (hasB_iff.2 (by omega))]
  simp
theorem held_up (m h : Nat) : heldZ (m : Int) (h : Int) = ((min m h : Nat) : Int) := by unfold heldZ; omega
theorem held_down (m h : Nat) : heldZ (-(m : Int)) (h : Int) = -((min m h : Nat) : Int) := by unfold heldZ; omega
section
variable {R t u m : Nat} {L : List Ce} (h : Flat R L) (htu : t ≤ u) (hu : u < R) (hm : 1 ≤ m) (j : Nat) (hj : j < R)
include h htu hu hj
theorem up_out (h1 : j < t ∨ u < j) : atC R 1 L (j : Int) 0 = atC R 1 (scrollL R 1 L (t : Int) (u : Int) (m : Int) 0 0 0) (j : Int) 0 := by
  rw [at_col hj _ rfl, at_col hj _ rfl, List.getD_eq_getElem?_getD, List.getD_eq_getElem?_getD, scroll_get h htu hu _ j hj, if_pos h1]
theorem up_in (h1 : t ≤ j) (h2 : j + m ≤ u) (z : Int) (hz : z = ((j + m : Nat) : Int)) : atC R 1 L z 0 = atC R 1 (scrollL R 1 L (t : Int) (u : Int) (m : Int) 0 0 0) (j : Int) 0 := by
  rw [at_col (show j + m < R by omega) _ hz, at_col hj _ rfl, List.getD_eq_getElem?_getD, List.getD_eq_getElem?_getD, scroll_get h htu hu _ j hj, if_neg (by omega), held_up, if_pos (by omega), show t + (((j - t : Nat) : Int) + ((min m (u + 1 - t) : Nat) : Int)).toNat = j + m by omega]
theorem up_blank (h1 : t ≤ j) (h2 : j ≤ u) (h3 : ¬ j + m ≤ u) : ⟨32, 0, 0, 0, 0⟩ = atC R 1 (scrollL R 1 L (t : Int) (u : Int) (m : Int) 0 0 0) (j : Int) 0 := by
  rw [at_col hj _ rfl, List.getD_eq_getElem?_getD, scroll_get h htu hu _ j hj, if_neg (by omega), held_up, if_neg (by omega)]; rfl
theorem down_out (y : Int) (hy : y = -(m : Int)) (h1 : j < t ∨ u < j) : atC R 1 L (j : Int) 0 = atC R 1 (scrollL R 1 (scrollL R 1 L (t : Int) (u : Int) (m : Int) 0 0 0) (t : Int) (u : Int) y 0 0 0) (j : Int) 0 := by
  rw [at_col hj _ rfl, at_col hj _ rfl, List.getD_eq_getElem?_getD, List.getD_eq_getElem?_getD, scroll_get (scroll_flat h htu hu _) htu hu _ j hj, if_pos h1, scroll_get h htu hu _ j hj, if_pos h1]
theorem down_in (y : Int) (hy : y = -(m : Int)) (h1 : t ≤ j) (h2 : j ≤ u) (h3 : ¬ j < t + m) : atC R 1 L (j : Int) 0 = atC R 1 (scrollL R 1 (scrollL R 1 L (t : Int) (u : Int) (m : Int) 0 0 0) (t : Int) (u : Int) y 0 0 0) (j : Int) 0 := by
  subst hy
  rw [at_col hj _ rfl, at_col hj _ rfl, List.getD_eq_getElem?_getD, List.getD_eq_getElem?_getD, scroll_get (scroll_flat h htu hu _) htu hu _ j hj, if_neg (by omega), held_down, if_pos (by omega), scroll_get h htu hu _ _ (by omega), if_neg (by omega), held_up, if_pos (by omega)]
  congr 2; omega
theorem down_blank (y : Int) (hy : y = -(m : Int)) (h1 : t ≤ j) (h2 : j ≤ u) (h3 : j < t + m) : ⟨32, 0, 0, 0, 0⟩ = atC R 1 (scrollL R 1 (scrollL R 1 L (t : Int) (u : Int) (m : Int) 0 0 0) (t : Int) (u : Int) y 0 0 0) (j : Int) 0 := by
  subst hy
  rw [at_col hj _ rfl, List.getD_eq_getElem?_getD, scroll_get (scroll_flat h htu hu _) htu hu _ j hj, if_neg (by omega), held_down, if_neg (by omega)]; rfl
end
/-- a grid, a copy and a blank cell. -/
structure Td (W0 w : World) (p b R C : Nat) (L : List Ce) (q d S D cap : Nat) (M : List Ce) (kb : Nat) : Prop where
  tc : Tc W0 w p b R C L q d S D cap M
  bl : RB w kb ([] ++ ⟨32, 0, 0, 0, 0⟩ :: [])
  m1 : kb ≠ p
  m2 : kb ≠ b
  m3 : kb ≠ q
  m4 : kb ≠ d
  mz : W0.heap.size ≤ kb
section
variable {W0 w w' : World} {p b R C : Nat} {L : List Ce} {q d S D cap : Nat} {M : List Ce} {kb : Nat}
theorem Td.then_ (h : Td W0 w p b R C L q d S D cap M kb) (hb : Below w.heap.size w w') : Td W0 w' p b R C L q d S D cap M kb :=
  ⟨h.tc.then_ hb, h.bl.then_ hb (Nat.le_refl _), h.m1, h.m2, h.m3, h.m4, h.mz⟩
theorem Td.drew (h : Td W0 w p b R C L q d S D cap M kb) : Td W0 w.drew p b R C L q d S D cap M kb :=
  ⟨h.tc.drew, h.bl, h.m1, h.m2, h.m3, h.m4, h.mz⟩
theorem Td.fresh (h : Td W0 w p b R C L q d S D cap M kb) {k : Nat} (hk : w.heap.size ≤ k) : W0.heap.size ≤ k ∧ k ≠ p ∧ k ≠ b ∧ k ≠ q ∧ k ≠ d ∧ k ≠ kb := by
  have h1 := h.tc.fresh hk
  have h2 := h.bl.lt
  omega
theorem Td.put (h : Td W0 w p b R C L q d S D cap M kb) {k : Nat} (hf : W0.heap.size ≤ k ∧ k ≠ p ∧ k ≠ b ∧ k ≠ q ∧ k ≠ d ∧ k ≠ kb) (X : List Ce) : Td W0 (putR w k X) p b R C L q d S D cap M kb :=
  ⟨h.tc.put hf.1 hf.2.1 hf.2.2.1 hf.2.2.2.1 hf.2.2.2.2.1 X, (setRow_other _ _ _ _ (Ne.symm hf.2.2.2.2.2)).trans h.bl, h.m1, h.m2, h.m3, h.m4, h.mz⟩
end
section
variable (W0 w : World) (p b R C : Nat) (L : List Ce) (q d S D cap : Nat) (M : List Ce) (kb : Nat)
theorem atTd (h : Td W0 w p b R C L q d S D cap M kb) (row col : Int) (x : Ce) (hx : x = atC R C L row col) : Calls Try.prog 19 #[.pointer (some ⟨p, 0, none⟩), .int .i64 row, .int .i64 col] w fun e w' => e = .returned (cvA x) ∧ Td W0 w' p b R C L q d S D cap M kb ∧ Below w.heap.size w w' :=
  (atK p b R C _ row col L w h.tc.tp.g.view x hx).mono fun e w' ⟨h1, h2⟩ => ⟨h1, h.then_ h2, h2⟩
theorem atTdo (h : Td W0 w p b R C L q d S D cap M kb) (row col : Int) (x : Ce) (hx : x = atC S D M row col) : Calls Try.prog 19 #[.pointer (some ⟨q, 0, none⟩), .int .i64 row, .int .i64 col] w fun e w' => e = .returned (cvA x) ∧ Td W0 w' p b R C L q d S D cap M kb ∧ Below w.heap.size w w' :=
  (atK q d S D cap row col M w h.tc.cp x hx).mono fun e w' ⟨h1, h2⟩ => ⟨h1, h.then_ h2, h2⟩
theorem firstTd (h : Td W0 w p b R C L q d S D cap M kb) : Calls Try.prog 9 #[] w fun e w' => e = .returned (.bool true) ∧ Td W0 w' p b R C L q d S D cap M kb :=
  (firstC w).mono fun e w' ⟨h1, h2⟩ => ⟨h1, h.then_ h2⟩
theorem scrollTd (h : Td W0 w p b R C L q d S D cap M kb) (top bottom n af ag ab : Int) (L' : List Ce) (hL : scrollL R C L top bottom n af ag ab = L') : Calls Try.prog 24 #[.pointer (some ⟨p, 0, none⟩), .int .i64 top, .int .i64 bottom, .int .i64 n, .agg #[.int .i64 af, .int .i64 ag, .int .i64 ab]] w fun e w' => e = .returned (.tuple #[]) ∧ Td W0 w' p b R C L' q d S D cap M kb := by
  subst hL
  exact (scrollG p b R C top bottom n af ag ab L w h.tc.tp.g).mono fun e w' ⟨h1, h2, h3⟩ => ⟨h1, h.tc.kept h2 h3 (.inl rfl), h3.row h.bl h.m1 h.m2, h.m1, h.m2, h.m3, h.m4, h.mz⟩
end
end Go.Proofs.Ytfdjmlncdbpkgaa.Sc
