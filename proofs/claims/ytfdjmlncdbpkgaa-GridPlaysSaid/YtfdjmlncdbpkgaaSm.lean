/- What sliding there and back leaves; signs that came in. -/
import Derived.Test.YtfdjmlncdbpkgaaLw
set_option linter.unusedVariables false
namespace Go.Proofs.Ytfdjmlncdbpkgaa.Sm
open Go Go.RowKit Kit Gm Gv Fl Me Cp Sl Gg Gh Gp Gq Gk Gs Gt Gu Lw

theorem slideL_get (M : List Ce) (z : Int) (c : Ce) (h : -(M.length : Int) ≤ z) (h2 : z ≤ M.length) (i : Nat) (hi : i < M.length) :
    (slideL M z c)[i]? = if 0 ≤ (i : Int) + z ∧ (i : Int) + z < M.length then M[((i : Int) + z).toNat]? else some c := by
  unfold slideL
  by_cases hz : 0 ≤ z
  · rw [if_pos hz]
    obtain ⟨k, rfl⟩ := Int.eq_ofNat_of_zero_le hz
    rw [Int.toNat_natCast]
    by_cases h3 : i + k < M.length
    · rw [if_pos (by omega), List.getElem?_append_left (by rw [List.length_drop]; omega), List.getElem?_drop]
      congr 1; omega
    · rw [if_neg (by omega), List.getElem?_append_right (by rw [List.length_drop]; omega), List.getElem?_replicate, if_pos (by rw [List.length_drop]; omega)]
  · rw [if_neg hz]
    obtain ⟨k, hk⟩ : ∃ k : Nat, z = -(k : Int) := ⟨(-z).toNat, by omega⟩
    subst hk
    rw [show (- -(k : Int)).toNat = k by omega]
    by_cases h3 : k ≤ i
    · rw [if_pos (by omega), List.getElem?_append_right (by rw [List.length_replicate]; exact h3), List.length_replicate, List.getElem?_take, if_pos (by omega)]
      congr 1; omega
    · rw [if_neg (by omega), List.getElem?_append_left (by rw [List.length_replicate]; omega), List.getElem?_replicate, if_pos (by omega)]
theorem slide_flat {M : List Ce} (h : ∀ c ∈ M, c.wd = 0) (z : Int) : ∀ c ∈ slideL M z b0C, c.wd = 0 := by
  intro c hc
  unfold slideL at hc
  split at hc
  · rcases List.mem_append.1 hc with hc | hc
    · exact h c (List.mem_of_mem_drop hc)
    · rw [List.eq_of_mem_replicate hc]; rfl
  · rcases List.mem_append.1 hc with hc | hc
    · rw [List.eq_of_mem_replicate hc]; rfl
    · exact h c (List.mem_of_mem_take hc)
theorem held_in (n : Int) (m : Nat) : -(m : Int) ≤ heldZ n m ∧ heldZ n m ≤ m := by unfold heldZ; omega
theorem flat_one_at {C : Nat} {L : List Ce} (hl : L.length = C) : Gq.rowAt L 0 C = L := by
  unfold Gq.rowAt; rw [List.drop_zero]; exact List.take_of_length_le (by omega)
/-- a Shift in one row of narrow signs. -/
theorem shift_one {C k : Nat} {L : List Ce} (h : Flat C L) (hk : k < C) (n : Int) : shiftL 1 C L 0 (k : Int) n 0 0 0 = L.take k ++ slideL (L.drop k) (-(heldZ n ((C - k : Nat) : Int))) b0C := by
  have hb : hasB 1 C 0 (k : Int) = true := hasB_iff.2 (by omega)
  unfold shiftL
  rw [hb, if_pos (by decide)]
  simp only [Int.toNat_zero, Nat.zero_mul, Int.toNat_natCast, List.take_zero, List.nil_append, Nat.zero_add]
  rw [flat_one_at h.1, List.drop_of_length_le (by rw [h.1]; exact Nat.le_refl _), List.append_nil]
  unfold shiftRow
  refine mend_flat fun c hc => ?_
  rcases List.mem_append.1 hc with hc | hc
  · exact h.2 c (List.mem_of_mem_take hc)
  · exact slide_flat (fun c hc => h.2 c (List.mem_of_mem_drop hc)) _ c hc
theorem shift_flat {C k : Nat} {L : List Ce} (h : Flat C L) (hk : k < C) (n : Int) : Flat C (shiftL 1 C L 0 (k : Int) n 0 0 0) := by
  rw [shift_one h hk]
  have hd := held_in n (C - k)
  have e := slideL_len (L.drop k) (-(heldZ n ((C - k : Nat) : Int))) b0C (by rw [List.length_drop, h.1]; omega) (by rw [List.length_drop, h.1]; omega)
  refine ⟨by rw [List.length_append, e, List.length_take, List.length_drop, h.1]; omega, fun c hc => ?_⟩
  rcases List.mem_append.1 hc with hc | hc
  · exact h.2 c (List.mem_of_mem_take hc)
  · exact slide_flat (fun c hc => h.2 c (List.mem_of_mem_drop hc)) _ c hc
theorem shift_get {C k : Nat} {L : List Ce} (h : Flat C L) (hk : k < C) (n : Int) (j : Nat) (hj : j < C) : (shiftL 1 C L 0 (k : Int) n 0 0 0)[j]? = if j < k then L[j]? else
    if 0 ≤ ((j - k : Nat) : Int) - heldZ n ((C - k : Nat) : Int) ∧ ((j - k : Nat) : Int) - heldZ n ((C - k : Nat) : Int) < (C - k : Nat) then L[k + (((j - k : Nat) : Int) - heldZ n ((C - k : Nat) : Int)).toNat]? else some b0C := by
  rw [shift_one h hk]
  have hd := held_in n (C - k)
  have hkl : (L.take k).length = k := by rw [List.length_take, h.1]; exact Nat.min_eq_left (by omega)
  by_cases hjk : j < k
  · rw [if_pos hjk, List.getElem?_append_left (by omega), List.getElem?_take, if_pos hjk]
  · have hdl : (L.drop k).length = C - k := by rw [List.length_drop, h.1]
    rw [if_neg hjk, List.getElem?_append_right (by omega), hkl, slideL_get _ _ _ (by rw [hdl]; omega) (by rw [hdl]; omega) _ (by rw [hdl]; omega), hdl, ← Int.sub_eq_add_neg, List.getElem?_drop]
/-- what is left there and back. -/
theorem there_back {C k m : Nat} {L : List Ce} (h : Flat C L) (hk : k < C) (hm : 1 ≤ m) (j : Nat) (hj : j < C) (y : Int) (hy : y = -(m : Int)) :
    (shiftL 1 C (shiftL 1 C L 0 (k : Int) (m : Int) 0 0 0) 0 (k : Int) y 0 0 0)[j]? = if k ≤ j ∧ C ≤ j + m then some b0C else L[j]? := by
  subst hy
  have e1 : heldZ (m : Int) ((C - k : Nat) : Int) = ((min m (C - k) : Nat) : Int) := by unfold heldZ; omega
  have e2 : heldZ (-(m : Int)) ((C - k : Nat) : Int) = -((min m (C - k) : Nat) : Int) := by unfold heldZ; omega
  rw [shift_get (shift_flat h hk _) hk _ j hj, e2]
  by_cases hjk : j < k
  · rw [if_pos hjk, shift_get h hk _ j hj, if_pos hjk, if_neg (by omega)]
  · rw [if_neg hjk]
    by_cases h3 : C ≤ j + m
    · rw [if_neg (by omega), if_pos (by omega)]
    · rw [if_pos (by omega), if_neg (by omega), shift_get h hk _ _ (by omega), e1, if_neg (by omega), if_pos (by omega)]
      congr 1; omega
theorem at_get {C j : Nat} {L : List Ce} (hj : j < C) (hl : L.length = C) : atC 1 C L 0 (j : Int) = L.getD j zeroC := by
  unfold atC
  rw [if_pos (hasB_iff.2 (by omega))]
  simp
theorem back_blank {C k m : Nat} {L : List Ce} (h : Flat C L) (hk : k < C) (hm : 1 ≤ m) (j : Nat) (hj : j < C) (y : Int) (hy : y = -(m : Int)) (h1 : k ≤ j) (h2 : C ≤ j + m) :
    ⟨32, 0, 0, 0, 0⟩ = atC 1 C (shiftL 1 C (shiftL 1 C L 0 (k : Int) (m : Int) 0 0 0) 0 (k : Int) y 0 0 0) 0 (j : Int) := by
  rw [at_get hj (shift_flat (shift_flat h hk _) hk _).1, List.getD_eq_getElem?_getD, there_back h hk hm j hj y hy, if_pos ⟨h1, h2⟩]; rfl
theorem back_same {C k m : Nat} {L : List Ce} (h : Flat C L) (hk : k < C) (hm : 1 ≤ m) (j : Nat) (hj : j < C) (y : Int) (hy : y = -(m : Int)) (h1 : ¬ (k ≤ j ∧ C ≤ j + m)) :
    atC 1 C L 0 (j : Int) = atC 1 C (shiftL 1 C (shiftL 1 C L 0 (k : Int) (m : Int) 0 0 0) 0 (k : Int) y 0 0 0) 0 (j : Int) := by
  rw [at_get hj (shift_flat (shift_flat h hk _) hk _).1, at_get hj h.1, List.getD_eq_getElem?_getD, List.getD_eq_getElem?_getD, there_back h hk hm j hj y hy, if_neg h1]
/-- signs that came in. -/
def LRow (w : World) (a : Option Addr) (l : List Int) : Prop := l = [] ∨ ∃ b off, a = some ⟨b, off, none⟩ ∧ ∀ i, (h : i < l.length) → w.cell? ⟨b, off + i, none⟩ = some (.int .i32 l[i])
theorem add_at (b o i : Nat) : (⟨b, o, none⟩ : Addr).add i = ⟨b, o + i, none⟩ := by unfold Addr.add; split <;> simp_all
theorem row_r {w : World} {a : Option Addr} {len cap : Nat} {zs : List Int} (h : IsRow .i32 w a len cap zs) : ∃ l : List Int, l.length = len ∧ len ≤ cap ∧ cap ≤ 9223372036854775807 ∧ (a = none → cap = 0) ∧ LRow w a l := by
  rcases h with ⟨rfl, rfl, rfl, rfl⟩ | ⟨⟨b, o, sp⟩, rfl, hlc, hm, hz, hcell, hwf⟩
  · exact ⟨[], rfl, Nat.le_refl _, by decide, fun _ => rfl, .inl rfl⟩
  · unfold maxLen at hm
    by_cases h1 : 1 ≤ len
    · have g0 := hcell 0 (by omega)
      have hspot : sp = none := by simpa [Addr.add] using World.cell?_spot g0
      subst hspot
      refine ⟨zs.take len, by simp; omega, hlc, by omega, fun h => (by cases h), .inr ⟨b, o, rfl, fun i hi => ?_⟩⟩
      simp only [List.length_take] at hi
      have g := hcell i (by omega)
      rw [add_at] at g
      rw [g]
      simp [List.getD_eq_getElem?_getD, show i < zs.length by omega]
    · obtain rfl : len = 0 := by omega
      exact ⟨[], rfl, hlc, by omega, fun h => (by cases h), .inl rfl⟩
/-- a sign, in a world behind. -/
theorem sign_at {W w : World} {a : Option Addr} {l : List Int} (h : LRow W a l) (hb : Below W.heap.size W w) (j : Nat) (hj : j < l.length) : ∃ b off, a = some ⟨b, off, none⟩ ∧ w.cell? ⟨b, off + j, none⟩ = some (.int .i32 l[j]) := by
  rcases h with rfl | ⟨b, off, rfl, h⟩
  · simp at hj
  · exact ⟨b, off, rfl, Gg.cell_then hb (Nat.le_refl _) (h j hj)⟩
end Go.Proofs.Ytfdjmlncdbpkgaa.Sm
