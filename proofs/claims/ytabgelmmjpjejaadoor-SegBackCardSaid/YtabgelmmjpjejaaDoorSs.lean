/- Records that were written, and what ends their reading. -/
import Derived.Test.YtabgelmmjpjejaaDoorSv
set_option linter.unusedVariables false
namespace Go.Proofs.YtabgelmmjpjejaaDoor.Ss
open Go Go.RowKit Kit Crc Var Get Ref3 Copy Bytes Bx Py Py2 Ry Rz Dn Df Dd Da Dc Rs Rf Rg Ar Bg Hd Sn Rh Sr So Sp Sq Sl2 Sl3 Sx Sv


theorem runL_snoc (F : Nat) (r : R4) (rs : List R4) : ∀ (P : List (Dec × Nat)) (g : Nat), runL F (rs ++ [r]) P g = if (runL F rs P g).1.length = P.length + rs.length ∧ folL F (runL F rs P g).1 r.dec = true then ((runL F rs P g).1 ++ [(r.dec, (runL F rs P g).2)], (runL F rs P g).2 + r.enc.length) else runL F rs P g := by
  induction rs with
  | nil =>
    intro P g
    rw [List.nil_append, runL, runL, runL]
    by_cases hf : folL F P r.dec = true
    · rw [if_pos hf, if_pos ⟨rfl, hf⟩]
    · rw [if_neg hf, if_neg (fun h => hf h.2)]
  | cons q rs ih =>
    intro P g
    rw [List.cons_append, runL, runL]
    by_cases hf : folL F P q.dec = true
    · rw [if_pos hf, if_pos hf, ih, List.length_append, List.length_singleton, List.length_cons, Nat.add_assoc, Nat.add_comm 1]
    · rw [if_neg hf, if_neg hf, if_neg (fun h => by have := h.1; simp at this)]
/-- how far records that were written are read: not stopped means all of them. -/
structure StI (F : Nat) (rs : List R4) (P : List (Dec × Nat)) (g : Nat) (stop : Bool) : Prop where
  run : runL F rs [] 20 = (P, g)
  le : P.length ≤ rs.length
  all : stop = false → P.length = rs.length
  lack : stop = true → P.length < rs.length
  at' : ∀ j (h : j < P.length) (h2 : j < rs.length), P[j].1 = rs[j].dec
  seq : ∀ j (_ : j < P.length) (h2 : j < rs.length), rs[j].s = F + j
  tot : stop = false → g = 20 + (rs.flatMap R4.enc).length
theorem st_nil (F : Nat) : StI F [] [] 20 false := ⟨rfl, Nat.le_refl _, fun _ => rfl, (fun h => by cases h), fun j h => absurd h (Nat.not_lt_zero _), fun j h => absurd h (Nat.not_lt_zero _), fun _ => rfl⟩
/-- does a record end the reading? -/
def badR (F i prev : Nat) (r : R4) : Bool := decide (r.s ≠ F + i) || (decide (i = 0) && decide (r.K ≠ 1)) || (decide (0 < i) && decide (r.t < prev))
theorem fol_bad {F : Nat} {rs : List R4} {P : List (Dec × Nat)} {g : Nat} (h : StI F rs P g false) (r : R4) (prev : Nat) (hp : ∀ (h2 : rs.length - 1 < rs.length), prev = rs[rs.length - 1].t) : folL F P r.dec = !badR F rs.length prev r := by
  have hl := h.all rfl
  by_cases h0 : P = []
  · subst h0
    have : rs.length = 0 := by simpa using hl.symm
    rw [folL, List.getLast?_nil, badR, this]
    simp only [R4.dec]
    by_cases h1 : r.K = 1 <;> by_cases h2 : r.s = F <;> simp [h1, h2]
  · have hp0 := List.length_pos_iff.2 h0
    have e : P.getLast? = some P[P.length - 1] := by rw [List.getLast?_eq_getElem?, List.getElem?_eq_getElem (by omega)]
    have a := h.at' (P.length - 1) (by omega) (by omega)
    have b := h.seq (P.length - 1) (by omega) (by omega)
    have c := hp (by omega)
    have d : rs.length - 1 = P.length - 1 := by omega
    simp only [d] at c
    have a1 : P[P.length - 1].1.s = F + (P.length - 1) := by rw [a]; exact b
    have a2 : P[P.length - 1].1.t = prev := by rw [a, c]; rfl
    have e1 : decide (r.dec.s = P[P.length - 1].1.s + 1) = decide (r.s = F + rs.length) := decide_eq_decide.2 (by rw [a1]; show r.s = _ ↔ _; omega)
    have e2 : decide (P[P.length - 1].1.t ≤ r.dec.t) = decide (prev ≤ r.t) := decide_eq_decide.2 (by rw [a2]; exact Iff.rfl)
    rw [folL, e, badR]
    simp only [e1, e2]
    rw [decide_eq_false (show ¬ rs.length = 0 by omega), decide_eq_true (show 0 < rs.length by omega), Bool.false_and, Bool.or_false, Bool.true_and, Bool.not_or]
    congr 1
    · rw [← decide_not]; exact decide_eq_decide.2 (by omega)
    · rw [← decide_not]; exact decide_eq_decide.2 (by omega)
theorem st_go {F : Nat} {rs : List R4} {P : List (Dec × Nat)} {g : Nat} (h : StI F rs P g false) (r : R4) (prev : Nat) (hp : ∀ (h2 : rs.length - 1 < rs.length), prev = rs[rs.length - 1].t) (hb : badR F rs.length prev r = false) : StI F (rs ++ [r]) (P ++ [(r.dec, g)]) (g + r.enc.length) false := by
  have hf := fol_bad h r prev hp
  rw [hb] at hf
  have hl := h.all rfl
  have hs : r.s = F + rs.length := by
    unfold badR at hb
    simp only [Bool.or_eq_false_iff] at hb
    have := hb.1.1
    simpa using this
  refine ⟨?_, by simp [hl], fun _ => by simp [hl], (fun h => by cases h), ?_, ?_, fun _ => by rw [h.tot rfl, List.flatMap_append]; simp [List.flatMap_cons]; omega⟩
  · rw [runL_snoc, h.run, if_pos ⟨by simpa using hl, hf⟩]
  · intro j h1 h2
    by_cases hj : j < P.length
    · rw [List.getElem_append_left hj, List.getElem_append_left (by omega)]; exact h.at' j hj (by omega)
    · have : j = P.length := by simp at h1; omega
      subst this
      simp [hl]
  · intro j h1 h2
    by_cases hj : j < P.length
    · rw [List.getElem_append_left (by omega)]; exact h.seq j hj (by omega)
    · have : j = rs.length := by simp at h1; omega
      subst this
      simpa using hs
theorem st_same {F : Nat} {rs : List R4} {P : List (Dec × Nat)} {g : Nat} {b : Bool} (h : StI F rs P g b) (r : R4) (hr : runL F (rs ++ [r]) [] 20 = (P, g)) : StI F (rs ++ [r]) P g true := by
  have hl := h.le
  refine ⟨hr, by simp; omega, (fun h => by cases h), fun _ => by simp; omega, ?_, ?_, (fun h => by cases h)⟩
  · intro j h1 h2
    rw [List.getElem_append_left (by omega)]; exact h.at' j h1 (by omega)
  · intro j h1 h2
    rw [List.getElem_append_left (by omega)]; exact h.seq j h1 (by omega)
theorem st_end {F : Nat} {rs : List R4} {P : List (Dec × Nat)} {g : Nat} (h : StI F rs P g false) (r : R4) (prev : Nat) (hp : ∀ (h2 : rs.length - 1 < rs.length), prev = rs[rs.length - 1].t) (hb : badR F rs.length prev r = true) : StI F (rs ++ [r]) P g true := by
  have hf := fol_bad h r prev hp
  rw [hb] at hf
  exact st_same h r (by rw [runL_snoc, h.run, if_neg (fun h => by rw [hf] at h; exact absurd h.2 (by decide))])
theorem st_stay {F : Nat} {rs : List R4} {P : List (Dec × Nat)} {g : Nat} (h : StI F rs P g true) (r : R4) : StI F (rs ++ [r]) P g true := by
  have := h.lack rfl
  exact st_same h r (by rw [runL_snoc, h.run, if_neg (fun h => by have := h.1; simp at this; omega)])

end Go.Proofs.YtabgelmmjpjejaaDoor.Ss
