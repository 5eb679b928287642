/- The document's Erase, of anything. -/
import Derived.Test.YtfdjmlncdbpkgaaXe
set_option linter.unusedVariables false
namespace Go.Proofs.Ytfdjmlncdbpkgaa.Xg
open Go Go.RowKit Kit Gm Gv Fl Me Cp Sl Gg Gh Gp Gq Gk Xa Xb Xm Xn Xf Xe
open Ge (unit)
open Gr (eraseL eraseRow)
open Pr (Iv)

theorem XQ.of_row {w w' : World} {p b R C : Nat} {L L' : List Ce} {e : Ending} (h : X w p b R C L) (hq : RowP b L' w e w') (hl : L'.length = L.length) : XQ unit w p b R C L' e w' :=
  ⟨hq.1, h.row_new hq.2.1 hq.2.2 hl, hq.2.2⟩
theorem may_row {R C : Nat} {L : List Ce} (h : Iv R C L) (q : Nat) : ∀ c ∈ Gq.rowAt L q C, c.wd = 0 ∨ c.wd = 1 ∨ c.wd = 2 := fun c hc => may_wds (Pr.rowAt_may h q c hc)
theorem eraseX (p b R C : Nat) (row fr t0 af ag ab : Int) (L : List Ce) (w : World) (h : X w p b R C L) (hi : Iv R C L) :
    Calls Try.prog 38 #[.pointer (some ⟨p, 0, none⟩), .int .i64 row, .int .i64 fr, .int .i64 t0, .agg #[.int .i64 af, .int .i64 ag, .int .i64 ab]] w (XQ unit w p b R C (eraseL R C L row fr t0 af ag ab)) := by
  have hC := h.c1
  by_cases hz : 0 ≤ row ∧ row < R ∧ Cell.attrB af ag ab = true
  · obtain ⟨z1, z2, hy⟩ := hz
    obtain ⟨r, rfl⟩ := Int.eq_ofNat_of_zero_le z1
    have hr : r < R := Int.ofNat_lt.1 z2
    have hq := row_nums h.len hr
    have hlen := Gu.rowAt_len h.len hr
    have hsp : L = L.take (r * C) ++ Gq.rowAt L (r * C) C ++ L.drop (r * C + C) := row_split hq
    have hA : (L.take (r * C)).length = r * C := by rw [List.length_take]; exact Nat.min_eq_left (by omega)
    have hB : hasB R C (r : Int) 0 = true := (has_t ⟨z1, z2, Int.le_refl _, Int.ofNat_lt.2 hC⟩).symm
    have hh := h
    rw [hsp] at hh
    have hF : (((max fr 0).toNat : Nat) : Int) = max fr 0 := Int.toNat_of_nonneg (Int.le_max_right _ _)
    obtain ⟨F, hFe⟩ : ∃ F, F = (max fr 0).toNat := ⟨_, rfl⟩
    rw [← hFe] at hF
    have hK : (((max (F : Int) (min t0 (C : Int))).toNat : Nat) : Int) = max (F : Int) (min t0 (C : Int)) := Int.toNat_of_nonneg (Int.le_trans (Int.natCast_nonneg F) (Int.le_max_left _ _))
    obtain ⟨K, hKe⟩ : ∃ K, K = (max (F : Int) (min t0 (C : Int))).toNat := ⟨_, rfl⟩
    rw [← hKe] at hK
    have hc := eraseYes p b R C r fr t0 af ag ab _ _ _ w hh hr hA hlen (may_row hi _) hy F K hF hK
    refine hc.mono fun e w' hq' => ?_
    have hkn : K ≤ (Gq.rowAt L (r * C) C).length ∨ K = F := ((erase_bounds (n := (Gq.rowAt L (r * C) C).length) hK (by rw [hlen]; exact Int.min_le_right _ _)).2 K (erase_bounds hK (Int.min_le_right _ _)).1 (Nat.le_refl _)).2.2
    have hFK := (erase_bounds hK (Int.min_le_right _ _)).1
    have hE : eraseL R C L r fr t0 af ag ab = L.take (r * C) ++ mend (Xe.part (Gq.rowAt L (r * C) C) F K (Gm.blankC ab)) ++ L.drop (r * C + C) := by
      unfold eraseL
      by_cases hlt : max fr 0 < min t0 (C : Int)
      · have hKT : K = (min t0 (C : Int)).toNat := by rw [hKe, hF, Int.max_eq_right (Int.le_of_lt hlt)]
        rw [if_pos (by simp [hB, hy, hlt]), Int.toNat_natCast, ← hFe, ← hKT]; rfl
      · have hKF : K = F := by
          rw [Int.max_eq_left (by rw [hF]; exact Int.not_lt.1 hlt)] at hK
          exact Int.ofNat.inj hK
        rw [if_neg (by simp [hlt]), hKF, part_start, Pr.mend_pd _ _ (Nat.le_refl _) (hi.rows r hr)]
        exact hsp
    rw [hE]
    refine XQ.of_row h hq' ?_
    rw [List.length_append, List.length_append, mend_length, part_len _ hFK hkn, ← List.length_append, ← List.length_append, ← hsp]
  · have hE : eraseL R C L row fr t0 af ag ab = L := by
      unfold eraseL; rw [if_neg]
      intro e
      simp only [Bool.and_eq_true] at e
      obtain ⟨e1, _, e3⟩ := e
      obtain ⟨a1, a2, _, _⟩ := hasB_iff.1 e1
      exact hz ⟨a1, a2, e3⟩
    rw [hE]
    exact (eraseNo p b R C row fr t0 af ag ab L w h _ rfl hz).mono fun e w' ⟨h1, h2⟩ => XQ.of_below h h1 h2
end Go.Proofs.Ytfdjmlncdbpkgaa.Xg
