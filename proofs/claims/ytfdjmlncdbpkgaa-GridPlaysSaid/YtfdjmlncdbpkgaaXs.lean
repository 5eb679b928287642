/- The document's Put, of anything. -/
import Derived.Test.YtfdjmlncdbpkgaaXr
set_option linter.unusedVariables false
namespace Go.Proofs.Ytfdjmlncdbpkgaa.Xs
open Go Go.RowKit Kit Gm Gv Fl Me Cp Sl Gg Gh Gq Gk Xa Xb Xm Xn Xf Xe Xg Xp Xq Xr
open Gp (putRow row_split mid_split set_split set_two mayC)
open Pr (Iv)

theorem wds_mid {M : List Ce} {k j : Nat} {x : Ce} (h : ∀ c ∈ M, c.wd = 0 ∨ c.wd = 1 ∨ c.wd = 2) (hx : x.wd = 0 ∨ x.wd = 1 ∨ x.wd = 2) : ∀ c ∈ M.take k ++ x :: M.drop j, c.wd = 0 ∨ c.wd = 1 ∨ c.wd = 2 := by
  intro c hc
  rcases List.mem_append.1 hc with hc | hc
  · exact h c (List.mem_of_mem_take hc)
  · rcases List.mem_cons.1 hc with rfl | hc
    · exact hx
    · exact h c (List.mem_of_mem_drop hc)
theorem wds_two {M : List Ce} {k j : Nat} {x y : Ce} (h : ∀ c ∈ M, c.wd = 0 ∨ c.wd = 1 ∨ c.wd = 2) (hx : x.wd = 0 ∨ x.wd = 1 ∨ x.wd = 2) (hy : y.wd = 0 ∨ y.wd = 1 ∨ y.wd = 2) : ∀ c ∈ M.take k ++ x :: y :: M.drop j, c.wd = 0 ∨ c.wd = 1 ∨ c.wd = 2 := by
  intro c hc
  rcases List.mem_append.1 hc with hc | hc
  · exact h c (List.mem_of_mem_take hc)
  · rcases List.mem_cons.1 hc with rfl | hc
    · exact hx
    · rcases List.mem_cons.1 hc with rfl | hc
      · exact hy
      · exact h c (List.mem_of_mem_drop hc)
/-- Put, of anything. -/
theorem putX (p b R C : Nat) (row col : Int) (c : Ce) (L : List Ce) (w : World) (h : X w p b R C L) (hi : Iv R C L) :
    Calls Try.prog 37 #[.pointer (some ⟨p, 0, none⟩), .int .i64 row, .int .i64 col, cvA c] w (XQ (.bool (putOk R C row col c)) w p b R C (putL R C L row col c)) := by
  cases hz : putOk R C row col c with
  | false =>
    have e : putL R C L row col c = L := by unfold putL; rw [hz]; rfl
    rw [e]
    exact (putNo p b R C row col c L w h hz).mono fun e w' ⟨h1, h2⟩ => XQ.of_below h h1 h2
  | true =>
    have e : putL R C L row col c = L.take (row.toNat * C) ++ mend (putRow C (Gq.rowAt L (row.toNat * C) C) col.toNat c) ++ L.drop (row.toNat * C + C) := by unfold putL; rw [hz]; rfl
    rw [e]
    unfold putOk at hz
    simp only [Bool.and_eq_true, Bool.not_eq_true', beq_eq_false_iff_ne, ne_eq] at hz
    obtain ⟨h1, hm, h2⟩ := hz
    obtain ⟨a1, a2, a3, a4⟩ := hasB_iff.1 h1
    obtain ⟨r, rfl⟩ := Int.eq_ofNat_of_zero_le a1
    obtain ⟨k, rfl⟩ := Int.eq_ofNat_of_zero_le a3
    rw [Int.toNat_natCast, Int.toNat_natCast]
    have hr : r < R := by omega
    have hk : k < C := by omega
    have hq := row_nums h.len hr
    have hlen : (Gq.rowAt L (r * C) C).length = C := by unfold Gq.rowAt; rw [List.length_take, List.length_drop]; exact Nat.min_eq_left (by omega)
    have hrw := may_row hi (r * C)
    have hsp : L = L.take (r * C) ++ Gq.rowAt L (r * C) C ++ L.drop (r * C + C) := row_split hq
    have hA : (L.take (r * C)).length = r * C := by rw [List.length_take]; exact Nat.min_eq_left (by omega)
    generalize L.take (r * C) = A at *
    generalize L.drop (r * C + C) = Z at *
    generalize Gq.rowAt L (r * C) C = M at *
    have hD : (M.take k).length = k := by rw [List.length_take]; exact Nat.min_eq_left (by omega)
    rw [hsp] at h
    obtain ⟨cr, cfl, cfg, cbg, cwd⟩ := c
    have hkM : k < M.length := by omega
    rcases may_wd hm h2 with hw | hw
    · dsimp only at hw
      subst hw
      have e1 : putRow C M k ⟨cr, cfl, cfg, cbg, 0⟩ = M.take k ++ ⟨cr, cfl, cfg, cbg, 0⟩ :: M.drop (k + 1) := by
        unfold putRow; rw [if_pos rfl]; exact set_split hkM _
      rw [e1]
      have hMs := mid_split hkM
      rw [hMs] at h hlen
      exact putA p b R C r k cr cfl cfg cbg A (M.take k) (M.drop (k + 1)) Z M[k] w h hr hk hA hD hlen hm (wds_mid hrw (.inl rfl))
    · dsimp only at hw
      subst hw
      by_cases hl : k + 1 = C
      · have e1 : putRow C M k ⟨cr, cfl, cfg, cbg, 1⟩ = M.take k ++ ⟨32, 0, 0, cbg, 0⟩ :: M.drop (k + 1) := by
          unfold putRow; rw [if_neg (show ¬ (1 : Int) = 0 by decide), if_pos hl]; exact set_split hkM _
        rw [e1]
        have hMs := mid_split hkM
        rw [hMs] at h hlen
        exact putB p b R C r k cr cfl cfg cbg A (M.take k) (M.drop (k + 1)) Z M[k] w h hr hk hA hD hlen hm (wds_mid hrw (.inl rfl)) hl
      · have hk2 : k + 1 < M.length := by omega
        have e1 : putRow C M k ⟨cr, cfl, cfg, cbg, 1⟩ = M.take k ++ ⟨cr, cfl, cfg, cbg, 1⟩ :: ⟨0, cfl, cfg, cbg, 2⟩ :: M.drop (k + 2) := by
          unfold putRow; rw [if_neg (show ¬ (1 : Int) = 0 by decide), if_neg hl]; exact set_two hk2 _ _
        rw [e1]
        have hMs : M = M.take k ++ M[k] :: M[k + 1] :: M.drop (k + 2) := by
          rw [← List.drop_eq_getElem_cons hk2]; exact mid_split hkM
        rw [hMs] at h hlen
        exact putC p b R C r k cr cfl cfg cbg A (M.take k) (M.drop (k + 2)) Z M[k] M[k + 1] w h hr hk hA hD hlen hm (wds_two hrw (.inr (.inl rfl)) (.inr (.inr rfl))) (by omega)
end Go.Proofs.Ytfdjmlncdbpkgaa.Xs
