/- The chapter's examples of packets. -/
import Derived.Test.YtmfkfpgomglplaaDoorOp
set_option linter.unusedVariables false
namespace Go.Proofs.YtmfkfpgomglplaaDoor.Pf
open Go Go.RowKit Kit Mb Sha Ap Mc1 Sc Mx Sb Pd Su Pa Hm Mm Tg Mf Pk Se Wn Op


def bK : List Nat := sealL [107] 1 0 7 [5]
theorem bK_len : bK.length = 27 := by
  unfold bK sealL pktL
  rw [List.length_append, tagL_len]; rfl
set_option maxRecDepth 100000 in
theorem bK_front : pktL 1 0 7 [5] = [1, 0, 0, 0, 0, 0, 0, 0, 0, 7, 5] := by decide +kernel
set_option maxRecDepth 100000 in
theorem bK_other : tagL [108] (pktL 1 0 7 [5]) ≠ tagL [107] (pktL 1 0 7 [5]) := by decide +kernel
theorem bK_take : bK.take 11 = pktL 1 0 7 [5] := by
  unfold bK sealL
  rw [List.take_append_of_le_length (by rw [bK_front]; decide), List.take_of_length_le (by rw [bK_front]; decide)]
theorem bK_drop : bK.drop 11 = tagL [107] (pktL 1 0 7 [5]) := by
  unfold bK sealL
  rw [List.drop_append_of_le_length (by rw [bK_front]; decide), bK_front]; rfl
theorem bK_at (i : Nat) (h : i < 11) : bK.getD i 0 = ([1, 0, 0, 0, 0, 0, 0, 0, 0, 7, 5] : List Nat).getD i 0 := by
  have h1 : bK.getD i 0 = (bK.take 11).getD i 0 := by
    rw [List.getD_eq_getElem?_getD, List.getD_eq_getElem?_getD, List.getElem?_take, if_pos h]
  rw [h1, bK_take, bK_front]
theorem bK_num : numL ((bK.drop 2).take 8) = 7 := by
  have h : (bK.drop 2).take 8 = ((bK.take 11).drop 2).take 8 := by
    rw [List.drop_take, List.take_take]; rfl
  rw [h, bK_take, bK_front]; rfl
theorem bK_body : (bK.drop 10).take (11 - 10) = [5] := by
  have h : (bK.drop 10).take (11 - 10) = ((bK.take 11).drop 10).take 1 := by
    rw [List.drop_take, List.take_take]; rfl
  rw [h, bK_take, bK_front]; rfl
theorem bK_lt : ∀ c ∈ bK, c < 256 := by
  intro c hc
  unfold bK sealL at hc
  rcases List.mem_append.1 hc with h | h
  · rw [bK_front] at h
    have hx : ∀ c ∈ ([1, 0, 0, 0, 0, 0, 0, 0, 0, 7, 5] : List Nat), c < 256 := by decide
    exact hx c h
  · exact tagL_lt _ _ c h

end Go.Proofs.YtmfkfpgomglplaaDoor.Pf
