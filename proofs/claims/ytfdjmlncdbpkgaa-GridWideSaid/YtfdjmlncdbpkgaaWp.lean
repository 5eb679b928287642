/- GridWide: plain facts on a row with a wide sign. -/
import Derived.Test.YtfdjmlncdbpkgaaGq
set_option linter.unusedVariables false
namespace Go.Proofs.Ytfdjmlncdbpkgaa.Wp
open Go Go.RowKit Gm Gp Gq Gg Gh

def b0 : Ce := Gm.blankC 0
def wideA (f g b : Int) : Ce := ⟨19968, f, g, b, 1⟩
def signX (f g b : Int) : Ce := ⟨120, f, g, b, 0⟩
theorem wide_may {f g b : Int} (h : Cell.attrB f g b = true) : mayC (wideA f g b) = true := by
  unfold wideA mayC Cell.mayB
  dsimp only
  rw [h, show Cell.widthZ 19968 = 2 by decide]; rfl
theorem sign_may {f g b : Int} (h : Cell.attrB f g b = true) : mayC (signX f g b) = true := by
  unfold signX mayC Cell.mayB
  dsimp only
  rw [h, show Cell.widthZ 120 = 1 by decide]; rfl
theorem ok_one {C k : Nat} {c : Ce} (hk : k < C) (hm : mayC c = true) (hw : ¬ c.wd = 2) : putOk 1 C 0 (k : Int) c = true := by
  have h1 : hasB 1 C 0 (k : Int) = true := hasB_iff.2 (by omega)
  unfold putOk
  rw [h1, hm]; simpa using hw
theorem put_one {C k : Nat} {L : List Ce} {c : Ce} (hL : L.length = C) (h : putOk 1 C 0 (k : Int) c = true) : putL 1 C L 0 (k : Int) c = mend (putRow C L k c) := by
  unfold putL Gq.rowAt
  rw [if_pos h]
  simp [← hL]
theorem at_one {C k : Nat} {L : List Ce} (hk : k < C) (hL : L.length = C) : atC 1 C L 0 (k : Int) = L.getD k zeroC := by
  unfold atC
  rw [if_pos (hasB_iff.2 (by omega))]
  simp
theorem blank_flat (n : Nat) : ∀ c ∈ List.replicate n b0, c.wd = 0 := by
  intro c hc; rw [List.eq_of_mem_replicate hc]; rfl
theorem rep_two {C k : Nat} (h : k + 1 < C) : (List.replicate C b0).take k = List.replicate k b0 ∧ (List.replicate C b0).drop (k + 2) = List.replicate (C - (k + 2)) b0 := by
  constructor
  · rw [List.take_replicate, Nat.min_eq_left (by omega)]
  · rw [List.drop_replicate]
/-- a wide sign in the last column. -/
theorem wide_last {C k : Nat} {f g b : Int} (hk : k + 1 = C) (h : Cell.attrB f g b = true) :
    putL 1 C (List.replicate C b0) 0 (k : Int) (wideA f g b) = (List.replicate C b0).set k (Gm.blankC b) := by
  rw [put_one List.length_replicate (ok_one (by omega) (wide_may h) (show ¬ (1 : Int) = 2 by decide))]
  unfold putRow
  rw [if_neg (show ¬ (wideA f g b).wd = 0 from (by decide : ¬ (1 : Int) = 0)), if_pos hk]
  refine mend_flat fun c hc => ?_
  rcases List.mem_or_eq_of_mem_set hc with hc | rfl
  · exact blank_flat _ c hc
  · rfl
theorem at_last {C k : Nat} {b : Int} (hk : k + 1 = C) : Gm.blankC b = atC 1 C ((List.replicate C b0).set k (Gm.blankC b)) 0 (k : Int) := by
  rw [at_one (by omega) (by simp)]
  simp [List.getD_eq_getElem?_getD, show k < C by omega]
/-- a wide sign with both halves. -/
def pairL (C k : Nat) (x y : Ce) : List Ce := List.replicate k b0 ++ x :: y :: List.replicate (C - (k + 2)) b0
theorem pair_len {C k : Nat} (hk : k + 1 < C) (x y : Ce) : (pairL C k x y).length = C := by
  unfold pairL; simp; omega
theorem wide_pair {C k : Nat} {f g b : Int} (hk : k + 1 < C) (h : Cell.attrB f g b = true) :
    putL 1 C (List.replicate C b0) 0 (k : Int) (wideA f g b) = pairL C k (wideA f g b) ⟨0, f, g, b, 2⟩ := by
  rw [put_one List.length_replicate (ok_one (by omega) (wide_may h) (show ¬ (1 : Int) = 2 by decide))]
  unfold putRow
  rw [if_neg (show ¬ (wideA f g b).wd = 0 from (by decide : ¬ (1 : Int) = 0)), if_neg (by omega), set_two (by rw [List.length_replicate]; exact hk), (rep_two hk).1, (rep_two hk).2, mend_front (blank_flat k), mend_pair rfl rfl, mend_flat (blank_flat _)]
  rfl
theorem at_left {C k : Nat} (hk : k + 1 < C) (x y : Ce) : x = atC 1 C (pairL C k x y) 0 (k : Int) := by
  rw [at_one (by omega) (pair_len hk x y)]
  unfold pairL
  simp [List.getD_eq_getElem?_getD]
theorem at_right {C k : Nat} (hk : k + 1 < C) (x y : Ce) (z : Int) (hz : z = ((k + 1 : Nat) : Int)) : y = atC 1 C (pairL C k x y) 0 z := by
  subst hz
  rw [at_one (by omega) (pair_len hk x y)]
  unfold pairL
  simp [List.getD_eq_getElem?_getD]
theorem take_pair (C k : Nat) (x y : Ce) : (pairL C k x y).take k = List.replicate k b0 := by
  unfold pairL; simp
/-- a narrow sign over the left half. -/
theorem over_left {C k : Nat} {f g b f2 g2 b2 : Int} (hk : k + 1 < C) (h2 : Cell.attrB f2 g2 b2 = true) :
    putL 1 C (pairL C k (wideA f g b) ⟨0, f, g, b, 2⟩) 0 (k : Int) (signX f2 g2 b2) = pairL C k (signX f2 g2 b2) ⟨32, f, g, b, 0⟩ := by
  rw [put_one (pair_len hk _ _) (ok_one (by omega) (sign_may h2) (show ¬ (0 : Int) = 2 by decide))]
  unfold putRow
  rw [if_pos (show (signX f2 g2 b2).wd = 0 from rfl), set_split (by rw [pair_len hk]; omega), take_pair]
  have e : (pairL C k (wideA f g b) ⟨0, f, g, b, 2⟩).drop (k + 1) = ⟨0, f, g, b, 2⟩ :: List.replicate (C - (k + 2)) b0 := by
    unfold pairL; simp [List.drop_append]
  rw [e, mend_front (blank_flat k), mend_zero rfl]
  unfold pairL
  congr 2
  cases hn : C - (k + 2) with
  | zero => simp [mend, spaceC]
  | succ n =>
    rw [List.replicate_succ, mend_lone (show ¬ (2 : Int) = 0 by decide) (fun hh => absurd (show (2 : Int) = 1 from hh.1) (by decide)), mend_zero rfl, mend_flat (blank_flat n)]
    rfl
/-- a narrow sign over the right half. -/
theorem over_right {C k : Nat} {f g b f2 g2 b2 : Int} (hk : k + 1 < C) (h2 : Cell.attrB f2 g2 b2 = true) (z : Int) (hz : z = ((k + 1 : Nat) : Int)) :
    putL 1 C (pairL C k (wideA f g b) ⟨0, f, g, b, 2⟩) 0 z (signX f2 g2 b2) = pairL C k ⟨32, f, g, b, 0⟩ (signX f2 g2 b2) := by
  subst hz
  rw [put_one (pair_len hk _ _) (ok_one (by omega) (sign_may h2) (show ¬ (0 : Int) = 2 by decide))]
  unfold putRow
  have e1 : (pairL C k (wideA f g b) ⟨0, f, g, b, 2⟩).take (k + 1) = List.replicate k b0 ++ [wideA f g b] := by
    unfold pairL; simp [List.take_append]
  have e2 : (pairL C k (wideA f g b) ⟨0, f, g, b, 2⟩).drop (k + 1 + 1) = List.replicate (C - (k + 2)) b0 := by
    unfold pairL; simp [List.drop_append, show k - (k + 1 + 1) = 0 by omega, show k + 1 + 1 - k = 2 by omega]
  rw [if_pos (show (signX f2 g2 b2).wd = 0 from rfl), set_split (by rw [pair_len hk]; exact hk), e1, e2, List.append_assoc, mend_front (blank_flat k), List.singleton_append, mend_lone (show ¬ (1 : Int) = 0 by decide) (fun hh => absurd (show (0 : Int) = 2 from hh.2) (by decide)), mend_zero rfl, mend_flat (blank_flat _)]
  rfl
end Go.Proofs.Ytfdjmlncdbpkgaa.Wp
