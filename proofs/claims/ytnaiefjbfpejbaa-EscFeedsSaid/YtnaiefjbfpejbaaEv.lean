/- A separator. -/
import Derived.Test.YtnaiefjbfpejbaaEu
set_option linter.unusedVariables false
namespace Go.Proofs.Ytnaiefjbfpejbaa.Ev
open Go Go.RowKit Kit Ep Eb Er Ea Es Et Eu


theorem StP.alloc {g : Nat} {v x v' x' : Value} {w w' : World} {p : Ps} (h : StP g v x w p v' x' w') (O : Obj) : StP g v x w p v' x' (w'.alloc O) := StP.trans h (alloc_st h.pr O)
theorem snoc_own {w : World} {v : Value} {l : List Int} {y : Int} (h : w.ownsRow 0 3 1 v (l.length + 1) (iv l ++ [.int .i64 y])) : w.ownsRow 0 3 1 v (l ++ [y]).length (iv (l ++ [y])) := by
  have e1 : (l ++ [y]).length = l.length + 1 := by simp
  have e2 : iv (l ++ [y]) = iv l ++ [.int .i64 y] := by simp [iv]
  rw [e1, e2]; exact h
theorem snoc_ne (l : List Int) (y : Int) : l ++ [y] ≠ [] := by simp
set_option maxRecDepth 100000 in
set_option maxHeartbeats 2000000 in
theorem sepC (g : Nat) (v x : Value) (p : Ps) (w : World) (h : PrV w g v x p) (ho : PaOk p) (hse : p.se ≤ 1000000) (P : Ps) (hP : P = sepM p) : Calls Try.prog 36 #[.pointer (some ⟨g, 0, none⟩)] w fun e w' => e = .returned (.tuple #[]) ∧ ∃ v' x', StP g v x w P v' x' w' := by
  have HP := Lib.hid h
  have HG := Lib.hid h.lt
  obtain ⟨a1, a2, a3⟩ := first_ok ho
  obtain ⟨q, hq⟩ : ∃ q, q = firstM p := ⟨_, rfl⟩
  have HQ := Lib.hid hq
  unfold sepM at hP
  rw [← hq] at hP a1 a2 a3
  have hq6 : q.se ≤ 1000000 := by omega
  have HPL := Lib.hid (show 0 < q.pa.length by omega)
  have HN := Lib.hid (show q.pa.length + 1 ≤ 100000 by omega)
  clear h ho hq
  by_cases h16 : q.se + 1 < 16
  · rw [if_pos h16] at hP
    have HPP := Lib.hid hP
    have i16 : decide ((q.se : Int) + 1 < 16) = true := decide_eq_true (by omega)
    clear a1 a2 a3 hP h16
    go_enter Try.func36, Try.ntmps36
    go_wp2_with (first
      | (go_at_call 39; (with_reducible refine (firstC g v x p w HP.out q HQ.out).mono ?_); rintro e w1 ⟨rfl, v1, x1, hs⟩; obtain ⟨gp, cp, rfl⟩ := own_some hs.pr.pa HPL.out; have HS1 := Lib.hid hs; have HS2 := Lib.hid (StP.put (i := 5) (u := (.int .i64 ((q.se : Int) + 1))) (p' := { q with se := q.se + 1 }) hs HG.out rfl rfl rfl); have HS3 := Lib.hid (StP.alloc HS2.out (.cells #[.int .i64 (-1)] 3)); have HKL := Lib.hid (show ((w1.setCell ⟨g, 5, none⟩ (.int .i64 ((q.se : Int) + 1))).alloc (.cells #[.int .i64 (-1)] 3)).cell? ⟨w1.heap.size, 0, none⟩ = some (.int .i64 (-1)) by rw [show w1.heap.size = (w1.setCell ⟨g, 5, none⟩ (.int .i64 ((q.se : Int) + 1))).heap.size by simp [World.setCell], cell_of_row _ _ 0 _ 3 (0, 0) (heap_alloc_last (w1.setCell ⟨g, 5, none⟩ (.int .i64 ((q.se : Int) + 1))) (.cells #[.int .i64 (-1)] 3))]; rfl); obtain ⟨k0, k1, k2, k3, k4, k5, k6⟩ := seven hs.pr.row; obtain ⟨l0, l1, l2, l3, l4, l5, l6⟩ := thawed hs.pr.row; clear hs)
      | (at_builtin; (refine app_one rfl _ _ rfl info3 Try.underlying23 rfl (by decide) (.slice (some ⟨gp, 0, none⟩) q.pa.length cp) q.pa.length (iv q.pa) rfl (StP.pr HS3.out).pa w1.heap.size rfl HKL.out rfl HN.out ?_; intro v4 w4 o4 b4 n4; obtain ⟨na, nc, rfl⟩ := own_slice o4; have HS4 := Lib.hid (show StP g v x w P _ _ _ from StP.param (l := q.pa ++ [-1]) HS3.out (snoc_own o4) b4 n4 HG.out (snoc_ne _ _) HPP.out); have HG4 := Lib.hid ((b4.block _ (StP.pr HS3.out).lt (fun e => (StP.pr HS3.out).other.1 e.symm)).trans (StP.pr HS3.out).row); clear k0 k1 k2 k3 k4 k5 k6 l0 l1 l2 l3 l4 l5 l6; obtain ⟨k0, k1, k2, k3, k4, k5, k6⟩ := seven HG4.out; obtain ⟨l0, l1, l2, l3, l4, l5, l6⟩ := thawed HG4.out; clear o4 b4 n4)))
    go_end0
    exact ⟨rfl, _, _, HS4.out⟩
  · rw [if_neg h16] at hP
    have HPP := Lib.hid hP
    have i16 : decide ((q.se : Int) + 1 < 16) = false := decide_eq_false (by omega)
    clear a1 a2 a3 hP h16
    go_enter Try.func36, Try.ntmps36
    go_wp2_with (go_at_call 39; (with_reducible refine (firstC g v x p w HP.out q HQ.out).mono ?_); rintro e w1 ⟨rfl, v1, x1, hs⟩; obtain ⟨gp, cp, rfl⟩ := own_some hs.pr.pa HPL.out; have HS2 := Lib.hid (show StP g v x w P _ _ _ from StP.put (i := 5) (u := (.int .i64 ((q.se : Int) + 1))) hs HG.out (by rw [HPP.out]; rfl) (by rw [HPP.out]) (by rw [HPP.out])); obtain ⟨k0, k1, k2, k3, k4, k5, k6⟩ := seven hs.pr.row; obtain ⟨l0, l1, l2, l3, l4, l5, l6⟩ := thawed hs.pr.row; clear hs)
    go_end0
    exact ⟨rfl, _, _, HS2.out⟩

end Go.Proofs.Ytnaiefjbfpejbaa.Ev
