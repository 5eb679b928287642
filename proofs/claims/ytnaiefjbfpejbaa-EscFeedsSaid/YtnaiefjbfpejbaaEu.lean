/- A digit, a separator. -/
import Derived.Test.YtnaiefjbfpejbaaEt
import Derived.BigQuiet
import Derived.StillTailTactics
set_option linter.unusedVariables false
namespace Go.Proofs.Ytnaiefjbfpejbaa.Eu
open Go Go.RowKit Kit Ep Eb Er Ea Es Et


theorem own_some {w : World} {e : TypeId} {v : Value} {n : Nat} {xs : List Value} (h : w.ownsRow 0 e 1 v n xs) (hn : 0 < n) : ∃ g c, v = .slice (some ⟨g, 0, none⟩) n c := by
  rcases h.2 with ⟨rfl, rfl⟩ | ⟨g1, cap, cur, rfl, _⟩
  · omega
  · exact ⟨_, _, rfl⟩
theorem iv_at {l : List Int} {j : Nat} (hj : j < l.length) : (iv l)[j]? = some (.int .i64 (l.getD j 0)) := by
  simp [iv, List.getElem?_eq_getElem hj, List.getD_eq_getElem?_getD]
theorem PrV.drewN {w : World} {g : Nat} {v x : Value} {p : Ps} (h : PrV w g v x p) (n : Nat) : PrV (w.drewN n) g v x p := ⟨h.row, h.pa, h.tx, h.nil⟩
theorem StP.drewN {g : Nat} {v x v' x' : Value} {w w' : World} {p : Ps} (h : StP g v x w p v' x' w') (n : Nat) : StP g v x w p v' x' (w'.drewN n) :=
  ⟨PrV.drewN h.1 n, ⟨h.2.1.os, h.2.1.tape, h.2.1.output, h.2.1.size, h.2.1.block⟩, h.2.2.1, h.2.2.2⟩
theorem StP.drew {g : Nat} {v x v' x' : Value} {w w' : World} {p : Ps} (h : StP g v x w p v' x' w') : StP g v x w p v' x' w'.drew :=
  ⟨⟨h.1.row, h.1.pa, h.1.tx, h.1.nil⟩, ⟨h.2.1.os, h.2.1.tape, h.2.1.output, h.2.1.size, h.2.1.block⟩, h.2.2.1, h.2.2.2⟩
set_option maxRecDepth 100000 in
set_option maxHeartbeats 2000000 in
theorem digitC (n : Int) (g : Nat) (v x : Value) (p : Ps) (w : World) (h : PrV w g v x p) (ho : PaOk p) (h0 : 0 ≤ n) (h9 : n ≤ 9) (hse : p.se ≤ 1000000) (P : Ps) (hP : P = digitM p n) : Calls Try.prog 35 #[.pointer (some ⟨g, 0, none⟩), .int .i64 n] w fun e w' => e = .returned (.tuple #[]) ∧ ∃ v' x', StP g v x w P v' x' w' := by
  have HP := Lib.hid h
  have HG := Lib.hid h.lt
  obtain ⟨a1, a2, a3⟩ := first_ok ho
  obtain ⟨q, hq⟩ : ∃ q, q = firstM p := ⟨_, rfl⟩
  have HQ := Lib.hid hq
  unfold digitM at hP
  rw [← hq] at hP a1 a2 a3
  have hq6 : q.se ≤ 1000000 := by omega
  clear h ho hq
  by_cases h16 : 16 ≤ q.se
  · rw [if_pos h16] at hP
    subst hP
    clear a1 a2 a3
    have i16 : decide ((16 : Int) ≤ (P.se : Int)) = true := decide_eq_true (by omega)
    go_enter Try.func35, Try.ntmps35
    go_wp2_with (go_at_call 39; (with_reducible refine (firstC g v x p w HP.out P HQ.out).mono ?_); rintro e w1 ⟨rfl, v1, x1, hs⟩; have HS1 := Lib.hid hs; obtain ⟨k0, k1, k2, k3, k4, k5, k6⟩ := seven hs.pr.row; clear hs)
    exact bodyPost_ret (v := .tuple #[]) (by simp [results, Try.results35, go_sem]) rfl ⟨rfl, _, _, HS1.out⟩
  · rw [if_neg h16] at hP
    have hlt : q.se < q.pa.length := by omega
    obtain ⟨y, hy⟩ : ∃ y, y = q.pa.getD q.se 0 := ⟨_, rfl⟩
    have hyb : -1 ≤ y ∧ y ≤ 9999 := by
      rw [hy, List.getD_eq_getElem?_getD, List.getElem?_eq_getElem hlt]
      exact a2 _ (List.getElem_mem hlt)
    rw [← hy] at hP
    have HY := Lib.hid hy
    have HPP := Lib.hid hP
    have HLT := Lib.hid hlt
    have HPL := Lib.hid (Nat.lt_of_le_of_lt (Nat.zero_le _) hlt)
    have hb1 := hyb.1
    have i16 : decide ((16 : Int) ≤ (q.se : Int)) = false := decide_eq_false (by omega)
    have hltI : (q.se : Int) < (q.pa.length : Int) := by omega
    have hb2 := hyb.2
    clear a1 a2 a3 hy hP hyb
    go_enter Try.func35, Try.ntmps35
    go_wp2_with (go_at_call 39; (with_reducible refine (firstC g v x p w HP.out q HQ.out).mono ?_); rintro e w1 ⟨rfl, v1, x1, hs⟩; obtain ⟨gp, cp, rfl⟩ := own_some hs.pr.pa HPL.out; have HS1 := Lib.hid hs; have hrow : w1.cell? ⟨gp, q.se, none⟩ = some (.int .i64 y) := (by rw [hs.pr.pa.cellAt q.se (by rw [Nat.mul_one]; exact HLT.out), iv_at HLT.out, HY.out]); have hfr : w1.frozen? ⟨gp, q.se, none⟩ = false := hs.pr.pa.frozenAt q.se; obtain ⟨k0, k1, k2, k3, k4, k5, k6⟩ := seven hs.pr.row; clear hs)
    go_quiet (fail)
    have HS2 := Lib.hid (StP.drewN HS1.out nq)
    have row2 : (w1.drewN nq).cell? ⟨gp, q.se, none⟩ = some (.int .i64 y) := hrow
    have fr2 : (w1.drewN nq).frozen? ⟨gp, q.se, none⟩ = false := hfr
    clear hrow hfr k0 k1 k2 k3 k4 k5 k6
    go_wp2
    generalize w1.drewN nq = w2 at *
    obtain ⟨k0, k1, k2, k3, k4, k5, k6⟩ := seven (StP.pr HS2.out).row
    go_still_tail 14, (by kernel_rfl)
    change wpList _ _ _ _ _ w2.drew
    go_wp2
    go_end0
    refine ⟨rfl, _, _, StP.drew (HPP.out ▸ StP.setp HS2.out (fun hk => ?_))⟩
    rcases (HS2.out : StP _ _ _ _ _ _ _ _).2.2.1 gp rfl with h1 | h1
    · exact h1
    · omega

end Go.Proofs.Ytnaiefjbfpejbaa.Eu
