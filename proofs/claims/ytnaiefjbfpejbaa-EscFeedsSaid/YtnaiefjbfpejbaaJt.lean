/- The document's parser: what was told. -/
import Derived.Test.YtnaiefjbfpejbaaIq
import Derived.Test.YtnaiefjbfpejbaaJy
set_option linter.unusedVariables false
namespace Go.Proofs.Ytnaiefjbfpejbaa.Jt
open Go Go.RowKit Kit Ep Eb Er Ea Es Et Eu Ev Ek Ew Ex Ey Ia Ib Ic Iq


theorem StQ.then_ {w w1 w2 : World} {g : Nat} {v x v' x' : Value} {q : Qs} (h : StQ g v x w q v' x' w1) (hb : Below w1.heap.size w1 w2) : StQ g v x w q v' x' w2 :=
  h.trans ⟨h.pr.then_ hb (Nat.le_refl _), Fr.of hb, New.refl _ _, New.refl _ _⟩
theorem slice_own {w : World} {e : TypeId} {v : Value} {b n : Nat} {xs : List Value} (h : w.ownsRow b e 1 v n xs) : ∃ a c, v = .slice a n c := by
  rcases h.2 with ⟨rfl, rfl⟩ | ⟨g1, cap, cur, rfl, _⟩
  · exact ⟨none, 0, rfl⟩
  · exact ⟨_, _, rfl⟩
theorem row_tx {w : World} {a : Option Addr} {n c : Nat} {l : List Int} (h : w.ownsRow 0 21 1 (.slice a n c) n (rv l)) : Words.Row .i32 w a l := by
  obtain ⟨a', c', e, _, hr, _⟩ := Words.row_own (k := .i32) (l := l) h
  injection e with e1 e2 e3
  subst e1
  exact hr
set_option maxRecDepth 100000 in
set_option maxHeartbeats 4000000 in
theorem toldC (g : Nat) (v x : Value) (q : Qs) (w : World) (h : PrQ w g v x q) (htx : q.tx.length ≤ 10000) : Calls Try.prog 32 #[.pointer (some ⟨g, 0, none⟩)] w (EvQ g v x w (toldQ q).1 (toldQ q).2) := by
  have HP := Lib.hid h
  have HG := Lib.hid h.lt
  have H0 := Lib.hid (StQ.put (stQ_refl h) h.lt (i := 0) (u := .int .i64 0) (q' := { q with st := 0 }) rfl rfl rfl)
  obtain ⟨xa, xc, hx⟩ := slice_own h.tx
  have HR : Hid (Words.Row .i32 (w.setCell ⟨g, 0, none⟩ (.int .i64 0)) xa q.tx) := Lib.hid (by
    have e := H0.out.1.tx
    rw [hx] at e
    exact row_tx e)
  subst hx
  have HTX := Lib.hid htx
  have HSZ : Hid (w.heap.size = (w.setCell ⟨g, 0, none⟩ (.int .i64 0)).heap.size) := Lib.hid (by simp)
  obtain ⟨k0, k1, k2, k3, k4, k5, k6⟩ := seven HP.out.row
  obtain ⟨l0, l1, l2, l3, l4, l5, l6⟩ := thawed HP.out.row
  clear h htx
  unfold toldQ
  go_enter Try.func32, Try.ntmps32
  go_wp2_with (go_at_call 38; (with_reducible refine (Jy.encRefC xa q.tx xc _ HTX.out HR.out).mono ?_); rintro e w1 ⟨y, rfl, oy, b1⟩; obtain ⟨ya, yc, rfl⟩ := slice_own oy; have HC := Jy.conv_own _ _ w1 _ oy; rw [Um.runes_enc] at HC; have HS := Lib.hid (StQ.then_ H0.out b1); have HZ := Lib.hid (show w.heap.size ≤ w1.heap.size from HSZ.out ▸ b1.size); clear oy b1)
  go_ret
  exact evq1 (oscE q.tx) rfl rfl HZ.out HS.out

end Go.Proofs.Ytnaiefjbfpejbaa.Jt
