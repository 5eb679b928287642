/- The document's parser: control, one part. -/
import Derived.Test.YtnaiefjbfpejbaaIq
set_option linter.unusedVariables false
namespace Go.Proofs.Ytnaiefjbfpejbaa.Jc
open Go Go.RowKit Kit Ep Eb Er Ea Es Et Eu Ev Ek Ew Ex Ey Ia Ib Ic Iq


set_option maxRecDepth 100000 in
set_option maxHeartbeats 8000000 in
theorem ctlLow (r : Int) (g : Nat) (v x : Value) (q : Qs) (w : World) (h : PrQ w g v x q) (hne : q.pa ≠ []) (hlen : q.pa.length ≤ 50000) (h0 : r < 32) : Calls Try.prog 31 #[.pointer (some ⟨g, 0, none⟩), .int .i32 r] w (EvQ g v x w (controlQ q r).1 (controlQ q r).2) := by
  have HP := Lib.hid h
  have HG := Lib.hid h.lt
  obtain ⟨n, hn⟩ : ∃ n, q.pa.length = n + 1 := ⟨q.pa.length - 1, by have := List.length_pos_iff.2 hne; omega⟩
  obtain ⟨gp, cp, hv⟩ : ∃ gp cp, v = .slice (some ⟨gp, 0, none⟩) (n + 1) cp := by
    obtain ⟨gp, cp, e⟩ := own_some h.pa (by omega)
    exact ⟨gp, cp, by rw [← hn]; exact e⟩
  subst hv
  have hn6 : n ≤ 60000 := by omega
  have HN := Lib.hid hn
  obtain ⟨k0, k1, k2, k3, k4, k5, k6⟩ := seven HP.out.row
  obtain ⟨l0, l1, l2, l3, l4, l5, l6⟩ := thawed HP.out.row
  clear h hne hlen hn
  unfold controlQ
  rw [if_pos (show r < 32 by omega)]
  go_enter Try.func31, Try.ntmps31
  go_wp2
  go_ret
  exact evq1 (execE r) rfl rfl (Nat.le_refl _) (stQ_refl HP.out)
set_option maxRecDepth 100000 in
set_option maxHeartbeats 8000000 in
theorem ctlInter (r : Int) (g : Nat) (v x : Value) (q : Qs) (w : World) (h : PrQ w g v x q) (hne : q.pa ≠ []) (hlen : q.pa.length ≤ 50000) (h0 : ¬ r < 32) (h1 : r ≤ 47) : Calls Try.prog 31 #[.pointer (some ⟨g, 0, none⟩), .int .i32 r] w (EvQ g v x w (controlQ q r).1 (controlQ q r).2) := by
  have HP := Lib.hid h
  have HG := Lib.hid h.lt
  obtain ⟨n, hn⟩ : ∃ n, q.pa.length = n + 1 := ⟨q.pa.length - 1, by have := List.length_pos_iff.2 hne; omega⟩
  obtain ⟨gp, cp, hv⟩ : ∃ gp cp, v = .slice (some ⟨gp, 0, none⟩) (n + 1) cp := by
    obtain ⟨gp, cp, e⟩ := own_some h.pa (by omega)
    exact ⟨gp, cp, by rw [← hn]; exact e⟩
  subst hv
  have hn6 : n ≤ 60000 := by omega
  have HN := Lib.hid hn
  obtain ⟨k0, k1, k2, k3, k4, k5, k6⟩ := seven HP.out.row
  obtain ⟨l0, l1, l2, l3, l4, l5, l6⟩ := thawed HP.out.row
  clear h hne hlen hn
  unfold controlQ
  rw [if_neg (show ¬ r < 32 by omega)]
  rw [if_pos (show r ≤ 47 by omega)]
  obtain ⟨s, hs⟩ : ∃ s, s = q.sp := ⟨_, rfl⟩
  have hsi : spI q = (s || decide (q.it ≠ 0)) := by unfold spI; rw [hs]
  rw [hsi]
  rw [← hs] at k3
  cases s with
  | true =>
    rw [Bool.true_or]
    clear hs hsi
    go_enter Try.func31, Try.ntmps31
    go_wp2
    go_ret
    exact evq0 (StQ.put (StQ.put (stQ_refl HP.out) HG.out (q' := { q with sp := true }) rfl rfl rfl) HG.out rfl rfl rfl)
  | false =>
    by_cases hi : q.it = 0
    · have ii : (q.it != 0) = false := by simp [hi]
      have HSI := Lib.hid (show (false || decide (q.it ≠ 0)) = false by simp [hi])
      clear hi
      rw [HSI.out]
      clear hs hsi
      go_enter Try.func31, Try.ntmps31
      go_wp2
      go_ret
      exact evq0 (StQ.put (StQ.put (stQ_refl HP.out) HG.out (q' := { q with sp := false }) rfl rfl rfl) HG.out rfl rfl rfl)
    · have ii : (q.it != 0) = true := by simp [hi]
      have HSI := Lib.hid (show (false || decide (q.it ≠ 0)) = true by simp [hi])
      clear hi
      rw [HSI.out]
      clear hs hsi
      go_enter Try.func31, Try.ntmps31
      go_wp2
      go_ret
      exact evq0 (StQ.put (StQ.put (stQ_refl HP.out) HG.out (q' := { q with sp := true }) rfl rfl rfl) HG.out rfl rfl rfl)
theorem StQ.drew {g : Nat} {v x v' x' : Value} {w w' : World} {q : Qs} (h : StQ g v x w q v' x' w') : StQ g v x w q v' x' w'.drew :=
  ⟨⟨h.1.row, h.1.pa, h.1.tx⟩, ⟨h.2.1.os, h.2.1.tape, h.2.1.output, h.2.1.size, h.2.1.block⟩, h.2.2.1, h.2.2.2⟩
theorem StQ.drewN {g : Nat} {v x v' x' : Value} {w w' : World} {q : Qs} (h : StQ g v x w q v' x' w') (n : Nat) : StQ g v x w q v' x' (w'.drewN n) :=
  ⟨⟨h.1.row, h.1.pa, h.1.tx⟩, ⟨h.2.1.os, h.2.1.tape, h.2.1.output, h.2.1.size, h.2.1.block⟩, h.2.2.1, h.2.2.2⟩
/-- a param is set. -/
theorem StQ.setp {w w1 : World} {g gp cap j n : Nat} {v x x1 : Value} {q : Qs} {y : Int} (hn : q.pa.length = n) (h : StQ g v x w q (.slice (some ⟨gp, 0, none⟩) n cap) x1 w1) (hw : gp < w.heap.size → v.ownBlock = some gp) : StQ g v x w { q with pa := q.pa.set j y } (.slice (some ⟨gp, 0, none⟩) n cap) x1 (w1.setCell ⟨gp, j, none⟩ (.int .i64 y)) := by
  subst hn
  have hs := h.1.pa.stored j (.int .i64 y)
  have hg : gp ≠ g := fun e => h.1.other.1 (by rw [e]; rfl)
  have hx : x1.ownBlock ≠ some gp := fun e => by
    rcases h.1.tx.2 with ⟨rfl, _⟩ | ⟨g1, c1, u1, rfl, _, h1, _⟩
    · cases e
    · have e1 : g1 = gp := by injection e
      rcases h.1.pa.2 with ⟨e2, _⟩ | ⟨g2, c2, u2, e2, _, h2, _⟩
      · cases e2
      · injection e2 with e2; injection e2 with e2; injection e2 with e2
        rw [e1, e2, h2] at h1
        injection h1 with h1; injection h1 with _ h1; exact absurd h1 (by decide)
  refine ⟨⟨?_, ?_, ownsRow_setCell_other h.1.tx hx _⟩, ?_, h.2.2.1, h.2.2.2⟩
  · rw [Below.heap_setCell _ _ _ _ (fun e => hg e.symm)]; exact h.1.row
  · have e : (q.pa.set j y).length = q.pa.length := by simp
    show World.ownsRow _ 0 3 1 _ (q.pa.set j y).length (iv (q.pa.set j y))
    rw [e, show iv (q.pa.set j y) = (iv q.pa).set j (.int .i64 y) by simp [iv]]
    exact hs.1
  · exact Fr.grown (v1 := v) (x1 := x1) (u := .slice (some ⟨gp, 0, none⟩) q.pa.length cap) h.2.1 hs.2 (fun k hk hkw => .inl (by
      have : gp = k := by injection hk
      subst this; exact hw hkw))
set_option maxRecDepth 100000 in
set_option maxHeartbeats 8000000 in
theorem ctlDigit (r : Int) (g : Nat) (v x : Value) (q : Qs) (w : World) (h : PrQ w g v x q) (hne : q.pa ≠ []) (hlen : q.pa.length ≤ 50000) (hvals : ∀ y ∈ q.pa, -1 ≤ y ∧ y ≤ 9999) (h0 : ¬ r < 32) (h1 : ¬ r ≤ 47) (h2 : r ≤ 57) : Calls Try.prog 31 #[.pointer (some ⟨g, 0, none⟩), .int .i32 r] w (EvQ g v x w (controlQ q r).1 (controlQ q r).2) := by
  have HP := Lib.hid h
  have HG := Lib.hid h.lt
  obtain ⟨n, hn⟩ : ∃ n, q.pa.length = n + 1 := ⟨q.pa.length - 1, by have := List.length_pos_iff.2 hne; omega⟩
  obtain ⟨gp, cp, hv⟩ : ∃ gp cp, v = .slice (some ⟨gp, 0, none⟩) (n + 1) cp := by
    obtain ⟨gp, cp, e⟩ := own_some h.pa (by omega)
    exact ⟨gp, cp, by rw [← hn]; exact e⟩
  subst hv
  have hn6 : n ≤ 60000 := by omega
  have HN := Lib.hid hn
  obtain ⟨k0, k1, k2, k3, k4, k5, k6⟩ := seven HP.out.row
  obtain ⟨l0, l1, l2, l3, l4, l5, l6⟩ := thawed HP.out.row
  have hlt : n < q.pa.length := by omega
  have HLT := Lib.hid hlt
  obtain ⟨y, hy⟩ : ∃ y, y = q.pa.getD n 0 := ⟨_, rfl⟩
  have HY := Lib.hid hy
  obtain ⟨y1, y2⟩ : -1 ≤ y ∧ y ≤ 9999 := by
    rw [hy, List.getD_eq_getElem?_getD, List.getElem?_eq_getElem hlt]
    exact hvals _ (List.getElem_mem hlt)
  have hdq : digQ q (r - 48) = q.pa.set n (min (10 * max y 0 + (r - 48)) 9999) := by
    unfold digQ
    rw [show q.pa.length - 1 = n by omega, ← hy]
  have HOWN := Lib.hid (fun (hk : gp < w.heap.size) => show (Value.slice (some ⟨gp, 0, none⟩) (n + 1) cp).ownBlock = some gp from rfl)
  have HD : Hid (∀ (b : Bool) (wx : World) (Y : Int), StQ g (.slice (some ⟨gp, 0, none⟩) (n + 1) cp) x w { q with sp := b, any := true } (.slice (some ⟨gp, 0, none⟩) (n + 1) cp) x wx → StQ g (.slice (some ⟨gp, 0, none⟩) (n + 1) cp) x w { q with sp := b, any := true, pa := q.pa.set n Y } (.slice (some ⟨gp, 0, none⟩) (n + 1) cp) x (wx.setCell ⟨gp, n, none⟩ (.int .i64 Y))) := Lib.hid (fun b wx Y hx => StQ.setp (q := { q with sp := b, any := true }) (j := n) (y := Y) hn hx HOWN.out)
  clear h hne hlen hn hvals hy hlt
  unfold controlQ
  rw [if_neg (show ¬ r < 32 by omega)]
  rw [if_neg (show ¬ r ≤ 47 by omega)]
  rw [if_pos (show r ≤ 57 by omega)]
  rw [hdq]
  clear hdq
  obtain ⟨s, hs⟩ : ∃ s, s = q.sp := ⟨_, rfl⟩
  have hsi : spI q = (s || decide (q.it ≠ 0)) := by unfold spI; rw [hs]
  rw [hsi]
  rw [← hs] at k3
  cases s with
  | true =>
    rw [Bool.true_or]
    clear hs hsi
    have HS0 := Lib.hid (StQ.put (StQ.put (stQ_refl HP.out) HG.out (i := 3) (u := .bool true) (q' := { q with sp := true }) rfl rfl rfl) HG.out (i := 2) (u := .bool true) (q' := { q with sp := true, any := true }) rfl rfl rfl)
    go_enter Try.func31, Try.ntmps31
    go_wp2
    generalize (w.setCell ⟨g, 3, none⟩ (.bool true)).setCell ⟨g, 2, none⟩ (.bool true) = w2 at *
    clear k0 k1 k2 k3 k4 k5 k6 l0 l1 l2 l3 l4 l5 l6
    obtain ⟨k0, k1, k2, k3, k4, k5, k6⟩ := seven (StQ.pr HS0.out).row
    have HOW : Hid (w2.ownsRow 0 3 1 (.slice (some ⟨gp, 0, none⟩) (n + 1) cp) (n + 1) (iv q.pa)) := Lib.hid (by
      have e : w2.ownsRow 0 3 1 (.slice (some ⟨gp, 0, none⟩) (n + 1) cp) q.pa.length (iv q.pa) := (StQ.pr HS0.out).pa
      rw [HN.out] at e; exact e)
    have hrow : w2.cell? ⟨gp, n, none⟩ = some (.int .i64 y) := by
      rw [HOW.out.cellAt n (by omega), iv_at HLT.out, HY.out]
    have hfr : w2.frozen? ⟨gp, n, none⟩ = false := HOW.out.frozenAt n
    have hnlt : (n : Int) < (n : Int) + 1 := by omega
    go_still_tail 20, (by kernel_rfl)
    change wpList _ _ _ _ _ w2.drew
    go_wp2
    go_ret
    exact evq0 (HD.out _ _ _ (StQ.drew HS0.out))
  | false =>
    by_cases hi : q.it = 0
    · have ii : (q.it != 0) = false := by simp [hi]
      have HSI := Lib.hid (show (false || decide (q.it ≠ 0)) = false by simp [hi])
      clear hi
      rw [HSI.out]
      clear hs hsi
      have HS0 := Lib.hid (StQ.put (StQ.put (stQ_refl HP.out) HG.out (i := 3) (u := .bool false) (q' := { q with sp := false }) rfl rfl rfl) HG.out (i := 2) (u := .bool true) (q' := { q with sp := false, any := true }) rfl rfl rfl)
      go_enter Try.func31, Try.ntmps31
      go_wp2
      generalize (w.setCell ⟨g, 3, none⟩ (.bool false)).setCell ⟨g, 2, none⟩ (.bool true) = w2 at *
      clear k0 k1 k2 k3 k4 k5 k6 l0 l1 l2 l3 l4 l5 l6
      obtain ⟨k0, k1, k2, k3, k4, k5, k6⟩ := seven (StQ.pr HS0.out).row
      have HOW : Hid (w2.ownsRow 0 3 1 (.slice (some ⟨gp, 0, none⟩) (n + 1) cp) (n + 1) (iv q.pa)) := Lib.hid (by
        have e : w2.ownsRow 0 3 1 (.slice (some ⟨gp, 0, none⟩) (n + 1) cp) q.pa.length (iv q.pa) := (StQ.pr HS0.out).pa
        rw [HN.out] at e; exact e)
      have hrow : w2.cell? ⟨gp, n, none⟩ = some (.int .i64 y) := by
        rw [HOW.out.cellAt n (by omega), iv_at HLT.out, HY.out]
      have hfr : w2.frozen? ⟨gp, n, none⟩ = false := HOW.out.frozenAt n
      have hnlt : (n : Int) < (n : Int) + 1 := by omega
      go_still_tail 20, (by kernel_rfl)
      change wpList _ _ _ _ _ w2.drew
      go_wp2
      go_ret
      exact evq0 (HD.out _ _ _ (StQ.drew HS0.out))
    · have ii : (q.it != 0) = true := by simp [hi]
      have HSI := Lib.hid (show (false || decide (q.it ≠ 0)) = true by simp [hi])
      clear hi
      rw [HSI.out]
      clear hs hsi
      have HS0 := Lib.hid (StQ.put (StQ.put (stQ_refl HP.out) HG.out (i := 3) (u := .bool true) (q' := { q with sp := true }) rfl rfl rfl) HG.out (i := 2) (u := .bool true) (q' := { q with sp := true, any := true }) rfl rfl rfl)
      go_enter Try.func31, Try.ntmps31
      go_wp2
      generalize (w.setCell ⟨g, 3, none⟩ (.bool true)).setCell ⟨g, 2, none⟩ (.bool true) = w2 at *
      clear k0 k1 k2 k3 k4 k5 k6 l0 l1 l2 l3 l4 l5 l6
      obtain ⟨k0, k1, k2, k3, k4, k5, k6⟩ := seven (StQ.pr HS0.out).row
      have HOW : Hid (w2.ownsRow 0 3 1 (.slice (some ⟨gp, 0, none⟩) (n + 1) cp) (n + 1) (iv q.pa)) := Lib.hid (by
        have e : w2.ownsRow 0 3 1 (.slice (some ⟨gp, 0, none⟩) (n + 1) cp) q.pa.length (iv q.pa) := (StQ.pr HS0.out).pa
        rw [HN.out] at e; exact e)
      have hrow : w2.cell? ⟨gp, n, none⟩ = some (.int .i64 y) := by
        rw [HOW.out.cellAt n (by omega), iv_at HLT.out, HY.out]
      have hfr : w2.frozen? ⟨gp, n, none⟩ = false := HOW.out.frozenAt n
      have hnlt : (n : Int) < (n : Int) + 1 := by omega
      go_still_tail 20, (by kernel_rfl)
      change wpList _ _ _ _ _ w2.drew
      go_wp2
      go_ret
      exact evq0 (HD.out _ _ _ (StQ.drew HS0.out))

end Go.Proofs.Ytnaiefjbfpejbaa.Jc
