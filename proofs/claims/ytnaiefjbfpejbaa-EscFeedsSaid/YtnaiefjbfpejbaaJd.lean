/- The document's parser: control, separators, signs of its own. -/
import Derived.Test.YtnaiefjbfpejbaaJc
set_option linter.unusedVariables false
namespace Go.Proofs.Ytnaiefjbfpejbaa.Jd
open Go Go.RowKit Kit Ep Eb Er Ea Es Et Eu Ev Ek Ew Ex Ey Ia Ib Ic Iq Jc


theorem snoc_own1 {w : World} {v : Value} {l : List Int} {n : Nat} (hn : l.length = n) {y : Int} (h : w.ownsRow 0 3 1 v (n + 1) (iv l ++ [.int .i64 y])) : w.ownsRow 0 3 1 v (l ++ [y]).length (iv (l ++ [y])) := by
  subst hn
  have e1 : (l ++ [y]).length = l.length + 1 := by simp
  have e2 : iv (l ++ [y]) = iv l ++ [.int .i64 y] := by simp [iv]
  rw [e1, e2]; exact h
/-- a param more, and its row is the parser's. -/
theorem StQ.param {w w1 w2 : World} {g : Nat} {v x v1 x1 v2 : Value} {q q' : Qs} {l : List Int} (h : StQ g v x w q v1 x1 w1) (h2 : w2.ownsRow 0 3 1 v2 l.length (iv l)) (h3 : w1.grownBy w2 v1.ownBlock) (h4 : New w1 v1 v2) (hg : g < w.heap.size) (hp : q' = { q with pa := l }) : StQ g v x w q' v2 x1 (w2.setCell ⟨g, 1, none⟩ v2) := by
  subst hp
  have hx : v2.ownBlock ≠ some g := fun e => by
    rcases h4 g e with h5 | h5
    · exact h.1.other.1 h5
    · have := h.1.lt; omega
  have hrow : w2.heap[g]? = some (.cells (qC v1 x1 q) 29 (0, 0)) := (h3.block g h.1.lt (fun e => h.1.other.1 e.symm)).trans h.1.row
  refine ⟨⟨?_, ownsRow_setCell_other h2 hx _, ownsRow_setCell_other (own_grown h.1.tx h.1.pa (by decide) h3) h.1.other.2 _⟩, ?_, ?_, h.2.2.2⟩
  · rw [heap_setCell_same _ g 1 _ 29 _ hrow]; rfl
  · refine (Fr.grown (v1 := v1) (x1 := x1) h.2.1 h3 (fun k hk hw => ?_)).set hg 1 v2
    rcases h.2.2.1 k hk with h5 | h5
    · exact .inl h5
    · omega
  · intro k hk
    rcases h4 k hk with h5 | h5
    · exact h.2.2.1 k h5
    · exact .inr (Nat.le_trans h.2.1.size h5)
set_option maxRecDepth 100000 in
set_option maxHeartbeats 8000000 in
theorem ctlSep1 (r : Int) (g : Nat) (v x : Value) (q : Qs) (w : World) (h : PrQ w g v x q) (hne : q.pa ≠ []) (hlen : q.pa.length ≤ 50000) (h3 : r = 59) : Calls Try.prog 31 #[.pointer (some ⟨g, 0, none⟩), .int .i32 r] w (EvQ g v x w (controlQ q r).1 (controlQ q r).2) := by
  subst h3
  have HP := Lib.hid h
  have HG := Lib.hid h.lt
  obtain ⟨n, hn⟩ : ∃ n, q.pa.length = n + 1 := ⟨q.pa.length - 1, by have := List.length_pos_iff.2 hne; omega⟩
  obtain ⟨gp, cp, hv⟩ : ∃ gp cp, v = .slice (some ⟨gp, 0, none⟩) (n + 1) cp := by
    obtain ⟨gp, cp, e⟩ := own_some h.pa (by omega)
    exact ⟨gp, cp, by rw [← hn]; exact e⟩
  subst hv
  have hn6 : n ≤ 60000 := by omega
  have HN := Lib.hid hn
  obtain ⟨k0, k1, k2, k3, k4, k5, k6⟩ := seven HP.out.row
  obtain ⟨l0, l1, l2, l3, l4, l5, l6⟩ := thawed HP.out.row
  have HNN := Lib.hid (show n + 1 + 1 ≤ 100000 by omega)
  clear h hne hlen hn
  unfold controlQ
  rw [if_neg (show ¬ (59 : Int) < 32 by decide)]
  rw [if_neg (show ¬ (59 : Int) ≤ 47 by decide)]
  rw [if_neg (show ¬ (59 : Int) ≤ 57 by decide)]
  rw [if_pos (show (59 : Int) ≤ 59 by decide)]
  obtain ⟨s, hs⟩ : ∃ s, s = q.sp := ⟨_, rfl⟩
  have hsi : spI q = (s || decide (q.it ≠ 0)) := by unfold spI; rw [hs]
  rw [hsi]
  rw [← hs] at k3
  cases s with
  | true =>
    rw [Bool.true_or]
    clear hs hsi
    have HS0 := Lib.hid (StQ.put (StQ.put (stQ_refl HP.out) HG.out (i := 3) (u := .bool true) (q' := { q with sp := true }) rfl rfl rfl) HG.out (i := 2) (u := .bool true) (q' := { q with sp := true, any := true }) rfl rfl rfl)
    have HS1 := Lib.hid (StQ.alloc HS0.out (.cells #[.int .i64 (-1)] 3))
    have HSZ : Hid (w.heap.size = ((w.setCell ⟨g, 3, none⟩ (.bool true)).setCell ⟨g, 2, none⟩ (.bool true)).heap.size) := Lib.hid (by simp)
    have HKL := Lib.hid (show (((w.setCell ⟨g, 3, none⟩ (.bool true)).setCell ⟨g, 2, none⟩ (.bool true)).alloc (.cells #[.int .i64 (-1)] 3)).cell? ⟨w.heap.size, 0, none⟩ = some (.int .i64 (-1)) by rw [HSZ.out, cell_of_row _ _ 0 _ 3 (0, 0) (heap_alloc_last ((w.setCell ⟨g, 3, none⟩ (.bool true)).setCell ⟨g, 2, none⟩ (.bool true)) (.cells #[.int .i64 (-1)] 3))]; rfl)
    have HOW : Hid ((((w.setCell ⟨g, 3, none⟩ (.bool true)).setCell ⟨g, 2, none⟩ (.bool true)).alloc (.cells #[.int .i64 (-1)] 3)).ownsRow 0 3 1 (.slice (some ⟨gp, 0, none⟩) (n + 1) cp) (n + 1) (iv q.pa)) := Lib.hid (by have e := (StQ.pr HS1.out).pa; rw [HN.out] at e; exact e)
    go_enter Try.func31, Try.ntmps31
    go_wp2_with (at_builtin; (refine app_one rfl _ _ rfl info3 Try.underlying23 rfl (by decide) (.slice (some ⟨gp, 0, none⟩) (n + 1) cp) (n + 1) (iv q.pa) rfl HOW.out w.heap.size rfl HKL.out rfl HNN.out ?_; intro v4 w4 o4 b4 n4; obtain ⟨na, nc, rfl⟩ := own_slice o4; have HS4 := Lib.hid (StQ.param (l := q.pa ++ [-1]) (q' := { q with sp := true, any := true, pa := q.pa ++ [-1] }) HS1.out (snoc_own1 HN.out o4) b4 n4 HG.out rfl); have HG4 := Lib.hid ((b4.block _ (StQ.pr HS1.out).lt (fun e => (StQ.pr HS1.out).other.1 e.symm)).trans (StQ.pr HS1.out).row); clear k0 k1 k2 k3 k4 k5 k6 l0 l1 l2 l3 l4 l5 l6; obtain ⟨k0, k1, k2, k3, k4, k5, k6⟩ := seven HG4.out; obtain ⟨l0, l1, l2, l3, l4, l5, l6⟩ := thawed HG4.out; clear o4 b4 n4))
    go_ret
    exact evq0 HS4.out
  | false =>
    by_cases hi : q.it = 0
    · have ii : (q.it != 0) = false := by simp [hi]
      have HSI := Lib.hid (show (false || decide (q.it ≠ 0)) = false by simp [hi])
      clear hi
      rw [HSI.out]
      clear hs hsi
      have HS0 := Lib.hid (StQ.put (StQ.put (stQ_refl HP.out) HG.out (i := 3) (u := .bool false) (q' := { q with sp := false }) rfl rfl rfl) HG.out (i := 2) (u := .bool true) (q' := { q with sp := false, any := true }) rfl rfl rfl)
      have HS1 := Lib.hid (StQ.alloc HS0.out (.cells #[.int .i64 (-1)] 3))
      have HSZ : Hid (w.heap.size = ((w.setCell ⟨g, 3, none⟩ (.bool false)).setCell ⟨g, 2, none⟩ (.bool true)).heap.size) := Lib.hid (by simp)
      have HKL := Lib.hid (show (((w.setCell ⟨g, 3, none⟩ (.bool false)).setCell ⟨g, 2, none⟩ (.bool true)).alloc (.cells #[.int .i64 (-1)] 3)).cell? ⟨w.heap.size, 0, none⟩ = some (.int .i64 (-1)) by rw [HSZ.out, cell_of_row _ _ 0 _ 3 (0, 0) (heap_alloc_last ((w.setCell ⟨g, 3, none⟩ (.bool false)).setCell ⟨g, 2, none⟩ (.bool true)) (.cells #[.int .i64 (-1)] 3))]; rfl)
      have HOW : Hid ((((w.setCell ⟨g, 3, none⟩ (.bool false)).setCell ⟨g, 2, none⟩ (.bool true)).alloc (.cells #[.int .i64 (-1)] 3)).ownsRow 0 3 1 (.slice (some ⟨gp, 0, none⟩) (n + 1) cp) (n + 1) (iv q.pa)) := Lib.hid (by have e := (StQ.pr HS1.out).pa; rw [HN.out] at e; exact e)
      go_enter Try.func31, Try.ntmps31
      go_wp2_with (at_builtin; (refine app_one rfl _ _ rfl info3 Try.underlying23 rfl (by decide) (.slice (some ⟨gp, 0, none⟩) (n + 1) cp) (n + 1) (iv q.pa) rfl HOW.out w.heap.size rfl HKL.out rfl HNN.out ?_; intro v4 w4 o4 b4 n4; obtain ⟨na, nc, rfl⟩ := own_slice o4; have HS4 := Lib.hid (StQ.param (l := q.pa ++ [-1]) (q' := { q with sp := false, any := true, pa := q.pa ++ [-1] }) HS1.out (snoc_own1 HN.out o4) b4 n4 HG.out rfl); have HG4 := Lib.hid ((b4.block _ (StQ.pr HS1.out).lt (fun e => (StQ.pr HS1.out).other.1 e.symm)).trans (StQ.pr HS1.out).row); clear k0 k1 k2 k3 k4 k5 k6 l0 l1 l2 l3 l4 l5 l6; obtain ⟨k0, k1, k2, k3, k4, k5, k6⟩ := seven HG4.out; obtain ⟨l0, l1, l2, l3, l4, l5, l6⟩ := thawed HG4.out; clear o4 b4 n4))
      go_ret
      exact evq0 HS4.out
    · have ii : (q.it != 0) = true := by simp [hi]
      have HSI := Lib.hid (show (false || decide (q.it ≠ 0)) = true by simp [hi])
      clear hi
      rw [HSI.out]
      clear hs hsi
      have HS0 := Lib.hid (StQ.put (StQ.put (stQ_refl HP.out) HG.out (i := 3) (u := .bool true) (q' := { q with sp := true }) rfl rfl rfl) HG.out (i := 2) (u := .bool true) (q' := { q with sp := true, any := true }) rfl rfl rfl)
      have HS1 := Lib.hid (StQ.alloc HS0.out (.cells #[.int .i64 (-1)] 3))
      have HSZ : Hid (w.heap.size = ((w.setCell ⟨g, 3, none⟩ (.bool true)).setCell ⟨g, 2, none⟩ (.bool true)).heap.size) := Lib.hid (by simp)
      have HKL := Lib.hid (show (((w.setCell ⟨g, 3, none⟩ (.bool true)).setCell ⟨g, 2, none⟩ (.bool true)).alloc (.cells #[.int .i64 (-1)] 3)).cell? ⟨w.heap.size, 0, none⟩ = some (.int .i64 (-1)) by rw [HSZ.out, cell_of_row _ _ 0 _ 3 (0, 0) (heap_alloc_last ((w.setCell ⟨g, 3, none⟩ (.bool true)).setCell ⟨g, 2, none⟩ (.bool true)) (.cells #[.int .i64 (-1)] 3))]; rfl)
      have HOW : Hid ((((w.setCell ⟨g, 3, none⟩ (.bool true)).setCell ⟨g, 2, none⟩ (.bool true)).alloc (.cells #[.int .i64 (-1)] 3)).ownsRow 0 3 1 (.slice (some ⟨gp, 0, none⟩) (n + 1) cp) (n + 1) (iv q.pa)) := Lib.hid (by have e := (StQ.pr HS1.out).pa; rw [HN.out] at e; exact e)
      go_enter Try.func31, Try.ntmps31
      go_wp2_with (at_builtin; (refine app_one rfl _ _ rfl info3 Try.underlying23 rfl (by decide) (.slice (some ⟨gp, 0, none⟩) (n + 1) cp) (n + 1) (iv q.pa) rfl HOW.out w.heap.size rfl HKL.out rfl HNN.out ?_; intro v4 w4 o4 b4 n4; obtain ⟨na, nc, rfl⟩ := own_slice o4; have HS4 := Lib.hid (StQ.param (l := q.pa ++ [-1]) (q' := { q with sp := true, any := true, pa := q.pa ++ [-1] }) HS1.out (snoc_own1 HN.out o4) b4 n4 HG.out rfl); have HG4 := Lib.hid ((b4.block _ (StQ.pr HS1.out).lt (fun e => (StQ.pr HS1.out).other.1 e.symm)).trans (StQ.pr HS1.out).row); clear k0 k1 k2 k3 k4 k5 k6 l0 l1 l2 l3 l4 l5 l6; obtain ⟨k0, k1, k2, k3, k4, k5, k6⟩ := seven HG4.out; obtain ⟨l0, l1, l2, l3, l4, l5, l6⟩ := thawed HG4.out; clear o4 b4 n4))
      go_ret
      exact evq0 HS4.out
set_option maxRecDepth 100000 in
set_option maxHeartbeats 8000000 in
theorem ctlSep2 (r : Int) (g : Nat) (v x : Value) (q : Qs) (w : World) (h : PrQ w g v x q) (hne : q.pa ≠ []) (hlen : q.pa.length ≤ 50000) (h3 : r = 58) : Calls Try.prog 31 #[.pointer (some ⟨g, 0, none⟩), .int .i32 r] w (EvQ g v x w (controlQ q r).1 (controlQ q r).2) := by
  subst h3
  have HP := Lib.hid h
  have HG := Lib.hid h.lt
  obtain ⟨n, hn⟩ : ∃ n, q.pa.length = n + 1 := ⟨q.pa.length - 1, by have := List.length_pos_iff.2 hne; omega⟩
  obtain ⟨gp, cp, hv⟩ : ∃ gp cp, v = .slice (some ⟨gp, 0, none⟩) (n + 1) cp := by
    obtain ⟨gp, cp, e⟩ := own_some h.pa (by omega)
    exact ⟨gp, cp, by rw [← hn]; exact e⟩
  subst hv
  have hn6 : n ≤ 60000 := by omega
  have HN := Lib.hid hn
  obtain ⟨k0, k1, k2, k3, k4, k5, k6⟩ := seven HP.out.row
  obtain ⟨l0, l1, l2, l3, l4, l5, l6⟩ := thawed HP.out.row
  have HNN := Lib.hid (show n + 1 + 1 ≤ 100000 by omega)
  clear h hne hlen hn
  unfold controlQ
  rw [if_neg (show ¬ (58 : Int) < 32 by decide)]
  rw [if_neg (show ¬ (58 : Int) ≤ 47 by decide)]
  rw [if_neg (show ¬ (58 : Int) ≤ 57 by decide)]
  rw [if_pos (show (58 : Int) ≤ 59 by decide)]
  obtain ⟨s, hs⟩ : ∃ s, s = q.sp := ⟨_, rfl⟩
  have hsi : spI q = (s || decide (q.it ≠ 0)) := by unfold spI; rw [hs]
  rw [hsi]
  rw [← hs] at k3
  cases s with
  | true =>
    rw [Bool.true_or]
    clear hs hsi
    have HS0 := Lib.hid (StQ.put (StQ.put (stQ_refl HP.out) HG.out (i := 3) (u := .bool true) (q' := { q with sp := true }) rfl rfl rfl) HG.out (i := 2) (u := .bool true) (q' := { q with sp := true, any := true }) rfl rfl rfl)
    have HS1 := Lib.hid (StQ.alloc HS0.out (.cells #[.int .i64 (-1)] 3))
    have HSZ : Hid (w.heap.size = ((w.setCell ⟨g, 3, none⟩ (.bool true)).setCell ⟨g, 2, none⟩ (.bool true)).heap.size) := Lib.hid (by simp)
    have HKL := Lib.hid (show (((w.setCell ⟨g, 3, none⟩ (.bool true)).setCell ⟨g, 2, none⟩ (.bool true)).alloc (.cells #[.int .i64 (-1)] 3)).cell? ⟨w.heap.size, 0, none⟩ = some (.int .i64 (-1)) by rw [HSZ.out, cell_of_row _ _ 0 _ 3 (0, 0) (heap_alloc_last ((w.setCell ⟨g, 3, none⟩ (.bool true)).setCell ⟨g, 2, none⟩ (.bool true)) (.cells #[.int .i64 (-1)] 3))]; rfl)
    have HOW : Hid ((((w.setCell ⟨g, 3, none⟩ (.bool true)).setCell ⟨g, 2, none⟩ (.bool true)).alloc (.cells #[.int .i64 (-1)] 3)).ownsRow 0 3 1 (.slice (some ⟨gp, 0, none⟩) (n + 1) cp) (n + 1) (iv q.pa)) := Lib.hid (by have e := (StQ.pr HS1.out).pa; rw [HN.out] at e; exact e)
    go_enter Try.func31, Try.ntmps31
    go_wp2_with (at_builtin; (refine app_one rfl _ _ rfl info3 Try.underlying23 rfl (by decide) (.slice (some ⟨gp, 0, none⟩) (n + 1) cp) (n + 1) (iv q.pa) rfl HOW.out w.heap.size rfl HKL.out rfl HNN.out ?_; intro v4 w4 o4 b4 n4; obtain ⟨na, nc, rfl⟩ := own_slice o4; have HS4 := Lib.hid (StQ.param (l := q.pa ++ [-1]) (q' := { q with sp := true, any := true, pa := q.pa ++ [-1] }) HS1.out (snoc_own1 HN.out o4) b4 n4 HG.out rfl); have HG4 := Lib.hid ((b4.block _ (StQ.pr HS1.out).lt (fun e => (StQ.pr HS1.out).other.1 e.symm)).trans (StQ.pr HS1.out).row); clear k0 k1 k2 k3 k4 k5 k6 l0 l1 l2 l3 l4 l5 l6; obtain ⟨k0, k1, k2, k3, k4, k5, k6⟩ := seven HG4.out; obtain ⟨l0, l1, l2, l3, l4, l5, l6⟩ := thawed HG4.out; clear o4 b4 n4))
    go_ret
    exact evq0 HS4.out
  | false =>
    by_cases hi : q.it = 0
    · have ii : (q.it != 0) = false := by simp [hi]
      have HSI := Lib.hid (show (false || decide (q.it ≠ 0)) = false by simp [hi])
      clear hi
      rw [HSI.out]
      clear hs hsi
      have HS0 := Lib.hid (StQ.put (StQ.put (stQ_refl HP.out) HG.out (i := 3) (u := .bool false) (q' := { q with sp := false }) rfl rfl rfl) HG.out (i := 2) (u := .bool true) (q' := { q with sp := false, any := true }) rfl rfl rfl)
      have HS1 := Lib.hid (StQ.alloc HS0.out (.cells #[.int .i64 (-1)] 3))
      have HSZ : Hid (w.heap.size = ((w.setCell ⟨g, 3, none⟩ (.bool false)).setCell ⟨g, 2, none⟩ (.bool true)).heap.size) := Lib.hid (by simp)
      have HKL := Lib.hid (show (((w.setCell ⟨g, 3, none⟩ (.bool false)).setCell ⟨g, 2, none⟩ (.bool true)).alloc (.cells #[.int .i64 (-1)] 3)).cell? ⟨w.heap.size, 0, none⟩ = some (.int .i64 (-1)) by rw [HSZ.out, cell_of_row _ _ 0 _ 3 (0, 0) (heap_alloc_last ((w.setCell ⟨g, 3, none⟩ (.bool false)).setCell ⟨g, 2, none⟩ (.bool true)) (.cells #[.int .i64 (-1)] 3))]; rfl)
      have HOW : Hid ((((w.setCell ⟨g, 3, none⟩ (.bool false)).setCell ⟨g, 2, none⟩ (.bool true)).alloc (.cells #[.int .i64 (-1)] 3)).ownsRow 0 3 1 (.slice (some ⟨gp, 0, none⟩) (n + 1) cp) (n + 1) (iv q.pa)) := Lib.hid (by have e := (StQ.pr HS1.out).pa; rw [HN.out] at e; exact e)
      go_enter Try.func31, Try.ntmps31
      go_wp2_with (at_builtin; (refine app_one rfl _ _ rfl info3 Try.underlying23 rfl (by decide) (.slice (some ⟨gp, 0, none⟩) (n + 1) cp) (n + 1) (iv q.pa) rfl HOW.out w.heap.size rfl HKL.out rfl HNN.out ?_; intro v4 w4 o4 b4 n4; obtain ⟨na, nc, rfl⟩ := own_slice o4; have HS4 := Lib.hid (StQ.param (l := q.pa ++ [-1]) (q' := { q with sp := false, any := true, pa := q.pa ++ [-1] }) HS1.out (snoc_own1 HN.out o4) b4 n4 HG.out rfl); have HG4 := Lib.hid ((b4.block _ (StQ.pr HS1.out).lt (fun e => (StQ.pr HS1.out).other.1 e.symm)).trans (StQ.pr HS1.out).row); clear k0 k1 k2 k3 k4 k5 k6 l0 l1 l2 l3 l4 l5 l6; obtain ⟨k0, k1, k2, k3, k4, k5, k6⟩ := seven HG4.out; obtain ⟨l0, l1, l2, l3, l4, l5, l6⟩ := thawed HG4.out; clear o4 b4 n4))
      go_ret
      exact evq0 HS4.out
    · have ii : (q.it != 0) = true := by simp [hi]
      have HSI := Lib.hid (show (false || decide (q.it ≠ 0)) = true by simp [hi])
      clear hi
      rw [HSI.out]
      clear hs hsi
      have HS0 := Lib.hid (StQ.put (StQ.put (stQ_refl HP.out) HG.out (i := 3) (u := .bool true) (q' := { q with sp := true }) rfl rfl rfl) HG.out (i := 2) (u := .bool true) (q' := { q with sp := true, any := true }) rfl rfl rfl)
      have HS1 := Lib.hid (StQ.alloc HS0.out (.cells #[.int .i64 (-1)] 3))
      have HSZ : Hid (w.heap.size = ((w.setCell ⟨g, 3, none⟩ (.bool true)).setCell ⟨g, 2, none⟩ (.bool true)).heap.size) := Lib.hid (by simp)
      have HKL := Lib.hid (show (((w.setCell ⟨g, 3, none⟩ (.bool true)).setCell ⟨g, 2, none⟩ (.bool true)).alloc (.cells #[.int .i64 (-1)] 3)).cell? ⟨w.heap.size, 0, none⟩ = some (.int .i64 (-1)) by rw [HSZ.out, cell_of_row _ _ 0 _ 3 (0, 0) (heap_alloc_last ((w.setCell ⟨g, 3, none⟩ (.bool true)).setCell ⟨g, 2, none⟩ (.bool true)) (.cells #[.int .i64 (-1)] 3))]; rfl)
      have HOW : Hid ((((w.setCell ⟨g, 3, none⟩ (.bool true)).setCell ⟨g, 2, none⟩ (.bool true)).alloc (.cells #[.int .i64 (-1)] 3)).ownsRow 0 3 1 (.slice (some ⟨gp, 0, none⟩) (n + 1) cp) (n + 1) (iv q.pa)) := Lib.hid (by have e := (StQ.pr HS1.out).pa; rw [HN.out] at e; exact e)
      go_enter Try.func31, Try.ntmps31
      go_wp2_with (at_builtin; (refine app_one rfl _ _ rfl info3 Try.underlying23 rfl (by decide) (.slice (some ⟨gp, 0, none⟩) (n + 1) cp) (n + 1) (iv q.pa) rfl HOW.out w.heap.size rfl HKL.out rfl HNN.out ?_; intro v4 w4 o4 b4 n4; obtain ⟨na, nc, rfl⟩ := own_slice o4; have HS4 := Lib.hid (StQ.param (l := q.pa ++ [-1]) (q' := { q with sp := true, any := true, pa := q.pa ++ [-1] }) HS1.out (snoc_own1 HN.out o4) b4 n4 HG.out rfl); have HG4 := Lib.hid ((b4.block _ (StQ.pr HS1.out).lt (fun e => (StQ.pr HS1.out).other.1 e.symm)).trans (StQ.pr HS1.out).row); clear k0 k1 k2 k3 k4 k5 k6 l0 l1 l2 l3 l4 l5 l6; obtain ⟨k0, k1, k2, k3, k4, k5, k6⟩ := seven HG4.out; obtain ⟨l0, l1, l2, l3, l4, l5, l6⟩ := thawed HG4.out; clear o4 b4 n4))
      go_ret
      exact evq0 HS4.out
/-- what spoils a private sign. -/
def pvB (q : Qs) : Bool := q.sp || q.any || decide (q.pv ≠ 0) || decide (q.it ≠ 0)
set_option maxRecDepth 100000 in
set_option maxHeartbeats 8000000 in
theorem ctlPriv (r : Int) (g : Nat) (v x : Value) (q : Qs) (w : World) (h : PrQ w g v x q) (hne : q.pa ≠ []) (hlen : q.pa.length ≤ 50000) (h0 : ¬ r ≤ 59) (h1 : r ≤ 63) : Calls Try.prog 31 #[.pointer (some ⟨g, 0, none⟩), .int .i32 r] w (EvQ g v x w (controlQ q r).1 (controlQ q r).2) := by
  have HP := Lib.hid h
  have HG := Lib.hid h.lt
  obtain ⟨n, hn⟩ : ∃ n, q.pa.length = n + 1 := ⟨q.pa.length - 1, by have := List.length_pos_iff.2 hne; omega⟩
  obtain ⟨gp, cp, hv⟩ : ∃ gp cp, v = .slice (some ⟨gp, 0, none⟩) (n + 1) cp := by
    obtain ⟨gp, cp, e⟩ := own_some h.pa (by omega)
    exact ⟨gp, cp, by rw [← hn]; exact e⟩
  subst hv
  have hn6 : n ≤ 60000 := by omega
  have HN := Lib.hid hn
  obtain ⟨k0, k1, k2, k3, k4, k5, k6⟩ := seven HP.out.row
  obtain ⟨l0, l1, l2, l3, l4, l5, l6⟩ := thawed HP.out.row
  clear h hne hlen hn
  have f32 : ¬ r < 32 := by omega
  have f47 : ¬ r ≤ 47 := by omega
  have f57 : ¬ r ≤ 57 := by omega
  have b59 : (r == 59) = false := by rw [beq_eq_false_iff_ne]; omega
  have b58 : (r == 58) = false := by rw [beq_eq_false_iff_ne]; omega
  unfold controlQ
  rw [if_neg (show ¬ r < 32 by omega)]
  rw [if_neg (show ¬ r ≤ 47 by omega)]
  rw [if_neg (show ¬ r ≤ 57 by omega)]
  rw [if_neg (show ¬ r ≤ 59 by omega)]
  rw [if_pos (show r ≤ 63 by omega)]
  show Calls Try.prog 31 _ w (EvQ g _ x w { q with sp := pvB q, pv := r } [])
  obtain ⟨s, hs⟩ : ∃ s, s = q.sp := ⟨_, rfl⟩
  obtain ⟨a, ha⟩ : ∃ a, a = q.any := ⟨_, rfl⟩
  rw [← hs] at k3
  rw [← ha] at k2
  have HB : Hid (pvB q = (s || a || decide (q.pv ≠ 0) || decide (q.it ≠ 0))) := Lib.hid (by unfold pvB; rw [hs, ha])
  clear hs ha
  by_cases hp : q.pv = 0
  · have ip : (q.pv != 0) = false := by simp [hp]
    by_cases hi : q.it = 0
    · have ii : (q.it != 0) = false := by simp [hi]
      cases s
      · cases a
        · have HX : Hid (pvB q = false) := Lib.hid (by rw [HB.out]; simp [hp, hi])
          rw [HX.out]
          clear HB hp hi
          go_enter Try.func31, Try.ntmps31
          go_wp2
          go_ret
          exact evq0 (StQ.put (StQ.put (stQ_refl HP.out) HG.out (q' := { q with sp := false }) rfl rfl rfl) HG.out rfl rfl rfl)
        · have HX : Hid (pvB q = true) := Lib.hid (by rw [HB.out]; simp [hp, hi])
          rw [HX.out]
          clear HB hp hi
          go_enter Try.func31, Try.ntmps31
          go_wp2
          go_ret
          exact evq0 (StQ.put (StQ.put (stQ_refl HP.out) HG.out (q' := { q with sp := true }) rfl rfl rfl) HG.out rfl rfl rfl)
      · cases a
        · have HX : Hid (pvB q = true) := Lib.hid (by rw [HB.out]; simp [hp, hi])
          rw [HX.out]
          clear HB hp hi
          go_enter Try.func31, Try.ntmps31
          go_wp2
          go_ret
          exact evq0 (StQ.put (StQ.put (stQ_refl HP.out) HG.out (q' := { q with sp := true }) rfl rfl rfl) HG.out rfl rfl rfl)
        · have HX : Hid (pvB q = true) := Lib.hid (by rw [HB.out]; simp [hp, hi])
          rw [HX.out]
          clear HB hp hi
          go_enter Try.func31, Try.ntmps31
          go_wp2
          go_ret
          exact evq0 (StQ.put (StQ.put (stQ_refl HP.out) HG.out (q' := { q with sp := true }) rfl rfl rfl) HG.out rfl rfl rfl)
    · have ii : (q.it != 0) = true := by simp [hi]
      cases s
      · cases a
        · have HX : Hid (pvB q = true) := Lib.hid (by rw [HB.out]; simp [hp, hi])
          rw [HX.out]
          clear HB hp hi
          go_enter Try.func31, Try.ntmps31
          go_wp2
          go_ret
          exact evq0 (StQ.put (StQ.put (stQ_refl HP.out) HG.out (q' := { q with sp := true }) rfl rfl rfl) HG.out rfl rfl rfl)
        · have HX : Hid (pvB q = true) := Lib.hid (by rw [HB.out]; simp [hp, hi])
          rw [HX.out]
          clear HB hp hi
          go_enter Try.func31, Try.ntmps31
          go_wp2
          go_ret
          exact evq0 (StQ.put (StQ.put (stQ_refl HP.out) HG.out (q' := { q with sp := true }) rfl rfl rfl) HG.out rfl rfl rfl)
      · cases a
        · have HX : Hid (pvB q = true) := Lib.hid (by rw [HB.out]; simp [hp, hi])
          rw [HX.out]
          clear HB hp hi
          go_enter Try.func31, Try.ntmps31
          go_wp2
          go_ret
          exact evq0 (StQ.put (StQ.put (stQ_refl HP.out) HG.out (q' := { q with sp := true }) rfl rfl rfl) HG.out rfl rfl rfl)
        · have HX : Hid (pvB q = true) := Lib.hid (by rw [HB.out]; simp [hp, hi])
          rw [HX.out]
          clear HB hp hi
          go_enter Try.func31, Try.ntmps31
          go_wp2
          go_ret
          exact evq0 (StQ.put (StQ.put (stQ_refl HP.out) HG.out (q' := { q with sp := true }) rfl rfl rfl) HG.out rfl rfl rfl)
  · have ip : (q.pv != 0) = true := by simp [hp]
    by_cases hi : q.it = 0
    · have ii : (q.it != 0) = false := by simp [hi]
      cases s
      · cases a
        · have HX : Hid (pvB q = true) := Lib.hid (by rw [HB.out]; simp [hp, hi])
          rw [HX.out]
          clear HB hp hi
          go_enter Try.func31, Try.ntmps31
          go_wp2
          go_ret
          exact evq0 (StQ.put (StQ.put (stQ_refl HP.out) HG.out (q' := { q with sp := true }) rfl rfl rfl) HG.out rfl rfl rfl)
        · have HX : Hid (pvB q = true) := Lib.hid (by rw [HB.out]; simp [hp, hi])
          rw [HX.out]
          clear HB hp hi
          go_enter Try.func31, Try.ntmps31
          go_wp2
          go_ret
          exact evq0 (StQ.put (StQ.put (stQ_refl HP.out) HG.out (q' := { q with sp := true }) rfl rfl rfl) HG.out rfl rfl rfl)
      · cases a
        · have HX : Hid (pvB q = true) := Lib.hid (by rw [HB.out]; simp [hp, hi])
          rw [HX.out]
          clear HB hp hi
          go_enter Try.func31, Try.ntmps31
          go_wp2
          go_ret
          exact evq0 (StQ.put (StQ.put (stQ_refl HP.out) HG.out (q' := { q with sp := true }) rfl rfl rfl) HG.out rfl rfl rfl)
        · have HX : Hid (pvB q = true) := Lib.hid (by rw [HB.out]; simp [hp, hi])
          rw [HX.out]
          clear HB hp hi
          go_enter Try.func31, Try.ntmps31
          go_wp2
          go_ret
          exact evq0 (StQ.put (StQ.put (stQ_refl HP.out) HG.out (q' := { q with sp := true }) rfl rfl rfl) HG.out rfl rfl rfl)
    · have ii : (q.it != 0) = true := by simp [hi]
      cases s
      · cases a
        · have HX : Hid (pvB q = true) := Lib.hid (by rw [HB.out]; simp [hp, hi])
          rw [HX.out]
          clear HB hp hi
          go_enter Try.func31, Try.ntmps31
          go_wp2
          go_ret
          exact evq0 (StQ.put (StQ.put (stQ_refl HP.out) HG.out (q' := { q with sp := true }) rfl rfl rfl) HG.out rfl rfl rfl)
        · have HX : Hid (pvB q = true) := Lib.hid (by rw [HB.out]; simp [hp, hi])
          rw [HX.out]
          clear HB hp hi
          go_enter Try.func31, Try.ntmps31
          go_wp2
          go_ret
          exact evq0 (StQ.put (StQ.put (stQ_refl HP.out) HG.out (q' := { q with sp := true }) rfl rfl rfl) HG.out rfl rfl rfl)
      · cases a
        · have HX : Hid (pvB q = true) := Lib.hid (by rw [HB.out]; simp [hp, hi])
          rw [HX.out]
          clear HB hp hi
          go_enter Try.func31, Try.ntmps31
          go_wp2
          go_ret
          exact evq0 (StQ.put (StQ.put (stQ_refl HP.out) HG.out (q' := { q with sp := true }) rfl rfl rfl) HG.out rfl rfl rfl)
        · have HX : Hid (pvB q = true) := Lib.hid (by rw [HB.out]; simp [hp, hi])
          rw [HX.out]
          clear HB hp hi
          go_enter Try.func31, Try.ntmps31
          go_wp2
          go_ret
          exact evq0 (StQ.put (StQ.put (stQ_refl HP.out) HG.out (q' := { q with sp := true }) rfl rfl rfl) HG.out rfl rfl rfl)
set_option maxRecDepth 100000 in
set_option maxHeartbeats 8000000 in
theorem ctlRest (r : Int) (g : Nat) (v x : Value) (q : Qs) (w : World) (h : PrQ w g v x q) (hne : q.pa ≠ []) (hlen : q.pa.length ≤ 50000) (h0 : ¬ r ≤ 126) : Calls Try.prog 31 #[.pointer (some ⟨g, 0, none⟩), .int .i32 r] w (EvQ g v x w (controlQ q r).1 (controlQ q r).2) := by
  have HP := Lib.hid h
  have HG := Lib.hid h.lt
  obtain ⟨n, hn⟩ : ∃ n, q.pa.length = n + 1 := ⟨q.pa.length - 1, by have := List.length_pos_iff.2 hne; omega⟩
  obtain ⟨gp, cp, hv⟩ : ∃ gp cp, v = .slice (some ⟨gp, 0, none⟩) (n + 1) cp := by
    obtain ⟨gp, cp, e⟩ := own_some h.pa (by omega)
    exact ⟨gp, cp, by rw [← hn]; exact e⟩
  subst hv
  have hn6 : n ≤ 60000 := by omega
  have HN := Lib.hid hn
  obtain ⟨k0, k1, k2, k3, k4, k5, k6⟩ := seven HP.out.row
  obtain ⟨l0, l1, l2, l3, l4, l5, l6⟩ := thawed HP.out.row
  clear h hne hlen hn
  have f32 : ¬ r < 32 := by omega
  have f47 : ¬ r ≤ 47 := by omega
  have f57 : ¬ r ≤ 57 := by omega
  have b59 : (r == 59) = false := by rw [beq_eq_false_iff_ne]; omega
  have b58 : (r == 58) = false := by rw [beq_eq_false_iff_ne]; omega
  have f63 : ¬ r ≤ 63 := by omega
  unfold controlQ
  rw [if_neg (show ¬ r < 32 by omega)]
  rw [if_neg (show ¬ r ≤ 47 by omega)]
  rw [if_neg (show ¬ r ≤ 57 by omega)]
  rw [if_neg (show ¬ r ≤ 59 by omega)]
  rw [if_neg (show ¬ r ≤ 63 by omega)]
  rw [if_neg (show ¬ r ≤ 126 by omega)]
  by_cases h3 : r = 127
  · rw [if_pos h3]
    subst h3
    go_enter Try.func31, Try.ntmps31
    go_wp2
    go_ret
    exact evq0 (stQ_refl HP.out)
  · rw [if_neg h3]
    go_enter Try.func31, Try.ntmps31
    go_wp2
    go_ret
    exact evq0 (put0 HP.out 0)

end Go.Proofs.Ytnaiefjbfpejbaa.Jd
