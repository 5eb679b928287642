/- The document's parser: escape. -/
import Derived.Test.YtnaiefjbfpejbaaIc
set_option linter.unusedVariables false
namespace Go.Proofs.Ytnaiefjbfpejbaa.Iq
open Go Go.RowKit Kit Ep Eb Er Ea Es Et Eu Ev Ek Ew Ex Ey Ia Ib Ic


theorem PrQ.put {w : World} {g i : Nat} {v x : Value} {q q' : Qs} {u : Value} (h : PrQ w g v x q) (hr : (qC v x q).setIfInBounds i u = qC v x q') (h1 : q'.pa = q.pa) (h2 : q'.tx = q.tx) : PrQ (w.setCell ⟨g, i, none⟩ u) g v x q' :=
  ⟨by rw [heap_setCell_same _ g i _ 29 _ h.row, hr], by rw [h1]; exact ownsRow_setCell_other h.pa h.other.1 _, by rw [h2]; exact ownsRow_setCell_other h.tx h.other.2 _⟩
theorem StQ.put {w w' : World} {g i : Nat} {v x v' x' : Value} {q q' : Qs} {u : Value} (h : StQ g v x w q v' x' w') (hg : g < w.heap.size) (hr : (qC v' x' q).setIfInBounds i u = qC v' x' q') (h1 : q'.pa = q.pa) (h2 : q'.tx = q.tx) : StQ g v x w q' v' x' (w'.setCell ⟨g, i, none⟩ u) :=
  ⟨PrQ.put h.1 hr h1 h2, h.2.1.set hg i u, h.2.2.1, h.2.2.2⟩
theorem StQ.alloc {w w' : World} {g : Nat} {v x v' x' : Value} {q : Qs} (h : StQ g v x w q v' x' w') (o : Obj) : StQ g v x w q v' x' (w'.alloc o) := h.trans (stQ_alloc h.pr o)
theorem put0K {w : World} {g : Nat} {v x : Value} {q : Qs} (h : PrQ w g v x q) (m : Int) (n : Nat) (hm : m = (n : Int)) : StQ g v x w { q with st := n } v x (w.setCell ⟨g, 0, none⟩ (.int .i64 m)) := by
  subst hm; exact put0 h n
set_option maxRecDepth 100000 in
set_option maxHeartbeats 8000000 in
theorem esc0 (r : Int) (g : Nat) (v x : Value) (q : Qs) (w : World) (h : PrQ w g v x q) (h0 : r < 32) : Calls Try.prog 29 #[.pointer (some ⟨g, 0, none⟩), .int .i32 r] w (EvQ g v x w (escapeQ q r).1 (escapeQ q r).2) := by
  have HP := Lib.hid h
  have HG := Lib.hid h.lt
  have H1 := Lib.hid (put0K h 1 1 rfl)
  have HZ : Hid (w.heap.size ≤ (w.setCell ⟨g, 0, none⟩ (.int .i64 1)).heap.size) := Lib.hid (by simp)
  obtain ⟨k0, k1, k2, k3, k4, k5, k6⟩ := seven HP.out.row
  obtain ⟨l0, l1, l2, l3, l4, l5, l6⟩ := thawed HP.out.row
  clear h
  unfold escapeQ
  rw [if_pos (show r < 32 by omega)]
  go_enter Try.func29, Try.ntmps29
  go_wp2
  go_ret
  exact evq1 (execE r) rfl (by simp) (Nat.le_refl _) H1.out
set_option maxRecDepth 100000 in
set_option maxHeartbeats 8000000 in
theorem esc1 (r : Int) (g : Nat) (v x : Value) (q : Qs) (w : World) (h : PrQ w g v x q) (h0 : r = 91) : Calls Try.prog 29 #[.pointer (some ⟨g, 0, none⟩), .int .i32 r] w (EvQ g v x w (escapeQ q r).1 (escapeQ q r).2) := by
  have HP := Lib.hid h
  have HG := Lib.hid h.lt
  have H1 := Lib.hid (put0K h 1 1 rfl)
  have HZ : Hid (w.heap.size ≤ (w.setCell ⟨g, 0, none⟩ (.int .i64 1)).heap.size) := Lib.hid (by simp)
  obtain ⟨k0, k1, k2, k3, k4, k5, k6⟩ := seven HP.out.row
  obtain ⟨l0, l1, l2, l3, l4, l5, l6⟩ := thawed HP.out.row
  clear h
  unfold escapeQ
  rw [if_neg (show ¬ r < 32 by omega)]
  rw [if_pos (show r = 91 by omega)]
  subst h0
  go_enter Try.func29, Try.ntmps29
  go_wp2_with (go_at_call 37; (with_reducible refine (beginQ 3 3 g v x { q with st := 1 } (w.setCell ⟨g, 0, none⟩ (.int .i64 1)) rfl H1.out.pr).mono ?_); rintro e w1 ⟨rfl, hs⟩; have HS := Lib.hid (H1.out.trans hs); clear k0 k1 k2 k3 k4 k5 k6 l0 l1 l2 l3 l4 l5 l6; obtain ⟨d0, d1, d2, d3, d4, d5, d6⟩ := seven hs.pr.row; obtain ⟨f0, f1, f2, f3, f4, f5, f6⟩ := thawed hs.pr.row; clear hs)
  go_ret
  exact evq0 HS.out
set_option maxRecDepth 100000 in
set_option maxHeartbeats 8000000 in
theorem esc2 (r : Int) (g : Nat) (v x : Value) (q : Qs) (w : World) (h : PrQ w g v x q) (h0 : r = 93) : Calls Try.prog 29 #[.pointer (some ⟨g, 0, none⟩), .int .i32 r] w (EvQ g v x w (escapeQ q r).1 (escapeQ q r).2) := by
  have HP := Lib.hid h
  have HG := Lib.hid h.lt
  have H1 := Lib.hid (put0K h 1 1 rfl)
  have HZ : Hid (w.heap.size ≤ (w.setCell ⟨g, 0, none⟩ (.int .i64 1)).heap.size) := Lib.hid (by simp)
  obtain ⟨k0, k1, k2, k3, k4, k5, k6⟩ := seven HP.out.row
  obtain ⟨l0, l1, l2, l3, l4, l5, l6⟩ := thawed HP.out.row
  clear h
  unfold escapeQ
  rw [if_neg (show ¬ r < 32 by omega)]
  rw [if_neg (show ¬ r = 91 by omega)]
  rw [if_pos (show r = 93 by omega)]
  subst h0
  go_enter Try.func29, Try.ntmps29
  go_wp2_with (go_at_call 37; (with_reducible refine (beginQ 4 4 g v x { q with st := 1 } (w.setCell ⟨g, 0, none⟩ (.int .i64 1)) rfl H1.out.pr).mono ?_); rintro e w1 ⟨rfl, hs⟩; have HS := Lib.hid (H1.out.trans hs); clear k0 k1 k2 k3 k4 k5 k6 l0 l1 l2 l3 l4 l5 l6; obtain ⟨d0, d1, d2, d3, d4, d5, d6⟩ := seven hs.pr.row; obtain ⟨f0, f1, f2, f3, f4, f5, f6⟩ := thawed hs.pr.row; clear hs)
  go_ret
  exact evq0 HS.out
set_option maxRecDepth 100000 in
set_option maxHeartbeats 8000000 in
theorem esc30 (r : Int) (g : Nat) (v x : Value) (q : Qs) (w : World) (h : PrQ w g v x q) (h0 : r = 80) : Calls Try.prog 29 #[.pointer (some ⟨g, 0, none⟩), .int .i32 r] w (EvQ g v x w (escapeQ q r).1 (escapeQ q r).2) := by
  have HP := Lib.hid h
  have HG := Lib.hid h.lt
  have H1 := Lib.hid (put0K h 1 1 rfl)
  have HZ : Hid (w.heap.size ≤ (w.setCell ⟨g, 0, none⟩ (.int .i64 1)).heap.size) := Lib.hid (by simp)
  obtain ⟨k0, k1, k2, k3, k4, k5, k6⟩ := seven HP.out.row
  obtain ⟨l0, l1, l2, l3, l4, l5, l6⟩ := thawed HP.out.row
  clear h
  unfold escapeQ
  rw [if_neg (show ¬ r < 32 by omega)]
  rw [if_neg (show ¬ r = 91 by omega)]
  rw [if_neg (show ¬ r = 93 by omega)]
  rw [if_pos (show (r = 80 ∨ r = 88 ∨ r = 94 ∨ r = 95) by omega)]
  subst h0
  go_enter Try.func29, Try.ntmps29
  go_wp2_with (go_at_call 37; (with_reducible refine (beginQ 5 5 g v x { q with st := 1 } (w.setCell ⟨g, 0, none⟩ (.int .i64 1)) rfl H1.out.pr).mono ?_); rintro e w1 ⟨rfl, hs⟩; have HS := Lib.hid (H1.out.trans hs); clear k0 k1 k2 k3 k4 k5 k6 l0 l1 l2 l3 l4 l5 l6; obtain ⟨d0, d1, d2, d3, d4, d5, d6⟩ := seven hs.pr.row; obtain ⟨f0, f1, f2, f3, f4, f5, f6⟩ := thawed hs.pr.row; clear hs)
  go_ret
  exact evq0 HS.out
set_option maxRecDepth 100000 in
set_option maxHeartbeats 8000000 in
theorem esc31 (r : Int) (g : Nat) (v x : Value) (q : Qs) (w : World) (h : PrQ w g v x q) (h0 : r = 88) : Calls Try.prog 29 #[.pointer (some ⟨g, 0, none⟩), .int .i32 r] w (EvQ g v x w (escapeQ q r).1 (escapeQ q r).2) := by
  have HP := Lib.hid h
  have HG := Lib.hid h.lt
  have H1 := Lib.hid (put0K h 1 1 rfl)
  have HZ : Hid (w.heap.size ≤ (w.setCell ⟨g, 0, none⟩ (.int .i64 1)).heap.size) := Lib.hid (by simp)
  obtain ⟨k0, k1, k2, k3, k4, k5, k6⟩ := seven HP.out.row
  obtain ⟨l0, l1, l2, l3, l4, l5, l6⟩ := thawed HP.out.row
  clear h
  unfold escapeQ
  rw [if_neg (show ¬ r < 32 by omega)]
  rw [if_neg (show ¬ r = 91 by omega)]
  rw [if_neg (show ¬ r = 93 by omega)]
  rw [if_pos (show (r = 80 ∨ r = 88 ∨ r = 94 ∨ r = 95) by omega)]
  subst h0
  go_enter Try.func29, Try.ntmps29
  go_wp2_with (go_at_call 37; (with_reducible refine (beginQ 5 5 g v x { q with st := 1 } (w.setCell ⟨g, 0, none⟩ (.int .i64 1)) rfl H1.out.pr).mono ?_); rintro e w1 ⟨rfl, hs⟩; have HS := Lib.hid (H1.out.trans hs); clear k0 k1 k2 k3 k4 k5 k6 l0 l1 l2 l3 l4 l5 l6; obtain ⟨d0, d1, d2, d3, d4, d5, d6⟩ := seven hs.pr.row; obtain ⟨f0, f1, f2, f3, f4, f5, f6⟩ := thawed hs.pr.row; clear hs)
  go_ret
  exact evq0 HS.out
set_option maxRecDepth 100000 in
set_option maxHeartbeats 8000000 in
theorem esc32 (r : Int) (g : Nat) (v x : Value) (q : Qs) (w : World) (h : PrQ w g v x q) (h0 : r = 94) : Calls Try.prog 29 #[.pointer (some ⟨g, 0, none⟩), .int .i32 r] w (EvQ g v x w (escapeQ q r).1 (escapeQ q r).2) := by
  have HP := Lib.hid h
  have HG := Lib.hid h.lt
  have H1 := Lib.hid (put0K h 1 1 rfl)
  have HZ : Hid (w.heap.size ≤ (w.setCell ⟨g, 0, none⟩ (.int .i64 1)).heap.size) := Lib.hid (by simp)
  obtain ⟨k0, k1, k2, k3, k4, k5, k6⟩ := seven HP.out.row
  obtain ⟨l0, l1, l2, l3, l4, l5, l6⟩ := thawed HP.out.row
  clear h
  unfold escapeQ
  rw [if_neg (show ¬ r < 32 by omega)]
  rw [if_neg (show ¬ r = 91 by omega)]
  rw [if_neg (show ¬ r = 93 by omega)]
  rw [if_pos (show (r = 80 ∨ r = 88 ∨ r = 94 ∨ r = 95) by omega)]
  subst h0
  go_enter Try.func29, Try.ntmps29
  go_wp2_with (go_at_call 37; (with_reducible refine (beginQ 5 5 g v x { q with st := 1 } (w.setCell ⟨g, 0, none⟩ (.int .i64 1)) rfl H1.out.pr).mono ?_); rintro e w1 ⟨rfl, hs⟩; have HS := Lib.hid (H1.out.trans hs); clear k0 k1 k2 k3 k4 k5 k6 l0 l1 l2 l3 l4 l5 l6; obtain ⟨d0, d1, d2, d3, d4, d5, d6⟩ := seven hs.pr.row; obtain ⟨f0, f1, f2, f3, f4, f5, f6⟩ := thawed hs.pr.row; clear hs)
  go_ret
  exact evq0 HS.out
set_option maxRecDepth 100000 in
set_option maxHeartbeats 8000000 in
theorem esc33 (r : Int) (g : Nat) (v x : Value) (q : Qs) (w : World) (h : PrQ w g v x q) (h0 : r = 95) : Calls Try.prog 29 #[.pointer (some ⟨g, 0, none⟩), .int .i32 r] w (EvQ g v x w (escapeQ q r).1 (escapeQ q r).2) := by
  have HP := Lib.hid h
  have HG := Lib.hid h.lt
  have H1 := Lib.hid (put0K h 1 1 rfl)
  have HZ : Hid (w.heap.size ≤ (w.setCell ⟨g, 0, none⟩ (.int .i64 1)).heap.size) := Lib.hid (by simp)
  obtain ⟨k0, k1, k2, k3, k4, k5, k6⟩ := seven HP.out.row
  obtain ⟨l0, l1, l2, l3, l4, l5, l6⟩ := thawed HP.out.row
  clear h
  unfold escapeQ
  rw [if_neg (show ¬ r < 32 by omega)]
  rw [if_neg (show ¬ r = 91 by omega)]
  rw [if_neg (show ¬ r = 93 by omega)]
  rw [if_pos (show (r = 80 ∨ r = 88 ∨ r = 94 ∨ r = 95) by omega)]
  subst h0
  go_enter Try.func29, Try.ntmps29
  go_wp2_with (go_at_call 37; (with_reducible refine (beginQ 5 5 g v x { q with st := 1 } (w.setCell ⟨g, 0, none⟩ (.int .i64 1)) rfl H1.out.pr).mono ?_); rintro e w1 ⟨rfl, hs⟩; have HS := Lib.hid (H1.out.trans hs); clear k0 k1 k2 k3 k4 k5 k6 l0 l1 l2 l3 l4 l5 l6; obtain ⟨d0, d1, d2, d3, d4, d5, d6⟩ := seven hs.pr.row; obtain ⟨f0, f1, f2, f3, f4, f5, f6⟩ := thawed hs.pr.row; clear hs)
  go_ret
  exact evq0 HS.out
set_option maxRecDepth 100000 in
set_option maxHeartbeats 8000000 in
theorem esc4 (r : Int) (g : Nat) (v x : Value) (q : Qs) (w : World) (h : PrQ w g v x q) (n1 : ¬ r = 80) (n2 : ¬ r = 88) (n3 : ¬ r = 94) (n4 : ¬ r = 95) (m1 : ¬ r = 91) (m2 : ¬ r = 93) (h0 : ¬ r < 32) (h1 : r ≤ 47) : Calls Try.prog 29 #[.pointer (some ⟨g, 0, none⟩), .int .i32 r] w (EvQ g v x w (escapeQ q r).1 (escapeQ q r).2) := by
  have HP := Lib.hid h
  have HG := Lib.hid h.lt
  have H1 := Lib.hid (put0K h 1 1 rfl)
  have HZ : Hid (w.heap.size ≤ (w.setCell ⟨g, 0, none⟩ (.int .i64 1)).heap.size) := Lib.hid (by simp)
  obtain ⟨k0, k1, k2, k3, k4, k5, k6⟩ := seven HP.out.row
  obtain ⟨l0, l1, l2, l3, l4, l5, l6⟩ := thawed HP.out.row
  clear h
  unfold escapeQ
  rw [if_neg (show ¬ r < 32 by omega)]
  rw [if_neg (show ¬ r = 91 by omega)]
  rw [if_neg (show ¬ r = 93 by omega)]
  rw [if_neg (show ¬ (r = 80 ∨ r = 88 ∨ r = 94 ∨ r = 95) by omega)]
  rw [if_pos (show r ≤ 47 by omega)]
  have b1 : (r == 80) = false := by rw [beq_eq_false_iff_ne]; omega
  have b2 : (r == 88) = false := by rw [beq_eq_false_iff_ne]; omega
  have b3 : (r == 94) = false := by rw [beq_eq_false_iff_ne]; omega
  have b4 : (r == 95) = false := by rw [beq_eq_false_iff_ne]; omega
  go_enter Try.func29, Try.ntmps29
  go_wp2_with (go_at_call 37; (with_reducible refine (beginQ 2 2 g v x { q with st := 1 } (w.setCell ⟨g, 0, none⟩ (.int .i64 1)) rfl H1.out.pr).mono ?_); rintro e w1 ⟨rfl, hs⟩; have HS := Lib.hid (H1.out.trans hs); clear k0 k1 k2 k3 k4 k5 k6 l0 l1 l2 l3 l4 l5 l6; obtain ⟨d0, d1, d2, d3, d4, d5, d6⟩ := seven hs.pr.row; obtain ⟨f0, f1, f2, f3, f4, f5, f6⟩ := thawed hs.pr.row; clear hs)
  go_ret
  exact evq0 (StQ.put HS.out HG.out rfl rfl rfl)
set_option maxRecDepth 100000 in
set_option maxHeartbeats 8000000 in
theorem esc5 (r : Int) (g : Nat) (v x : Value) (q : Qs) (w : World) (h : PrQ w g v x q) (n1 : ¬ r = 80) (n2 : ¬ r = 88) (n3 : ¬ r = 94) (n4 : ¬ r = 95) (m1 : ¬ r = 91) (m2 : ¬ r = 93) (h0 : ¬ r < 32) (h1 : ¬ r ≤ 47) (h2 : r ≤ 126) : Calls Try.prog 29 #[.pointer (some ⟨g, 0, none⟩), .int .i32 r] w (EvQ g v x w (escapeQ q r).1 (escapeQ q r).2) := by
  have HP := Lib.hid h
  have HG := Lib.hid h.lt
  have H1 := Lib.hid (put0K h 1 1 rfl)
  have HZ : Hid (w.heap.size ≤ (w.setCell ⟨g, 0, none⟩ (.int .i64 1)).heap.size) := Lib.hid (by simp)
  obtain ⟨k0, k1, k2, k3, k4, k5, k6⟩ := seven HP.out.row
  obtain ⟨l0, l1, l2, l3, l4, l5, l6⟩ := thawed HP.out.row
  clear h
  unfold escapeQ
  rw [if_neg (show ¬ r < 32 by omega)]
  rw [if_neg (show ¬ r = 91 by omega)]
  rw [if_neg (show ¬ r = 93 by omega)]
  rw [if_neg (show ¬ (r = 80 ∨ r = 88 ∨ r = 94 ∨ r = 95) by omega)]
  rw [if_neg (show ¬ r ≤ 47 by omega)]
  rw [if_pos (show r ≤ 126 by omega)]
  have b1 : (r == 80) = false := by rw [beq_eq_false_iff_ne]; omega
  have b2 : (r == 88) = false := by rw [beq_eq_false_iff_ne]; omega
  have b3 : (r == 94) = false := by rw [beq_eq_false_iff_ne]; omega
  have b4 : (r == 95) = false := by rw [beq_eq_false_iff_ne]; omega
  go_enter Try.func29, Try.ntmps29
  go_wp2
  go_ret
  exact evq1 (escE 0 r) rfl (by simp) (Nat.le_refl _) (StQ.put H1.out HG.out (q' := { q with st := 0 }) rfl rfl rfl)
set_option maxRecDepth 100000 in
set_option maxHeartbeats 8000000 in
theorem esc6 (r : Int) (g : Nat) (v x : Value) (q : Qs) (w : World) (h : PrQ w g v x q) (h0 : r = 127) : Calls Try.prog 29 #[.pointer (some ⟨g, 0, none⟩), .int .i32 r] w (EvQ g v x w (escapeQ q r).1 (escapeQ q r).2) := by
  have HP := Lib.hid h
  have HG := Lib.hid h.lt
  have H1 := Lib.hid (put0K h 1 1 rfl)
  have HZ : Hid (w.heap.size ≤ (w.setCell ⟨g, 0, none⟩ (.int .i64 1)).heap.size) := Lib.hid (by simp)
  obtain ⟨k0, k1, k2, k3, k4, k5, k6⟩ := seven HP.out.row
  obtain ⟨l0, l1, l2, l3, l4, l5, l6⟩ := thawed HP.out.row
  clear h
  unfold escapeQ
  rw [if_neg (show ¬ r < 32 by omega)]
  rw [if_neg (show ¬ r = 91 by omega)]
  rw [if_neg (show ¬ r = 93 by omega)]
  rw [if_neg (show ¬ (r = 80 ∨ r = 88 ∨ r = 94 ∨ r = 95) by omega)]
  rw [if_neg (show ¬ r ≤ 47 by omega)]
  rw [if_neg (show ¬ r ≤ 126 by omega)]
  rw [if_pos (show r = 127 by omega)]
  subst h0
  go_enter Try.func29, Try.ntmps29
  go_wp2
  go_ret
  exact evq0 H1.out
set_option maxRecDepth 100000 in
set_option maxHeartbeats 8000000 in
theorem esc7 (r : Int) (g : Nat) (v x : Value) (q : Qs) (w : World) (h : PrQ w g v x q) (h0 : ¬ r ≤ 126) (h1 : ¬ r = 127) : Calls Try.prog 29 #[.pointer (some ⟨g, 0, none⟩), .int .i32 r] w (EvQ g v x w (escapeQ q r).1 (escapeQ q r).2) := by
  have HP := Lib.hid h
  have HG := Lib.hid h.lt
  have H1 := Lib.hid (put0K h 1 1 rfl)
  have HZ : Hid (w.heap.size ≤ (w.setCell ⟨g, 0, none⟩ (.int .i64 1)).heap.size) := Lib.hid (by simp)
  obtain ⟨k0, k1, k2, k3, k4, k5, k6⟩ := seven HP.out.row
  obtain ⟨l0, l1, l2, l3, l4, l5, l6⟩ := thawed HP.out.row
  clear h
  unfold escapeQ
  rw [if_neg (show ¬ r < 32 by omega)]
  rw [if_neg (show ¬ r = 91 by omega)]
  rw [if_neg (show ¬ r = 93 by omega)]
  rw [if_neg (show ¬ (r = 80 ∨ r = 88 ∨ r = 94 ∨ r = 95) by omega)]
  rw [if_neg (show ¬ r ≤ 47 by omega)]
  rw [if_neg (show ¬ r ≤ 126 by omega)]
  rw [if_neg (show ¬ r = 127 by omega)]
  have b1 : (r == 80) = false := by rw [beq_eq_false_iff_ne]; omega
  have b2 : (r == 88) = false := by rw [beq_eq_false_iff_ne]; omega
  have b3 : (r == 94) = false := by rw [beq_eq_false_iff_ne]; omega
  have b4 : (r == 95) = false := by rw [beq_eq_false_iff_ne]; omega
  go_enter Try.func29, Try.ntmps29
  go_wp2
  go_ret
  exact evq0 (StQ.put H1.out HG.out rfl rfl rfl)
theorem escapeC (r : Int) (g : Nat) (v x : Value) (q : Qs) (w : World) (h : PrQ w g v x q) : Calls Try.prog 29 #[.pointer (some ⟨g, 0, none⟩), .int .i32 r] w (EvQ g v x w (escapeQ q r).1 (escapeQ q r).2) := by
  by_cases h0 : r < 32
  · exact esc0 r g v x q w h h0
  by_cases m1 : r = 91
  · exact esc1 r g v x q w h m1
  by_cases m2 : r = 93
  · exact esc2 r g v x q w h m2
  by_cases n1 : r = 80
  · exact esc30 r g v x q w h n1
  by_cases n2 : r = 88
  · exact esc31 r g v x q w h n2
  by_cases n3 : r = 94
  · exact esc32 r g v x q w h n3
  by_cases n4 : r = 95
  · exact esc33 r g v x q w h n4
  by_cases h4 : r ≤ 47
  · exact esc4 r g v x q w h n1 n2 n3 n4 m1 m2 h0 h4
  by_cases h5 : r ≤ 126
  · exact esc5 r g v x q w h n1 n2 n3 n4 m1 m2 h0 h4 h5
  by_cases h6 : r = 127
  · exact esc6 r g v x q w h h6
  · exact esc7 r g v x q w h h5 h6

end Go.Proofs.Ytnaiefjbfpejbaa.Iq
