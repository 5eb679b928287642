/- The document's parser: control, its end. -/
import Derived.Test.YtnaiefjbfpejbaaJc
import Derived.Test.YtnaiefjbfpejbaaJt
import Derived.Test.YtnaiefjbfpejbaaJd
import Derived.RegionTactic
import Derived.Deep.RegionHeld3
set_option linter.unusedVariables false
namespace Go.Proofs.Ytnaiefjbfpejbaa.Jz
open Go Go.RowKit Kit Ep Eb Er Ea Es Et Eu Ev Ek Ew Ex Ey Ia Ib Ic Iq Jc Jt Jd


theorem own_row_ne {w : World} {g K : Nat} {v x : Value} {q : Qs} {cs : Array Value} (h : PrQ w g v x q) (hk : w.heap[K]? = some (.cells cs 50 (0, 0))) : g ≠ K := by
  rintro rfl
  rw [h.row] at hk
  injection hk with hk; injection hk with _ h1; exact absurd h1 (by decide)
theorem alloc_size {w : World} {k : Nat} (e : w.heap.size = k) (cs : Array Value) (t : TypeId) : (w.alloc (.cells cs t)).heap[k]? = some (.cells cs t (0, 0)) := by
  subst e; exact heap_alloc_last w (.cells cs t)
theorem StQ.set_far {w w1 : World} {g K i : Nat} {v x v1 x1 u : Value} {q : Qs} {cs : Array Value} (h : StQ g v x w q v1 x1 w1) (hk : w.heap.size ≤ K) (hK : w1.heap[K]? = some (.cells cs 50 (0, 0))) : StQ g v x w q v1 x1 (w1.setCell ⟨K, i, none⟩ u) := by
  have hg : g ≠ K := own_row_ne h.1 hK
  refine ⟨⟨?_, ownsRow_setCell_other h.1.pa (own_kind h.1.pa hK (by decide)) u, ownsRow_setCell_other h.1.tx (own_kind h.1.tx hK (by decide)) u⟩, ⟨h.2.1.os, h.2.1.tape, h.2.1.output, Nat.le_trans h.2.1.size (by simp), fun j hj h1 h2 h3 => ?_⟩, h.2.2.1, h.2.2.2⟩
  · rw [Below.heap_setCell _ _ _ _ hg]; exact h.1.row
  · rw [Below.heap_setCell _ _ _ _ (show j ≠ K by omega)]; exact h.2.1.block j hj h1 h2 h3
def csiE0 (q : Qs) (l : List Int) (r : Int) : Ev := ⟨4, 0, l, q.pv, q.it, r, ⟨#[]⟩⟩
set_option maxRecDepth 100000 in
set_option maxHeartbeats 8000000 in
theorem ctlEndSp (r : Int) (g : Nat) (v x : Value) (q : Qs) (w : World) (h : PrQ w g v x q) (hne : q.pa ≠ []) (hlen : q.pa.length ≤ 50000) (h0 : ¬ r ≤ 63) (h1 : r ≤ 126) (hs : q.sp = true) : Calls Try.prog 31 #[.pointer (some ⟨g, 0, none⟩), .int .i32 r] w (EvQ g v x w (controlQ q r).1 (controlQ q r).2) := by
  have HP := Lib.hid h
  have HG := Lib.hid h.lt
  obtain ⟨n, hn⟩ : ∃ n, q.pa.length = n + 1 := ⟨q.pa.length - 1, by have := List.length_pos_iff.2 hne; omega⟩
  obtain ⟨gp, cp, hv⟩ : ∃ gp cp, v = .slice (some ⟨gp, 0, none⟩) (n + 1) cp := by
    obtain ⟨gp, cp, e⟩ := own_some h.pa (by omega)
    exact ⟨gp, cp, by rw [← hn]; exact e⟩
  subst hv
  have hn6 : n ≤ 60000 := by omega
  have HN := Lib.hid hn
  obtain ⟨k0, k1, k2, k3, k4, k5, k6⟩ := seven HP.out.row
  obtain ⟨l0, l1, l2, l3, l4, l5, l6⟩ := thawed HP.out.row
  clear h hne hlen hn
  have f32 : ¬ r < 32 := by omega
  have f47 : ¬ r ≤ 47 := by omega
  have f57 : ¬ r ≤ 57 := by omega
  have b59 : (r == 59) = false := by rw [beq_eq_false_iff_ne]; omega
  have b58 : (r == 58) = false := by rw [beq_eq_false_iff_ne]; omega
  have f63 : ¬ r ≤ 63 := by omega
  unfold controlQ
  rw [if_neg (show ¬ r < 32 by omega)]
  rw [if_neg (show ¬ r ≤ 47 by omega)]
  rw [if_neg (show ¬ r ≤ 57 by omega)]
  rw [if_neg (show ¬ r ≤ 59 by omega)]
  rw [if_neg (show ¬ r ≤ 63 by omega)]
  rw [if_pos (show r ≤ 126 by omega)]
  unfold csiQ
  rw [if_pos hs]
  rw [hs] at k3
  clear hs
  go_enter Try.func31, Try.ntmps31
  go_wp2
  go_ret
  exact evq0 (put0 HP.out 0)
set_option maxRecDepth 100000 in
set_option maxHeartbeats 8000000 in
theorem ctlEndNo (r : Int) (g : Nat) (v x : Value) (q : Qs) (w : World) (h : PrQ w g v x q) (hne : q.pa ≠ []) (hlen : q.pa.length ≤ 50000) (h0 : ¬ r ≤ 63) (h1 : r ≤ 126) (hs : q.sp = false) (ha : q.any = false) : Calls Try.prog 31 #[.pointer (some ⟨g, 0, none⟩), .int .i32 r] w (EvQ g v x w (controlQ q r).1 (controlQ q r).2) := by
  have HP := Lib.hid h
  have HG := Lib.hid h.lt
  obtain ⟨n, hn⟩ : ∃ n, q.pa.length = n + 1 := ⟨q.pa.length - 1, by have := List.length_pos_iff.2 hne; omega⟩
  obtain ⟨gp, cp, hv⟩ : ∃ gp cp, v = .slice (some ⟨gp, 0, none⟩) (n + 1) cp := by
    obtain ⟨gp, cp, e⟩ := own_some h.pa (by omega)
    exact ⟨gp, cp, by rw [← hn]; exact e⟩
  subst hv
  have hn6 : n ≤ 60000 := by omega
  have HN := Lib.hid hn
  obtain ⟨k0, k1, k2, k3, k4, k5, k6⟩ := seven HP.out.row
  obtain ⟨l0, l1, l2, l3, l4, l5, l6⟩ := thawed HP.out.row
  clear h hne hlen hn
  have f32 : ¬ r < 32 := by omega
  have f47 : ¬ r ≤ 47 := by omega
  have f57 : ¬ r ≤ 57 := by omega
  have b59 : (r == 59) = false := by rw [beq_eq_false_iff_ne]; omega
  have b58 : (r == 58) = false := by rw [beq_eq_false_iff_ne]; omega
  have f63 : ¬ r ≤ 63 := by omega
  unfold controlQ
  rw [if_neg (show ¬ r < 32 by omega)]
  rw [if_neg (show ¬ r ≤ 47 by omega)]
  rw [if_neg (show ¬ r ≤ 57 by omega)]
  rw [if_neg (show ¬ r ≤ 59 by omega)]
  rw [if_neg (show ¬ r ≤ 63 by omega)]
  rw [if_pos (show r ≤ 126 by omega)]
  unfold csiQ
  rw [if_neg (show ¬ q.sp = true by rw [hs]; exact Bool.false_ne_true), if_neg (show ¬ q.any = true by rw [ha]; exact Bool.false_ne_true)]
  rw [hs] at k3
  rw [ha] at k2
  have HAN := Lib.hid ha
  clear hs ha
  have H0 := Lib.hid (put0 HP.out 0)
  have HZ : Hid (w.heap.size ≤ (w.setCell ⟨g, 0, none⟩ (.int .i64 0)).heap.size) := Lib.hid (by simp)
  go_enter Try.func31, Try.ntmps31
  go_wp2
  generalize w.setCell ⟨g, 0, none⟩ (.int .i64 0) = wa at *
  clear k0 k1 k2 k3 k4 k5 k6 l0 l1 l2 l3 l4 l5 l6
  obtain ⟨k0, k1, k2, k3, k4, k5, k6⟩ := seven (StQ.pr H0.out).row
  have hgw : g < wa.heap.size := StQ.pr H0.out |>.lt
  have y4 : (wa.drew.alloc (.cells #[.int .i64 0, .int .i32 0, .slice none 0 0, .int .i32 0, .int .i32 0, .int .i32 0, .string ⟨#[]⟩] 50)).cell? ⟨g, 4, none⟩ = some (.int .i32 q.pv) := past_alloc (past_drew k4)
  have y5 : (wa.drew.alloc (.cells #[.int .i64 0, .int .i32 0, .slice none 0 0, .int .i32 0, .int .i32 0, .int .i32 0, .string ⟨#[]⟩] 50)).cell? ⟨g, 5, none⟩ = some (.int .i32 q.it) := past_alloc (past_drew k5)
  have x4 : wa.drew.cell? ⟨g, 4, none⟩ = some (.int .i32 q.pv) := k4
  have x5 : wa.drew.cell? ⟨g, 5, none⟩ = some (.int .i32 q.it) := k5
  go_region
  have HSb := Lib.hid (StQ.drew (StQ.alloc H0.out (.cells #[.int .i64 4, .int .i32 0, .slice none 0 0, .int .i32 q.pv, .int .i32 q.it, .int .i32 r, .string ⟨#[]⟩] 50)))
  have HKb : Hid (((wa.alloc (.cells #[.int .i64 4, .int .i32 0, .slice none 0 0, .int .i32 q.pv, .int .i32 q.it, .int .i32 r, .string ⟨#[]⟩] 50)).drew).heap[wa.heap.size]? = some (.cells #[.int .i64 4, .int .i32 0, .slice none 0 0, .int .i32 q.pv, .int .i32 q.it, .int .i32 r, .string ⟨#[]⟩] 50 (0, 0))) := Lib.hid (heap_alloc_last wa (.cells #[.int .i64 4, .int .i32 0, .slice none 0 0, .int .i32 q.pv, .int .i32 q.it, .int .i32 r, .string ⟨#[]⟩] 50))
  clear k0 k1 k2 k3 k4 k5 k6 y4 y5 x4 x5 hgw
  generalize (wa.alloc (.cells #[.int .i64 4, .int .i32 0, .slice none 0 0, .int .i32 q.pv, .int .i32 q.it, .int .i32 r, .string ⟨#[]⟩] 50)).drew = wb at *
  have HKs : Hid (wa.heap.size ≤ wa.heap.size) := Lib.hid (Nat.le_refl _)
  generalize wa.heap.size = K at *
  obtain ⟨k0, k1, k2, k3, k4, k5, k6⟩ := seven (StQ.pr HSb.out).row
  obtain ⟨d0, d1, d2, d3, d4, d5, d6⟩ := seven HKb.out
  have k2' : wb.cell? ⟨g, 2, none⟩ = some (.bool false) := by rw [k2]; exact congrArg (fun b => some (Value.bool b)) HAN.out
  clear k2
  go_wp2
  go_ret
  exact evq1 (csiE0 q [] r) rfl rfl (Nat.le_trans HZ.out (Nat.le_of_lt (lt_of HKb.out) |> Nat.le_trans HKs.out)) HSb.out
set_option maxRecDepth 100000 in
set_option maxHeartbeats 8000000 in
theorem ctlEndAny (r : Int) (g : Nat) (v x : Value) (q : Qs) (w : World) (h : PrQ w g v x q) (hne : q.pa ≠ []) (hlen : q.pa.length ≤ 50000) (h0 : ¬ r ≤ 63) (h1 : r ≤ 126) (hs : q.sp = false) (ha : q.any = true) : Calls Try.prog 31 #[.pointer (some ⟨g, 0, none⟩), .int .i32 r] w (EvQ g v x w (controlQ q r).1 (controlQ q r).2) := by
  have HP := Lib.hid h
  have HG := Lib.hid h.lt
  obtain ⟨n, hn⟩ : ∃ n, q.pa.length = n + 1 := ⟨q.pa.length - 1, by have := List.length_pos_iff.2 hne; omega⟩
  obtain ⟨gp, cp, hv⟩ : ∃ gp cp, v = .slice (some ⟨gp, 0, none⟩) (n + 1) cp := by
    obtain ⟨gp, cp, e⟩ := own_some h.pa (by omega)
    exact ⟨gp, cp, by rw [← hn]; exact e⟩
  subst hv
  have hn6 : n ≤ 60000 := by omega
  have HN := Lib.hid hn
  obtain ⟨k0, k1, k2, k3, k4, k5, k6⟩ := seven HP.out.row
  obtain ⟨l0, l1, l2, l3, l4, l5, l6⟩ := thawed HP.out.row
  clear h hne hlen hn
  have f32 : ¬ r < 32 := by omega
  have f47 : ¬ r ≤ 47 := by omega
  have f57 : ¬ r ≤ 57 := by omega
  have b59 : (r == 59) = false := by rw [beq_eq_false_iff_ne]; omega
  have b58 : (r == 58) = false := by rw [beq_eq_false_iff_ne]; omega
  have f63 : ¬ r ≤ 63 := by omega
  unfold controlQ
  rw [if_neg (show ¬ r < 32 by omega)]
  rw [if_neg (show ¬ r ≤ 47 by omega)]
  rw [if_neg (show ¬ r ≤ 57 by omega)]
  rw [if_neg (show ¬ r ≤ 59 by omega)]
  rw [if_neg (show ¬ r ≤ 63 by omega)]
  rw [if_pos (show r ≤ 126 by omega)]
  unfold csiQ
  rw [if_neg (show ¬ q.sp = true by rw [hs]; exact Bool.false_ne_true), if_pos (show q.any = true by rw [ha])]
  rw [hs] at k3
  rw [ha] at k2
  have HAN := Lib.hid ha
  clear hs ha
  have H0 := Lib.hid (put0 HP.out 0)
  have HZ : Hid (w.heap.size ≤ (w.setCell ⟨g, 0, none⟩ (.int .i64 0)).heap.size) := Lib.hid (by simp)
  go_enter Try.func31, Try.ntmps31
  go_wp2
  generalize w.setCell ⟨g, 0, none⟩ (.int .i64 0) = wa at *
  clear k0 k1 k2 k3 k4 k5 k6 l0 l1 l2 l3 l4 l5 l6
  obtain ⟨k0, k1, k2, k3, k4, k5, k6⟩ := seven (StQ.pr H0.out).row
  have hgw : g < wa.heap.size := StQ.pr H0.out |>.lt
  have y4 : (wa.drew.alloc (.cells #[.int .i64 0, .int .i32 0, .slice none 0 0, .int .i32 0, .int .i32 0, .int .i32 0, .string ⟨#[]⟩] 50)).cell? ⟨g, 4, none⟩ = some (.int .i32 q.pv) := past_alloc (past_drew k4)
  have y5 : (wa.drew.alloc (.cells #[.int .i64 0, .int .i32 0, .slice none 0 0, .int .i32 0, .int .i32 0, .int .i32 0, .string ⟨#[]⟩] 50)).cell? ⟨g, 5, none⟩ = some (.int .i32 q.it) := past_alloc (past_drew k5)
  have x4 : wa.drew.cell? ⟨g, 4, none⟩ = some (.int .i32 q.pv) := k4
  have x5 : wa.drew.cell? ⟨g, 5, none⟩ = some (.int .i32 q.it) := k5
  go_region
  have HSb := Lib.hid (StQ.drew (StQ.alloc H0.out (.cells #[.int .i64 4, .int .i32 0, .slice none 0 0, .int .i32 q.pv, .int .i32 q.it, .int .i32 r, .string ⟨#[]⟩] 50)))
  have HKb : Hid (((wa.alloc (.cells #[.int .i64 4, .int .i32 0, .slice none 0 0, .int .i32 q.pv, .int .i32 q.it, .int .i32 r, .string ⟨#[]⟩] 50)).drew).heap[wa.heap.size]? = some (.cells #[.int .i64 4, .int .i32 0, .slice none 0 0, .int .i32 q.pv, .int .i32 q.it, .int .i32 r, .string ⟨#[]⟩] 50 (0, 0))) := Lib.hid (heap_alloc_last wa (.cells #[.int .i64 4, .int .i32 0, .slice none 0 0, .int .i32 q.pv, .int .i32 q.it, .int .i32 r, .string ⟨#[]⟩] 50))
  clear k0 k1 k2 k3 k4 k5 k6 y4 y5 x4 x5 hgw
  generalize (wa.alloc (.cells #[.int .i64 4, .int .i32 0, .slice none 0 0, .int .i32 q.pv, .int .i32 q.it, .int .i32 r, .string ⟨#[]⟩] 50)).drew = wb at *
  have HKs : Hid (wa.heap.size ≤ wa.heap.size) := Lib.hid (Nat.le_refl _)
  generalize wa.heap.size = K at *
  obtain ⟨k0, k1, k2, k3, k4, k5, k6⟩ := seven (StQ.pr HSb.out).row
  obtain ⟨d0, d1, d2, d3, d4, d5, d6⟩ := seven HKb.out
  have k2' : wb.cell? ⟨g, 2, none⟩ = some (.bool true) := by rw [k2]; exact congrArg (fun b => some (Value.bool b)) HAN.out
  clear k2
  obtain ⟨k, hk⟩ : ∃ k, k = min (n + 1) 16 := ⟨_, rfl⟩
  have hkm : min ((n : Int) + 1) 16 = (k : Int) := by omega
  have hk1 : 1 ≤ k := by omega
  have hk2 : k ≤ n + 1 := by omega
  have hk3 : (k : Int) ≤ (n : Int) + 1 := by omega
  have HOW : Hid (wb.ownsRow 0 3 1 (.slice (some ⟨gp, 0, none⟩) (n + 1) cp) (n + 1) (iv q.pa)) := Lib.hid (by
    have e : wb.ownsRow 0 3 1 (.slice (some ⟨gp, 0, none⟩) (n + 1) cp) q.pa.length (iv q.pa) := (StQ.pr HSb.out).pa
    rw [HN.out] at e; exact e)
  have hcp : n + 1 ≤ cp := by
    rcases HOW.out.2 with ⟨e, _⟩ | ⟨g1, c1, u1, e, _, _, h5, _⟩
    · cases e
    · injection e with e1 e2 e3
      rw [e3]; exact h5
  have hcp2 : (k : Int) ≤ (cp : Int) := by omega
  have HTL : Hid ((q.pa.take 16).length = k) := Lib.hid (by rw [List.length_take, HN.out]; omega)
  obtain ⟨v4, w4, hr, o4, b4, n4⟩ := run_own ((wb.alloc (.cells #[] 3)).drew) 23 23 3 (.int .i64 0) 1 8 info3 Try.underlying23 rfl (by decide) (by decide) (.slice (some ⟨wb.heap.size, 0, none⟩) 0 0) 0 [] (World.ownsRow_made wb #[] 0 (Nat.zero_le _) (by simp) rfl) ⟨gp, 0, none⟩ k cp (iv (q.pa.take 16)) (by rw [iv_len, HTL.out, Nat.mul_one]) (fun j u hj => by
      have hj2 : j < (iv (q.pa.take 16)).length := by
        rcases Nat.lt_or_ge j (iv (q.pa.take 16)).length with h | h
        · exact h
        · rw [List.getElem?_eq_none h] at hj; cases hj
      rw [iv_len, HTL.out] at hj2
      have e1 : (iv q.pa)[j]? = some u := by
        rw [← hj]
        unfold iv
        rw [List.map_take, List.getElem?_take_of_lt (by omega)]
      have e2 := HOW.out.cells (g := gp) rfl j u e1
      exact past_drew (past_alloc (a := (⟨gp, 0, none⟩ : Addr).add j) e2)) (fun u hu => by
      unfold iv at hu
      obtain ⟨y, _, rfl⟩ := List.mem_map.1 hu
      rfl) (by omega) hk1
  obtain ⟨a4, c4, rfl⟩ := own_slice o4
  have HR := Lib.hid hr
  have HO4 : Hid (w4.ownsRow 0 3 1 (.slice a4 (0 + k) c4) (q.pa.take 16).length (iv (q.pa.take 16))) := Lib.hid (by rw [HTL.out]; simpa using o4)
  have hKg : K ≠ wb.heap.size := Nat.ne_of_lt (lt_of HKb.out)
  have HB4 : Hid (∀ j, j < wb.heap.size → w4.heap[j]? = wb.heap[j]?) := Lib.hid (fun j hj => by
    rw [b4.block j (Nat.lt_of_lt_of_le hj (by simp)) (fun e => by
      have : j = wb.heap.size := by injection e
      omega)]
    exact Below.heap_alloc _ _ _ hj)
  have HK4 := Lib.hid ((HB4.out K (lt_of HKb.out)).trans HKb.out)
  have HS4 : Hid (StQ g (.slice (some ⟨gp, 0, none⟩) (n + 1) cp) x w { q with st := 0 } (.slice (some ⟨gp, 0, none⟩) (n + 1) cp) x w4) := Lib.hid (StQ.then_ HSb.out ⟨b4.os, b4.tape, b4.output, Nat.le_trans (by simp) b4.size, HB4.out⟩)
  have HS5 := Lib.hid (StQ.set_far (i := 2) (u := .slice a4 k c4) HS4.out (Nat.le_trans HZ.out HKs.out) HK4.out)
  have HO5 : Hid ((w4.setCell ⟨K, 2, none⟩ (.slice a4 k c4)).ownsRow 0 3 1 (.slice a4 k c4) (q.pa.take 16).length (iv (q.pa.take 16))) := Lib.hid (by
    have e : w4.ownsRow 0 3 1 (.slice a4 k c4) (q.pa.take 16).length (iv (q.pa.take 16)) := by
      have e0 := HO4.out
      rw [Nat.zero_add] at e0; exact e0
    exact ownsRow_setCell_other e (own_kind e HK4.out (by decide)) _)
  have HN5 : Hid (∀ j, (Value.slice a4 k c4).ownBlock = some j → w.heap.size ≤ j ∧ q.pa.take 16 ≠ []) := Lib.hid (fun j hj => by
    refine ⟨?_, fun e => ?_⟩
    · have hz : w.heap.size ≤ wb.heap.size := HSb.out.2.1.size
      rcases n4 j (by rw [Nat.zero_add]; exact hj) with e | e
      · have : wb.heap.size = j := by injection e
        omega
      · simp at e; omega
    · have e2 := HTL.out
      rw [e] at e2
      simp at e2; omega)
  have HZ5 : Hid (w.heap.size ≤ w4.heap.size) := Lib.hid HS4.out.2.1.size
  have HE5 : Hid ((w4.setCell ⟨K, 2, none⟩ (.slice a4 k c4)).heap.size = w4.heap.size) := Lib.hid (by simp)
  clear hr o4 b4 n4 hk
  obtain ⟨m0, m1, m2, m3, m4, m5, m6⟩ := seven HK4.out
  obtain ⟨n0, n1, n2, n3, n4, n5, n6⟩ := thawed HK4.out
  go_wp2
  have HG4 := Lib.hid (show w4.cell? ⟨g, 1, none⟩ = some (.slice (some ⟨gp, 0, none⟩) (n + 1) cp) from by rw [cell_of_row w4 g 1 _ 29 _ (StQ.pr HS4.out).row]; rfl)
  have HKG := Lib.hid (show g ≠ K from fun e => by have := own_row_ne (StQ.pr HSb.out) HKb.out; exact this e)
  go_region_held3 (fun W => W.cell? ⟨g, 1, none⟩ = some (.slice (some ⟨gp, 0, none⟩) (n + 1) cp)) (first | with_reducible assumption | with_reducible exact past_drew k1 | with_reducible exact past_alloc (past_drew k1) | with_reducible exact past_drew (past_alloc k1) | with_reducible exact HG4.out | with_reducible exact past_set HG4.out HKG.out) (first | (rw [if_pos (by rfl)]; (with_reducible refine Lib.wp_append_run_sl _ (.tmp 178) (.tmp 189) 23 ?_ _ _ ?_ ?_ HR.out ?_); exact rfl; exact rfl; exact rfl))
  all_goals
    go_wp2
    go_ret
    exact ⟨_, rfl, .inr ⟨csiE0 q (q.pa.take 16) r, _, .slice a4 k c4, rfl, rfl, HZ5.out, alloc_size HE5.out _ _, HO5.out.alloc _, HN5.out⟩, _, _, StQ.alloc HS5.out _, fun _ _ _ => rfl⟩
theorem controlC (r : Int) (g : Nat) (v x : Value) (q : Qs) (w : World) (h : PrQ w g v x q) (hne : q.pa ≠ []) (hlen : q.pa.length ≤ 50000) (hvals : ∀ y ∈ q.pa, -1 ≤ y ∧ y ≤ 9999) : Calls Try.prog 31 #[.pointer (some ⟨g, 0, none⟩), .int .i32 r] w (EvQ g v x w (controlQ q r).1 (controlQ q r).2) := by
  by_cases h0 : r < 32
  · exact ctlLow r g v x q w h hne hlen h0
  by_cases h1 : r ≤ 47
  · exact ctlInter r g v x q w h hne hlen h0 h1
  by_cases h2 : r ≤ 57
  · exact ctlDigit r g v x q w h hne hlen hvals h0 h1 h2
  by_cases h3 : r = 59
  · exact ctlSep1 r g v x q w h hne hlen h3
  by_cases h4 : r = 58
  · exact ctlSep2 r g v x q w h hne hlen h4
  by_cases h5 : r ≤ 63
  · exact ctlPriv r g v x q w h hne hlen (by omega) h5
  by_cases h6 : r ≤ 126
  · cases hs : q.sp
    · cases ha : q.any
      · exact ctlEndNo r g v x q w h hne hlen h5 h6 hs ha
      · exact ctlEndAny r g v x q w h hne hlen h5 h6 hs ha
    · exact ctlEndSp r g v x q w h hne hlen h5 h6 hs
  · exact ctlRest r g v x q w h hne hlen h6

end Go.Proofs.Ytnaiefjbfpejbaa.Jz
