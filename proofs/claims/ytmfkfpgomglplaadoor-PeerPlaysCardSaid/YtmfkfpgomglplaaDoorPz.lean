/- PktApart: two packets of one key. -/
import Derived.Test.YtmfkfpgomglplaaDoorDk
import Derived.Test.YtmfkfpgomglplaaDoorAr
import Derived.Test.YtmfkfpgomglplaaDoorMs
set_option linter.unusedVariables false
namespace Go.Proofs.YtmfkfpgomglplaaDoor.Pz
open Go Go.RowKit Kit Mb Sha Ap Mc1 Sc Mx Sb Pd Su Pa Hm Mm Tg Mf Pk Se Op Pe Ps Pt Oq Pg Ar Dq Db Ds Dh Dk Ms


theorem wr_i (n : Nat) (h : n ≤ 100000) : IntKind.i64.wrap (n : Int) = (n : Int) := IntWalk.i64_in _ (by omega)
theorem wr_w (n : Nat) (h : n ≤ 100000) : wrap64 (n : Int) = (n : Int) := IntWalk.wrap64_in _ (by omega)
theorem may_nat {d v : Int} {n len : Nat} (h : mayB d v n len = true) : ∃ D V : Nat, d = (D : Int) ∧ v = (V : Int) ∧ 1 ≤ D ∧ D ≤ 2 ∧ V < 8 ∧ 1 ≤ n ∧ n ≤ 4611686018427387904 ∧ len ≤ 1200 := by
  simp only [mayB, Bool.and_eq_true, decide_eq_true_eq] at h
  exact ⟨d.toNat, v.toNat, by omega, by omega, by omega, by omega, by omega, by omega, by omega, by omega⟩
theorem may_num (D V n len : Nat) (h1 : 1 ≤ D) (h2 : D ≤ 2) (h3 : V < 8) (h4 : 1 ≤ n) (h5 : n ≤ 4611686018427387904) (h6 : len ≤ 1200) : mayB (D : Int) (V : Int) n len = true := by
  simp only [mayB, Bool.and_eq_true, decide_eq_true_eq]; omega
theorem mayE (d v : Int) (n : Nat) (a : Option Addr) (m cap : Nat) (l : List Nat) (w : World) (r : Bool) (hm : m = l.length) (hr : mayB d v n l.length = r) :
    Calls Tryd.prog 30 #[.agg #[.int .i64 d, .int .i64 v, .int .u64 (n : Int), .slice a m cap]] w fun e w' => e = .returned (.bool r) ∧ Below w.heap.size w w' := by
  subst hm hr; exact mayC d v n a cap l w
theorem sealN (d v : Int) (n : Nat) (a : Option Addr) (m cap : Nat) (l : List Nat) (ka : Option Addr) (kc kn : Nat) (w : World) (e : m = l.length) (hm : mayB d v n l.length = false) :
    Calls Tryd.prog 24 #[.slice ka kn kc, .agg #[.int .i64 d, .int .i64 v, .int .u64 (n : Int), .slice a m cap]] w fun e w' => e = .returned (.tuple #[.slice none 0 0, .int .i64 1]) ∧ Below w.heap.size w w' := by
  subst e; exact sealNo d v n a cap l ka kc kn w hm
/-- what Seal answers, as a slice. -/
def SlP (X : List Nat) (w : World) (e : Ending) (w' : World) : Prop := ∃ xb xo xc, e = .returned (.tuple #[.slice (some ⟨xb, xo, none⟩) X.length xc, .int .i64 0]) ∧ Sl w' (some ⟨xb, xo, none⟩) X ∧ X.length ≤ xc ∧ w.heap.size ≤ xb ∧ Below w.heap.size w w'
theorem sealK (D V n : Nat) (a : Option Addr) (m cap : Nat) (l X : List Nat) (ka : Option Addr) (kn kc : Nat) (key : List Nat) (w : World) (hX : X = sealL key D V n l) (hm : m = l.length) (hkn : kn = key.length)
    (h1 : 1 ≤ D) (h2 : D ≤ 2) (h3 : V < 8) (h4 : 1 ≤ n) (h5 : n ≤ 4611686018427387904) (h6 : l.length ≤ 1200)
    (hs : Sl w a l) (h0 : a = none → cap = 0) (hcap : l.length ≤ cap) (hl : ∀ c ∈ l, c < 256)
    (ks : Sl w ka key) (k0 : ka = none → kc = 0) (kcap : key.length ≤ kc) (kl : ∀ c ∈ key, c < 256) (klen : key.length ≤ 800000) (hT : TabR w) (hB : TabB w) :
    Calls Tryd.prog 24 #[.slice ka kn kc, .agg #[.int .i64 (D : Int), .int .i64 (V : Int), .int .u64 (n : Int), .slice a m cap]] w (SlP X w) := by
  subst hm hkn hX
  refine (sealC D V n a cap l ka kc key w h1 h2 h3 h4 h5 h6 hs h0 hcap hl ks k0 kcap kl klen hT hB).mono ?_
  rintro e w' ⟨v, rfl, o, b⟩
  obtain ⟨xa, xc, rfl, q1, q2, q3, q4⟩ := rb_sl o
  obtain ⟨xb, xo, rfl, hc⟩ := sl_at q2 (by rw [sealL_len]; omega)
  exact ⟨xb, xo, xc, rfl, q2, q1, (q4 _ rfl).1, b⟩
theorem cells_of_sl {w : World} {b o : Nat} {l : List Nat} (h : Sl w (some ⟨b, o, none⟩) l) : Cells w b o l := by
  rcases h with rfl | ⟨_, _, e, h⟩
  · intro i hi; simp at hi
  · injection e with e; injection e with e1 e2 e3; subst e1 e2; exact h
theorem sl_of {w : World} {b o : Nat} {l : List Nat} (h : Cells w b o l) : Sl w (some ⟨b, o, none⟩) l := .inr ⟨b, o, rfl, h⟩
theorem stepB {W w1 w2 : World} (h : Below W.heap.size W w1) (o : Obj) (b : Below (w1.alloc o).heap.size (w1.alloc o) w2) : Below W.heap.size W w2 := below_then (h.alloc h.size _) b (by have := h.size; simp; omega)
theorem boxes2 (w W : World) (t : TypeId) (x0 x1 x2 x3 y0 y1 y2 y3 : Value) (hb : Below ((w.alloc (.cells #[x0, x1, x2, x3] t)).alloc (.cells #[y0, y1, y2, y3] t)).heap.size ((w.alloc (.cells #[x0, x1, x2, x3] t)).alloc (.cells #[y0, y1, y2, y3] t)) W) :
    W.cell? ⟨w.heap.size, 0, none⟩ = some x0 ∧ W.cell? ⟨w.heap.size, 1, none⟩ = some x1 ∧ W.cell? ⟨w.heap.size, 2, none⟩ = some x2 ∧ W.cell? ⟨w.heap.size, 3, none⟩ = some x3 ∧
    W.cell? ⟨w.heap.size + 1, 0, none⟩ = some y0 ∧ W.cell? ⟨w.heap.size + 1, 1, none⟩ = some y1 ∧ W.cell? ⟨w.heap.size + 1, 2, none⟩ = some y2 ∧ W.cell? ⟨w.heap.size + 1, 3, none⟩ = some y3 := by
  have z : (w.alloc (.cells #[x0, x1, x2, x3] t)).heap.size = w.heap.size + 1 := by simp
  have h1 := heap_alloc_last w (.cells #[x0, x1, x2, x3] t)
  have h2 := heap_alloc_last (w.alloc (.cells #[x0, x1, x2, x3] t)) (.cells #[y0, y1, y2, y3] t)
  rw [z] at h2
  have k1 : W.heap[w.heap.size]? = some (.cells #[x0, x1, x2, x3] t) := by rw [hb.block _ (by simp; omega), Below.heap_alloc _ _ _ (by simp)]; exact h1
  have k2 : W.heap[w.heap.size + 1]? = some (.cells #[y0, y1, y2, y3] t) := by rw [hb.block _ (by simp)]; exact h2
  exact ⟨cell_of_row W w.heap.size 0 _ t _ k1, cell_of_row W w.heap.size 1 _ t _ k1, cell_of_row W w.heap.size 2 _ t _ k1, cell_of_row W w.heap.size 3 _ t _ k1, cell_of_row W (w.heap.size + 1) 0 _ t _ k2, cell_of_row W (w.heap.size + 1) 1 _ t _ k2, cell_of_row W (w.heap.size + 1) 2 _ t _ k2, cell_of_row W (w.heap.size + 1) 3 _ t _ k2⟩

set_option maxRecDepth 100000 in
set_option maxHeartbeats 4000000 in
theorem apartNN (ka : Option Addr) (kc : Nat) (key : List Nat) (d1 v1 : Int) (n1 : Nat) (a1 : Option Addr) (c1 : Nat) (l1 : List Nat) (d2 v2 : Int) (n2 : Nat) (a2 : Option Addr) (c2 : Nat) (l2 : List Nat) (w : World) (ks : Sl w ka key) (k0 : ka = none → kc = 0) (kcap : key.length ≤ kc) (kl : ∀ c ∈ key, c < 256) (klen : key.length ≤ 1000) (s1 : Sl w a1 l1) (z1 : a1 = none → c1 = 0) (k1 : l1.length ≤ c1) (x1 : ∀ c ∈ l1, c < 256) (m1 : l1.length ≤ 3000) (s2 : Sl w a2 l2) (z2 : a2 = none → c2 = 0) (k2 : l2.length ≤ c2) (x2 : ∀ c ∈ l2, c < 256) (m2 : l2.length ≤ 3000) (hm1 : mayB d1 v1 n1 l1.length = false) (hm2 : mayB d2 v2 n2 l2.length = false)  (hT : TabR w) (hB : TabB w) :
    Calls Tryd.prog 9 #[.slice ka key.length kc, .agg #[.int .i64 d1, .int .i64 v1, .int .u64 (n1 : Int), .slice a1 l1.length c1], .agg #[.int .i64 d2, .int .i64 v2, .int .u64 (n2 : Int), .slice a2 l2.length c2]] w fun e w' => e = .returned (.bool true) ∧ Below w.heap.size w w' := by
  have HS1 := Lib.hid s1
  have HZ1 := Lib.hid z1
  have HC1 := Lib.hid k1
  have HX1 := Lib.hid x1
  have tl1 : ¬ 3000 < (l1.length : Int) := by omega
  have HS2 := Lib.hid s2
  have HZ2 := Lib.hid z2
  have HC2 := Lib.hid k2
  have HX2 := Lib.hid x2
  have tl2 : ¬ 3000 < (l2.length : Int) := by omega
  have HKS := Lib.hid ks
  have HK0 := Lib.hid k0
  have HKC := Lib.hid kcap
  have HKX := Lib.hid kl
  have HK8 := Lib.hid (show key.length ≤ 800000 by omega)
  have tk : ¬ 1000 < (key.length : Int) := by omega
  have HT := Lib.hid hT
  have HB := Lib.hid hB
  have HM1 := Lib.hid hm1
  have HM2 := Lib.hid hm2
  have CL := Lib.hid (fun W (h : Below ((w.alloc (.cells #[.int .i64 d1, .int .i64 v1, .int .u64 (n1 : Int), .slice a1 l1.length c1] 35)).alloc (.cells #[.int .i64 d2, .int .i64 v2, .int .u64 (n2 : Int), .slice a2 l2.length c2] 35)).heap.size ((w.alloc (.cells #[.int .i64 d1, .int .i64 v1, .int .u64 (n1 : Int), .slice a1 l1.length c1] 35)).alloc (.cells #[.int .i64 d2, .int .i64 v2, .int .u64 (n2 : Int), .slice a2 l2.length c2] 35)) W) => boxes2 w W 35 _ _ _ _ _ _ _ _ h)
  have HBA := Lib.hid (show Below w.heap.size w ((w.alloc (.cells #[.int .i64 d1, .int .i64 v1, .int .u64 (n1 : Int), .slice a1 l1.length c1] 35)).alloc (.cells #[.int .i64 d2, .int .i64 v2, .int .u64 (n2 : Int), .slice a2 l2.length c2] 35)) from ((Below.refl _ w).alloc (Nat.le_refl _) _).alloc (by simp) _)
  clear ks k0 kcap kl klen s1 z1 k1 x1 m1 s2 z2 k2 x2 m2 hT hB hm1 hm2
  go_enter Tryd.func9, Tryd.ntmps9
  go_wp2_with fail
  generalize ((w.alloc (.cells #[.int .i64 d1, .int .i64 v1, .int .u64 (n1 : Int), .slice a1 l1.length c1] 35)).alloc (.cells #[.int .i64 d2, .int .i64 v2, .int .u64 (n2 : Int), .slice a2 l2.length c2] 35)) = w0 at *
  have HKS0 := Lib.hid (sl_then HBA.out (Nat.le_refl _) HKS.out)
  have HS10 := Lib.hid (sl_then HBA.out (Nat.le_refl _) HS1.out)
  have HS20 := Lib.hid (sl_then HBA.out (Nat.le_refl _) HS2.out)
  have HT0 := Lib.hid (tabR_then HBA.out HT.out)
  have HB0 := Lib.hid (tabB_then HBA.out HB.out)
  have HQ0 := Lib.hid (Below.refl w0.heap.size w0)
  obtain ⟨p0, p1, p2, p3, q0, q1, q2, q3⟩ := CL.out _ HQ0.out
  go_wp2_with (first
    | (go_at_call 23; (with_reducible refine (pfirst w0 (tabR_then HQ0.out HT0.out) (tabB_then HQ0.out HB0.out)).mono ?_); rintro e wq1 ⟨rfl, bq⟩; have HQ1 := Lib.hid (below_then HQ0.out bq HQ0.out.size); clear bq; clear p0 p1 p2 p3 q0 q1 q2 q3; obtain ⟨p0, p1, p2, p3, q0, q1, q2, q3⟩ := CL.out _ HQ1.out)
    | (go_at_call 24; (with_reducible refine (sealN d1 v1 n1 a1 l1.length c1 l1 ka kc key.length wq1 rfl HM1.out).mono ?_); rintro e wq2 ⟨rfl, bq⟩; have HQ2 := Lib.hid (below_then HQ1.out bq HQ1.out.size); clear bq; clear p0 p1 p2 p3 q0 q1 q2 q3; obtain ⟨p0, p1, p2, p3, q0, q1, q2, q3⟩ := CL.out _ HQ2.out)
    | (go_at_call 24; (with_reducible refine (sealN d2 v2 n2 a2 l2.length c2 l2 ka kc key.length wq2 rfl HM2.out).mono ?_); rintro e wq3 ⟨rfl, bq⟩; have HQ3 := Lib.hid (below_then HQ2.out bq HQ2.out.size); clear bq; clear p0 p1 p2 p3 q0 q1 q2 q3; obtain ⟨p0, p1, p2, p3, q0, q1, q2, q3⟩ := CL.out _ HQ3.out)
    | (go_at_call 30; (with_reducible refine (mayE d1 v1 n1 a1 l1.length c1 l1 wq3 false rfl HM1.out).mono ?_); rintro e wq4 ⟨rfl, bq⟩; have HQ4 := Lib.hid (below_then HQ3.out bq HQ3.out.size); clear bq; clear p0 p1 p2 p3 q0 q1 q2 q3; obtain ⟨p0, p1, p2, p3, q0, q1, q2, q3⟩ := CL.out _ HQ4.out)
    | (go_at_call 23; (with_reducible refine (pfirst wq4 (tabR_then HQ4.out HT0.out) (tabB_then HQ4.out HB0.out)).mono ?_); rintro e wq5 ⟨rfl, bq⟩; have HQ5 := Lib.hid (below_then HQ4.out bq HQ4.out.size); clear bq; clear p0 p1 p2 p3 q0 q1 q2 q3; obtain ⟨p0, p1, p2, p3, q0, q1, q2, q3⟩ := CL.out _ HQ5.out))
  go_ret
  exact ⟨rfl, below_then HBA.out HQ5.out HBA.out.size⟩

set_option maxRecDepth 100000 in
set_option maxHeartbeats 4000000 in
theorem apartNY (ka : Option Addr) (kc : Nat) (key : List Nat) (d1 v1 : Int) (n1 : Nat) (a1 : Option Addr) (c1 : Nat) (l1 : List Nat) (D2 V2 n2 : Nat) (a2 : Option Addr) (c2 : Nat) (l2 : List Nat) (w : World) (ks : Sl w ka key) (k0 : ka = none → kc = 0) (kcap : key.length ≤ kc) (kl : ∀ c ∈ key, c < 256) (klen : key.length ≤ 1000) (s1 : Sl w a1 l1) (z1 : a1 = none → c1 = 0) (k1 : l1.length ≤ c1) (x1 : ∀ c ∈ l1, c < 256) (m1 : l1.length ≤ 3000) (s2 : Sl w a2 l2) (z2 : a2 = none → c2 = 0) (k2 : l2.length ≤ c2) (x2 : ∀ c ∈ l2, c < 256) (m2 : l2.length ≤ 3000) (hm1 : mayB d1 v1 n1 l1.length = false) (e21 : 1 ≤ D2) (e22 : D2 ≤ 2) (e23 : V2 < 8) (e24 : 1 ≤ n2) (e25 : n2 ≤ 4611686018427387904) (e26 : l2.length ≤ 1200)  (hT : TabR w) (hB : TabB w) :
    Calls Tryd.prog 9 #[.slice ka key.length kc, .agg #[.int .i64 d1, .int .i64 v1, .int .u64 (n1 : Int), .slice a1 l1.length c1], .agg #[.int .i64 (D2 : Int), .int .i64 (V2 : Int), .int .u64 (n2 : Int), .slice a2 l2.length c2]] w fun e w' => e = .returned (.bool true) ∧ Below w.heap.size w w' := by
  have HS1 := Lib.hid s1
  have HZ1 := Lib.hid z1
  have HC1 := Lib.hid k1
  have HX1 := Lib.hid x1
  have tl1 : ¬ 3000 < (l1.length : Int) := by omega
  have HS2 := Lib.hid s2
  have HZ2 := Lib.hid z2
  have HC2 := Lib.hid k2
  have HX2 := Lib.hid x2
  have tl2 : ¬ 3000 < (l2.length : Int) := by omega
  have HKS := Lib.hid ks
  have HK0 := Lib.hid k0
  have HKC := Lib.hid kcap
  have HKX := Lib.hid kl
  have HK8 := Lib.hid (show key.length ≤ 800000 by omega)
  have tk : ¬ 1000 < (key.length : Int) := by omega
  have HT := Lib.hid hT
  have HB := Lib.hid hB
  have HM1 := Lib.hid hm1
  obtain ⟨X2, hX2⟩ : ∃ X, X = sealL key D2 V2 n2 l2 := ⟨_, rfl⟩
  have HXE2 := Lib.hid hX2
  have HXL2 := Lib.hid (show X2.length = 26 + l2.length by rw [hX2, sealL_len])
  have HXX2 := Lib.hid (show ∀ c ∈ X2, c < 256 by rw [hX2]; exact sealL_lt _ _ _ _ _ (by omega) (by omega) x2)
  have E21 := Lib.hid e21
  have E22 := Lib.hid e22
  have E23 := Lib.hid e23
  have E24 := Lib.hid e24
  have E25 := Lib.hid e25
  have E26 := Lib.hid e26
  clear e21
  clear e22
  clear e23
  clear e24
  clear e25
  clear e26
  have CL := Lib.hid (fun W (h : Below ((w.alloc (.cells #[.int .i64 d1, .int .i64 v1, .int .u64 (n1 : Int), .slice a1 l1.length c1] 35)).alloc (.cells #[.int .i64 (D2 : Int), .int .i64 (V2 : Int), .int .u64 (n2 : Int), .slice a2 l2.length c2] 35)).heap.size ((w.alloc (.cells #[.int .i64 d1, .int .i64 v1, .int .u64 (n1 : Int), .slice a1 l1.length c1] 35)).alloc (.cells #[.int .i64 (D2 : Int), .int .i64 (V2 : Int), .int .u64 (n2 : Int), .slice a2 l2.length c2] 35)) W) => boxes2 w W 35 _ _ _ _ _ _ _ _ h)
  have HBA := Lib.hid (show Below w.heap.size w ((w.alloc (.cells #[.int .i64 d1, .int .i64 v1, .int .u64 (n1 : Int), .slice a1 l1.length c1] 35)).alloc (.cells #[.int .i64 (D2 : Int), .int .i64 (V2 : Int), .int .u64 (n2 : Int), .slice a2 l2.length c2] 35)) from ((Below.refl _ w).alloc (Nat.le_refl _) _).alloc (by simp) _)
  clear ks k0 kcap kl klen s1 z1 k1 x1 m1 s2 z2 k2 x2 m2 hT hB hm1 hX2
  go_enter Tryd.func9, Tryd.ntmps9
  go_wp2_with fail
  generalize ((w.alloc (.cells #[.int .i64 d1, .int .i64 v1, .int .u64 (n1 : Int), .slice a1 l1.length c1] 35)).alloc (.cells #[.int .i64 (D2 : Int), .int .i64 (V2 : Int), .int .u64 (n2 : Int), .slice a2 l2.length c2] 35)) = w0 at *
  have HKS0 := Lib.hid (sl_then HBA.out (Nat.le_refl _) HKS.out)
  have HS10 := Lib.hid (sl_then HBA.out (Nat.le_refl _) HS1.out)
  have HS20 := Lib.hid (sl_then HBA.out (Nat.le_refl _) HS2.out)
  have HT0 := Lib.hid (tabR_then HBA.out HT.out)
  have HB0 := Lib.hid (tabB_then HBA.out HB.out)
  have HQ0 := Lib.hid (Below.refl w0.heap.size w0)
  obtain ⟨p0, p1, p2, p3, q0, q1, q2, q3⟩ := CL.out _ HQ0.out
  go_wp2_with (first
    | (go_at_call 23; (with_reducible refine (pfirst w0 (tabR_then HQ0.out HT0.out) (tabB_then HQ0.out HB0.out)).mono ?_); rintro e wq1 ⟨rfl, bq⟩; have HQ1 := Lib.hid (below_then HQ0.out bq HQ0.out.size); clear bq; clear p0 p1 p2 p3 q0 q1 q2 q3; obtain ⟨p0, p1, p2, p3, q0, q1, q2, q3⟩ := CL.out _ HQ1.out)
    | (go_at_call 24; (with_reducible refine (sealN d1 v1 n1 a1 l1.length c1 l1 ka kc key.length wq1 rfl HM1.out).mono ?_); rintro e wq2 ⟨rfl, bq⟩; have HQ2 := Lib.hid (below_then HQ1.out bq HQ1.out.size); clear bq; clear p0 p1 p2 p3 q0 q1 q2 q3; obtain ⟨p0, p1, p2, p3, q0, q1, q2, q3⟩ := CL.out _ HQ2.out)
    | (go_at_call 24; (with_reducible refine (sealK D2 V2 n2 a2 l2.length c2 l2 X2 ka key.length kc key wq2 HXE2.out rfl rfl E21.out E22.out E23.out E24.out E25.out E26.out (sl_then HQ2.out (Nat.le_refl _) HS20.out) HZ2.out HC2.out HX2.out (sl_then HQ2.out (Nat.le_refl _) HKS0.out) HK0.out HKC.out HKX.out HK8.out (tabR_then HQ2.out HT0.out) (tabB_then HQ2.out HB0.out)).mono ?_); rintro e wq3 ⟨yb, yo, yc, rfl, _, _, _, bq⟩; have HQ3 := Lib.hid (below_then HQ2.out bq HQ2.out.size); clear bq; clear p0 p1 p2 p3 q0 q1 q2 q3; obtain ⟨p0, p1, p2, p3, q0, q1, q2, q3⟩ := CL.out _ HQ3.out)
    | (go_at_call 30; (with_reducible refine (mayE d1 v1 n1 a1 l1.length c1 l1 wq3 false rfl HM1.out).mono ?_); rintro e wq4 ⟨rfl, bq⟩; have HQ4 := Lib.hid (below_then HQ3.out bq HQ3.out.size); clear bq; clear p0 p1 p2 p3 q0 q1 q2 q3; obtain ⟨p0, p1, p2, p3, q0, q1, q2, q3⟩ := CL.out _ HQ4.out)
    | (go_at_call 23; (with_reducible refine (pfirst wq4 (tabR_then HQ4.out HT0.out) (tabB_then HQ4.out HB0.out)).mono ?_); rintro e wq5 ⟨rfl, bq⟩; have HQ5 := Lib.hid (below_then HQ4.out bq HQ4.out.size); clear bq; clear p0 p1 p2 p3 q0 q1 q2 q3; obtain ⟨p0, p1, p2, p3, q0, q1, q2, q3⟩ := CL.out _ HQ5.out))
  go_ret
  exact ⟨rfl, below_then HBA.out HQ5.out HBA.out.size⟩

set_option maxRecDepth 100000 in
set_option maxHeartbeats 4000000 in
theorem apartYN (ka : Option Addr) (kc : Nat) (key : List Nat) (D1 V1 n1 : Nat) (a1 : Option Addr) (c1 : Nat) (l1 : List Nat) (d2 v2 : Int) (n2 : Nat) (a2 : Option Addr) (c2 : Nat) (l2 : List Nat) (w : World) (ks : Sl w ka key) (k0 : ka = none → kc = 0) (kcap : key.length ≤ kc) (kl : ∀ c ∈ key, c < 256) (klen : key.length ≤ 1000) (s1 : Sl w a1 l1) (z1 : a1 = none → c1 = 0) (k1 : l1.length ≤ c1) (x1 : ∀ c ∈ l1, c < 256) (m1 : l1.length ≤ 3000) (s2 : Sl w a2 l2) (z2 : a2 = none → c2 = 0) (k2 : l2.length ≤ c2) (x2 : ∀ c ∈ l2, c < 256) (m2 : l2.length ≤ 3000) (e11 : 1 ≤ D1) (e12 : D1 ≤ 2) (e13 : V1 < 8) (e14 : 1 ≤ n1) (e15 : n1 ≤ 4611686018427387904) (e16 : l1.length ≤ 1200) (hm2 : mayB d2 v2 n2 l2.length = false)  (hT : TabR w) (hB : TabB w) :
    Calls Tryd.prog 9 #[.slice ka key.length kc, .agg #[.int .i64 (D1 : Int), .int .i64 (V1 : Int), .int .u64 (n1 : Int), .slice a1 l1.length c1], .agg #[.int .i64 d2, .int .i64 v2, .int .u64 (n2 : Int), .slice a2 l2.length c2]] w fun e w' => e = .returned (.bool true) ∧ Below w.heap.size w w' := by
  have HS1 := Lib.hid s1
  have HZ1 := Lib.hid z1
  have HC1 := Lib.hid k1
  have HX1 := Lib.hid x1
  have tl1 : ¬ 3000 < (l1.length : Int) := by omega
  have HS2 := Lib.hid s2
  have HZ2 := Lib.hid z2
  have HC2 := Lib.hid k2
  have HX2 := Lib.hid x2
  have tl2 : ¬ 3000 < (l2.length : Int) := by omega
  have HKS := Lib.hid ks
  have HK0 := Lib.hid k0
  have HKC := Lib.hid kcap
  have HKX := Lib.hid kl
  have HK8 := Lib.hid (show key.length ≤ 800000 by omega)
  have tk : ¬ 1000 < (key.length : Int) := by omega
  have HT := Lib.hid hT
  have HB := Lib.hid hB
  obtain ⟨X1, hX1⟩ : ∃ X, X = sealL key D1 V1 n1 l1 := ⟨_, rfl⟩
  have HXE1 := Lib.hid hX1
  have HXL1 := Lib.hid (show X1.length = 26 + l1.length by rw [hX1, sealL_len])
  have HXX1 := Lib.hid (show ∀ c ∈ X1, c < 256 by rw [hX1]; exact sealL_lt _ _ _ _ _ (by omega) (by omega) x1)
  have E11 := Lib.hid e11
  have E12 := Lib.hid e12
  have E13 := Lib.hid e13
  have E14 := Lib.hid e14
  have E15 := Lib.hid e15
  have E16 := Lib.hid e16
  clear e11
  clear e12
  clear e13
  clear e14
  clear e15
  clear e16
  have HM2 := Lib.hid hm2
  have CL := Lib.hid (fun W (h : Below ((w.alloc (.cells #[.int .i64 (D1 : Int), .int .i64 (V1 : Int), .int .u64 (n1 : Int), .slice a1 l1.length c1] 35)).alloc (.cells #[.int .i64 d2, .int .i64 v2, .int .u64 (n2 : Int), .slice a2 l2.length c2] 35)).heap.size ((w.alloc (.cells #[.int .i64 (D1 : Int), .int .i64 (V1 : Int), .int .u64 (n1 : Int), .slice a1 l1.length c1] 35)).alloc (.cells #[.int .i64 d2, .int .i64 v2, .int .u64 (n2 : Int), .slice a2 l2.length c2] 35)) W) => boxes2 w W 35 _ _ _ _ _ _ _ _ h)
  have HBA := Lib.hid (show Below w.heap.size w ((w.alloc (.cells #[.int .i64 (D1 : Int), .int .i64 (V1 : Int), .int .u64 (n1 : Int), .slice a1 l1.length c1] 35)).alloc (.cells #[.int .i64 d2, .int .i64 v2, .int .u64 (n2 : Int), .slice a2 l2.length c2] 35)) from ((Below.refl _ w).alloc (Nat.le_refl _) _).alloc (by simp) _)
  clear ks k0 kcap kl klen s1 z1 k1 x1 m1 s2 z2 k2 x2 m2 hT hB hX1 hm2
  go_enter Tryd.func9, Tryd.ntmps9
  go_wp2_with fail
  generalize ((w.alloc (.cells #[.int .i64 (D1 : Int), .int .i64 (V1 : Int), .int .u64 (n1 : Int), .slice a1 l1.length c1] 35)).alloc (.cells #[.int .i64 d2, .int .i64 v2, .int .u64 (n2 : Int), .slice a2 l2.length c2] 35)) = w0 at *
  have HKS0 := Lib.hid (sl_then HBA.out (Nat.le_refl _) HKS.out)
  have HS10 := Lib.hid (sl_then HBA.out (Nat.le_refl _) HS1.out)
  have HS20 := Lib.hid (sl_then HBA.out (Nat.le_refl _) HS2.out)
  have HT0 := Lib.hid (tabR_then HBA.out HT.out)
  have HB0 := Lib.hid (tabB_then HBA.out HB.out)
  have HQ0 := Lib.hid (Below.refl w0.heap.size w0)
  obtain ⟨p0, p1, p2, p3, q0, q1, q2, q3⟩ := CL.out _ HQ0.out
  go_wp2_with (first
    | (go_at_call 23; (with_reducible refine (pfirst w0 (tabR_then HQ0.out HT0.out) (tabB_then HQ0.out HB0.out)).mono ?_); rintro e wq1 ⟨rfl, bq⟩; have HQ1 := Lib.hid (below_then HQ0.out bq HQ0.out.size); clear bq; clear p0 p1 p2 p3 q0 q1 q2 q3; obtain ⟨p0, p1, p2, p3, q0, q1, q2, q3⟩ := CL.out _ HQ1.out)
    | (go_at_call 24; (with_reducible refine (sealK D1 V1 n1 a1 l1.length c1 l1 X1 ka key.length kc key wq1 HXE1.out rfl rfl E11.out E12.out E13.out E14.out E15.out E16.out (sl_then HQ1.out (Nat.le_refl _) HS10.out) HZ1.out HC1.out HX1.out (sl_then HQ1.out (Nat.le_refl _) HKS0.out) HK0.out HKC.out HKX.out HK8.out (tabR_then HQ1.out HT0.out) (tabB_then HQ1.out HB0.out)).mono ?_); rintro e wq2 ⟨xb, xo, xc, rfl, _, _, _, bq⟩; have HQ2 := Lib.hid (below_then HQ1.out bq HQ1.out.size); clear bq; clear p0 p1 p2 p3 q0 q1 q2 q3; obtain ⟨p0, p1, p2, p3, q0, q1, q2, q3⟩ := CL.out _ HQ2.out)
    | (go_at_call 24; (with_reducible refine (sealN d2 v2 n2 a2 l2.length c2 l2 ka kc key.length wq2 rfl HM2.out).mono ?_); rintro e wq3 ⟨rfl, bq⟩; have HQ3 := Lib.hid (below_then HQ2.out bq HQ2.out.size); clear bq; clear p0 p1 p2 p3 q0 q1 q2 q3; obtain ⟨p0, p1, p2, p3, q0, q1, q2, q3⟩ := CL.out _ HQ3.out)
    | (go_at_call 30; (with_reducible refine (mayE (D1 : Int) (V1 : Int) n1 a1 l1.length c1 l1 wq3 true rfl (may_num D1 V1 n1 _ E11.out E12.out E13.out E14.out E15.out E16.out)).mono ?_); rintro e wq4 ⟨rfl, bq⟩; have HQ4 := Lib.hid (below_then HQ3.out bq HQ3.out.size); clear bq; clear p0 p1 p2 p3 q0 q1 q2 q3; obtain ⟨p0, p1, p2, p3, q0, q1, q2, q3⟩ := CL.out _ HQ4.out)
    | (go_at_call 23; (with_reducible refine (pfirst wq4 (tabR_then HQ4.out HT0.out) (tabB_then HQ4.out HB0.out)).mono ?_); rintro e wq5 ⟨rfl, bq⟩; have HQ5 := Lib.hid (below_then HQ4.out bq HQ4.out.size); clear bq; clear p0 p1 p2 p3 q0 q1 q2 q3; obtain ⟨p0, p1, p2, p3, q0, q1, q2, q3⟩ := CL.out _ HQ5.out))
  go_ret
  exact ⟨rfl, below_then HBA.out HQ5.out HBA.out.size⟩

theorem cells_take {w : World} {b o : Nat} {l : List Nat} (h : Sl w (some ⟨b, o, none⟩) l) (n : Nat) (m : List Nat) (hm : m = l.take n) : Cells w b o m := cells_of_sl (sl_take (cells_of_sl h) n m hm)

set_option maxRecDepth 100000 in
set_option maxHeartbeats 4000000 in
theorem apart1 (ka : Option Addr) (kc : Nat) (key : List Nat) (D1 V1 n1 : Nat) (a1 : Option Addr) (c1 : Nat) (l1 : List Nat) (D2 V2 n2 : Nat) (a2 : Option Addr) (c2 : Nat) (l2 : List Nat) (w : World) (ks : Sl w ka key) (k0 : ka = none → kc = 0) (kcap : key.length ≤ kc) (kl : ∀ c ∈ key, c < 256) (klen : key.length ≤ 1000) (s1 : Sl w a1 l1) (z1 : a1 = none → c1 = 0) (k1 : l1.length ≤ c1) (x1 : ∀ c ∈ l1, c < 256) (m1 : l1.length ≤ 3000) (s2 : Sl w a2 l2) (z2 : a2 = none → c2 = 0) (k2 : l2.length ≤ c2) (x2 : ∀ c ∈ l2, c < 256) (m2 : l2.length ≤ 3000) (e11 : 1 ≤ D1) (e12 : D1 ≤ 2) (e13 : V1 < 8) (e14 : 1 ≤ n1) (e15 : n1 ≤ 4611686018427387904) (e16 : l1.length ≤ 1200) (e21 : 1 ≤ D2) (e22 : D2 ≤ 2) (e23 : V2 < 8) (e24 : 1 ≤ n2) (e25 : n2 ≤ 4611686018427387904) (e26 : l2.length ≤ 1200) (M : Nat) (hM : M = 9 + l1.length) (hlt : M < 26) (hT : TabR w) (hB : TabB w) :
    Calls Tryd.prog 9 #[.slice ka key.length kc, .agg #[.int .i64 (D1 : Int), .int .i64 (V1 : Int), .int .u64 (n1 : Int), .slice a1 l1.length c1], .agg #[.int .i64 (D2 : Int), .int .i64 (V2 : Int), .int .u64 (n2 : Int), .slice a2 l2.length c2]] w fun e w' => e = .returned (.bool true) ∧ Below w.heap.size w w' := by
  have HS1 := Lib.hid s1
  have HZ1 := Lib.hid z1
  have HC1 := Lib.hid k1
  have HX1 := Lib.hid x1
  have tl1 : ¬ 3000 < (l1.length : Int) := by omega
  have HS2 := Lib.hid s2
  have HZ2 := Lib.hid z2
  have HC2 := Lib.hid k2
  have HX2 := Lib.hid x2
  have tl2 : ¬ 3000 < (l2.length : Int) := by omega
  have HKS := Lib.hid ks
  have HK0 := Lib.hid k0
  have HKC := Lib.hid kcap
  have HKX := Lib.hid kl
  have HK8 := Lib.hid (show key.length ≤ 800000 by omega)
  have tk : ¬ 1000 < (key.length : Int) := by omega
  have HT := Lib.hid hT
  have HB := Lib.hid hB
  obtain ⟨X1, hX1⟩ : ∃ X, X = sealL key D1 V1 n1 l1 := ⟨_, rfl⟩
  have HXE1 := Lib.hid hX1
  have HXL1 := Lib.hid (show X1.length = 26 + l1.length by rw [hX1, sealL_len])
  have HXX1 := Lib.hid (show ∀ c ∈ X1, c < 256 by rw [hX1]; exact sealL_lt _ _ _ _ _ (by omega) (by omega) x1)
  have E11 := Lib.hid e11
  have E12 := Lib.hid e12
  have E13 := Lib.hid e13
  have E14 := Lib.hid e14
  have E15 := Lib.hid e15
  have E16 := Lib.hid e16
  clear e11
  clear e12
  clear e13
  clear e14
  clear e15
  clear e16
  obtain ⟨X2, hX2⟩ : ∃ X, X = sealL key D2 V2 n2 l2 := ⟨_, rfl⟩
  have HXE2 := Lib.hid hX2
  have HXL2 := Lib.hid (show X2.length = 26 + l2.length by rw [hX2, sealL_len])
  have HXX2 := Lib.hid (show ∀ c ∈ X2, c < 256 by rw [hX2]; exact sealL_lt _ _ _ _ _ (by omega) (by omega) x2)
  have E21 := Lib.hid e21
  have E22 := Lib.hid e22
  have E23 := Lib.hid e23
  have E24 := Lib.hid e24
  have E25 := Lib.hid e25
  have E26 := Lib.hid e26
  clear e21
  clear e22
  clear e23
  clear e24
  clear e25
  clear e26
  have CL := Lib.hid (fun W (h : Below ((w.alloc (.cells #[.int .i64 (D1 : Int), .int .i64 (V1 : Int), .int .u64 (n1 : Int), .slice a1 l1.length c1] 35)).alloc (.cells #[.int .i64 (D2 : Int), .int .i64 (V2 : Int), .int .u64 (n2 : Int), .slice a2 l2.length c2] 35)).heap.size ((w.alloc (.cells #[.int .i64 (D1 : Int), .int .i64 (V1 : Int), .int .u64 (n1 : Int), .slice a1 l1.length c1] 35)).alloc (.cells #[.int .i64 (D2 : Int), .int .i64 (V2 : Int), .int .u64 (n2 : Int), .slice a2 l2.length c2] 35)) W) => boxes2 w W 35 _ _ _ _ _ _ _ _ h)
  have HBA := Lib.hid (show Below w.heap.size w ((w.alloc (.cells #[.int .i64 (D1 : Int), .int .i64 (V1 : Int), .int .u64 (n1 : Int), .slice a1 l1.length c1] 35)).alloc (.cells #[.int .i64 (D2 : Int), .int .i64 (V2 : Int), .int .u64 (n2 : Int), .slice a2 l2.length c2] 35)) from ((Below.refl _ w).alloc (Nat.le_refl _) _).alloc (by simp) _)
  have y1 : (X1.length : Int) - 17 = (M : Int) := by have := HXL1.out; omega
  have y2 : (M : Int) ≤ (X1.length : Int) := by have := HXL1.out; omega
  have y4 : ¬ (X1.length : Int) < 26 := by have := HXL1.out; omega
  have HMX := Lib.hid (show M + 17 = X1.length by have := HXL1.out; omega)
  obtain ⟨RR, hRR⟩ : ∃ R, R = decide (X1 = X2) := ⟨_, rfl⟩
  have HRR := Lib.hid hRR
  have HRS := Lib.hid (show RR = sameB (D1 : Int) (V1 : Int) n1 l1 (D2 : Int) (V2 : Int) n2 l2 by rw [hRR, hX1, hX2]; exact sealL_same key D1 V1 n1 D2 V2 n2 l1 l2 (by have := E15.out; omega) (by have := E25.out; omega))
  have y3 := wr_w M (by have := E16.out; omega)
  have HLT := Lib.hid hlt
  clear hRR hM hlt
  clear ks k0 kcap kl klen s1 z1 k1 x1 m1 s2 z2 k2 x2 m2 hT hB hX1 hX2
  go_enter Tryd.func9, Tryd.ntmps9
  go_wp2_with fail
  generalize ((w.alloc (.cells #[.int .i64 (D1 : Int), .int .i64 (V1 : Int), .int .u64 (n1 : Int), .slice a1 l1.length c1] 35)).alloc (.cells #[.int .i64 (D2 : Int), .int .i64 (V2 : Int), .int .u64 (n2 : Int), .slice a2 l2.length c2] 35)) = w0 at *
  have HKS0 := Lib.hid (sl_then HBA.out (Nat.le_refl _) HKS.out)
  have HS10 := Lib.hid (sl_then HBA.out (Nat.le_refl _) HS1.out)
  have HS20 := Lib.hid (sl_then HBA.out (Nat.le_refl _) HS2.out)
  have HT0 := Lib.hid (tabR_then HBA.out HT.out)
  have HB0 := Lib.hid (tabB_then HBA.out HB.out)
  have HQ0 := Lib.hid (Below.refl w0.heap.size w0)
  obtain ⟨p0, p1, p2, p3, q0, q1, q2, q3⟩ := CL.out _ HQ0.out
  go_wp2_with (first
    | (go_at_call 23; (with_reducible refine (pfirst w0 (tabR_then HQ0.out HT0.out) (tabB_then HQ0.out HB0.out)).mono ?_); rintro e wq1 ⟨rfl, bq⟩; have HQ1 := Lib.hid (below_then HQ0.out bq HQ0.out.size); clear bq; clear p0 p1 p2 p3 q0 q1 q2 q3; obtain ⟨p0, p1, p2, p3, q0, q1, q2, q3⟩ := CL.out _ HQ1.out)
    | (go_at_call 24; (with_reducible refine (sealK D1 V1 n1 a1 l1.length c1 l1 X1 ka key.length kc key wq1 HXE1.out rfl rfl E11.out E12.out E13.out E14.out E15.out E16.out (sl_then HQ1.out (Nat.le_refl _) HS10.out) HZ1.out HC1.out HX1.out (sl_then HQ1.out (Nat.le_refl _) HKS0.out) HK0.out HKC.out HKX.out HK8.out (tabR_then HQ1.out HT0.out) (tabB_then HQ1.out HB0.out)).mono ?_); rintro e wq2 ⟨xb, xo, xc, rfl, lx, kx, _, bq⟩; have HQ2 := Lib.hid (below_then HQ1.out bq HQ1.out.size); have X_2 := Lib.hid lx; clear bq lx; clear p0 p1 p2 p3 q0 q1 q2 q3; obtain ⟨p0, p1, p2, p3, q0, q1, q2, q3⟩ := CL.out _ HQ2.out; have y5 : (M : Int) ≤ (xc : Int) := (by have := HMX.out; omega); have y6 : ¬ xc = 0 := (by have := HXL1.out; omega); have y7 : (xc : Int) ≠ 0 := (by omega); have HKXC := Lib.hid kx; clear kx y7)
    | (go_at_call 24; (with_reducible refine (sealK D2 V2 n2 a2 l2.length c2 l2 X2 ka key.length kc key wq2 HXE2.out rfl rfl E21.out E22.out E23.out E24.out E25.out E26.out (sl_then HQ2.out (Nat.le_refl _) HS20.out) HZ2.out HC2.out HX2.out (sl_then HQ2.out (Nat.le_refl _) HKS0.out) HK0.out HKC.out HKX.out HK8.out (tabR_then HQ2.out HT0.out) (tabB_then HQ2.out HB0.out)).mono ?_); rintro e wq3 ⟨yb, yo, yc, rfl, ly, _, _, bq⟩; have HQ3 := Lib.hid (below_then HQ2.out bq HQ2.out.size); have X_3 := Lib.hid (sl_then bq (Nat.le_refl _) X_2.out); have Y_3 := Lib.hid ly; clear bq ly; clear p0 p1 p2 p3 q0 q1 q2 q3; obtain ⟨p0, p1, p2, p3, q0, q1, q2, q3⟩ := CL.out _ HQ3.out)
    | (go_at_call 30; (with_reducible refine (mayE (D1 : Int) (V1 : Int) n1 a1 l1.length c1 l1 wq3 true rfl (may_num D1 V1 n1 _ E11.out E12.out E13.out E14.out E15.out E16.out)).mono ?_); rintro e wq4 ⟨rfl, bq⟩; have HQ4 := Lib.hid (below_then HQ3.out bq HQ3.out.size); have X_4 := Lib.hid (sl_then bq (Nat.le_refl _) X_3.out); have Y_4 := Lib.hid (sl_then bq (Nat.le_refl _) Y_3.out); clear bq; clear p0 p1 p2 p3 q0 q1 q2 q3; obtain ⟨p0, p1, p2, p3, q0, q1, q2, q3⟩ := CL.out _ HQ4.out)
    | (go_at_call 27; (with_reducible refine (openShortE (some ⟨xb, xo, none⟩) M xc ka key.length kc wq4 HLT.out).mono ?_); rintro e wq5 ⟨rfl, bq⟩; have HQ5 := Lib.hid (below_then HQ4.out bq HQ4.out.size); have X_5 := Lib.hid (sl_then bq (Nat.le_refl _) X_4.out); have Y_5 := Lib.hid (sl_then bq (Nat.le_refl _) Y_4.out); clear bq; clear p0 p1 p2 p3 q0 q1 q2 q3; obtain ⟨p0, p1, p2, p3, q0, q1, q2, q3⟩ := CL.out _ HQ5.out))
  have HQZ := Lib.hid (HQ5.out.alloc HQ5.out.size (.cells #[.int .i64 0, .int .i64 0, .int .u64 0, .slice none 0 0] 35))
  have HXz := Lib.hid (sl_alloc X_5.out (.cells #[.int .i64 0, .int .i64 0, .int .u64 0, .slice none 0 0] 35))
  have HYz := Lib.hid (sl_alloc Y_5.out (.cells #[.int .i64 0, .int .i64 0, .int .u64 0, .slice none 0 0] 35))
  clear p0 p1 p2 p3 q0 q1 q2 q3
  as_aux_lemma =>
    generalize (wq5.alloc (.cells #[.int .i64 0, .int .i64 0, .int .u64 0, .slice none 0 0] 35)) = wz at *
    have HKSz := Lib.hid (sl_then HQZ.out (Nat.le_refl _) HKS0.out)
    have HS1z := Lib.hid (sl_then HQZ.out (Nat.le_refl _) HS10.out)
    have HS2z := Lib.hid (sl_then HQZ.out (Nat.le_refl _) HS20.out)
    have HTz := Lib.hid (tabR_then HQZ.out HT0.out)
    have HBz := Lib.hid (tabB_then HQZ.out HB0.out)
    have KS := Lib.hid (show ∀ W, Below wz.heap.size wz W → W.cell? ⟨w.heap.size, 0, none⟩ = some (.int .i64 (D1 : Int)) ∧ W.cell? ⟨w.heap.size, 1, none⟩ = some (.int .i64 (V1 : Int)) ∧ W.cell? ⟨w.heap.size, 2, none⟩ = some (.int .u64 (n1 : Int)) ∧ W.cell? ⟨w.heap.size, 3, none⟩ = some (.slice a1 l1.length c1) ∧ W.cell? ⟨w.heap.size + 1, 0, none⟩ = some (.int .i64 (D2 : Int)) ∧ W.cell? ⟨w.heap.size + 1, 1, none⟩ = some (.int .i64 (V2 : Int)) ∧ W.cell? ⟨w.heap.size + 1, 2, none⟩ = some (.int .u64 (n2 : Int)) ∧ W.cell? ⟨w.heap.size + 1, 3, none⟩ = some (.slice a2 l2.length c2) ∧ Below wz.heap.size wz W from fun W h => by
      obtain ⟨p0, p1, p2, p3, q0, q1, q2, q3⟩ := CL.out _ (below_then HQZ.out h HQZ.out.size)
      exact ⟨p0, p1, p2, p3, q0, q1, q2, q3, h⟩)
    have KB := Lib.hid (show ∀ W, (W.cell? ⟨w.heap.size, 0, none⟩ = some (.int .i64 (D1 : Int)) ∧ W.cell? ⟨w.heap.size, 1, none⟩ = some (.int .i64 (V1 : Int)) ∧ W.cell? ⟨w.heap.size, 2, none⟩ = some (.int .u64 (n1 : Int)) ∧ W.cell? ⟨w.heap.size, 3, none⟩ = some (.slice a1 l1.length c1) ∧ W.cell? ⟨w.heap.size + 1, 0, none⟩ = some (.int .i64 (D2 : Int)) ∧ W.cell? ⟨w.heap.size + 1, 1, none⟩ = some (.int .i64 (V2 : Int)) ∧ W.cell? ⟨w.heap.size + 1, 2, none⟩ = some (.int .u64 (n2 : Int)) ∧ W.cell? ⟨w.heap.size + 1, 3, none⟩ = some (.slice a2 l2.length c2) ∧ Below wz.heap.size wz W) → Below wz.heap.size wz W from fun W h => h.2.2.2.2.2.2.2.2)
    have y8 : (26 : Int) ≤ (X1.length : Int) := by have := HXL1.out; omega
    go_wp2_with fail
    refine wp_region_held_drew (S := (fun W => W.cell? ⟨w.heap.size, 0, none⟩ = some (.int .i64 (D1 : Int)) ∧ W.cell? ⟨w.heap.size, 1, none⟩ = some (.int .i64 (V1 : Int)) ∧ W.cell? ⟨w.heap.size, 2, none⟩ = some (.int .u64 (n1 : Int)) ∧ W.cell? ⟨w.heap.size, 3, none⟩ = some (.slice a1 l1.length c1) ∧ W.cell? ⟨w.heap.size + 1, 0, none⟩ = some (.int .i64 (D2 : Int)) ∧ W.cell? ⟨w.heap.size + 1, 1, none⟩ = some (.int .i64 (V2 : Int)) ∧ W.cell? ⟨w.heap.size + 1, 2, none⟩ = some (.int .u64 (n2 : Int)) ∧ W.cell? ⟨w.heap.size + 1, 3, none⟩ = some (.slice a2 l2.length c2) ∧ Below wz.heap.size wz W)) (by kernel_rfl) ?_ (fun hHeld => ?_)
    · ((try dsimp only); (first | (with_reducible exact KS.out _ hN) | (with_reducible exact hHeld) | exact KS.out _ (Below.refl _ _).drew | exact KS.out _ (Below.refl _ _)))
    refine wpAnyH_ready (rs := [0]) (by kernel_rfl) (by simp) ?_
    refine (AllReadyH.cons (o := { dst := some 81, op := Op.call { callee := Callee.value (Operand.func 23), args := #[], argTypes := #[] }, type := 4, pos := _, after := #[], guard := none }) rfl (fun K hK => ?_) AllReadyH.nil)
    go_simp
    (go_at_call 23; (with_reducible refine (pfirst _ (tabR_then (KB.out _ hHeld) HTz.out) (tabB_then (KB.out _ hHeld) HBz.out)).mono ?_); rintro e wa ⟨rfl, ba⟩; have hN := below_then (KB.out _ hHeld) ba (KB.out _ hHeld).size; clear ba)
    go_wp2_with fail
    refine hK.out _ _ ?_ (fun hHeld => ?_)
    · ((try dsimp only); (first | (with_reducible exact KS.out _ hN) | (with_reducible exact hHeld) | exact KS.out _ (Below.refl _ _).drew | exact KS.out _ (Below.refl _ _)))
    clear hK K
    try simp only [Act.put, List.setIfInBounds_toArray, List.set_cons_zero, List.set_cons_succ]
    refine wpAnyH_take (i := 1) (oi := { dst := some 82, op := Op.move (Operand.tmp 81), type := 4, pos := _, after := #[{ on := 0, ground := Ground.data }, { on := 0, ground := Ground.chain }], guard := none }) (v := ?_) rfl (by kernel_rfl) (by kernel_rfl) (by kernel_rfl) (fun _ _ _ h => h) (Or.inl ⟨by rfl, ?_⟩) (by assumption) ?_
    rotate_left
    · ((intro w hSw); (try dsimp only at hSw); go_simp; (try with_reducible rfl))
    try simp only [Act.put, List.setIfInBounds_toArray, List.set_cons_zero, List.set_cons_succ]
    refine wpAnyH_take (i := 2) (oi := { dst := some 83, op := Op.move (Operand.tmp 7), type := 22, pos := _, after := #[{ on := 1, ground := Ground.guard }], guard := some (1, true) }) (v := ?_) rfl (by kernel_rfl) (by kernel_rfl) (by kernel_rfl) (fun _ _ _ h => h) (Or.inl ⟨by rfl, ?_⟩) (by assumption) ?_
    rotate_left
    · ((intro w hSw); (try dsimp only at hSw); go_simp; (try with_reducible rfl))
    try simp only [Act.put, List.setIfInBounds_toArray, List.set_cons_zero, List.set_cons_succ]
    refine wpAnyH_take (i := 3) (oi := { dst := some 84, op := Op.move (Operand.tmp 9), type := 22, pos := _, after := #[{ on := 1, ground := Ground.guard }], guard := some (1, true) }) (v := ?_) rfl (by kernel_rfl) (by kernel_rfl) (by kernel_rfl) (fun _ _ _ h => h) (Or.inl ⟨by rfl, ?_⟩) (by assumption) ?_
    rotate_left
    · ((intro w hSw); (try dsimp only at hSw); go_simp; (try with_reducible rfl))
    try simp only [Act.put, List.setIfInBounds_toArray, List.set_cons_zero, List.set_cons_succ]
    refine wpAnyH_take (i := 5) (oi := { dst := some 86, op := Op.load 35 (Operand.tmp 4), type := 35, pos := _, after := #[{ on := 1, ground := Ground.guard }], guard := some (1, true) }) (v := ?_) rfl (by kernel_rfl) (by kernel_rfl) (by kernel_rfl) (fun _ _ _ h => h) (Or.inl ⟨by rfl, ?_⟩) (by assumption) ?_
    rotate_left
    · ((intro w hSw); (try dsimp only at hSw); go_simp; (try with_reducible rfl))
    try simp only [Act.put, List.setIfInBounds_toArray, List.set_cons_zero, List.set_cons_succ]
    refine wpAnyH_take (i := 6) (oi := { dst := some 87, op := Op.load 35 (Operand.tmp 5), type := 35, pos := _, after := #[{ on := 1, ground := Ground.guard }], guard := some (1, true) }) (v := ?_) rfl (by kernel_rfl) (by kernel_rfl) (by kernel_rfl) (fun _ _ _ h => h) (Or.inl ⟨by rfl, ?_⟩) (by assumption) ?_
    rotate_left
    · ((intro w hSw); (try dsimp only at hSw); go_simp; (try with_reducible rfl))
    try simp only [Act.put, List.setIfInBounds_toArray, List.set_cons_zero, List.set_cons_succ]
    refine wpAnyH_ready (rs := [4]) (by kernel_rfl) (by simp) ?_
    refine (AllReadyH.cons (o := { dst := some 85, op := Op.call { callee := Callee.value (Operand.func 15), args := #[Operand.tmp 83, Operand.tmp 84], argTypes := #[22, 22] }, type := 4, pos := _, after := #[{ on := 2, ground := Ground.data }, { on := 3, ground := Ground.data }, { on := 1, ground := Ground.chain }, { on := 1, ground := Ground.guard }], guard := some (1, true) }) rfl (fun K hK => ?_) AllReadyH.nil)
    go_simp
    (go_at_call 15; (with_reducible refine (bytesD (some ⟨xb, xo, none⟩) (some ⟨yb, yo, none⟩) xc yc X1.length X2.length X1 X2 _ RR rfl rfl (sl_then (KB.out _ hHeld) (Nat.le_refl _) HXz.out) (sl_then (KB.out _ hHeld) (Nat.le_refl _) HYz.out) HXX1.out HXX2.out HRR.out).mono ?_); rintro e wb ⟨rfl, rfl⟩)
    go_wp2_with fail
    refine hK.out _ _ ?_ (fun hHeld => ?_)
    · ((try dsimp only); (first | (with_reducible exact KS.out _ hN) | (with_reducible exact hHeld) | exact KS.out _ (Below.refl _ _).drew | exact KS.out _ (Below.refl _ _)))
    clear hK K
    try simp only [Act.put, List.setIfInBounds_toArray, List.set_cons_zero, List.set_cons_succ]
    refine wpAnyH_ready (rs := [7]) (by kernel_rfl) (by simp) ?_
    refine (AllReadyH.cons (o := { dst := some 88, op := Op.call { callee := Callee.value (Operand.func 32), args := #[Operand.tmp 86, Operand.tmp 87], argTypes := #[35, 35] }, type := 4, pos := _, after := #[{ on := 5, ground := Ground.data }, { on := 6, ground := Ground.data }, { on := 4, ground := Ground.chain }, { on := 1, ground := Ground.guard }], guard := some (1, true) }) rfl (fun K hK => ?_) AllReadyH.nil)
    go_simp
    (go_at_call 32; (with_reducible refine (sameP (D1 : Int) (V1 : Int) n1 a1 l1.length c1 l1 (D2 : Int) (V2 : Int) n2 a2 l2.length c2 l2 _ rfl rfl (sl_then (KB.out _ hHeld) (Nat.le_refl _) HS1z.out) (sl_then (KB.out _ hHeld) (Nat.le_refl _) HS2z.out) HX1.out HX2.out RR HRS.out).mono ?_); rintro e wa ⟨rfl, ba⟩; have hN := below_then (KB.out _ hHeld) ba (KB.out _ hHeld).size; clear ba)
    go_wp2_with fail
    refine hK.out _ _ ?_ (fun hHeld => ?_)
    · ((try dsimp only); (first | (with_reducible exact KS.out _ hN) | (with_reducible exact hHeld) | exact KS.out _ (Below.refl _ _).drew | exact KS.out _ (Below.refl _ _)))
    clear hK K
    try simp only [Act.put, List.setIfInBounds_toArray, List.set_cons_zero, List.set_cons_succ]
    refine wpAnyH_take (i := 8) (oi := { dst := some 89, op := Op.binOp BinOp.eql 4 (Operand.tmp 85) (Operand.tmp 88) 4, type := 4, pos := _, after := #[{ on := 4, ground := Ground.data }, { on := 7, ground := Ground.data }, { on := 1, ground := Ground.guard }], guard := some (1, true) }) (v := ?_) rfl (by kernel_rfl) (by kernel_rfl) (by kernel_rfl) (fun _ _ _ h => h) (Or.inl ⟨by rfl, ?_⟩) (by assumption) ?_
    rotate_left
    · ((intro w hSw); (try dsimp only at hSw); go_simp; (try with_reducible rfl))
    try simp only [Act.put, List.setIfInBounds_toArray, List.set_cons_zero, List.set_cons_succ]
    refine wpAnyH_take (i := 9) (oi := { dst := some 90, op := Op.pick (Operand.tmp 82) (Operand.tmp 89) (Operand.const (Value.bool false)), type := 4, pos := _, after := #[{ on := 1, ground := Ground.data }, { on := 8, ground := Ground.data }], guard := none }) (v := ?_) rfl (by kernel_rfl) (by kernel_rfl) (by kernel_rfl) (fun _ _ _ h => h) (Or.inl ⟨by rfl, ?_⟩) (by assumption) ?_
    rotate_left
    · ((intro w hSw); (try dsimp only at hSw); go_simp; (try with_reducible rfl))
    try simp only [Act.put, List.setIfInBounds_toArray, List.set_cons_zero, List.set_cons_succ]
    refine wpAnyH_take (i := 10) (oi := { dst := some 91, op := Op.move (Operand.tmp 90), type := 4, pos := _, after := #[{ on := 9, ground := Ground.data }, { on := 7, ground := Ground.chain }], guard := none }) (v := ?_) rfl (by kernel_rfl) (by kernel_rfl) (by kernel_rfl) (fun _ _ _ h => h) (Or.inl ⟨by rfl, ?_⟩) (by assumption) ?_
    rotate_left
    · ((intro w hSw); (try dsimp only at hSw); go_simp; (try with_reducible rfl))
    try simp only [Act.put, List.setIfInBounds_toArray, List.set_cons_zero, List.set_cons_succ]
    refine wpAnyH_take (i := 11) (oi := { dst := some 92, op := Op.move (Operand.tmp 12), type := 36, pos := _, after := #[{ on := 10, ground := Ground.guard }], guard := some (10, true) }) (v := ?_) rfl (by kernel_rfl) (by kernel_rfl) (by kernel_rfl) (fun _ _ _ h => h) (Or.inl ⟨by rfl, ?_⟩) (by assumption) ?_
    rotate_left
    · ((intro w hSw); (try dsimp only at hSw); go_simp; (try with_reducible rfl))
    try simp only [Act.put, List.setIfInBounds_toArray, List.set_cons_zero, List.set_cons_succ]
    refine wpAnyH_take (i := 12) (oi := { dst := some 93, op := Op.binOp BinOp.eql 36 (Operand.tmp 92) (Operand.const (Value.int IntKind.i64 3)) 36, type := 4, pos := _, after := #[{ on := 11, ground := Ground.data }, { on := 10, ground := Ground.guard }], guard := some (10, true) }) (v := ?_) rfl (by kernel_rfl) (by kernel_rfl) (by kernel_rfl) (fun _ _ _ h => h) (Or.inl ⟨by rfl, ?_⟩) (by assumption) ?_
    rotate_left
    · ((intro w hSw); (try dsimp only at hSw); go_simp; (try with_reducible rfl))
    try simp only [Act.put, List.setIfInBounds_toArray, List.set_cons_zero, List.set_cons_succ]
    refine wpAnyH_take (i := 13) (oi := { dst := some 94, op := Op.move (Operand.tmp 93), type := 4, pos := _, after := #[{ on := 12, ground := Ground.data }, { on := 10, ground := Ground.chain }, { on := 10, ground := Ground.guard }], guard := some (10, true) }) (v := ?_) rfl (by kernel_rfl) (by kernel_rfl) (by kernel_rfl) (fun _ _ _ h => h) (Or.inl ⟨by rfl, ?_⟩) (by assumption) ?_
    rotate_left
    · ((intro w hSw); (try dsimp only at hSw); go_simp; (try with_reducible rfl))
    try simp only [Act.put, List.setIfInBounds_toArray, List.set_cons_zero, List.set_cons_succ]
    refine wpAnyH_take (i := 14) (oi := { dst := some 95, op := Op.move (Operand.tmp 12), type := 36, pos := _, after := #[{ on := 13, ground := Ground.guard }], guard := some (13, false) }) (v := undef) rfl (by kernel_rfl) (by kernel_rfl) (by kernel_rfl) (fun _ _ _ h => h) (Or.inr ⟨by rfl, rfl⟩) (by assumption) ?_
    try simp only [Act.put, List.setIfInBounds_toArray, List.set_cons_zero, List.set_cons_succ]
    refine wpAnyH_take (i := 15) (oi := { dst := some 96, op := Op.binOp BinOp.eql 36 (Operand.tmp 95) (Operand.const (Value.int IntKind.i64 15)) 36, type := 4, pos := _, after := #[{ on := 14, ground := Ground.data }, { on := 13, ground := Ground.guard }], guard := some (13, false) }) (v := undef) rfl (by kernel_rfl) (by kernel_rfl) (by kernel_rfl) (fun _ _ _ h => h) (Or.inr ⟨by rfl, rfl⟩) (by assumption) ?_
    try simp only [Act.put, List.setIfInBounds_toArray, List.set_cons_zero, List.set_cons_succ]
    refine wpAnyH_take (i := 16) (oi := { dst := some 97, op := Op.pick (Operand.tmp 94) (Operand.const (Value.bool true)) (Operand.tmp 96), type := 4, pos := _, after := #[{ on := 13, ground := Ground.data }, { on := 15, ground := Ground.data }, { on := 10, ground := Ground.guard }], guard := some (10, true) }) (v := ?_) rfl (by kernel_rfl) (by kernel_rfl) (by kernel_rfl) (fun _ _ _ h => h) (Or.inl ⟨by rfl, ?_⟩) (by assumption) ?_
    rotate_left
    · ((intro w hSw); (try dsimp only at hSw); go_simp; (try with_reducible rfl))
    try simp only [Act.put, List.setIfInBounds_toArray, List.set_cons_zero, List.set_cons_succ]
    refine wpAnyH_take (i := 17) (oi := { dst := some 98, op := Op.move (Operand.tmp 97), type := 4, pos := _, after := #[{ on := 16, ground := Ground.data }, { on := 13, ground := Ground.chain }, { on := 10, ground := Ground.guard }], guard := some (10, true) }) (v := ?_) rfl (by kernel_rfl) (by kernel_rfl) (by kernel_rfl) (fun _ _ _ h => h) (Or.inl ⟨by rfl, ?_⟩) (by assumption) ?_
    rotate_left
    · ((intro w hSw); (try dsimp only at hSw); go_simp; (try with_reducible rfl))
    try simp only [Act.put, List.setIfInBounds_toArray, List.set_cons_zero, List.set_cons_succ]
    refine wpAnyH_take (i := 18) (oi := { dst := some 99, op := Op.move (Operand.tmp 7), type := 22, pos := _, after := #[{ on := 17, ground := Ground.guard }], guard := some (17, false) }) (v := undef) rfl (by kernel_rfl) (by kernel_rfl) (by kernel_rfl) (fun _ _ _ h => h) (Or.inr ⟨by rfl, rfl⟩) (by assumption) ?_
    try simp only [Act.put, List.setIfInBounds_toArray, List.set_cons_zero, List.set_cons_succ]
    refine wpAnyH_take (i := 19) (oi := { dst := some 100, op := Op.call { callee := Callee.builtin Builtin.len, args := #[Operand.tmp 99], argTypes := #[22] }, type := 3, pos := _, after := #[{ on := 18, ground := Ground.data }, { on := 17, ground := Ground.guard }], guard := some (17, false) }) (v := undef) rfl (by kernel_rfl) (by kernel_rfl) (by kernel_rfl) (fun _ _ _ h => h) (Or.inr ⟨by rfl, rfl⟩) (by assumption) ?_
    try simp only [Act.put, List.setIfInBounds_toArray, List.set_cons_zero, List.set_cons_succ]
    refine wpAnyH_take (i := 20) (oi := { dst := some 101, op := Op.binOp BinOp.geq 3 (Operand.tmp 100) (Operand.const (Value.int IntKind.i64 43)) 3, type := 4, pos := _, after := #[{ on := 19, ground := Ground.data }, { on := 17, ground := Ground.guard }], guard := some (17, false) }) (v := undef) rfl (by kernel_rfl) (by kernel_rfl) (by kernel_rfl) (fun _ _ _ h => h) (Or.inr ⟨by rfl, rfl⟩) (by assumption) ?_
    try simp only [Act.put, List.setIfInBounds_toArray, List.set_cons_zero, List.set_cons_succ]
    refine wpAnyH_take (i := 21) (oi := { dst := some 102, op := Op.move (Operand.tmp 101), type := 4, pos := _, after := #[{ on := 20, ground := Ground.data }, { on := 17, ground := Ground.chain }, { on := 17, ground := Ground.guard }], guard := some (17, false) }) (v := undef) rfl (by kernel_rfl) (by kernel_rfl) (by kernel_rfl) (fun _ _ _ h => h) (Or.inr ⟨by rfl, rfl⟩) (by assumption) ?_
    try simp only [Act.put, List.setIfInBounds_toArray, List.set_cons_zero, List.set_cons_succ]
    refine wpAnyH_take (i := 22) (oi := { dst := some 103, op := Op.move (Operand.tmp 0), type := 22, pos := _, after := #[{ on := 21, ground := Ground.guard }], guard := some (21, true) }) (v := undef) rfl (by kernel_rfl) (by kernel_rfl) (by kernel_rfl) (fun _ _ _ h => h) (Or.inr ⟨by rfl, rfl⟩) (by assumption) ?_
    try simp only [Act.put, List.setIfInBounds_toArray, List.set_cons_zero, List.set_cons_succ]
    refine wpAnyH_take (i := 23) (oi := { dst := some 104, op := Op.move (Operand.tmp 7), type := 22, pos := _, after := #[{ on := 21, ground := Ground.guard }], guard := some (21, true) }) (v := undef) rfl (by kernel_rfl) (by kernel_rfl) (by kernel_rfl) (fun _ _ _ h => h) (Or.inr ⟨by rfl, rfl⟩) (by assumption) ?_
    try simp only [Act.put, List.setIfInBounds_toArray, List.set_cons_zero, List.set_cons_succ]
    refine wpAnyH_take (i := 24) (oi := { dst := some 105, op := Op.move (Operand.tmp 7), type := 22, pos := _, after := #[{ on := 21, ground := Ground.guard }], guard := some (21, true) }) (v := undef) rfl (by kernel_rfl) (by kernel_rfl) (by kernel_rfl) (fun _ _ _ h => h) (Or.inr ⟨by rfl, rfl⟩) (by assumption) ?_
    try simp only [Act.put, List.setIfInBounds_toArray, List.set_cons_zero, List.set_cons_succ]
    refine wpAnyH_take (i := 25) (oi := { dst := some 106, op := Op.call { callee := Callee.builtin Builtin.len, args := #[Operand.tmp 105], argTypes := #[22] }, type := 3, pos := _, after := #[{ on := 24, ground := Ground.data }, { on := 21, ground := Ground.guard }], guard := some (21, true) }) (v := undef) rfl (by kernel_rfl) (by kernel_rfl) (by kernel_rfl) (fun _ _ _ h => h) (Or.inr ⟨by rfl, rfl⟩) (by assumption) ?_
    try simp only [Act.put, List.setIfInBounds_toArray, List.set_cons_zero, List.set_cons_succ]
    refine wpAnyH_take (i := 26) (oi := { dst := some 107, op := Op.binOp BinOp.sub 3 (Operand.tmp 106) (Operand.const (Value.int IntKind.i64 33)) 3, type := 3, pos := _, after := #[{ on := 25, ground := Ground.data }, { on := 21, ground := Ground.guard }], guard := some (21, true) }) (v := undef) rfl (by kernel_rfl) (by kernel_rfl) (by kernel_rfl) (fun _ _ _ h => h) (Or.inr ⟨by rfl, rfl⟩) (by assumption) ?_
    try simp only [Act.put, List.setIfInBounds_toArray, List.set_cons_zero, List.set_cons_succ]
    refine wpAnyH_take (i := 27) (oi := { dst := some 108, op := Op.slice 22 (Operand.tmp 104) none (some (Operand.tmp 107)) none, type := 22, pos := _, after := #[{ on := 23, ground := Ground.data }, { on := 26, ground := Ground.data }, { on := 21, ground := Ground.guard }], guard := some (21, true) }) (v := undef) rfl (by kernel_rfl) (by kernel_rfl) (by kernel_rfl) (fun _ _ _ h => h) (Or.inr ⟨by rfl, rfl⟩) (by assumption) ?_
    try simp only [Act.put, List.setIfInBounds_toArray, List.set_cons_zero, List.set_cons_succ]
    refine wpAnyH_take (i := 28) (oi := { dst := some 109, op := Op.call { callee := Callee.value (Operand.func 21), args := #[Operand.tmp 103, Operand.tmp 108], argTypes := #[22, 22] }, type := 22, pos := _, after := #[{ on := 22, ground := Ground.data }, { on := 27, ground := Ground.data }, { on := 21, ground := Ground.chain }, { on := 21, ground := Ground.guard }], guard := some (21, true) }) (v := undef) rfl (by kernel_rfl) (by kernel_rfl) (by kernel_rfl) (fun _ _ _ h => h) (Or.inr ⟨by rfl, rfl⟩) (by assumption) ?_
    try simp only [Act.put, List.setIfInBounds_toArray, List.set_cons_zero, List.set_cons_succ]
    refine wpAnyH_take (i := 29) (oi := { dst := some 110, op := Op.move (Operand.tmp 7), type := 22, pos := _, after := #[{ on := 21, ground := Ground.guard }], guard := some (21, true) }) (v := undef) rfl (by kernel_rfl) (by kernel_rfl) (by kernel_rfl) (fun _ _ _ h => h) (Or.inr ⟨by rfl, rfl⟩) (by assumption) ?_
    try simp only [Act.put, List.setIfInBounds_toArray, List.set_cons_zero, List.set_cons_succ]
    refine wpAnyH_take (i := 30) (oi := { dst := some 111, op := Op.move (Operand.tmp 7), type := 22, pos := _, after := #[{ on := 21, ground := Ground.guard }], guard := some (21, true) }) (v := undef) rfl (by kernel_rfl) (by kernel_rfl) (by kernel_rfl) (fun _ _ _ h => h) (Or.inr ⟨by rfl, rfl⟩) (by assumption) ?_
    try simp only [Act.put, List.setIfInBounds_toArray, List.set_cons_zero, List.set_cons_succ]
    refine wpAnyH_take (i := 31) (oi := { dst := some 112, op := Op.call { callee := Callee.builtin Builtin.len, args := #[Operand.tmp 111], argTypes := #[22] }, type := 3, pos := _, after := #[{ on := 30, ground := Ground.data }, { on := 21, ground := Ground.guard }], guard := some (21, true) }) (v := undef) rfl (by kernel_rfl) (by kernel_rfl) (by kernel_rfl) (fun _ _ _ h => h) (Or.inr ⟨by rfl, rfl⟩) (by assumption) ?_
    try simp only [Act.put, List.setIfInBounds_toArray, List.set_cons_zero, List.set_cons_succ]
    refine wpAnyH_take (i := 32) (oi := { dst := some 113, op := Op.binOp BinOp.sub 3 (Operand.tmp 112) (Operand.const (Value.int IntKind.i64 33)) 3, type := 3, pos := _, after := #[{ on := 31, ground := Ground.data }, { on := 21, ground := Ground.guard }], guard := some (21, true) }) (v := undef) rfl (by kernel_rfl) (by kernel_rfl) (by kernel_rfl) (fun _ _ _ h => h) (Or.inr ⟨by rfl, rfl⟩) (by assumption) ?_
    try simp only [Act.put, List.setIfInBounds_toArray, List.set_cons_zero, List.set_cons_succ]
    refine wpAnyH_take (i := 33) (oi := { dst := some 114, op := Op.move (Operand.tmp 7), type := 22, pos := _, after := #[{ on := 21, ground := Ground.guard }], guard := some (21, true) }) (v := undef) rfl (by kernel_rfl) (by kernel_rfl) (by kernel_rfl) (fun _ _ _ h => h) (Or.inr ⟨by rfl, rfl⟩) (by assumption) ?_
    try simp only [Act.put, List.setIfInBounds_toArray, List.set_cons_zero, List.set_cons_succ]
    refine wpAnyH_take (i := 34) (oi := { dst := some 115, op := Op.call { callee := Callee.builtin Builtin.len, args := #[Operand.tmp 114], argTypes := #[22] }, type := 3, pos := _, after := #[{ on := 33, ground := Ground.data }, { on := 21, ground := Ground.guard }], guard := some (21, true) }) (v := undef) rfl (by kernel_rfl) (by kernel_rfl) (by kernel_rfl) (fun _ _ _ h => h) (Or.inr ⟨by rfl, rfl⟩) (by assumption) ?_
    try simp only [Act.put, List.setIfInBounds_toArray, List.set_cons_zero, List.set_cons_succ]
    refine wpAnyH_take (i := 35) (oi := { dst := some 116, op := Op.binOp BinOp.sub 3 (Operand.tmp 115) (Operand.const (Value.int IntKind.i64 17)) 3, type := 3, pos := _, after := #[{ on := 34, ground := Ground.data }, { on := 21, ground := Ground.guard }], guard := some (21, true) }) (v := undef) rfl (by kernel_rfl) (by kernel_rfl) (by kernel_rfl) (fun _ _ _ h => h) (Or.inr ⟨by rfl, rfl⟩) (by assumption) ?_
    try simp only [Act.put, List.setIfInBounds_toArray, List.set_cons_zero, List.set_cons_succ]
    refine wpAnyH_take (i := 36) (oi := { dst := some 117, op := Op.slice 22 (Operand.tmp 110) (some (Operand.tmp 113)) (some (Operand.tmp 116)) none, type := 22, pos := _, after := #[{ on := 29, ground := Ground.data }, { on := 32, ground := Ground.data }, { on := 35, ground := Ground.data }, { on := 21, ground := Ground.guard }], guard := some (21, true) }) (v := undef) rfl (by kernel_rfl) (by kernel_rfl) (by kernel_rfl) (fun _ _ _ h => h) (Or.inr ⟨by rfl, rfl⟩) (by assumption) ?_
    try simp only [Act.put, List.setIfInBounds_toArray, List.set_cons_zero, List.set_cons_succ]
    refine wpAnyH_take (i := 37) (oi := { dst := some 118, op := Op.call { callee := Callee.value (Operand.func 15), args := #[Operand.tmp 109, Operand.tmp 117], argTypes := #[22, 22] }, type := 4, pos := _, after := #[{ on := 28, ground := Ground.data }, { on := 36, ground := Ground.data }, { on := 28, ground := Ground.chain }, { on := 21, ground := Ground.guard }], guard := some (21, true) }) (v := undef) rfl (by kernel_rfl) (by kernel_rfl) (by kernel_rfl) (fun _ _ _ h => h) (Or.inr ⟨by rfl, rfl⟩) (by assumption) ?_
    try simp only [Act.put, List.setIfInBounds_toArray, List.set_cons_zero, List.set_cons_succ]
    refine wpAnyH_take (i := 38) (oi := { dst := some 119, op := Op.pick (Operand.tmp 102) (Operand.tmp 118) (Operand.const (Value.bool false)), type := 4, pos := _, after := #[{ on := 21, ground := Ground.data }, { on := 37, ground := Ground.data }, { on := 17, ground := Ground.guard }], guard := some (17, false) }) (v := undef) rfl (by kernel_rfl) (by kernel_rfl) (by kernel_rfl) (fun _ _ _ h => h) (Or.inr ⟨by rfl, rfl⟩) (by assumption) ?_
    try simp only [Act.put, List.setIfInBounds_toArray, List.set_cons_zero, List.set_cons_succ]
    refine wpAnyH_take (i := 39) (oi := { dst := some 120, op := Op.pick (Operand.tmp 98) (Operand.const (Value.bool true)) (Operand.tmp 119), type := 4, pos := _, after := #[{ on := 17, ground := Ground.data }, { on := 38, ground := Ground.data }, { on := 10, ground := Ground.guard }], guard := some (10, true) }) (v := ?_) rfl (by kernel_rfl) (by kernel_rfl) (by kernel_rfl) (fun _ _ _ h => h) (Or.inl ⟨by rfl, ?_⟩) (by assumption) ?_
    rotate_left
    · ((intro w hSw); (try dsimp only at hSw); go_simp; (try with_reducible rfl))
    try simp only [Act.put, List.setIfInBounds_toArray, List.set_cons_zero, List.set_cons_succ]
    refine wpAnyH_take (i := 40) (oi := { dst := some 121, op := Op.pick (Operand.tmp 91) (Operand.tmp 120) (Operand.const (Value.bool false)), type := 4, pos := _, after := #[{ on := 10, ground := Ground.data }, { on := 39, ground := Ground.data }], guard := none }) (v := ?_) rfl (by kernel_rfl) (by kernel_rfl) (by kernel_rfl) (fun _ _ _ h => h) (Or.inl ⟨by rfl, ?_⟩) (by assumption) ?_
    rotate_left
    · ((intro w hSw); (try dsimp only at hSw); go_simp; (try with_reducible rfl))
    try simp only [Act.put, List.setIfInBounds_toArray, List.set_cons_zero, List.set_cons_succ]
    refine wpAnyH_take (i := 41) (oi := { dst := some 122, op := Op.move (Operand.tmp 121), type := 4, pos := _, after := #[{ on := 40, ground := Ground.data }, { on := 37, ground := Ground.chain }], guard := none }) (v := ?_) rfl (by kernel_rfl) (by kernel_rfl) (by kernel_rfl) (fun _ _ _ h => h) (Or.inl ⟨by rfl, ?_⟩) (by assumption) ?_
    rotate_left
    · ((intro w hSw); (try dsimp only at hSw); go_simp; (try with_reducible rfl))
    try simp only [Act.put, List.setIfInBounds_toArray, List.set_cons_zero, List.set_cons_succ]
    refine wpAnyH_take (i := 42) (oi := { dst := some 123, op := Op.move (Operand.tmp 7), type := 22, pos := _, after := #[{ on := 41, ground := Ground.guard }], guard := some (41, true) }) (v := ?_) rfl (by kernel_rfl) (by kernel_rfl) (by kernel_rfl) (fun _ _ _ h => h) (Or.inl ⟨by rfl, ?_⟩) (by assumption) ?_
    rotate_left
    · ((intro w hSw); (try dsimp only at hSw); go_simp; (try with_reducible rfl))
    try simp only [Act.put, List.setIfInBounds_toArray, List.set_cons_zero, List.set_cons_succ]
    refine wpAnyH_take (i := 43) (oi := { dst := some 124, op := Op.call { callee := Callee.builtin Builtin.len, args := #[Operand.tmp 123], argTypes := #[22] }, type := 3, pos := _, after := #[{ on := 42, ground := Ground.data }, { on := 41, ground := Ground.guard }], guard := some (41, true) }) (v := ?_) rfl (by kernel_rfl) (by kernel_rfl) (by kernel_rfl) (fun _ _ _ h => h) (Or.inl ⟨by rfl, ?_⟩) (by assumption) ?_
    rotate_left
    · ((intro w hSw); (try dsimp only at hSw); go_simp; (try with_reducible rfl))
    try simp only [Act.put, List.setIfInBounds_toArray, List.set_cons_zero, List.set_cons_succ]
    refine wpAnyH_take (i := 44) (oi := { dst := some 125, op := Op.binOp BinOp.geq 3 (Operand.tmp 124) (Operand.const (Value.int IntKind.i64 26)) 3, type := 4, pos := _, after := #[{ on := 43, ground := Ground.data }, { on := 41, ground := Ground.guard }], guard := some (41, true) }) (v := ?_) rfl (by kernel_rfl) (by kernel_rfl) (by kernel_rfl) (fun _ _ _ h => h) (Or.inl ⟨by rfl, ?_⟩) (by assumption) ?_
    rotate_left
    · ((intro w hSw); (try dsimp only at hSw); go_simp; (try with_reducible rfl))
    try simp only [Act.put, List.setIfInBounds_toArray, List.set_cons_zero, List.set_cons_succ]
    refine wpAnyH_take (i := 45) (oi := { dst := some 126, op := Op.pick (Operand.tmp 122) (Operand.tmp 125) (Operand.const (Value.bool false)), type := 4, pos := _, after := #[{ on := 41, ground := Ground.data }, { on := 44, ground := Ground.data }], guard := none }) (v := ?_) rfl (by kernel_rfl) (by kernel_rfl) (by kernel_rfl) (fun _ _ _ h => h) (Or.inl ⟨by rfl, ?_⟩) (by assumption) ?_
    rotate_left
    · ((intro w hSw); (try dsimp only at hSw); go_simp; (try with_reducible rfl))
    try simp only [Act.put, List.setIfInBounds_toArray, List.set_cons_zero, List.set_cons_succ]
    refine wpAnyH_take (i := 46) (oi := { dst := some 6, op := Op.assign (Operand.tmp 126), type := 4, pos := _, after := #[{ on := 45, ground := Ground.data }, { on := 41, ground := Ground.chain }, { on := 0, ground := Ground.phase }, { on := 1, ground := Ground.phase }, { on := 2, ground := Ground.phase }, { on := 3, ground := Ground.phase }, { on := 4, ground := Ground.phase }, { on := 5, ground := Ground.phase }, { on := 6, ground := Ground.phase }, { on := 7, ground := Ground.phase }, { on := 8, ground := Ground.phase }, { on := 9, ground := Ground.phase }, { on := 10, ground := Ground.phase }, { on := 11, ground := Ground.phase }, { on := 12, ground := Ground.phase }, { on := 13, ground := Ground.phase }, { on := 14, ground := Ground.phase }, { on := 15, ground := Ground.phase }, { on := 16, ground := Ground.phase }, { on := 17, ground := Ground.phase }, { on := 18, ground := Ground.phase }, { on := 19, ground := Ground.phase }, { on := 20, ground := Ground.phase }, { on := 21, ground := Ground.phase }, { on := 22, ground := Ground.phase }, { on := 23, ground := Ground.phase }, { on := 24, ground := Ground.phase }, { on := 25, ground := Ground.phase }, { on := 26, ground := Ground.phase }, { on := 27, ground := Ground.phase }, { on := 28, ground := Ground.phase }, { on := 29, ground := Ground.phase }, { on := 30, ground := Ground.phase }, { on := 31, ground := Ground.phase }, { on := 32, ground := Ground.phase }, { on := 33, ground := Ground.phase }, { on := 34, ground := Ground.phase }, { on := 35, ground := Ground.phase }, { on := 36, ground := Ground.phase }, { on := 37, ground := Ground.phase }, { on := 38, ground := Ground.phase }, { on := 39, ground := Ground.phase }, { on := 40, ground := Ground.phase }, { on := 41, ground := Ground.phase }, { on := 42, ground := Ground.phase }, { on := 43, ground := Ground.phase }, { on := 44, ground := Ground.phase }, { on := 45, ground := Ground.phase }], guard := none }) (v := ?_) rfl (by kernel_rfl) (by kernel_rfl) (by kernel_rfl) (fun _ _ _ h => h) (Or.inl ⟨by rfl, ?_⟩) (by assumption) ?_
    rotate_left
    · ((intro w hSw); (try dsimp only at hSw); go_simp; (try with_reducible rfl))
    try simp only [Act.put, List.setIfInBounds_toArray, List.set_cons_zero, List.set_cons_succ]
    refine wpAnyH_done (by kernel_rfl) ?_ _
    clear hN
    go_wp2
    go_ret
    exact ⟨rfl, below_then HBA.out (below_then HQZ.out (KB.out _ hHeld) HQZ.out.size) HBA.out.size⟩

set_option maxRecDepth 100000 in
set_option maxHeartbeats 4000000 in
theorem apart2 (ka : Option Addr) (kc : Nat) (key : List Nat) (D1 V1 n1 : Nat) (a1 : Option Addr) (c1 : Nat) (l1 : List Nat) (D2 V2 n2 : Nat) (a2 : Option Addr) (c2 : Nat) (l2 : List Nat) (w : World) (ks : Sl w ka key) (k0 : ka = none → kc = 0) (kcap : key.length ≤ kc) (kl : ∀ c ∈ key, c < 256) (klen : key.length ≤ 1000) (s1 : Sl w a1 l1) (z1 : a1 = none → c1 = 0) (k1 : l1.length ≤ c1) (x1 : ∀ c ∈ l1, c < 256) (m1 : l1.length ≤ 3000) (s2 : Sl w a2 l2) (z2 : a2 = none → c2 = 0) (k2 : l2.length ≤ c2) (x2 : ∀ c ∈ l2, c < 256) (m2 : l2.length ≤ 3000) (e11 : 1 ≤ D1) (e12 : D1 ≤ 2) (e13 : V1 < 8) (e14 : 1 ≤ n1) (e15 : n1 ≤ 4611686018427387904) (e16 : l1.length ≤ 1200) (e21 : 1 ≤ D2) (e22 : D2 ≤ 2) (e23 : V2 < 8) (e24 : 1 ≤ n2) (e25 : n2 ≤ 4611686018427387904) (e26 : l2.length ≤ 1200) (M : Nat) (hM : M = 9 + l1.length) (E : Nat) (hE : l1.length = E + 7) (hE10 : 10 ≤ E) (b : List Nat) (hb : b = (sealL key D1 V1 n1 l1).take M) (hne : tagL key (b.take E) ≠ b.drop E) (hT : TabR w) (hB : TabB w) :
    Calls Tryd.prog 9 #[.slice ka key.length kc, .agg #[.int .i64 (D1 : Int), .int .i64 (V1 : Int), .int .u64 (n1 : Int), .slice a1 l1.length c1], .agg #[.int .i64 (D2 : Int), .int .i64 (V2 : Int), .int .u64 (n2 : Int), .slice a2 l2.length c2]] w fun e w' => e = .returned (.bool true) ∧ Below w.heap.size w w' := by
  have HS1 := Lib.hid s1
  have HZ1 := Lib.hid z1
  have HC1 := Lib.hid k1
  have HX1 := Lib.hid x1
  have tl1 : ¬ 3000 < (l1.length : Int) := by omega
  have HS2 := Lib.hid s2
  have HZ2 := Lib.hid z2
  have HC2 := Lib.hid k2
  have HX2 := Lib.hid x2
  have tl2 : ¬ 3000 < (l2.length : Int) := by omega
  have HKS := Lib.hid ks
  have HK0 := Lib.hid k0
  have HKC := Lib.hid kcap
  have HKX := Lib.hid kl
  have HK8 := Lib.hid (show key.length ≤ 800000 by omega)
  have tk : ¬ 1000 < (key.length : Int) := by omega
  have HT := Lib.hid hT
  have HB := Lib.hid hB
  obtain ⟨X1, hX1⟩ : ∃ X, X = sealL key D1 V1 n1 l1 := ⟨_, rfl⟩
  have HXE1 := Lib.hid hX1
  have HXL1 := Lib.hid (show X1.length = 26 + l1.length by rw [hX1, sealL_len])
  have HXX1 := Lib.hid (show ∀ c ∈ X1, c < 256 by rw [hX1]; exact sealL_lt _ _ _ _ _ (by omega) (by omega) x1)
  have E11 := Lib.hid e11
  have E12 := Lib.hid e12
  have E13 := Lib.hid e13
  have E14 := Lib.hid e14
  have E15 := Lib.hid e15
  have E16 := Lib.hid e16
  clear e11
  clear e12
  clear e13
  clear e14
  clear e15
  clear e16
  obtain ⟨X2, hX2⟩ : ∃ X, X = sealL key D2 V2 n2 l2 := ⟨_, rfl⟩
  have HXE2 := Lib.hid hX2
  have HXL2 := Lib.hid (show X2.length = 26 + l2.length by rw [hX2, sealL_len])
  have HXX2 := Lib.hid (show ∀ c ∈ X2, c < 256 by rw [hX2]; exact sealL_lt _ _ _ _ _ (by omega) (by omega) x2)
  have E21 := Lib.hid e21
  have E22 := Lib.hid e22
  have E23 := Lib.hid e23
  have E24 := Lib.hid e24
  have E25 := Lib.hid e25
  have E26 := Lib.hid e26
  clear e21
  clear e22
  clear e23
  clear e24
  clear e25
  clear e26
  have CL := Lib.hid (fun W (h : Below ((w.alloc (.cells #[.int .i64 (D1 : Int), .int .i64 (V1 : Int), .int .u64 (n1 : Int), .slice a1 l1.length c1] 35)).alloc (.cells #[.int .i64 (D2 : Int), .int .i64 (V2 : Int), .int .u64 (n2 : Int), .slice a2 l2.length c2] 35)).heap.size ((w.alloc (.cells #[.int .i64 (D1 : Int), .int .i64 (V1 : Int), .int .u64 (n1 : Int), .slice a1 l1.length c1] 35)).alloc (.cells #[.int .i64 (D2 : Int), .int .i64 (V2 : Int), .int .u64 (n2 : Int), .slice a2 l2.length c2] 35)) W) => boxes2 w W 35 _ _ _ _ _ _ _ _ h)
  have HBA := Lib.hid (show Below w.heap.size w ((w.alloc (.cells #[.int .i64 (D1 : Int), .int .i64 (V1 : Int), .int .u64 (n1 : Int), .slice a1 l1.length c1] 35)).alloc (.cells #[.int .i64 (D2 : Int), .int .i64 (V2 : Int), .int .u64 (n2 : Int), .slice a2 l2.length c2] 35)) from ((Below.refl _ w).alloc (Nat.le_refl _) _).alloc (by simp) _)
  have y1 : (X1.length : Int) - 17 = (M : Int) := by have := HXL1.out; omega
  have y2 : (M : Int) ≤ (X1.length : Int) := by have := HXL1.out; omega
  have y4 : ¬ (X1.length : Int) < 26 := by have := HXL1.out; omega
  have HMX := Lib.hid (show M + 17 = X1.length by have := HXL1.out; omega)
  obtain ⟨RR, hRR⟩ : ∃ R, R = decide (X1 = X2) := ⟨_, rfl⟩
  have HRR := Lib.hid hRR
  have HRS := Lib.hid (show RR = sameB (D1 : Int) (V1 : Int) n1 l1 (D2 : Int) (V2 : Int) n2 l2 by rw [hRR, hX1, hX2]; exact sealL_same key D1 V1 n1 D2 V2 n2 l1 l2 (by have := E15.out; omega) (by have := E25.out; omega))
  have HBL := Lib.hid (show b.length = E + 16 by rw [hb, List.length_take, sealL_len]; omega)
  have HBM := Lib.hid (show M = b.length by rw [HBL.out]; omega)
  have HBB := Lib.hid (show b = X1.take M by rw [hb, hX1])
  have HBX := Lib.hid (show ∀ c ∈ b, c < 256 by rw [HBB.out]; exact fun c hc => HXX1.out c (List.mem_of_mem_take hc))
  have HNE := Lib.hid hne
  have HE10 := Lib.hid hE10
  have HE7 := Lib.hid hE
  have HM9 := Lib.hid hM
  have HBL8 := Lib.hid (show b.length ≤ 800000 by have := HBL.out; have := HE7.out; have := E16.out; omega)
  have y3 := wr_w M (by have := E16.out; omega)
  clear hRR hM hE hE10 hb hne
  clear ks k0 kcap kl klen s1 z1 k1 x1 m1 s2 z2 k2 x2 m2 hT hB hX1 hX2
  go_enter Tryd.func9, Tryd.ntmps9
  go_wp2_with fail
  generalize ((w.alloc (.cells #[.int .i64 (D1 : Int), .int .i64 (V1 : Int), .int .u64 (n1 : Int), .slice a1 l1.length c1] 35)).alloc (.cells #[.int .i64 (D2 : Int), .int .i64 (V2 : Int), .int .u64 (n2 : Int), .slice a2 l2.length c2] 35)) = w0 at *
  have HKS0 := Lib.hid (sl_then HBA.out (Nat.le_refl _) HKS.out)
  have HS10 := Lib.hid (sl_then HBA.out (Nat.le_refl _) HS1.out)
  have HS20 := Lib.hid (sl_then HBA.out (Nat.le_refl _) HS2.out)
  have HT0 := Lib.hid (tabR_then HBA.out HT.out)
  have HB0 := Lib.hid (tabB_then HBA.out HB.out)
  have HQ0 := Lib.hid (Below.refl w0.heap.size w0)
  obtain ⟨p0, p1, p2, p3, q0, q1, q2, q3⟩ := CL.out _ HQ0.out
  go_wp2_with (first
    | (go_at_call 23; (with_reducible refine (pfirst w0 (tabR_then HQ0.out HT0.out) (tabB_then HQ0.out HB0.out)).mono ?_); rintro e wq1 ⟨rfl, bq⟩; have HQ1 := Lib.hid (below_then HQ0.out bq HQ0.out.size); clear bq; clear p0 p1 p2 p3 q0 q1 q2 q3; obtain ⟨p0, p1, p2, p3, q0, q1, q2, q3⟩ := CL.out _ HQ1.out)
    | (go_at_call 24; (with_reducible refine (sealK D1 V1 n1 a1 l1.length c1 l1 X1 ka key.length kc key wq1 HXE1.out rfl rfl E11.out E12.out E13.out E14.out E15.out E16.out (sl_then HQ1.out (Nat.le_refl _) HS10.out) HZ1.out HC1.out HX1.out (sl_then HQ1.out (Nat.le_refl _) HKS0.out) HK0.out HKC.out HKX.out HK8.out (tabR_then HQ1.out HT0.out) (tabB_then HQ1.out HB0.out)).mono ?_); rintro e wq2 ⟨xb, xo, xc, rfl, lx, kx, _, bq⟩; have HQ2 := Lib.hid (below_then HQ1.out bq HQ1.out.size); have X_2 := Lib.hid lx; clear bq lx; clear p0 p1 p2 p3 q0 q1 q2 q3; obtain ⟨p0, p1, p2, p3, q0, q1, q2, q3⟩ := CL.out _ HQ2.out; have y5 : (M : Int) ≤ (xc : Int) := (by have := HMX.out; omega); have y6 : ¬ xc = 0 := (by have := HXL1.out; omega); have y7 : (xc : Int) ≠ 0 := (by omega); have HKXC := Lib.hid kx; clear kx y7; have HBMC := Lib.hid (show b.length ≤ xc by have := HKXC.out; have := HMX.out; have := HBM.out; omega))
    | (go_at_call 24; (with_reducible refine (sealK D2 V2 n2 a2 l2.length c2 l2 X2 ka key.length kc key wq2 HXE2.out rfl rfl E21.out E22.out E23.out E24.out E25.out E26.out (sl_then HQ2.out (Nat.le_refl _) HS20.out) HZ2.out HC2.out HX2.out (sl_then HQ2.out (Nat.le_refl _) HKS0.out) HK0.out HKC.out HKX.out HK8.out (tabR_then HQ2.out HT0.out) (tabB_then HQ2.out HB0.out)).mono ?_); rintro e wq3 ⟨yb, yo, yc, rfl, ly, _, _, bq⟩; have HQ3 := Lib.hid (below_then HQ2.out bq HQ2.out.size); have X_3 := Lib.hid (sl_then bq (Nat.le_refl _) X_2.out); have Y_3 := Lib.hid ly; clear bq ly; clear p0 p1 p2 p3 q0 q1 q2 q3; obtain ⟨p0, p1, p2, p3, q0, q1, q2, q3⟩ := CL.out _ HQ3.out)
    | (go_at_call 30; (with_reducible refine (mayE (D1 : Int) (V1 : Int) n1 a1 l1.length c1 l1 wq3 true rfl (may_num D1 V1 n1 _ E11.out E12.out E13.out E14.out E15.out E16.out)).mono ?_); rintro e wq4 ⟨rfl, bq⟩; have HQ4 := Lib.hid (below_then HQ3.out bq HQ3.out.size); have X_4 := Lib.hid (sl_then bq (Nat.le_refl _) X_3.out); have Y_4 := Lib.hid (sl_then bq (Nat.le_refl _) Y_3.out); clear bq; clear p0 p1 p2 p3 q0 q1 q2 q3; obtain ⟨p0, p1, p2, p3, q0, q1, q2, q3⟩ := CL.out _ HQ4.out)
    | (go_at_call 27; (with_reducible refine (openTagG xb xo xc M key.length b ka kc key wq4 E HBM.out rfl HBL.out HE10.out HBL8.out HBMC.out (cells_take X_4.out M b HBB.out) HBX.out (sl_then HQ4.out (Nat.le_refl _) HKS0.out) HK0.out HKC.out HKX.out HK8.out (tabR_then HQ4.out HT0.out) (tabB_then HQ4.out HB0.out) HNE.out).mono ?_); rintro e wq5 ⟨rfl, bq⟩; have HQ5 := Lib.hid (below_then HQ4.out bq HQ4.out.size); have X_5 := Lib.hid (sl_then bq (Nat.le_refl _) X_4.out); have Y_5 := Lib.hid (sl_then bq (Nat.le_refl _) Y_4.out); clear bq; clear p0 p1 p2 p3 q0 q1 q2 q3; obtain ⟨p0, p1, p2, p3, q0, q1, q2, q3⟩ := CL.out _ HQ5.out))
  have HQZ := Lib.hid (HQ5.out.alloc HQ5.out.size (.cells #[.int .i64 0, .int .i64 0, .int .u64 0, .slice none 0 0] 35))
  have HXz := Lib.hid (sl_alloc X_5.out (.cells #[.int .i64 0, .int .i64 0, .int .u64 0, .slice none 0 0] 35))
  have HYz := Lib.hid (sl_alloc Y_5.out (.cells #[.int .i64 0, .int .i64 0, .int .u64 0, .slice none 0 0] 35))
  clear p0 p1 p2 p3 q0 q1 q2 q3
  as_aux_lemma =>
    generalize (wq5.alloc (.cells #[.int .i64 0, .int .i64 0, .int .u64 0, .slice none 0 0] 35)) = wz at *
    have HKSz := Lib.hid (sl_then HQZ.out (Nat.le_refl _) HKS0.out)
    have HS1z := Lib.hid (sl_then HQZ.out (Nat.le_refl _) HS10.out)
    have HS2z := Lib.hid (sl_then HQZ.out (Nat.le_refl _) HS20.out)
    have HTz := Lib.hid (tabR_then HQZ.out HT0.out)
    have HBz := Lib.hid (tabB_then HQZ.out HB0.out)
    have KS := Lib.hid (show ∀ W, Below wz.heap.size wz W → W.cell? ⟨w.heap.size, 0, none⟩ = some (.int .i64 (D1 : Int)) ∧ W.cell? ⟨w.heap.size, 1, none⟩ = some (.int .i64 (V1 : Int)) ∧ W.cell? ⟨w.heap.size, 2, none⟩ = some (.int .u64 (n1 : Int)) ∧ W.cell? ⟨w.heap.size, 3, none⟩ = some (.slice a1 l1.length c1) ∧ W.cell? ⟨w.heap.size + 1, 0, none⟩ = some (.int .i64 (D2 : Int)) ∧ W.cell? ⟨w.heap.size + 1, 1, none⟩ = some (.int .i64 (V2 : Int)) ∧ W.cell? ⟨w.heap.size + 1, 2, none⟩ = some (.int .u64 (n2 : Int)) ∧ W.cell? ⟨w.heap.size + 1, 3, none⟩ = some (.slice a2 l2.length c2) ∧ Below wz.heap.size wz W from fun W h => by
      obtain ⟨p0, p1, p2, p3, q0, q1, q2, q3⟩ := CL.out _ (below_then HQZ.out h HQZ.out.size)
      exact ⟨p0, p1, p2, p3, q0, q1, q2, q3, h⟩)
    have KB := Lib.hid (show ∀ W, (W.cell? ⟨w.heap.size, 0, none⟩ = some (.int .i64 (D1 : Int)) ∧ W.cell? ⟨w.heap.size, 1, none⟩ = some (.int .i64 (V1 : Int)) ∧ W.cell? ⟨w.heap.size, 2, none⟩ = some (.int .u64 (n1 : Int)) ∧ W.cell? ⟨w.heap.size, 3, none⟩ = some (.slice a1 l1.length c1) ∧ W.cell? ⟨w.heap.size + 1, 0, none⟩ = some (.int .i64 (D2 : Int)) ∧ W.cell? ⟨w.heap.size + 1, 1, none⟩ = some (.int .i64 (V2 : Int)) ∧ W.cell? ⟨w.heap.size + 1, 2, none⟩ = some (.int .u64 (n2 : Int)) ∧ W.cell? ⟨w.heap.size + 1, 3, none⟩ = some (.slice a2 l2.length c2) ∧ Below wz.heap.size wz W) → Below wz.heap.size wz W from fun W h => h.2.2.2.2.2.2.2.2)
    have y8 : (26 : Int) ≤ (X1.length : Int) := by have := HXL1.out; omega
    go_wp2_with fail
    refine wp_region_held_drew (S := (fun W => W.cell? ⟨w.heap.size, 0, none⟩ = some (.int .i64 (D1 : Int)) ∧ W.cell? ⟨w.heap.size, 1, none⟩ = some (.int .i64 (V1 : Int)) ∧ W.cell? ⟨w.heap.size, 2, none⟩ = some (.int .u64 (n1 : Int)) ∧ W.cell? ⟨w.heap.size, 3, none⟩ = some (.slice a1 l1.length c1) ∧ W.cell? ⟨w.heap.size + 1, 0, none⟩ = some (.int .i64 (D2 : Int)) ∧ W.cell? ⟨w.heap.size + 1, 1, none⟩ = some (.int .i64 (V2 : Int)) ∧ W.cell? ⟨w.heap.size + 1, 2, none⟩ = some (.int .u64 (n2 : Int)) ∧ W.cell? ⟨w.heap.size + 1, 3, none⟩ = some (.slice a2 l2.length c2) ∧ Below wz.heap.size wz W)) (by kernel_rfl) ?_ (fun hHeld => ?_)
    · ((try dsimp only); (first | (with_reducible exact KS.out _ hN) | (with_reducible exact hHeld) | exact KS.out _ (Below.refl _ _).drew | exact KS.out _ (Below.refl _ _)))
    refine wpAnyH_ready (rs := [0]) (by kernel_rfl) (by simp) ?_
    refine (AllReadyH.cons (o := { dst := some 81, op := Op.call { callee := Callee.value (Operand.func 23), args := #[], argTypes := #[] }, type := 4, pos := _, after := #[], guard := none }) rfl (fun K hK => ?_) AllReadyH.nil)
    go_simp
    (go_at_call 23; (with_reducible refine (pfirst _ (tabR_then (KB.out _ hHeld) HTz.out) (tabB_then (KB.out _ hHeld) HBz.out)).mono ?_); rintro e wa ⟨rfl, ba⟩; have hN := below_then (KB.out _ hHeld) ba (KB.out _ hHeld).size; clear ba)
    go_wp2_with fail
    refine hK.out _ _ ?_ (fun hHeld => ?_)
    · ((try dsimp only); (first | (with_reducible exact KS.out _ hN) | (with_reducible exact hHeld) | exact KS.out _ (Below.refl _ _).drew | exact KS.out _ (Below.refl _ _)))
    clear hK K
    try simp only [Act.put, List.setIfInBounds_toArray, List.set_cons_zero, List.set_cons_succ]
    refine wpAnyH_take (i := 1) (oi := { dst := some 82, op := Op.move (Operand.tmp 81), type := 4, pos := _, after := #[{ on := 0, ground := Ground.data }, { on := 0, ground := Ground.chain }], guard := none }) (v := ?_) rfl (by kernel_rfl) (by kernel_rfl) (by kernel_rfl) (fun _ _ _ h => h) (Or.inl ⟨by rfl, ?_⟩) (by assumption) ?_
    rotate_left
    · ((intro w hSw); (try dsimp only at hSw); go_simp; (try with_reducible rfl))
    try simp only [Act.put, List.setIfInBounds_toArray, List.set_cons_zero, List.set_cons_succ]
    refine wpAnyH_take (i := 2) (oi := { dst := some 83, op := Op.move (Operand.tmp 7), type := 22, pos := _, after := #[{ on := 1, ground := Ground.guard }], guard := some (1, true) }) (v := ?_) rfl (by kernel_rfl) (by kernel_rfl) (by kernel_rfl) (fun _ _ _ h => h) (Or.inl ⟨by rfl, ?_⟩) (by assumption) ?_
    rotate_left
    · ((intro w hSw); (try dsimp only at hSw); go_simp; (try with_reducible rfl))
    try simp only [Act.put, List.setIfInBounds_toArray, List.set_cons_zero, List.set_cons_succ]
    refine wpAnyH_take (i := 3) (oi := { dst := some 84, op := Op.move (Operand.tmp 9), type := 22, pos := _, after := #[{ on := 1, ground := Ground.guard }], guard := some (1, true) }) (v := ?_) rfl (by kernel_rfl) (by kernel_rfl) (by kernel_rfl) (fun _ _ _ h => h) (Or.inl ⟨by rfl, ?_⟩) (by assumption) ?_
    rotate_left
    · ((intro w hSw); (try dsimp only at hSw); go_simp; (try with_reducible rfl))
    try simp only [Act.put, List.setIfInBounds_toArray, List.set_cons_zero, List.set_cons_succ]
    refine wpAnyH_take (i := 5) (oi := { dst := some 86, op := Op.load 35 (Operand.tmp 4), type := 35, pos := _, after := #[{ on := 1, ground := Ground.guard }], guard := some (1, true) }) (v := ?_) rfl (by kernel_rfl) (by kernel_rfl) (by kernel_rfl) (fun _ _ _ h => h) (Or.inl ⟨by rfl, ?_⟩) (by assumption) ?_
    rotate_left
    · ((intro w hSw); (try dsimp only at hSw); go_simp; (try with_reducible rfl))
    try simp only [Act.put, List.setIfInBounds_toArray, List.set_cons_zero, List.set_cons_succ]
    refine wpAnyH_take (i := 6) (oi := { dst := some 87, op := Op.load 35 (Operand.tmp 5), type := 35, pos := _, after := #[{ on := 1, ground := Ground.guard }], guard := some (1, true) }) (v := ?_) rfl (by kernel_rfl) (by kernel_rfl) (by kernel_rfl) (fun _ _ _ h => h) (Or.inl ⟨by rfl, ?_⟩) (by assumption) ?_
    rotate_left
    · ((intro w hSw); (try dsimp only at hSw); go_simp; (try with_reducible rfl))
    try simp only [Act.put, List.setIfInBounds_toArray, List.set_cons_zero, List.set_cons_succ]
    refine wpAnyH_ready (rs := [4]) (by kernel_rfl) (by simp) ?_
    refine (AllReadyH.cons (o := { dst := some 85, op := Op.call { callee := Callee.value (Operand.func 15), args := #[Operand.tmp 83, Operand.tmp 84], argTypes := #[22, 22] }, type := 4, pos := _, after := #[{ on := 2, ground := Ground.data }, { on := 3, ground := Ground.data }, { on := 1, ground := Ground.chain }, { on := 1, ground := Ground.guard }], guard := some (1, true) }) rfl (fun K hK => ?_) AllReadyH.nil)
    go_simp
    (go_at_call 15; (with_reducible refine (bytesD (some ⟨xb, xo, none⟩) (some ⟨yb, yo, none⟩) xc yc X1.length X2.length X1 X2 _ RR rfl rfl (sl_then (KB.out _ hHeld) (Nat.le_refl _) HXz.out) (sl_then (KB.out _ hHeld) (Nat.le_refl _) HYz.out) HXX1.out HXX2.out HRR.out).mono ?_); rintro e wb ⟨rfl, rfl⟩)
    go_wp2_with fail
    refine hK.out _ _ ?_ (fun hHeld => ?_)
    · ((try dsimp only); (first | (with_reducible exact KS.out _ hN) | (with_reducible exact hHeld) | exact KS.out _ (Below.refl _ _).drew | exact KS.out _ (Below.refl _ _)))
    clear hK K
    try simp only [Act.put, List.setIfInBounds_toArray, List.set_cons_zero, List.set_cons_succ]
    refine wpAnyH_ready (rs := [7]) (by kernel_rfl) (by simp) ?_
    refine (AllReadyH.cons (o := { dst := some 88, op := Op.call { callee := Callee.value (Operand.func 32), args := #[Operand.tmp 86, Operand.tmp 87], argTypes := #[35, 35] }, type := 4, pos := _, after := #[{ on := 5, ground := Ground.data }, { on := 6, ground := Ground.data }, { on := 4, ground := Ground.chain }, { on := 1, ground := Ground.guard }], guard := some (1, true) }) rfl (fun K hK => ?_) AllReadyH.nil)
    go_simp
    (go_at_call 32; (with_reducible refine (sameP (D1 : Int) (V1 : Int) n1 a1 l1.length c1 l1 (D2 : Int) (V2 : Int) n2 a2 l2.length c2 l2 _ rfl rfl (sl_then (KB.out _ hHeld) (Nat.le_refl _) HS1z.out) (sl_then (KB.out _ hHeld) (Nat.le_refl _) HS2z.out) HX1.out HX2.out RR HRS.out).mono ?_); rintro e wa ⟨rfl, ba⟩; have hN := below_then (KB.out _ hHeld) ba (KB.out _ hHeld).size; clear ba)
    go_wp2_with fail
    refine hK.out _ _ ?_ (fun hHeld => ?_)
    · ((try dsimp only); (first | (with_reducible exact KS.out _ hN) | (with_reducible exact hHeld) | exact KS.out _ (Below.refl _ _).drew | exact KS.out _ (Below.refl _ _)))
    clear hK K
    try simp only [Act.put, List.setIfInBounds_toArray, List.set_cons_zero, List.set_cons_succ]
    refine wpAnyH_take (i := 8) (oi := { dst := some 89, op := Op.binOp BinOp.eql 4 (Operand.tmp 85) (Operand.tmp 88) 4, type := 4, pos := _, after := #[{ on := 4, ground := Ground.data }, { on := 7, ground := Ground.data }, { on := 1, ground := Ground.guard }], guard := some (1, true) }) (v := ?_) rfl (by kernel_rfl) (by kernel_rfl) (by kernel_rfl) (fun _ _ _ h => h) (Or.inl ⟨by rfl, ?_⟩) (by assumption) ?_
    rotate_left
    · ((intro w hSw); (try dsimp only at hSw); go_simp; (try with_reducible rfl))
    try simp only [Act.put, List.setIfInBounds_toArray, List.set_cons_zero, List.set_cons_succ]
    refine wpAnyH_take (i := 9) (oi := { dst := some 90, op := Op.pick (Operand.tmp 82) (Operand.tmp 89) (Operand.const (Value.bool false)), type := 4, pos := _, after := #[{ on := 1, ground := Ground.data }, { on := 8, ground := Ground.data }], guard := none }) (v := ?_) rfl (by kernel_rfl) (by kernel_rfl) (by kernel_rfl) (fun _ _ _ h => h) (Or.inl ⟨by rfl, ?_⟩) (by assumption) ?_
    rotate_left
    · ((intro w hSw); (try dsimp only at hSw); go_simp; (try with_reducible rfl))
    try simp only [Act.put, List.setIfInBounds_toArray, List.set_cons_zero, List.set_cons_succ]
    refine wpAnyH_take (i := 10) (oi := { dst := some 91, op := Op.move (Operand.tmp 90), type := 4, pos := _, after := #[{ on := 9, ground := Ground.data }, { on := 7, ground := Ground.chain }], guard := none }) (v := ?_) rfl (by kernel_rfl) (by kernel_rfl) (by kernel_rfl) (fun _ _ _ h => h) (Or.inl ⟨by rfl, ?_⟩) (by assumption) ?_
    rotate_left
    · ((intro w hSw); (try dsimp only at hSw); go_simp; (try with_reducible rfl))
    try simp only [Act.put, List.setIfInBounds_toArray, List.set_cons_zero, List.set_cons_succ]
    refine wpAnyH_take (i := 11) (oi := { dst := some 92, op := Op.move (Operand.tmp 12), type := 36, pos := _, after := #[{ on := 10, ground := Ground.guard }], guard := some (10, true) }) (v := ?_) rfl (by kernel_rfl) (by kernel_rfl) (by kernel_rfl) (fun _ _ _ h => h) (Or.inl ⟨by rfl, ?_⟩) (by assumption) ?_
    rotate_left
    · ((intro w hSw); (try dsimp only at hSw); go_simp; (try with_reducible rfl))
    try simp only [Act.put, List.setIfInBounds_toArray, List.set_cons_zero, List.set_cons_succ]
    refine wpAnyH_take (i := 12) (oi := { dst := some 93, op := Op.binOp BinOp.eql 36 (Operand.tmp 92) (Operand.const (Value.int IntKind.i64 3)) 36, type := 4, pos := _, after := #[{ on := 11, ground := Ground.data }, { on := 10, ground := Ground.guard }], guard := some (10, true) }) (v := ?_) rfl (by kernel_rfl) (by kernel_rfl) (by kernel_rfl) (fun _ _ _ h => h) (Or.inl ⟨by rfl, ?_⟩) (by assumption) ?_
    rotate_left
    · ((intro w hSw); (try dsimp only at hSw); go_simp; (try with_reducible rfl))
    try simp only [Act.put, List.setIfInBounds_toArray, List.set_cons_zero, List.set_cons_succ]
    refine wpAnyH_take (i := 13) (oi := { dst := some 94, op := Op.move (Operand.tmp 93), type := 4, pos := _, after := #[{ on := 12, ground := Ground.data }, { on := 10, ground := Ground.chain }, { on := 10, ground := Ground.guard }], guard := some (10, true) }) (v := ?_) rfl (by kernel_rfl) (by kernel_rfl) (by kernel_rfl) (fun _ _ _ h => h) (Or.inl ⟨by rfl, ?_⟩) (by assumption) ?_
    rotate_left
    · ((intro w hSw); (try dsimp only at hSw); go_simp; (try with_reducible rfl))
    try simp only [Act.put, List.setIfInBounds_toArray, List.set_cons_zero, List.set_cons_succ]
    refine wpAnyH_take (i := 14) (oi := { dst := some 95, op := Op.move (Operand.tmp 12), type := 36, pos := _, after := #[{ on := 13, ground := Ground.guard }], guard := some (13, false) }) (v := ?_) rfl (by kernel_rfl) (by kernel_rfl) (by kernel_rfl) (fun _ _ _ h => h) (Or.inl ⟨by rfl, ?_⟩) (by assumption) ?_
    rotate_left
    · ((intro w hSw); (try dsimp only at hSw); go_simp; (try with_reducible rfl))
    try simp only [Act.put, List.setIfInBounds_toArray, List.set_cons_zero, List.set_cons_succ]
    refine wpAnyH_take (i := 15) (oi := { dst := some 96, op := Op.binOp BinOp.eql 36 (Operand.tmp 95) (Operand.const (Value.int IntKind.i64 15)) 36, type := 4, pos := _, after := #[{ on := 14, ground := Ground.data }, { on := 13, ground := Ground.guard }], guard := some (13, false) }) (v := ?_) rfl (by kernel_rfl) (by kernel_rfl) (by kernel_rfl) (fun _ _ _ h => h) (Or.inl ⟨by rfl, ?_⟩) (by assumption) ?_
    rotate_left
    · ((intro w hSw); (try dsimp only at hSw); go_simp; (try with_reducible rfl))
    try simp only [Act.put, List.setIfInBounds_toArray, List.set_cons_zero, List.set_cons_succ]
    refine wpAnyH_take (i := 16) (oi := { dst := some 97, op := Op.pick (Operand.tmp 94) (Operand.const (Value.bool true)) (Operand.tmp 96), type := 4, pos := _, after := #[{ on := 13, ground := Ground.data }, { on := 15, ground := Ground.data }, { on := 10, ground := Ground.guard }], guard := some (10, true) }) (v := ?_) rfl (by kernel_rfl) (by kernel_rfl) (by kernel_rfl) (fun _ _ _ h => h) (Or.inl ⟨by rfl, ?_⟩) (by assumption) ?_
    rotate_left
    · ((intro w hSw); (try dsimp only at hSw); go_simp; (try with_reducible rfl))
    try simp only [Act.put, List.setIfInBounds_toArray, List.set_cons_zero, List.set_cons_succ]
    refine wpAnyH_take (i := 17) (oi := { dst := some 98, op := Op.move (Operand.tmp 97), type := 4, pos := _, after := #[{ on := 16, ground := Ground.data }, { on := 13, ground := Ground.chain }, { on := 10, ground := Ground.guard }], guard := some (10, true) }) (v := ?_) rfl (by kernel_rfl) (by kernel_rfl) (by kernel_rfl) (fun _ _ _ h => h) (Or.inl ⟨by rfl, ?_⟩) (by assumption) ?_
    rotate_left
    · ((intro w hSw); (try dsimp only at hSw); go_simp; (try with_reducible rfl))
    try simp only [Act.put, List.setIfInBounds_toArray, List.set_cons_zero, List.set_cons_succ]
    refine wpAnyH_take (i := 18) (oi := { dst := some 99, op := Op.move (Operand.tmp 7), type := 22, pos := _, after := #[{ on := 17, ground := Ground.guard }], guard := some (17, false) }) (v := undef) rfl (by kernel_rfl) (by kernel_rfl) (by kernel_rfl) (fun _ _ _ h => h) (Or.inr ⟨by rfl, rfl⟩) (by assumption) ?_
    try simp only [Act.put, List.setIfInBounds_toArray, List.set_cons_zero, List.set_cons_succ]
    refine wpAnyH_take (i := 19) (oi := { dst := some 100, op := Op.call { callee := Callee.builtin Builtin.len, args := #[Operand.tmp 99], argTypes := #[22] }, type := 3, pos := _, after := #[{ on := 18, ground := Ground.data }, { on := 17, ground := Ground.guard }], guard := some (17, false) }) (v := undef) rfl (by kernel_rfl) (by kernel_rfl) (by kernel_rfl) (fun _ _ _ h => h) (Or.inr ⟨by rfl, rfl⟩) (by assumption) ?_
    try simp only [Act.put, List.setIfInBounds_toArray, List.set_cons_zero, List.set_cons_succ]
    refine wpAnyH_take (i := 20) (oi := { dst := some 101, op := Op.binOp BinOp.geq 3 (Operand.tmp 100) (Operand.const (Value.int IntKind.i64 43)) 3, type := 4, pos := _, after := #[{ on := 19, ground := Ground.data }, { on := 17, ground := Ground.guard }], guard := some (17, false) }) (v := undef) rfl (by kernel_rfl) (by kernel_rfl) (by kernel_rfl) (fun _ _ _ h => h) (Or.inr ⟨by rfl, rfl⟩) (by assumption) ?_
    try simp only [Act.put, List.setIfInBounds_toArray, List.set_cons_zero, List.set_cons_succ]
    refine wpAnyH_take (i := 21) (oi := { dst := some 102, op := Op.move (Operand.tmp 101), type := 4, pos := _, after := #[{ on := 20, ground := Ground.data }, { on := 17, ground := Ground.chain }, { on := 17, ground := Ground.guard }], guard := some (17, false) }) (v := undef) rfl (by kernel_rfl) (by kernel_rfl) (by kernel_rfl) (fun _ _ _ h => h) (Or.inr ⟨by rfl, rfl⟩) (by assumption) ?_
    try simp only [Act.put, List.setIfInBounds_toArray, List.set_cons_zero, List.set_cons_succ]
    refine wpAnyH_take (i := 22) (oi := { dst := some 103, op := Op.move (Operand.tmp 0), type := 22, pos := _, after := #[{ on := 21, ground := Ground.guard }], guard := some (21, true) }) (v := undef) rfl (by kernel_rfl) (by kernel_rfl) (by kernel_rfl) (fun _ _ _ h => h) (Or.inr ⟨by rfl, rfl⟩) (by assumption) ?_
    try simp only [Act.put, List.setIfInBounds_toArray, List.set_cons_zero, List.set_cons_succ]
    refine wpAnyH_take (i := 23) (oi := { dst := some 104, op := Op.move (Operand.tmp 7), type := 22, pos := _, after := #[{ on := 21, ground := Ground.guard }], guard := some (21, true) }) (v := undef) rfl (by kernel_rfl) (by kernel_rfl) (by kernel_rfl) (fun _ _ _ h => h) (Or.inr ⟨by rfl, rfl⟩) (by assumption) ?_
    try simp only [Act.put, List.setIfInBounds_toArray, List.set_cons_zero, List.set_cons_succ]
    refine wpAnyH_take (i := 24) (oi := { dst := some 105, op := Op.move (Operand.tmp 7), type := 22, pos := _, after := #[{ on := 21, ground := Ground.guard }], guard := some (21, true) }) (v := undef) rfl (by kernel_rfl) (by kernel_rfl) (by kernel_rfl) (fun _ _ _ h => h) (Or.inr ⟨by rfl, rfl⟩) (by assumption) ?_
    try simp only [Act.put, List.setIfInBounds_toArray, List.set_cons_zero, List.set_cons_succ]
    refine wpAnyH_take (i := 25) (oi := { dst := some 106, op := Op.call { callee := Callee.builtin Builtin.len, args := #[Operand.tmp 105], argTypes := #[22] }, type := 3, pos := _, after := #[{ on := 24, ground := Ground.data }, { on := 21, ground := Ground.guard }], guard := some (21, true) }) (v := undef) rfl (by kernel_rfl) (by kernel_rfl) (by kernel_rfl) (fun _ _ _ h => h) (Or.inr ⟨by rfl, rfl⟩) (by assumption) ?_
    try simp only [Act.put, List.setIfInBounds_toArray, List.set_cons_zero, List.set_cons_succ]
    refine wpAnyH_take (i := 26) (oi := { dst := some 107, op := Op.binOp BinOp.sub 3 (Operand.tmp 106) (Operand.const (Value.int IntKind.i64 33)) 3, type := 3, pos := _, after := #[{ on := 25, ground := Ground.data }, { on := 21, ground := Ground.guard }], guard := some (21, true) }) (v := undef) rfl (by kernel_rfl) (by kernel_rfl) (by kernel_rfl) (fun _ _ _ h => h) (Or.inr ⟨by rfl, rfl⟩) (by assumption) ?_
    try simp only [Act.put, List.setIfInBounds_toArray, List.set_cons_zero, List.set_cons_succ]
    refine wpAnyH_take (i := 27) (oi := { dst := some 108, op := Op.slice 22 (Operand.tmp 104) none (some (Operand.tmp 107)) none, type := 22, pos := _, after := #[{ on := 23, ground := Ground.data }, { on := 26, ground := Ground.data }, { on := 21, ground := Ground.guard }], guard := some (21, true) }) (v := undef) rfl (by kernel_rfl) (by kernel_rfl) (by kernel_rfl) (fun _ _ _ h => h) (Or.inr ⟨by rfl, rfl⟩) (by assumption) ?_
    try simp only [Act.put, List.setIfInBounds_toArray, List.set_cons_zero, List.set_cons_succ]
    refine wpAnyH_take (i := 28) (oi := { dst := some 109, op := Op.call { callee := Callee.value (Operand.func 21), args := #[Operand.tmp 103, Operand.tmp 108], argTypes := #[22, 22] }, type := 22, pos := _, after := #[{ on := 22, ground := Ground.data }, { on := 27, ground := Ground.data }, { on := 21, ground := Ground.chain }, { on := 21, ground := Ground.guard }], guard := some (21, true) }) (v := undef) rfl (by kernel_rfl) (by kernel_rfl) (by kernel_rfl) (fun _ _ _ h => h) (Or.inr ⟨by rfl, rfl⟩) (by assumption) ?_
    try simp only [Act.put, List.setIfInBounds_toArray, List.set_cons_zero, List.set_cons_succ]
    refine wpAnyH_take (i := 29) (oi := { dst := some 110, op := Op.move (Operand.tmp 7), type := 22, pos := _, after := #[{ on := 21, ground := Ground.guard }], guard := some (21, true) }) (v := undef) rfl (by kernel_rfl) (by kernel_rfl) (by kernel_rfl) (fun _ _ _ h => h) (Or.inr ⟨by rfl, rfl⟩) (by assumption) ?_
    try simp only [Act.put, List.setIfInBounds_toArray, List.set_cons_zero, List.set_cons_succ]
    refine wpAnyH_take (i := 30) (oi := { dst := some 111, op := Op.move (Operand.tmp 7), type := 22, pos := _, after := #[{ on := 21, ground := Ground.guard }], guard := some (21, true) }) (v := undef) rfl (by kernel_rfl) (by kernel_rfl) (by kernel_rfl) (fun _ _ _ h => h) (Or.inr ⟨by rfl, rfl⟩) (by assumption) ?_
    try simp only [Act.put, List.setIfInBounds_toArray, List.set_cons_zero, List.set_cons_succ]
    refine wpAnyH_take (i := 31) (oi := { dst := some 112, op := Op.call { callee := Callee.builtin Builtin.len, args := #[Operand.tmp 111], argTypes := #[22] }, type := 3, pos := _, after := #[{ on := 30, ground := Ground.data }, { on := 21, ground := Ground.guard }], guard := some (21, true) }) (v := undef) rfl (by kernel_rfl) (by kernel_rfl) (by kernel_rfl) (fun _ _ _ h => h) (Or.inr ⟨by rfl, rfl⟩) (by assumption) ?_
    try simp only [Act.put, List.setIfInBounds_toArray, List.set_cons_zero, List.set_cons_succ]
    refine wpAnyH_take (i := 32) (oi := { dst := some 113, op := Op.binOp BinOp.sub 3 (Operand.tmp 112) (Operand.const (Value.int IntKind.i64 33)) 3, type := 3, pos := _, after := #[{ on := 31, ground := Ground.data }, { on := 21, ground := Ground.guard }], guard := some (21, true) }) (v := undef) rfl (by kernel_rfl) (by kernel_rfl) (by kernel_rfl) (fun _ _ _ h => h) (Or.inr ⟨by rfl, rfl⟩) (by assumption) ?_
    try simp only [Act.put, List.setIfInBounds_toArray, List.set_cons_zero, List.set_cons_succ]
    refine wpAnyH_take (i := 33) (oi := { dst := some 114, op := Op.move (Operand.tmp 7), type := 22, pos := _, after := #[{ on := 21, ground := Ground.guard }], guard := some (21, true) }) (v := undef) rfl (by kernel_rfl) (by kernel_rfl) (by kernel_rfl) (fun _ _ _ h => h) (Or.inr ⟨by rfl, rfl⟩) (by assumption) ?_
    try simp only [Act.put, List.setIfInBounds_toArray, List.set_cons_zero, List.set_cons_succ]
    refine wpAnyH_take (i := 34) (oi := { dst := some 115, op := Op.call { callee := Callee.builtin Builtin.len, args := #[Operand.tmp 114], argTypes := #[22] }, type := 3, pos := _, after := #[{ on := 33, ground := Ground.data }, { on := 21, ground := Ground.guard }], guard := some (21, true) }) (v := undef) rfl (by kernel_rfl) (by kernel_rfl) (by kernel_rfl) (fun _ _ _ h => h) (Or.inr ⟨by rfl, rfl⟩) (by assumption) ?_
    try simp only [Act.put, List.setIfInBounds_toArray, List.set_cons_zero, List.set_cons_succ]
    refine wpAnyH_take (i := 35) (oi := { dst := some 116, op := Op.binOp BinOp.sub 3 (Operand.tmp 115) (Operand.const (Value.int IntKind.i64 17)) 3, type := 3, pos := _, after := #[{ on := 34, ground := Ground.data }, { on := 21, ground := Ground.guard }], guard := some (21, true) }) (v := undef) rfl (by kernel_rfl) (by kernel_rfl) (by kernel_rfl) (fun _ _ _ h => h) (Or.inr ⟨by rfl, rfl⟩) (by assumption) ?_
    try simp only [Act.put, List.setIfInBounds_toArray, List.set_cons_zero, List.set_cons_succ]
    refine wpAnyH_take (i := 36) (oi := { dst := some 117, op := Op.slice 22 (Operand.tmp 110) (some (Operand.tmp 113)) (some (Operand.tmp 116)) none, type := 22, pos := _, after := #[{ on := 29, ground := Ground.data }, { on := 32, ground := Ground.data }, { on := 35, ground := Ground.data }, { on := 21, ground := Ground.guard }], guard := some (21, true) }) (v := undef) rfl (by kernel_rfl) (by kernel_rfl) (by kernel_rfl) (fun _ _ _ h => h) (Or.inr ⟨by rfl, rfl⟩) (by assumption) ?_
    try simp only [Act.put, List.setIfInBounds_toArray, List.set_cons_zero, List.set_cons_succ]
    refine wpAnyH_take (i := 37) (oi := { dst := some 118, op := Op.call { callee := Callee.value (Operand.func 15), args := #[Operand.tmp 109, Operand.tmp 117], argTypes := #[22, 22] }, type := 4, pos := _, after := #[{ on := 28, ground := Ground.data }, { on := 36, ground := Ground.data }, { on := 28, ground := Ground.chain }, { on := 21, ground := Ground.guard }], guard := some (21, true) }) (v := undef) rfl (by kernel_rfl) (by kernel_rfl) (by kernel_rfl) (fun _ _ _ h => h) (Or.inr ⟨by rfl, rfl⟩) (by assumption) ?_
    try simp only [Act.put, List.setIfInBounds_toArray, List.set_cons_zero, List.set_cons_succ]
    refine wpAnyH_take (i := 38) (oi := { dst := some 119, op := Op.pick (Operand.tmp 102) (Operand.tmp 118) (Operand.const (Value.bool false)), type := 4, pos := _, after := #[{ on := 21, ground := Ground.data }, { on := 37, ground := Ground.data }, { on := 17, ground := Ground.guard }], guard := some (17, false) }) (v := undef) rfl (by kernel_rfl) (by kernel_rfl) (by kernel_rfl) (fun _ _ _ h => h) (Or.inr ⟨by rfl, rfl⟩) (by assumption) ?_
    try simp only [Act.put, List.setIfInBounds_toArray, List.set_cons_zero, List.set_cons_succ]
    refine wpAnyH_take (i := 39) (oi := { dst := some 120, op := Op.pick (Operand.tmp 98) (Operand.const (Value.bool true)) (Operand.tmp 119), type := 4, pos := _, after := #[{ on := 17, ground := Ground.data }, { on := 38, ground := Ground.data }, { on := 10, ground := Ground.guard }], guard := some (10, true) }) (v := ?_) rfl (by kernel_rfl) (by kernel_rfl) (by kernel_rfl) (fun _ _ _ h => h) (Or.inl ⟨by rfl, ?_⟩) (by assumption) ?_
    rotate_left
    · ((intro w hSw); (try dsimp only at hSw); go_simp; (try with_reducible rfl))
    try simp only [Act.put, List.setIfInBounds_toArray, List.set_cons_zero, List.set_cons_succ]
    refine wpAnyH_take (i := 40) (oi := { dst := some 121, op := Op.pick (Operand.tmp 91) (Operand.tmp 120) (Operand.const (Value.bool false)), type := 4, pos := _, after := #[{ on := 10, ground := Ground.data }, { on := 39, ground := Ground.data }], guard := none }) (v := ?_) rfl (by kernel_rfl) (by kernel_rfl) (by kernel_rfl) (fun _ _ _ h => h) (Or.inl ⟨by rfl, ?_⟩) (by assumption) ?_
    rotate_left
    · ((intro w hSw); (try dsimp only at hSw); go_simp; (try with_reducible rfl))
    try simp only [Act.put, List.setIfInBounds_toArray, List.set_cons_zero, List.set_cons_succ]
    refine wpAnyH_take (i := 41) (oi := { dst := some 122, op := Op.move (Operand.tmp 121), type := 4, pos := _, after := #[{ on := 40, ground := Ground.data }, { on := 37, ground := Ground.chain }], guard := none }) (v := ?_) rfl (by kernel_rfl) (by kernel_rfl) (by kernel_rfl) (fun _ _ _ h => h) (Or.inl ⟨by rfl, ?_⟩) (by assumption) ?_
    rotate_left
    · ((intro w hSw); (try dsimp only at hSw); go_simp; (try with_reducible rfl))
    try simp only [Act.put, List.setIfInBounds_toArray, List.set_cons_zero, List.set_cons_succ]
    refine wpAnyH_take (i := 42) (oi := { dst := some 123, op := Op.move (Operand.tmp 7), type := 22, pos := _, after := #[{ on := 41, ground := Ground.guard }], guard := some (41, true) }) (v := ?_) rfl (by kernel_rfl) (by kernel_rfl) (by kernel_rfl) (fun _ _ _ h => h) (Or.inl ⟨by rfl, ?_⟩) (by assumption) ?_
    rotate_left
    · ((intro w hSw); (try dsimp only at hSw); go_simp; (try with_reducible rfl))
    try simp only [Act.put, List.setIfInBounds_toArray, List.set_cons_zero, List.set_cons_succ]
    refine wpAnyH_take (i := 43) (oi := { dst := some 124, op := Op.call { callee := Callee.builtin Builtin.len, args := #[Operand.tmp 123], argTypes := #[22] }, type := 3, pos := _, after := #[{ on := 42, ground := Ground.data }, { on := 41, ground := Ground.guard }], guard := some (41, true) }) (v := ?_) rfl (by kernel_rfl) (by kernel_rfl) (by kernel_rfl) (fun _ _ _ h => h) (Or.inl ⟨by rfl, ?_⟩) (by assumption) ?_
    rotate_left
    · ((intro w hSw); (try dsimp only at hSw); go_simp; (try with_reducible rfl))
    try simp only [Act.put, List.setIfInBounds_toArray, List.set_cons_zero, List.set_cons_succ]
    refine wpAnyH_take (i := 44) (oi := { dst := some 125, op := Op.binOp BinOp.geq 3 (Operand.tmp 124) (Operand.const (Value.int IntKind.i64 26)) 3, type := 4, pos := _, after := #[{ on := 43, ground := Ground.data }, { on := 41, ground := Ground.guard }], guard := some (41, true) }) (v := ?_) rfl (by kernel_rfl) (by kernel_rfl) (by kernel_rfl) (fun _ _ _ h => h) (Or.inl ⟨by rfl, ?_⟩) (by assumption) ?_
    rotate_left
    · ((intro w hSw); (try dsimp only at hSw); go_simp; (try with_reducible rfl))
    try simp only [Act.put, List.setIfInBounds_toArray, List.set_cons_zero, List.set_cons_succ]
    refine wpAnyH_take (i := 45) (oi := { dst := some 126, op := Op.pick (Operand.tmp 122) (Operand.tmp 125) (Operand.const (Value.bool false)), type := 4, pos := _, after := #[{ on := 41, ground := Ground.data }, { on := 44, ground := Ground.data }], guard := none }) (v := ?_) rfl (by kernel_rfl) (by kernel_rfl) (by kernel_rfl) (fun _ _ _ h => h) (Or.inl ⟨by rfl, ?_⟩) (by assumption) ?_
    rotate_left
    · ((intro w hSw); (try dsimp only at hSw); go_simp; (try with_reducible rfl))
    try simp only [Act.put, List.setIfInBounds_toArray, List.set_cons_zero, List.set_cons_succ]
    refine wpAnyH_take (i := 46) (oi := { dst := some 6, op := Op.assign (Operand.tmp 126), type := 4, pos := _, after := #[{ on := 45, ground := Ground.data }, { on := 41, ground := Ground.chain }, { on := 0, ground := Ground.phase }, { on := 1, ground := Ground.phase }, { on := 2, ground := Ground.phase }, { on := 3, ground := Ground.phase }, { on := 4, ground := Ground.phase }, { on := 5, ground := Ground.phase }, { on := 6, ground := Ground.phase }, { on := 7, ground := Ground.phase }, { on := 8, ground := Ground.phase }, { on := 9, ground := Ground.phase }, { on := 10, ground := Ground.phase }, { on := 11, ground := Ground.phase }, { on := 12, ground := Ground.phase }, { on := 13, ground := Ground.phase }, { on := 14, ground := Ground.phase }, { on := 15, ground := Ground.phase }, { on := 16, ground := Ground.phase }, { on := 17, ground := Ground.phase }, { on := 18, ground := Ground.phase }, { on := 19, ground := Ground.phase }, { on := 20, ground := Ground.phase }, { on := 21, ground := Ground.phase }, { on := 22, ground := Ground.phase }, { on := 23, ground := Ground.phase }, { on := 24, ground := Ground.phase }, { on := 25, ground := Ground.phase }, { on := 26, ground := Ground.phase }, { on := 27, ground := Ground.phase }, { on := 28, ground := Ground.phase }, { on := 29, ground := Ground.phase }, { on := 30, ground := Ground.phase }, { on := 31, ground := Ground.phase }, { on := 32, ground := Ground.phase }, { on := 33, ground := Ground.phase }, { on := 34, ground := Ground.phase }, { on := 35, ground := Ground.phase }, { on := 36, ground := Ground.phase }, { on := 37, ground := Ground.phase }, { on := 38, ground := Ground.phase }, { on := 39, ground := Ground.phase }, { on := 40, ground := Ground.phase }, { on := 41, ground := Ground.phase }, { on := 42, ground := Ground.phase }, { on := 43, ground := Ground.phase }, { on := 44, ground := Ground.phase }, { on := 45, ground := Ground.phase }], guard := none }) (v := ?_) rfl (by kernel_rfl) (by kernel_rfl) (by kernel_rfl) (fun _ _ _ h => h) (Or.inl ⟨by rfl, ?_⟩) (by assumption) ?_
    rotate_left
    · ((intro w hSw); (try dsimp only at hSw); go_simp; (try with_reducible rfl))
    try simp only [Act.put, List.setIfInBounds_toArray, List.set_cons_zero, List.set_cons_succ]
    refine wpAnyH_done (by kernel_rfl) ?_ _
    clear hN
    go_wp2
    go_ret
    exact ⟨rfl, below_then HBA.out (below_then HQZ.out (KB.out _ hHeld) HQZ.out.size) HBA.out.size⟩

set_option maxRecDepth 100000 in
set_option maxHeartbeats 4000000 in
theorem apart3 (ka : Option Addr) (kc : Nat) (key : List Nat) (D1 V1 n1 : Nat) (a1 : Option Addr) (c1 : Nat) (l1 : List Nat) (D2 V2 n2 : Nat) (a2 : Option Addr) (c2 : Nat) (l2 : List Nat) (w : World) (ks : Sl w ka key) (k0 : ka = none → kc = 0) (kcap : key.length ≤ kc) (kl : ∀ c ∈ key, c < 256) (klen : key.length ≤ 1000) (s1 : Sl w a1 l1) (z1 : a1 = none → c1 = 0) (k1 : l1.length ≤ c1) (x1 : ∀ c ∈ l1, c < 256) (m1 : l1.length ≤ 3000) (s2 : Sl w a2 l2) (z2 : a2 = none → c2 = 0) (k2 : l2.length ≤ c2) (x2 : ∀ c ∈ l2, c < 256) (m2 : l2.length ≤ 3000) (e11 : 1 ≤ D1) (e12 : D1 ≤ 2) (e13 : V1 < 8) (e14 : 1 ≤ n1) (e15 : n1 ≤ 4611686018427387904) (e16 : l1.length ≤ 1200) (e21 : 1 ≤ D2) (e22 : D2 ≤ 2) (e23 : V2 < 8) (e24 : 1 ≤ n2) (e25 : n2 ≤ 4611686018427387904) (e26 : l2.length ≤ 1200) (M : Nat) (hM : M = 9 + l1.length) (E : Nat) (hE : l1.length = E + 7) (hE10 : 10 ≤ E) (b : List Nat) (hb : b = (sealL key D1 V1 n1 l1).take M) (hne : tagL key (b.take E) = b.drop E) (hT : TabR w) (hB : TabB w) :
    Calls Tryd.prog 9 #[.slice ka key.length kc, .agg #[.int .i64 (D1 : Int), .int .i64 (V1 : Int), .int .u64 (n1 : Int), .slice a1 l1.length c1], .agg #[.int .i64 (D2 : Int), .int .i64 (V2 : Int), .int .u64 (n2 : Int), .slice a2 l2.length c2]] w fun e w' => e = .returned (.bool true) ∧ Below w.heap.size w w' := by
  have HS1 := Lib.hid s1
  have HZ1 := Lib.hid z1
  have HC1 := Lib.hid k1
  have HX1 := Lib.hid x1
  have tl1 : ¬ 3000 < (l1.length : Int) := by omega
  have HS2 := Lib.hid s2
  have HZ2 := Lib.hid z2
  have HC2 := Lib.hid k2
  have HX2 := Lib.hid x2
  have tl2 : ¬ 3000 < (l2.length : Int) := by omega
  have HKS := Lib.hid ks
  have HK0 := Lib.hid k0
  have HKC := Lib.hid kcap
  have HKX := Lib.hid kl
  have HK8 := Lib.hid (show key.length ≤ 800000 by omega)
  have tk : ¬ 1000 < (key.length : Int) := by omega
  have HT := Lib.hid hT
  have HB := Lib.hid hB
  obtain ⟨X1, hX1⟩ : ∃ X, X = sealL key D1 V1 n1 l1 := ⟨_, rfl⟩
  have HXE1 := Lib.hid hX1
  have HXL1 := Lib.hid (show X1.length = 26 + l1.length by rw [hX1, sealL_len])
  have HXX1 := Lib.hid (show ∀ c ∈ X1, c < 256 by rw [hX1]; exact sealL_lt _ _ _ _ _ (by omega) (by omega) x1)
  have E11 := Lib.hid e11
  have E12 := Lib.hid e12
  have E13 := Lib.hid e13
  have E14 := Lib.hid e14
  have E15 := Lib.hid e15
  have E16 := Lib.hid e16
  clear e11
  clear e12
  clear e13
  clear e14
  clear e15
  clear e16
  obtain ⟨X2, hX2⟩ : ∃ X, X = sealL key D2 V2 n2 l2 := ⟨_, rfl⟩
  have HXE2 := Lib.hid hX2
  have HXL2 := Lib.hid (show X2.length = 26 + l2.length by rw [hX2, sealL_len])
  have HXX2 := Lib.hid (show ∀ c ∈ X2, c < 256 by rw [hX2]; exact sealL_lt _ _ _ _ _ (by omega) (by omega) x2)
  have E21 := Lib.hid e21
  have E22 := Lib.hid e22
  have E23 := Lib.hid e23
  have E24 := Lib.hid e24
  have E25 := Lib.hid e25
  have E26 := Lib.hid e26
  clear e21
  clear e22
  clear e23
  clear e24
  clear e25
  clear e26
  have CL := Lib.hid (fun W (h : Below ((w.alloc (.cells #[.int .i64 (D1 : Int), .int .i64 (V1 : Int), .int .u64 (n1 : Int), .slice a1 l1.length c1] 35)).alloc (.cells #[.int .i64 (D2 : Int), .int .i64 (V2 : Int), .int .u64 (n2 : Int), .slice a2 l2.length c2] 35)).heap.size ((w.alloc (.cells #[.int .i64 (D1 : Int), .int .i64 (V1 : Int), .int .u64 (n1 : Int), .slice a1 l1.length c1] 35)).alloc (.cells #[.int .i64 (D2 : Int), .int .i64 (V2 : Int), .int .u64 (n2 : Int), .slice a2 l2.length c2] 35)) W) => boxes2 w W 35 _ _ _ _ _ _ _ _ h)
  have HBA := Lib.hid (show Below w.heap.size w ((w.alloc (.cells #[.int .i64 (D1 : Int), .int .i64 (V1 : Int), .int .u64 (n1 : Int), .slice a1 l1.length c1] 35)).alloc (.cells #[.int .i64 (D2 : Int), .int .i64 (V2 : Int), .int .u64 (n2 : Int), .slice a2 l2.length c2] 35)) from ((Below.refl _ w).alloc (Nat.le_refl _) _).alloc (by simp) _)
  have y1 : (X1.length : Int) - 17 = (M : Int) := by have := HXL1.out; omega
  have y2 : (M : Int) ≤ (X1.length : Int) := by have := HXL1.out; omega
  have y4 : ¬ (X1.length : Int) < 26 := by have := HXL1.out; omega
  have HMX := Lib.hid (show M + 17 = X1.length by have := HXL1.out; omega)
  obtain ⟨RR, hRR⟩ : ∃ R, R = decide (X1 = X2) := ⟨_, rfl⟩
  have HRR := Lib.hid hRR
  have HRS := Lib.hid (show RR = sameB (D1 : Int) (V1 : Int) n1 l1 (D2 : Int) (V2 : Int) n2 l2 by rw [hRR, hX1, hX2]; exact sealL_same key D1 V1 n1 D2 V2 n2 l1 l2 (by have := E15.out; omega) (by have := E25.out; omega))
  have HBL := Lib.hid (show b.length = E + 16 by rw [hb, List.length_take, sealL_len]; omega)
  have HBM := Lib.hid (show M = b.length by rw [HBL.out]; omega)
  have HBB := Lib.hid (show b = X1.take M by rw [hb, hX1])
  have HBX := Lib.hid (show ∀ c ∈ b, c < 256 by rw [HBB.out]; exact fun c hc => HXX1.out c (List.mem_of_mem_take hc))
  have HNE := Lib.hid hne
  have HE10 := Lib.hid hE10
  have HE7 := Lib.hid hE
  have HM9 := Lib.hid hM
  obtain ⟨TT, hTT⟩ : ∃ T, T = tagL key (b.take E) := ⟨_, rfl⟩
  have HTT := Lib.hid hTT
  have HTL := Lib.hid (show 16 = TT.length by rw [hTT]; exact (tagL_len _ _).symm)
  have HTX := Lib.hid (show ∀ c ∈ TT, c < 256 by rw [hTT]; exact tagL_lt _ _)
  have HTD := Lib.hid (show TT = (X1.drop E).take (M - E) by rw [hTT, hne, HBB.out, List.drop_take])
  have HEL := Lib.hid (show E = (b.take E).length by rw [List.length_take, HBL.out]; omega)
  have HBEX := Lib.hid (show ∀ c ∈ b.take E, c < 256 from fun c hc => HBX.out c (List.mem_of_mem_take hc))
  have HBE8 := Lib.hid (show (b.take E).length ≤ 800000 by rw [← HEL.out]; omega)
  have HBEQ := Lib.hid (show b.take E = (X1.drop 0).take (E - 0) by rw [HBB.out, List.take_take, List.drop_zero, Nat.sub_zero, Nat.min_eq_left (by omega)])
  obtain ⟨BD, hBD⟩ : ∃ B, B = (b.drop 10).take (E - 10) := ⟨_, rfl⟩
  have HBD := Lib.hid hBD
  clear hBD
  have HMY := Lib.hid (show mayB (D1 : Int) (V1 : Int) n1 (E - 10) = true from may_num D1 V1 n1 _ E11.out E12.out E13.out E14.out E15.out (by have := E16.out; omega))
  have HG0 := Lib.hid (show D1 = b.getD 0 0 by
    rw [HBB.out, hX1]
    have := sealL_at0 key D1 V1 n1 l1
    rw [List.getD_eq_getElem?_getD] at this ⊢
    rw [List.getElem?_take, if_pos (by omega)]; exact this.symm)
  have HG1 := Lib.hid (show V1 = b.getD 1 0 by
    rw [HBB.out, hX1]
    have := sealL_at1 key D1 V1 n1 l1
    rw [List.getD_eq_getElem?_getD] at this ⊢
    rw [List.getElem?_take, if_pos (by omega)]; exact this.symm)
  have HGN := Lib.hid (show n1 = numL ((b.drop 2).take 8) by
    rw [HBB.out, hX1, List.drop_take, List.take_take, Nat.min_eq_left (by omega)]
    exact (sealL_num key D1 V1 n1 l1 (by have := E15.out; omega)).symm)
  clear hTT
  have HBL8 := Lib.hid (show b.length ≤ 800000 by have := HBL.out; have := HE7.out; have := E16.out; omega)
  have y3 := wr_w M (by have := E16.out; omega)
  clear hRR hM hE hE10 hb hne
  clear ks k0 kcap kl klen s1 z1 k1 x1 m1 s2 z2 k2 x2 m2 hT hB hX1 hX2
  go_enter Tryd.func9, Tryd.ntmps9
  go_wp2_with fail
  generalize ((w.alloc (.cells #[.int .i64 (D1 : Int), .int .i64 (V1 : Int), .int .u64 (n1 : Int), .slice a1 l1.length c1] 35)).alloc (.cells #[.int .i64 (D2 : Int), .int .i64 (V2 : Int), .int .u64 (n2 : Int), .slice a2 l2.length c2] 35)) = w0 at *
  have HKS0 := Lib.hid (sl_then HBA.out (Nat.le_refl _) HKS.out)
  have HS10 := Lib.hid (sl_then HBA.out (Nat.le_refl _) HS1.out)
  have HS20 := Lib.hid (sl_then HBA.out (Nat.le_refl _) HS2.out)
  have HT0 := Lib.hid (tabR_then HBA.out HT.out)
  have HB0 := Lib.hid (tabB_then HBA.out HB.out)
  have HQ0 := Lib.hid (Below.refl w0.heap.size w0)
  obtain ⟨p0, p1, p2, p3, q0, q1, q2, q3⟩ := CL.out _ HQ0.out
  go_wp2_with (first
    | (go_at_call 23; (with_reducible refine (pfirst w0 (tabR_then HQ0.out HT0.out) (tabB_then HQ0.out HB0.out)).mono ?_); rintro e wq1 ⟨rfl, bq⟩; have HQ1 := Lib.hid (below_then HQ0.out bq HQ0.out.size); clear bq; clear p0 p1 p2 p3 q0 q1 q2 q3; obtain ⟨p0, p1, p2, p3, q0, q1, q2, q3⟩ := CL.out _ HQ1.out)
    | (go_at_call 24; (with_reducible refine (sealK D1 V1 n1 a1 l1.length c1 l1 X1 ka key.length kc key wq1 HXE1.out rfl rfl E11.out E12.out E13.out E14.out E15.out E16.out (sl_then HQ1.out (Nat.le_refl _) HS10.out) HZ1.out HC1.out HX1.out (sl_then HQ1.out (Nat.le_refl _) HKS0.out) HK0.out HKC.out HKX.out HK8.out (tabR_then HQ1.out HT0.out) (tabB_then HQ1.out HB0.out)).mono ?_); rintro e wq2 ⟨xb, xo, xc, rfl, lx, kx, _, bq⟩; have HQ2 := Lib.hid (below_then HQ1.out bq HQ1.out.size); have X_2 := Lib.hid lx; clear bq lx; clear p0 p1 p2 p3 q0 q1 q2 q3; obtain ⟨p0, p1, p2, p3, q0, q1, q2, q3⟩ := CL.out _ HQ2.out; have y5 : (M : Int) ≤ (xc : Int) := (by have := HMX.out; omega); have y6 : ¬ xc = 0 := (by have := HXL1.out; omega); have y7 : (xc : Int) ≠ 0 := (by omega); have HKXC := Lib.hid kx; clear kx y7; have HBMC := Lib.hid (show b.length ≤ xc by have := HKXC.out; have := HMX.out; have := HBM.out; omega))
    | (go_at_call 24; (with_reducible refine (sealK D2 V2 n2 a2 l2.length c2 l2 X2 ka key.length kc key wq2 HXE2.out rfl rfl E21.out E22.out E23.out E24.out E25.out E26.out (sl_then HQ2.out (Nat.le_refl _) HS20.out) HZ2.out HC2.out HX2.out (sl_then HQ2.out (Nat.le_refl _) HKS0.out) HK0.out HKC.out HKX.out HK8.out (tabR_then HQ2.out HT0.out) (tabB_then HQ2.out HB0.out)).mono ?_); rintro e wq3 ⟨yb, yo, yc, rfl, ly, _, _, bq⟩; have HQ3 := Lib.hid (below_then HQ2.out bq HQ2.out.size); have X_3 := Lib.hid (sl_then bq (Nat.le_refl _) X_2.out); have Y_3 := Lib.hid ly; clear bq ly; clear p0 p1 p2 p3 q0 q1 q2 q3; obtain ⟨p0, p1, p2, p3, q0, q1, q2, q3⟩ := CL.out _ HQ3.out)
    | (go_at_call 30; (with_reducible refine (mayE (D1 : Int) (V1 : Int) n1 a1 l1.length c1 l1 wq3 true rfl (may_num D1 V1 n1 _ E11.out E12.out E13.out E14.out E15.out E16.out)).mono ?_); rintro e wq4 ⟨rfl, bq⟩; have HQ4 := Lib.hid (below_then HQ3.out bq HQ3.out.size); have X_4 := Lib.hid (sl_then bq (Nat.le_refl _) X_3.out); have Y_4 := Lib.hid (sl_then bq (Nat.le_refl _) Y_3.out); clear bq; clear p0 p1 p2 p3 q0 q1 q2 q3; obtain ⟨p0, p1, p2, p3, q0, q1, q2, q3⟩ := CL.out _ HQ4.out)
    | (go_at_call 27; (with_reducible refine (openOkG xb xo xc M key.length b ka kc key wq4 E HBM.out rfl HBL.out HE10.out HBL8.out HBMC.out (cells_take X_4.out M b HBB.out) HBX.out (sl_then HQ4.out (Nat.le_refl _) HKS0.out) HK0.out HKC.out HKX.out HK8.out (tabR_then HQ4.out HT0.out) (tabB_then HQ4.out HB0.out) HNE.out D1 V1 n1 BD HG0.out HG1.out HGN.out HBD.out HMY.out).mono ?_); rintro e wq5 ⟨pv, rfl, rp, bq⟩; have HQ5 := Lib.hid (below_then HQ4.out bq HQ4.out.size); have X_5 := Lib.hid (sl_then bq (Nat.le_refl _) X_4.out); have Y_5 := Lib.hid (sl_then bq (Nat.le_refl _) Y_4.out); clear bq; clear p0 p1 p2 p3 q0 q1 q2 q3; obtain ⟨p0, p1, p2, p3, q0, q1, q2, q3⟩ := CL.out _ HQ5.out; obtain ⟨pa, pc, rfl, _⟩ := rb_sl rp; clear rp))
  have HQZ := Lib.hid (HQ5.out.alloc HQ5.out.size (.cells #[.int .i64 (D1 : Int), .int .i64 (V1 : Int), .int .u64 (n1 : Int), .slice pa BD.length pc] 35))
  have HXz := Lib.hid (sl_alloc X_5.out (.cells #[.int .i64 (D1 : Int), .int .i64 (V1 : Int), .int .u64 (n1 : Int), .slice pa BD.length pc] 35))
  have HYz := Lib.hid (sl_alloc Y_5.out (.cells #[.int .i64 (D1 : Int), .int .i64 (V1 : Int), .int .u64 (n1 : Int), .slice pa BD.length pc] 35))
  clear p0 p1 p2 p3 q0 q1 q2 q3
  as_aux_lemma =>
    generalize (wq5.alloc (.cells #[.int .i64 (D1 : Int), .int .i64 (V1 : Int), .int .u64 (n1 : Int), .slice pa BD.length pc] 35)) = wz at *
    have HKSz := Lib.hid (sl_then HQZ.out (Nat.le_refl _) HKS0.out)
    have HS1z := Lib.hid (sl_then HQZ.out (Nat.le_refl _) HS10.out)
    have HS2z := Lib.hid (sl_then HQZ.out (Nat.le_refl _) HS20.out)
    have HTz := Lib.hid (tabR_then HQZ.out HT0.out)
    have HBz := Lib.hid (tabB_then HQZ.out HB0.out)
    have KS := Lib.hid (show ∀ W, Below wz.heap.size wz W → W.cell? ⟨w.heap.size, 0, none⟩ = some (.int .i64 (D1 : Int)) ∧ W.cell? ⟨w.heap.size, 1, none⟩ = some (.int .i64 (V1 : Int)) ∧ W.cell? ⟨w.heap.size, 2, none⟩ = some (.int .u64 (n1 : Int)) ∧ W.cell? ⟨w.heap.size, 3, none⟩ = some (.slice a1 l1.length c1) ∧ W.cell? ⟨w.heap.size + 1, 0, none⟩ = some (.int .i64 (D2 : Int)) ∧ W.cell? ⟨w.heap.size + 1, 1, none⟩ = some (.int .i64 (V2 : Int)) ∧ W.cell? ⟨w.heap.size + 1, 2, none⟩ = some (.int .u64 (n2 : Int)) ∧ W.cell? ⟨w.heap.size + 1, 3, none⟩ = some (.slice a2 l2.length c2) ∧ Below wz.heap.size wz W from fun W h => by
      obtain ⟨p0, p1, p2, p3, q0, q1, q2, q3⟩ := CL.out _ (below_then HQZ.out h HQZ.out.size)
      exact ⟨p0, p1, p2, p3, q0, q1, q2, q3, h⟩)
    have KB := Lib.hid (show ∀ W, (W.cell? ⟨w.heap.size, 0, none⟩ = some (.int .i64 (D1 : Int)) ∧ W.cell? ⟨w.heap.size, 1, none⟩ = some (.int .i64 (V1 : Int)) ∧ W.cell? ⟨w.heap.size, 2, none⟩ = some (.int .u64 (n1 : Int)) ∧ W.cell? ⟨w.heap.size, 3, none⟩ = some (.slice a1 l1.length c1) ∧ W.cell? ⟨w.heap.size + 1, 0, none⟩ = some (.int .i64 (D2 : Int)) ∧ W.cell? ⟨w.heap.size + 1, 1, none⟩ = some (.int .i64 (V2 : Int)) ∧ W.cell? ⟨w.heap.size + 1, 2, none⟩ = some (.int .u64 (n2 : Int)) ∧ W.cell? ⟨w.heap.size + 1, 3, none⟩ = some (.slice a2 l2.length c2) ∧ Below wz.heap.size wz W) → Below wz.heap.size wz W from fun W h => h.2.2.2.2.2.2.2.2)
    have y8 : (26 : Int) ≤ (X1.length : Int) := by have := HXL1.out; omega
    obtain ⟨xa1, yc1, e1, s1, l1', z1', _⟩ := sub_val HXz.out (fun h => by cases h) HKXC.out 0 E (Nat.zero_le _) (by have := HMX.out; have := HM9.out; have := HE7.out; omega)
    obtain ⟨x2, y2', e2, s2, l2', z2', _⟩ := sub_val HXz.out (fun h => by cases h) HKXC.out E M (by have := HM9.out; have := HE7.out; omega) (by have := HMX.out; omega)
    have hs1 : ∀ w1 : World, (Instr.sliceAt 22 (.slice (some ⟨xb, xo, none⟩) X1.length xc) none (some (.int .i64 (E : Int))) none).run Tryd.prog w1 = .ok (.slice (some ⟨xb, xo, none⟩) E xc) w1 := fun w1 => by
      rw [run_sub (some ⟨xb, xo, none⟩) X1.length xc none (some (.int .i64 (E : Int))) 0 E w1 lo_none (hi_some rfl) (Nat.zero_le _) (by have := HMX.out; have := HM9.out; have := HE7.out; omega) HKXC.out]
      unfold sliced; rw [if_neg (by omega)]; rfl
    have hs2 : ∀ w1 : World, (Instr.sliceAt 22 (.slice (some ⟨xb, xo, none⟩) X1.length xc) (some (.int .i64 (E : Int))) (some (.int .i64 (M : Int))) none).run Tryd.prog w1 = .ok (.slice x2 16 y2') w1 := fun w1 => by
      rw [run_sub (some ⟨xb, xo, none⟩) X1.length xc (some (.int .i64 (E : Int))) (some (.int .i64 (M : Int))) E M w1 (lo_some rfl) (hi_some rfl) (by have := HM9.out; have := HE7.out; omega) (by have := HMX.out; omega) HKXC.out, e2, show M - E = 16 by have := HM9.out; have := HE7.out; omega]
    have HTDz := Lib.hid (show Sl wz x2 TT by rw [HTD.out]; exact s2)
    have HBEz := Lib.hid (show Sl wz (some ⟨xb, xo, none⟩) (b.take E) from sl_of (cells_take HXz.out E (b.take E) (by rw [HBEQ.out, List.drop_zero, Nat.sub_zero])))
    have HEC := Lib.hid (show (b.take E).length ≤ xc by rw [← HEL.out]; have := HMX.out; have := HM9.out; have := HE7.out; have := HKXC.out; omega)
    have y9 : (X1.length : Int) - 33 = (E : Int) := by have := HMX.out; have := HM9.out; have := HE7.out; omega
    have y11 : (43 : Int) ≤ (X1.length : Int) := by have := HMX.out; have := HM9.out; have := HE7.out; have := HE10.out; omega
    have gE : E ≤ 100000 := by have := E16.out; have := HE7.out; omega
    have gM : M ≤ 100000 := by have := E16.out; have := HM9.out; omega
    have y10 := wr_w E gE
    have y12 := wr_i E gE
    have y13 := wr_i M gM
    clear gE gM
    clear e1 e2 s1 s2 l1' l2' z1' z2'
    go_wp2_with fail
    refine wp_region_held_drew (S := (fun W => W.cell? ⟨w.heap.size, 0, none⟩ = some (.int .i64 (D1 : Int)) ∧ W.cell? ⟨w.heap.size, 1, none⟩ = some (.int .i64 (V1 : Int)) ∧ W.cell? ⟨w.heap.size, 2, none⟩ = some (.int .u64 (n1 : Int)) ∧ W.cell? ⟨w.heap.size, 3, none⟩ = some (.slice a1 l1.length c1) ∧ W.cell? ⟨w.heap.size + 1, 0, none⟩ = some (.int .i64 (D2 : Int)) ∧ W.cell? ⟨w.heap.size + 1, 1, none⟩ = some (.int .i64 (V2 : Int)) ∧ W.cell? ⟨w.heap.size + 1, 2, none⟩ = some (.int .u64 (n2 : Int)) ∧ W.cell? ⟨w.heap.size + 1, 3, none⟩ = some (.slice a2 l2.length c2) ∧ Below wz.heap.size wz W)) (by kernel_rfl) ?_ (fun hHeld => ?_)
    · ((try dsimp only); (first | (with_reducible exact KS.out _ hN) | (with_reducible exact hHeld) | exact KS.out _ (Below.refl _ _).drew | exact KS.out _ (Below.refl _ _)))
    refine wpAnyH_ready (rs := [0]) (by kernel_rfl) (by simp) ?_
    refine (AllReadyH.cons (o := { dst := some 81, op := Op.call { callee := Callee.value (Operand.func 23), args := #[], argTypes := #[] }, type := 4, pos := _, after := #[], guard := none }) rfl (fun K hK => ?_) AllReadyH.nil)
    go_simp
    (go_at_call 23; (with_reducible refine (pfirst _ (tabR_then (KB.out _ hHeld) HTz.out) (tabB_then (KB.out _ hHeld) HBz.out)).mono ?_); rintro e wa ⟨rfl, ba⟩; have hN := below_then (KB.out _ hHeld) ba (KB.out _ hHeld).size; clear ba)
    go_wp2_with fail
    refine hK.out _ _ ?_ (fun hHeld => ?_)
    · ((try dsimp only); (first | (with_reducible exact KS.out _ hN) | (with_reducible exact hHeld) | exact KS.out _ (Below.refl _ _).drew | exact KS.out _ (Below.refl _ _)))
    clear hK K
    try simp only [Act.put, List.setIfInBounds_toArray, List.set_cons_zero, List.set_cons_succ]
    refine wpAnyH_take (i := 1) (oi := { dst := some 82, op := Op.move (Operand.tmp 81), type := 4, pos := _, after := #[{ on := 0, ground := Ground.data }, { on := 0, ground := Ground.chain }], guard := none }) (v := ?_) rfl (by kernel_rfl) (by kernel_rfl) (by kernel_rfl) (fun _ _ _ h => h) (Or.inl ⟨by rfl, ?_⟩) (by assumption) ?_
    rotate_left
    · ((intro w hSw); (try dsimp only at hSw); go_simp; (try with_reducible rfl))
    try simp only [Act.put, List.setIfInBounds_toArray, List.set_cons_zero, List.set_cons_succ]
    refine wpAnyH_take (i := 2) (oi := { dst := some 83, op := Op.move (Operand.tmp 7), type := 22, pos := _, after := #[{ on := 1, ground := Ground.guard }], guard := some (1, true) }) (v := ?_) rfl (by kernel_rfl) (by kernel_rfl) (by kernel_rfl) (fun _ _ _ h => h) (Or.inl ⟨by rfl, ?_⟩) (by assumption) ?_
    rotate_left
    · ((intro w hSw); (try dsimp only at hSw); go_simp; (try with_reducible rfl))
    try simp only [Act.put, List.setIfInBounds_toArray, List.set_cons_zero, List.set_cons_succ]
    refine wpAnyH_take (i := 3) (oi := { dst := some 84, op := Op.move (Operand.tmp 9), type := 22, pos := _, after := #[{ on := 1, ground := Ground.guard }], guard := some (1, true) }) (v := ?_) rfl (by kernel_rfl) (by kernel_rfl) (by kernel_rfl) (fun _ _ _ h => h) (Or.inl ⟨by rfl, ?_⟩) (by assumption) ?_
    rotate_left
    · ((intro w hSw); (try dsimp only at hSw); go_simp; (try with_reducible rfl))
    try simp only [Act.put, List.setIfInBounds_toArray, List.set_cons_zero, List.set_cons_succ]
    refine wpAnyH_take (i := 5) (oi := { dst := some 86, op := Op.load 35 (Operand.tmp 4), type := 35, pos := _, after := #[{ on := 1, ground := Ground.guard }], guard := some (1, true) }) (v := ?_) rfl (by kernel_rfl) (by kernel_rfl) (by kernel_rfl) (fun _ _ _ h => h) (Or.inl ⟨by rfl, ?_⟩) (by assumption) ?_
    rotate_left
    · ((intro w hSw); (try dsimp only at hSw); go_simp; (try with_reducible rfl))
    try simp only [Act.put, List.setIfInBounds_toArray, List.set_cons_zero, List.set_cons_succ]
    refine wpAnyH_take (i := 6) (oi := { dst := some 87, op := Op.load 35 (Operand.tmp 5), type := 35, pos := _, after := #[{ on := 1, ground := Ground.guard }], guard := some (1, true) }) (v := ?_) rfl (by kernel_rfl) (by kernel_rfl) (by kernel_rfl) (fun _ _ _ h => h) (Or.inl ⟨by rfl, ?_⟩) (by assumption) ?_
    rotate_left
    · ((intro w hSw); (try dsimp only at hSw); go_simp; (try with_reducible rfl))
    try simp only [Act.put, List.setIfInBounds_toArray, List.set_cons_zero, List.set_cons_succ]
    refine wpAnyH_ready (rs := [4]) (by kernel_rfl) (by simp) ?_
    refine (AllReadyH.cons (o := { dst := some 85, op := Op.call { callee := Callee.value (Operand.func 15), args := #[Operand.tmp 83, Operand.tmp 84], argTypes := #[22, 22] }, type := 4, pos := _, after := #[{ on := 2, ground := Ground.data }, { on := 3, ground := Ground.data }, { on := 1, ground := Ground.chain }, { on := 1, ground := Ground.guard }], guard := some (1, true) }) rfl (fun K hK => ?_) AllReadyH.nil)
    go_simp
    (go_at_call 15; (with_reducible refine (bytesD (some ⟨xb, xo, none⟩) (some ⟨yb, yo, none⟩) xc yc X1.length X2.length X1 X2 _ RR rfl rfl (sl_then (KB.out _ hHeld) (Nat.le_refl _) HXz.out) (sl_then (KB.out _ hHeld) (Nat.le_refl _) HYz.out) HXX1.out HXX2.out HRR.out).mono ?_); rintro e wb ⟨rfl, rfl⟩)
    go_wp2_with fail
    refine hK.out _ _ ?_ (fun hHeld => ?_)
    · ((try dsimp only); (first | (with_reducible exact KS.out _ hN) | (with_reducible exact hHeld) | exact KS.out _ (Below.refl _ _).drew | exact KS.out _ (Below.refl _ _)))
    clear hK K
    try simp only [Act.put, List.setIfInBounds_toArray, List.set_cons_zero, List.set_cons_succ]
    refine wpAnyH_ready (rs := [7]) (by kernel_rfl) (by simp) ?_
    refine (AllReadyH.cons (o := { dst := some 88, op := Op.call { callee := Callee.value (Operand.func 32), args := #[Operand.tmp 86, Operand.tmp 87], argTypes := #[35, 35] }, type := 4, pos := _, after := #[{ on := 5, ground := Ground.data }, { on := 6, ground := Ground.data }, { on := 4, ground := Ground.chain }, { on := 1, ground := Ground.guard }], guard := some (1, true) }) rfl (fun K hK => ?_) AllReadyH.nil)
    go_simp
    (go_at_call 32; (with_reducible refine (sameP (D1 : Int) (V1 : Int) n1 a1 l1.length c1 l1 (D2 : Int) (V2 : Int) n2 a2 l2.length c2 l2 _ rfl rfl (sl_then (KB.out _ hHeld) (Nat.le_refl _) HS1z.out) (sl_then (KB.out _ hHeld) (Nat.le_refl _) HS2z.out) HX1.out HX2.out RR HRS.out).mono ?_); rintro e wa ⟨rfl, ba⟩; have hN := below_then (KB.out _ hHeld) ba (KB.out _ hHeld).size; clear ba)
    go_wp2_with fail
    refine hK.out _ _ ?_ (fun hHeld => ?_)
    · ((try dsimp only); (first | (with_reducible exact KS.out _ hN) | (with_reducible exact hHeld) | exact KS.out _ (Below.refl _ _).drew | exact KS.out _ (Below.refl _ _)))
    clear hK K
    try simp only [Act.put, List.setIfInBounds_toArray, List.set_cons_zero, List.set_cons_succ]
    refine wpAnyH_take (i := 8) (oi := { dst := some 89, op := Op.binOp BinOp.eql 4 (Operand.tmp 85) (Operand.tmp 88) 4, type := 4, pos := _, after := #[{ on := 4, ground := Ground.data }, { on := 7, ground := Ground.data }, { on := 1, ground := Ground.guard }], guard := some (1, true) }) (v := ?_) rfl (by kernel_rfl) (by kernel_rfl) (by kernel_rfl) (fun _ _ _ h => h) (Or.inl ⟨by rfl, ?_⟩) (by assumption) ?_
    rotate_left
    · ((intro w hSw); (try dsimp only at hSw); go_simp; (try with_reducible rfl))
    try simp only [Act.put, List.setIfInBounds_toArray, List.set_cons_zero, List.set_cons_succ]
    refine wpAnyH_take (i := 9) (oi := { dst := some 90, op := Op.pick (Operand.tmp 82) (Operand.tmp 89) (Operand.const (Value.bool false)), type := 4, pos := _, after := #[{ on := 1, ground := Ground.data }, { on := 8, ground := Ground.data }], guard := none }) (v := ?_) rfl (by kernel_rfl) (by kernel_rfl) (by kernel_rfl) (fun _ _ _ h => h) (Or.inl ⟨by rfl, ?_⟩) (by assumption) ?_
    rotate_left
    · ((intro w hSw); (try dsimp only at hSw); go_simp; (try with_reducible rfl))
    try simp only [Act.put, List.setIfInBounds_toArray, List.set_cons_zero, List.set_cons_succ]
    refine wpAnyH_take (i := 10) (oi := { dst := some 91, op := Op.move (Operand.tmp 90), type := 4, pos := _, after := #[{ on := 9, ground := Ground.data }, { on := 7, ground := Ground.chain }], guard := none }) (v := ?_) rfl (by kernel_rfl) (by kernel_rfl) (by kernel_rfl) (fun _ _ _ h => h) (Or.inl ⟨by rfl, ?_⟩) (by assumption) ?_
    rotate_left
    · ((intro w hSw); (try dsimp only at hSw); go_simp; (try with_reducible rfl))
    try simp only [Act.put, List.setIfInBounds_toArray, List.set_cons_zero, List.set_cons_succ]
    refine wpAnyH_take (i := 11) (oi := { dst := some 92, op := Op.move (Operand.tmp 12), type := 36, pos := _, after := #[{ on := 10, ground := Ground.guard }], guard := some (10, true) }) (v := ?_) rfl (by kernel_rfl) (by kernel_rfl) (by kernel_rfl) (fun _ _ _ h => h) (Or.inl ⟨by rfl, ?_⟩) (by assumption) ?_
    rotate_left
    · ((intro w hSw); (try dsimp only at hSw); go_simp; (try with_reducible rfl))
    try simp only [Act.put, List.setIfInBounds_toArray, List.set_cons_zero, List.set_cons_succ]
    refine wpAnyH_take (i := 12) (oi := { dst := some 93, op := Op.binOp BinOp.eql 36 (Operand.tmp 92) (Operand.const (Value.int IntKind.i64 3)) 36, type := 4, pos := _, after := #[{ on := 11, ground := Ground.data }, { on := 10, ground := Ground.guard }], guard := some (10, true) }) (v := ?_) rfl (by kernel_rfl) (by kernel_rfl) (by kernel_rfl) (fun _ _ _ h => h) (Or.inl ⟨by rfl, ?_⟩) (by assumption) ?_
    rotate_left
    · ((intro w hSw); (try dsimp only at hSw); go_simp; (try with_reducible rfl))
    try simp only [Act.put, List.setIfInBounds_toArray, List.set_cons_zero, List.set_cons_succ]
    refine wpAnyH_take (i := 13) (oi := { dst := some 94, op := Op.move (Operand.tmp 93), type := 4, pos := _, after := #[{ on := 12, ground := Ground.data }, { on := 10, ground := Ground.chain }, { on := 10, ground := Ground.guard }], guard := some (10, true) }) (v := ?_) rfl (by kernel_rfl) (by kernel_rfl) (by kernel_rfl) (fun _ _ _ h => h) (Or.inl ⟨by rfl, ?_⟩) (by assumption) ?_
    rotate_left
    · ((intro w hSw); (try dsimp only at hSw); go_simp; (try with_reducible rfl))
    try simp only [Act.put, List.setIfInBounds_toArray, List.set_cons_zero, List.set_cons_succ]
    refine wpAnyH_take (i := 14) (oi := { dst := some 95, op := Op.move (Operand.tmp 12), type := 36, pos := _, after := #[{ on := 13, ground := Ground.guard }], guard := some (13, false) }) (v := ?_) rfl (by kernel_rfl) (by kernel_rfl) (by kernel_rfl) (fun _ _ _ h => h) (Or.inl ⟨by rfl, ?_⟩) (by assumption) ?_
    rotate_left
    · ((intro w hSw); (try dsimp only at hSw); go_simp; (try with_reducible rfl))
    try simp only [Act.put, List.setIfInBounds_toArray, List.set_cons_zero, List.set_cons_succ]
    refine wpAnyH_take (i := 15) (oi := { dst := some 96, op := Op.binOp BinOp.eql 36 (Operand.tmp 95) (Operand.const (Value.int IntKind.i64 15)) 36, type := 4, pos := _, after := #[{ on := 14, ground := Ground.data }, { on := 13, ground := Ground.guard }], guard := some (13, false) }) (v := ?_) rfl (by kernel_rfl) (by kernel_rfl) (by kernel_rfl) (fun _ _ _ h => h) (Or.inl ⟨by rfl, ?_⟩) (by assumption) ?_
    rotate_left
    · ((intro w hSw); (try dsimp only at hSw); go_simp; (try with_reducible rfl))
    try simp only [Act.put, List.setIfInBounds_toArray, List.set_cons_zero, List.set_cons_succ]
    refine wpAnyH_take (i := 16) (oi := { dst := some 97, op := Op.pick (Operand.tmp 94) (Operand.const (Value.bool true)) (Operand.tmp 96), type := 4, pos := _, after := #[{ on := 13, ground := Ground.data }, { on := 15, ground := Ground.data }, { on := 10, ground := Ground.guard }], guard := some (10, true) }) (v := ?_) rfl (by kernel_rfl) (by kernel_rfl) (by kernel_rfl) (fun _ _ _ h => h) (Or.inl ⟨by rfl, ?_⟩) (by assumption) ?_
    rotate_left
    · ((intro w hSw); (try dsimp only at hSw); go_simp; (try with_reducible rfl))
    try simp only [Act.put, List.setIfInBounds_toArray, List.set_cons_zero, List.set_cons_succ]
    refine wpAnyH_take (i := 17) (oi := { dst := some 98, op := Op.move (Operand.tmp 97), type := 4, pos := _, after := #[{ on := 16, ground := Ground.data }, { on := 13, ground := Ground.chain }, { on := 10, ground := Ground.guard }], guard := some (10, true) }) (v := ?_) rfl (by kernel_rfl) (by kernel_rfl) (by kernel_rfl) (fun _ _ _ h => h) (Or.inl ⟨by rfl, ?_⟩) (by assumption) ?_
    rotate_left
    · ((intro w hSw); (try dsimp only at hSw); go_simp; (try with_reducible rfl))
    try simp only [Act.put, List.setIfInBounds_toArray, List.set_cons_zero, List.set_cons_succ]
    refine wpAnyH_take (i := 18) (oi := { dst := some 99, op := Op.move (Operand.tmp 7), type := 22, pos := _, after := #[{ on := 17, ground := Ground.guard }], guard := some (17, false) }) (v := ?_) rfl (by kernel_rfl) (by kernel_rfl) (by kernel_rfl) (fun _ _ _ h => h) (Or.inl ⟨by rfl, ?_⟩) (by assumption) ?_
    rotate_left
    · ((intro w hSw); (try dsimp only at hSw); go_simp; (try with_reducible rfl))
    try simp only [Act.put, List.setIfInBounds_toArray, List.set_cons_zero, List.set_cons_succ]
    refine wpAnyH_take (i := 19) (oi := { dst := some 100, op := Op.call { callee := Callee.builtin Builtin.len, args := #[Operand.tmp 99], argTypes := #[22] }, type := 3, pos := _, after := #[{ on := 18, ground := Ground.data }, { on := 17, ground := Ground.guard }], guard := some (17, false) }) (v := ?_) rfl (by kernel_rfl) (by kernel_rfl) (by kernel_rfl) (fun _ _ _ h => h) (Or.inl ⟨by rfl, ?_⟩) (by assumption) ?_
    rotate_left
    · ((intro w hSw); (try dsimp only at hSw); go_simp; (try with_reducible rfl))
    try simp only [Act.put, List.setIfInBounds_toArray, List.set_cons_zero, List.set_cons_succ]
    refine wpAnyH_take (i := 20) (oi := { dst := some 101, op := Op.binOp BinOp.geq 3 (Operand.tmp 100) (Operand.const (Value.int IntKind.i64 43)) 3, type := 4, pos := _, after := #[{ on := 19, ground := Ground.data }, { on := 17, ground := Ground.guard }], guard := some (17, false) }) (v := ?_) rfl (by kernel_rfl) (by kernel_rfl) (by kernel_rfl) (fun _ _ _ h => h) (Or.inl ⟨by rfl, ?_⟩) (by assumption) ?_
    rotate_left
    · ((intro w hSw); (try dsimp only at hSw); go_simp; (try with_reducible rfl))
    try simp only [Act.put, List.setIfInBounds_toArray, List.set_cons_zero, List.set_cons_succ]
    refine wpAnyH_take (i := 21) (oi := { dst := some 102, op := Op.move (Operand.tmp 101), type := 4, pos := _, after := #[{ on := 20, ground := Ground.data }, { on := 17, ground := Ground.chain }, { on := 17, ground := Ground.guard }], guard := some (17, false) }) (v := ?_) rfl (by kernel_rfl) (by kernel_rfl) (by kernel_rfl) (fun _ _ _ h => h) (Or.inl ⟨by rfl, ?_⟩) (by assumption) ?_
    rotate_left
    · ((intro w hSw); (try dsimp only at hSw); go_simp; (try with_reducible rfl))
    try simp only [Act.put, List.setIfInBounds_toArray, List.set_cons_zero, List.set_cons_succ]
    refine wpAnyH_take (i := 22) (oi := { dst := some 103, op := Op.move (Operand.tmp 0), type := 22, pos := _, after := #[{ on := 21, ground := Ground.guard }], guard := some (21, true) }) (v := ?_) rfl (by kernel_rfl) (by kernel_rfl) (by kernel_rfl) (fun _ _ _ h => h) (Or.inl ⟨by rfl, ?_⟩) (by assumption) ?_
    rotate_left
    · ((intro w hSw); (try dsimp only at hSw); go_simp; (try with_reducible rfl))
    try simp only [Act.put, List.setIfInBounds_toArray, List.set_cons_zero, List.set_cons_succ]
    refine wpAnyH_take (i := 23) (oi := { dst := some 104, op := Op.move (Operand.tmp 7), type := 22, pos := _, after := #[{ on := 21, ground := Ground.guard }], guard := some (21, true) }) (v := ?_) rfl (by kernel_rfl) (by kernel_rfl) (by kernel_rfl) (fun _ _ _ h => h) (Or.inl ⟨by rfl, ?_⟩) (by assumption) ?_
    rotate_left
    · ((intro w hSw); (try dsimp only at hSw); go_simp; (try with_reducible rfl))
    try simp only [Act.put, List.setIfInBounds_toArray, List.set_cons_zero, List.set_cons_succ]
    refine wpAnyH_take (i := 24) (oi := { dst := some 105, op := Op.move (Operand.tmp 7), type := 22, pos := _, after := #[{ on := 21, ground := Ground.guard }], guard := some (21, true) }) (v := ?_) rfl (by kernel_rfl) (by kernel_rfl) (by kernel_rfl) (fun _ _ _ h => h) (Or.inl ⟨by rfl, ?_⟩) (by assumption) ?_
    rotate_left
    · ((intro w hSw); (try dsimp only at hSw); go_simp; (try with_reducible rfl))
    try simp only [Act.put, List.setIfInBounds_toArray, List.set_cons_zero, List.set_cons_succ]
    refine wpAnyH_take (i := 25) (oi := { dst := some 106, op := Op.call { callee := Callee.builtin Builtin.len, args := #[Operand.tmp 105], argTypes := #[22] }, type := 3, pos := _, after := #[{ on := 24, ground := Ground.data }, { on := 21, ground := Ground.guard }], guard := some (21, true) }) (v := ?_) rfl (by kernel_rfl) (by kernel_rfl) (by kernel_rfl) (fun _ _ _ h => h) (Or.inl ⟨by rfl, ?_⟩) (by assumption) ?_
    rotate_left
    · ((intro w hSw); (try dsimp only at hSw); go_simp; (try with_reducible rfl))
    try simp only [Act.put, List.setIfInBounds_toArray, List.set_cons_zero, List.set_cons_succ]
    refine wpAnyH_take (i := 26) (oi := { dst := some 107, op := Op.binOp BinOp.sub 3 (Operand.tmp 106) (Operand.const (Value.int IntKind.i64 33)) 3, type := 3, pos := _, after := #[{ on := 25, ground := Ground.data }, { on := 21, ground := Ground.guard }], guard := some (21, true) }) (v := ?_) rfl (by kernel_rfl) (by kernel_rfl) (by kernel_rfl) (fun _ _ _ h => h) (Or.inl ⟨by rfl, ?_⟩) (by assumption) ?_
    rotate_left
    · ((intro w hSw); (try dsimp only at hSw); go_simp; (try with_reducible rfl))
    try simp only [Act.put, List.setIfInBounds_toArray, List.set_cons_zero, List.set_cons_succ]
    refine wpAnyH_take (i := 27) (oi := { dst := some 108, op := Op.slice 22 (Operand.tmp 104) none (some (Operand.tmp 107)) none, type := 22, pos := _, after := #[{ on := 23, ground := Ground.data }, { on := 26, ground := Ground.data }, { on := 21, ground := Ground.guard }], guard := some (21, true) }) (v := ?_) rfl (by kernel_rfl) (by kernel_rfl) (by kernel_rfl) (fun _ _ _ h => h) (Or.inl ⟨by rfl, ?_⟩) (by assumption) ?_
    rotate_left
    · ((intro w hSw); (try dsimp only at hSw); go_simp; (try with_reducible rfl))
    try simp only [Act.put, List.setIfInBounds_toArray, List.set_cons_zero, List.set_cons_succ]
    refine wpAnyH_take (i := 29) (oi := { dst := some 110, op := Op.move (Operand.tmp 7), type := 22, pos := _, after := #[{ on := 21, ground := Ground.guard }], guard := some (21, true) }) (v := ?_) rfl (by kernel_rfl) (by kernel_rfl) (by kernel_rfl) (fun _ _ _ h => h) (Or.inl ⟨by rfl, ?_⟩) (by assumption) ?_
    rotate_left
    · ((intro w hSw); (try dsimp only at hSw); go_simp; (try with_reducible rfl))
    try simp only [Act.put, List.setIfInBounds_toArray, List.set_cons_zero, List.set_cons_succ]
    refine wpAnyH_take (i := 30) (oi := { dst := some 111, op := Op.move (Operand.tmp 7), type := 22, pos := _, after := #[{ on := 21, ground := Ground.guard }], guard := some (21, true) }) (v := ?_) rfl (by kernel_rfl) (by kernel_rfl) (by kernel_rfl) (fun _ _ _ h => h) (Or.inl ⟨by rfl, ?_⟩) (by assumption) ?_
    rotate_left
    · ((intro w hSw); (try dsimp only at hSw); go_simp; (try with_reducible rfl))
    try simp only [Act.put, List.setIfInBounds_toArray, List.set_cons_zero, List.set_cons_succ]
    refine wpAnyH_take (i := 31) (oi := { dst := some 112, op := Op.call { callee := Callee.builtin Builtin.len, args := #[Operand.tmp 111], argTypes := #[22] }, type := 3, pos := _, after := #[{ on := 30, ground := Ground.data }, { on := 21, ground := Ground.guard }], guard := some (21, true) }) (v := ?_) rfl (by kernel_rfl) (by kernel_rfl) (by kernel_rfl) (fun _ _ _ h => h) (Or.inl ⟨by rfl, ?_⟩) (by assumption) ?_
    rotate_left
    · ((intro w hSw); (try dsimp only at hSw); go_simp; (try with_reducible rfl))
    try simp only [Act.put, List.setIfInBounds_toArray, List.set_cons_zero, List.set_cons_succ]
    refine wpAnyH_take (i := 32) (oi := { dst := some 113, op := Op.binOp BinOp.sub 3 (Operand.tmp 112) (Operand.const (Value.int IntKind.i64 33)) 3, type := 3, pos := _, after := #[{ on := 31, ground := Ground.data }, { on := 21, ground := Ground.guard }], guard := some (21, true) }) (v := ?_) rfl (by kernel_rfl) (by kernel_rfl) (by kernel_rfl) (fun _ _ _ h => h) (Or.inl ⟨by rfl, ?_⟩) (by assumption) ?_
    rotate_left
    · ((intro w hSw); (try dsimp only at hSw); go_simp; (try with_reducible rfl))
    try simp only [Act.put, List.setIfInBounds_toArray, List.set_cons_zero, List.set_cons_succ]
    refine wpAnyH_take (i := 33) (oi := { dst := some 114, op := Op.move (Operand.tmp 7), type := 22, pos := _, after := #[{ on := 21, ground := Ground.guard }], guard := some (21, true) }) (v := ?_) rfl (by kernel_rfl) (by kernel_rfl) (by kernel_rfl) (fun _ _ _ h => h) (Or.inl ⟨by rfl, ?_⟩) (by assumption) ?_
    rotate_left
    · ((intro w hSw); (try dsimp only at hSw); go_simp; (try with_reducible rfl))
    try simp only [Act.put, List.setIfInBounds_toArray, List.set_cons_zero, List.set_cons_succ]
    refine wpAnyH_take (i := 34) (oi := { dst := some 115, op := Op.call { callee := Callee.builtin Builtin.len, args := #[Operand.tmp 114], argTypes := #[22] }, type := 3, pos := _, after := #[{ on := 33, ground := Ground.data }, { on := 21, ground := Ground.guard }], guard := some (21, true) }) (v := ?_) rfl (by kernel_rfl) (by kernel_rfl) (by kernel_rfl) (fun _ _ _ h => h) (Or.inl ⟨by rfl, ?_⟩) (by assumption) ?_
    rotate_left
    · ((intro w hSw); (try dsimp only at hSw); go_simp; (try with_reducible rfl))
    try simp only [Act.put, List.setIfInBounds_toArray, List.set_cons_zero, List.set_cons_succ]
    refine wpAnyH_take (i := 35) (oi := { dst := some 116, op := Op.binOp BinOp.sub 3 (Operand.tmp 115) (Operand.const (Value.int IntKind.i64 17)) 3, type := 3, pos := _, after := #[{ on := 34, ground := Ground.data }, { on := 21, ground := Ground.guard }], guard := some (21, true) }) (v := ?_) rfl (by kernel_rfl) (by kernel_rfl) (by kernel_rfl) (fun _ _ _ h => h) (Or.inl ⟨by rfl, ?_⟩) (by assumption) ?_
    rotate_left
    · ((intro w hSw); (try dsimp only at hSw); go_simp; (try with_reducible rfl))
    try simp only [Act.put, List.setIfInBounds_toArray, List.set_cons_zero, List.set_cons_succ]
    refine wpAnyH_take (i := 36) (oi := { dst := some 117, op := Op.slice 22 (Operand.tmp 110) (some (Operand.tmp 113)) (some (Operand.tmp 116)) none, type := 22, pos := _, after := #[{ on := 29, ground := Ground.data }, { on := 32, ground := Ground.data }, { on := 35, ground := Ground.data }, { on := 21, ground := Ground.guard }], guard := some (21, true) }) (v := ?_) rfl (by kernel_rfl) (by kernel_rfl) (by kernel_rfl) (fun _ _ _ h => h) (Or.inl ⟨by rfl, ?_⟩) (by assumption) ?_
    rotate_left
    · ((intro w hSw); (try dsimp only at hSw); go_simp; (try with_reducible rfl))
    try simp only [Act.put, List.setIfInBounds_toArray, List.set_cons_zero, List.set_cons_succ]
    refine wpAnyH_ready (rs := [28]) (by kernel_rfl) (by simp) ?_
    refine (AllReadyH.cons (o := { dst := some 109, op := Op.call { callee := Callee.value (Operand.func 21), args := #[Operand.tmp 103, Operand.tmp 108], argTypes := #[22, 22] }, type := 22, pos := _, after := #[{ on := 22, ground := Ground.data }, { on := 27, ground := Ground.data }, { on := 21, ground := Ground.chain }, { on := 21, ground := Ground.guard }], guard := some (21, true) }) rfl (fun K hK => ?_) AllReadyH.nil)
    go_simp
    (go_at_call 21; (with_reducible refine (dtgK ka key.length kc key TT (some ⟨xb, xo, none⟩) E xc (b.take E) _ HTT.out rfl HEL.out (sl_then (KB.out _ hHeld) (Nat.le_refl _) HKSz.out) HK0.out HKC.out HKX.out HK8.out (sl_then (KB.out _ hHeld) (Nat.le_refl _) HBEz.out) (fun h => by cases h) HEC.out HBEX.out HBE8.out).mono ?_); rintro e wa ⟨ga, gc, rfl, lg, _, _, ba⟩; have HGA := Lib.hid lg; have hN := below_then (KB.out _ hHeld) ba (KB.out _ hHeld).size; have HWD := Lib.hid (fun (W : World) (h : Below wa.heap.size wa W) => below_then hN h hN.size); clear ba lg)
    go_wp2_with fail
    refine hK.out _ _ ?_ (fun hHeld => ?_)
    · ((try dsimp only); (first | (with_reducible exact KS.out _ hN) | (with_reducible exact hHeld) | exact KS.out _ (Below.refl _ _).drew | exact KS.out _ (Below.refl _ _)))
    clear hK K
    try simp only [Act.put, List.setIfInBounds_toArray, List.set_cons_zero, List.set_cons_succ]
    refine wpAnyH_ready (rs := [37]) (by kernel_rfl) (by simp) ?_
    refine (AllReadyH.cons (o := { dst := some 118, op := Op.call { callee := Callee.value (Operand.func 15), args := #[Operand.tmp 109, Operand.tmp 117], argTypes := #[22, 22] }, type := 4, pos := _, after := #[{ on := 28, ground := Ground.data }, { on := 36, ground := Ground.data }, { on := 28, ground := Ground.chain }, { on := 21, ground := Ground.guard }], guard := some (21, true) }) rfl (fun K hK => ?_) AllReadyH.nil)
    go_simp
    (go_at_call 15; (with_reducible refine (bytesS ga x2 gc y2' 16 TT _ HTL.out HGA.out (sl_then (KB.out _ hHeld) (Nat.le_refl _) HTDz.out) HTX.out).mono ?_); rintro e wb ⟨rfl, rfl⟩)
    go_wp2_with fail
    refine hK.out _ _ ?_ (fun hHeld => ?_)
    · ((try dsimp only); (first | (with_reducible exact KS.out _ hN) | (with_reducible exact hHeld) | exact KS.out _ (Below.refl _ _).drew | exact KS.out _ (Below.refl _ _)))
    clear hK K
    try simp only [Act.put, List.setIfInBounds_toArray, List.set_cons_zero, List.set_cons_succ]
    refine wpAnyH_take (i := 38) (oi := { dst := some 119, op := Op.pick (Operand.tmp 102) (Operand.tmp 118) (Operand.const (Value.bool false)), type := 4, pos := _, after := #[{ on := 21, ground := Ground.data }, { on := 37, ground := Ground.data }, { on := 17, ground := Ground.guard }], guard := some (17, false) }) (v := ?_) rfl (by kernel_rfl) (by kernel_rfl) (by kernel_rfl) (fun _ _ _ h => h) (Or.inl ⟨by rfl, ?_⟩) (by assumption) ?_
    rotate_left
    · ((intro w hSw); (try dsimp only at hSw); go_simp; (try with_reducible rfl))
    try simp only [Act.put, List.setIfInBounds_toArray, List.set_cons_zero, List.set_cons_succ]
    refine wpAnyH_take (i := 39) (oi := { dst := some 120, op := Op.pick (Operand.tmp 98) (Operand.const (Value.bool true)) (Operand.tmp 119), type := 4, pos := _, after := #[{ on := 17, ground := Ground.data }, { on := 38, ground := Ground.data }, { on := 10, ground := Ground.guard }], guard := some (10, true) }) (v := ?_) rfl (by kernel_rfl) (by kernel_rfl) (by kernel_rfl) (fun _ _ _ h => h) (Or.inl ⟨by rfl, ?_⟩) (by assumption) ?_
    rotate_left
    · ((intro w hSw); (try dsimp only at hSw); go_simp; (try with_reducible rfl))
    try simp only [Act.put, List.setIfInBounds_toArray, List.set_cons_zero, List.set_cons_succ]
    refine wpAnyH_take (i := 40) (oi := { dst := some 121, op := Op.pick (Operand.tmp 91) (Operand.tmp 120) (Operand.const (Value.bool false)), type := 4, pos := _, after := #[{ on := 10, ground := Ground.data }, { on := 39, ground := Ground.data }], guard := none }) (v := ?_) rfl (by kernel_rfl) (by kernel_rfl) (by kernel_rfl) (fun _ _ _ h => h) (Or.inl ⟨by rfl, ?_⟩) (by assumption) ?_
    rotate_left
    · ((intro w hSw); (try dsimp only at hSw); go_simp; (try with_reducible rfl))
    try simp only [Act.put, List.setIfInBounds_toArray, List.set_cons_zero, List.set_cons_succ]
    refine wpAnyH_take (i := 41) (oi := { dst := some 122, op := Op.move (Operand.tmp 121), type := 4, pos := _, after := #[{ on := 40, ground := Ground.data }, { on := 37, ground := Ground.chain }], guard := none }) (v := ?_) rfl (by kernel_rfl) (by kernel_rfl) (by kernel_rfl) (fun _ _ _ h => h) (Or.inl ⟨by rfl, ?_⟩) (by assumption) ?_
    rotate_left
    · ((intro w hSw); (try dsimp only at hSw); go_simp; (try with_reducible rfl))
    try simp only [Act.put, List.setIfInBounds_toArray, List.set_cons_zero, List.set_cons_succ]
    refine wpAnyH_take (i := 42) (oi := { dst := some 123, op := Op.move (Operand.tmp 7), type := 22, pos := _, after := #[{ on := 41, ground := Ground.guard }], guard := some (41, true) }) (v := ?_) rfl (by kernel_rfl) (by kernel_rfl) (by kernel_rfl) (fun _ _ _ h => h) (Or.inl ⟨by rfl, ?_⟩) (by assumption) ?_
    rotate_left
    · ((intro w hSw); (try dsimp only at hSw); go_simp; (try with_reducible rfl))
    try simp only [Act.put, List.setIfInBounds_toArray, List.set_cons_zero, List.set_cons_succ]
    refine wpAnyH_take (i := 43) (oi := { dst := some 124, op := Op.call { callee := Callee.builtin Builtin.len, args := #[Operand.tmp 123], argTypes := #[22] }, type := 3, pos := _, after := #[{ on := 42, ground := Ground.data }, { on := 41, ground := Ground.guard }], guard := some (41, true) }) (v := ?_) rfl (by kernel_rfl) (by kernel_rfl) (by kernel_rfl) (fun _ _ _ h => h) (Or.inl ⟨by rfl, ?_⟩) (by assumption) ?_
    rotate_left
    · ((intro w hSw); (try dsimp only at hSw); go_simp; (try with_reducible rfl))
    try simp only [Act.put, List.setIfInBounds_toArray, List.set_cons_zero, List.set_cons_succ]
    refine wpAnyH_take (i := 44) (oi := { dst := some 125, op := Op.binOp BinOp.geq 3 (Operand.tmp 124) (Operand.const (Value.int IntKind.i64 26)) 3, type := 4, pos := _, after := #[{ on := 43, ground := Ground.data }, { on := 41, ground := Ground.guard }], guard := some (41, true) }) (v := ?_) rfl (by kernel_rfl) (by kernel_rfl) (by kernel_rfl) (fun _ _ _ h => h) (Or.inl ⟨by rfl, ?_⟩) (by assumption) ?_
    rotate_left
    · ((intro w hSw); (try dsimp only at hSw); go_simp; (try with_reducible rfl))
    try simp only [Act.put, List.setIfInBounds_toArray, List.set_cons_zero, List.set_cons_succ]
    refine wpAnyH_take (i := 45) (oi := { dst := some 126, op := Op.pick (Operand.tmp 122) (Operand.tmp 125) (Operand.const (Value.bool false)), type := 4, pos := _, after := #[{ on := 41, ground := Ground.data }, { on := 44, ground := Ground.data }], guard := none }) (v := ?_) rfl (by kernel_rfl) (by kernel_rfl) (by kernel_rfl) (fun _ _ _ h => h) (Or.inl ⟨by rfl, ?_⟩) (by assumption) ?_
    rotate_left
    · ((intro w hSw); (try dsimp only at hSw); go_simp; (try with_reducible rfl))
    try simp only [Act.put, List.setIfInBounds_toArray, List.set_cons_zero, List.set_cons_succ]
    refine wpAnyH_take (i := 46) (oi := { dst := some 6, op := Op.assign (Operand.tmp 126), type := 4, pos := _, after := #[{ on := 45, ground := Ground.data }, { on := 41, ground := Ground.chain }, { on := 0, ground := Ground.phase }, { on := 1, ground := Ground.phase }, { on := 2, ground := Ground.phase }, { on := 3, ground := Ground.phase }, { on := 4, ground := Ground.phase }, { on := 5, ground := Ground.phase }, { on := 6, ground := Ground.phase }, { on := 7, ground := Ground.phase }, { on := 8, ground := Ground.phase }, { on := 9, ground := Ground.phase }, { on := 10, ground := Ground.phase }, { on := 11, ground := Ground.phase }, { on := 12, ground := Ground.phase }, { on := 13, ground := Ground.phase }, { on := 14, ground := Ground.phase }, { on := 15, ground := Ground.phase }, { on := 16, ground := Ground.phase }, { on := 17, ground := Ground.phase }, { on := 18, ground := Ground.phase }, { on := 19, ground := Ground.phase }, { on := 20, ground := Ground.phase }, { on := 21, ground := Ground.phase }, { on := 22, ground := Ground.phase }, { on := 23, ground := Ground.phase }, { on := 24, ground := Ground.phase }, { on := 25, ground := Ground.phase }, { on := 26, ground := Ground.phase }, { on := 27, ground := Ground.phase }, { on := 28, ground := Ground.phase }, { on := 29, ground := Ground.phase }, { on := 30, ground := Ground.phase }, { on := 31, ground := Ground.phase }, { on := 32, ground := Ground.phase }, { on := 33, ground := Ground.phase }, { on := 34, ground := Ground.phase }, { on := 35, ground := Ground.phase }, { on := 36, ground := Ground.phase }, { on := 37, ground := Ground.phase }, { on := 38, ground := Ground.phase }, { on := 39, ground := Ground.phase }, { on := 40, ground := Ground.phase }, { on := 41, ground := Ground.phase }, { on := 42, ground := Ground.phase }, { on := 43, ground := Ground.phase }, { on := 44, ground := Ground.phase }, { on := 45, ground := Ground.phase }], guard := none }) (v := ?_) rfl (by kernel_rfl) (by kernel_rfl) (by kernel_rfl) (fun _ _ _ h => h) (Or.inl ⟨by rfl, ?_⟩) (by assumption) ?_
    rotate_left
    · ((intro w hSw); (try dsimp only at hSw); go_simp; (try with_reducible rfl))
    try simp only [Act.put, List.setIfInBounds_toArray, List.set_cons_zero, List.set_cons_succ]
    refine wpAnyH_done (by kernel_rfl) ?_ _
    clear hN
    go_wp2
    go_ret
    exact ⟨rfl, below_then HBA.out (below_then HQZ.out (KB.out _ hHeld) HQZ.out.size) HBA.out.size⟩

set_option maxRecDepth 100000 in
theorem apartOut (ka : Option Addr) (kn kc : Nat) (d1 v1 : Int) (n1 : Nat) (a1 : Option Addr) (m1 c1 : Nat) (d2 v2 : Int) (n2 : Nat) (a2 : Option Addr) (m2 c2 : Nat) (w : World) (hno : 1000 < kn ∨ 3000 < m1 ∨ 3000 < m2) (hT : TabR w) (hB : TabB w) :
    Calls Tryd.prog 9 #[.slice ka kn kc, .agg #[.int .i64 d1, .int .i64 v1, .int .u64 (n1 : Int), .slice a1 m1 c1], .agg #[.int .i64 d2, .int .i64 v2, .int .u64 (n2 : Int), .slice a2 m2 c2]] w fun e w' => e = .returned (.bool true) ∧ Below w.heap.size w w' := by
  have CL := Lib.hid (fun W (h : Below ((w.alloc (.cells #[.int .i64 d1, .int .i64 v1, .int .u64 (n1 : Int), .slice a1 m1 c1] 35)).alloc (.cells #[.int .i64 d2, .int .i64 v2, .int .u64 (n2 : Int), .slice a2 m2 c2] 35)).heap.size ((w.alloc (.cells #[.int .i64 d1, .int .i64 v1, .int .u64 (n1 : Int), .slice a1 m1 c1] 35)).alloc (.cells #[.int .i64 d2, .int .i64 v2, .int .u64 (n2 : Int), .slice a2 m2 c2] 35)) W) => boxes2 w W 35 _ _ _ _ _ _ _ _ h)
  have HBA := Lib.hid (show Below w.heap.size w ((w.alloc (.cells #[.int .i64 d1, .int .i64 v1, .int .u64 (n1 : Int), .slice a1 m1 c1] 35)).alloc (.cells #[.int .i64 d2, .int .i64 v2, .int .u64 (n2 : Int), .slice a2 m2 c2] 35)) from ((Below.refl _ w).alloc (Nat.le_refl _) _).alloc (by simp) _)
  have HT0 := Lib.hid (tabR_then HBA.out hT)
  have HB0 := Lib.hid (tabB_then HBA.out hB)
  clear hT hB
  by_cases h0 : 1000 < (kn : Int)
  · clear hno
    go_enter Tryd.func9, Tryd.ntmps9
    go_wp2_with fail
    generalize ((w.alloc (.cells #[.int .i64 d1, .int .i64 v1, .int .u64 (n1 : Int), .slice a1 m1 c1] 35)).alloc (.cells #[.int .i64 d2, .int .i64 v2, .int .u64 (n2 : Int), .slice a2 m2 c2] 35)) = w0 at *
    have HQ0 := Lib.hid (Below.refl w0.heap.size w0)
    obtain ⟨p0, p1, p2, p3, q0, q1, q2, q3⟩ := CL.out _ HQ0.out
    go_wp2_with (first
      | (go_at_call 23; (with_reducible refine (pfirst w0 (tabR_then HQ0.out HT0.out) (tabB_then HQ0.out HB0.out)).mono ?_); rintro e wq1 ⟨rfl, bq⟩; have HQ1 := Lib.hid (below_then HQ0.out bq HQ0.out.size); clear bq; clear p0 p1 p2 p3 q0 q1 q2 q3; obtain ⟨p0, p1, p2, p3, q0, q1, q2, q3⟩ := CL.out _ HQ1.out)
      | (go_at_call 23; (with_reducible refine (pfirst wq1 (tabR_then HQ1.out HT0.out) (tabB_then HQ1.out HB0.out)).mono ?_); rintro e wq2 ⟨rfl, bq⟩; have HQ2 := Lib.hid (below_then HQ1.out bq HQ1.out.size); clear bq; clear p0 p1 p2 p3 q0 q1 q2 q3; obtain ⟨p0, p1, p2, p3, q0, q1, q2, q3⟩ := CL.out _ HQ2.out))
    go_ret
    exact ⟨rfl, below_then HBA.out HQ2.out HBA.out.size⟩
  ·
    by_cases h1 : 3000 < (m1 : Int)
    · clear hno
      go_enter Tryd.func9, Tryd.ntmps9
      go_wp2_with fail
      generalize ((w.alloc (.cells #[.int .i64 d1, .int .i64 v1, .int .u64 (n1 : Int), .slice a1 m1 c1] 35)).alloc (.cells #[.int .i64 d2, .int .i64 v2, .int .u64 (n2 : Int), .slice a2 m2 c2] 35)) = w0 at *
      have HQ0 := Lib.hid (Below.refl w0.heap.size w0)
      obtain ⟨p0, p1, p2, p3, q0, q1, q2, q3⟩ := CL.out _ HQ0.out
      go_wp2_with (first
        | (go_at_call 23; (with_reducible refine (pfirst w0 (tabR_then HQ0.out HT0.out) (tabB_then HQ0.out HB0.out)).mono ?_); rintro e wq1 ⟨rfl, bq⟩; have HQ1 := Lib.hid (below_then HQ0.out bq HQ0.out.size); clear bq; clear p0 p1 p2 p3 q0 q1 q2 q3; obtain ⟨p0, p1, p2, p3, q0, q1, q2, q3⟩ := CL.out _ HQ1.out)
        | (go_at_call 23; (with_reducible refine (pfirst wq1 (tabR_then HQ1.out HT0.out) (tabB_then HQ1.out HB0.out)).mono ?_); rintro e wq2 ⟨rfl, bq⟩; have HQ2 := Lib.hid (below_then HQ1.out bq HQ1.out.size); clear bq; clear p0 p1 p2 p3 q0 q1 q2 q3; obtain ⟨p0, p1, p2, p3, q0, q1, q2, q3⟩ := CL.out _ HQ2.out))
      go_ret
      exact ⟨rfl, below_then HBA.out HQ2.out HBA.out.size⟩
    ·
      by_cases h2 : 3000 < (m2 : Int)
      · clear hno
        go_enter Tryd.func9, Tryd.ntmps9
        go_wp2_with fail
        generalize ((w.alloc (.cells #[.int .i64 d1, .int .i64 v1, .int .u64 (n1 : Int), .slice a1 m1 c1] 35)).alloc (.cells #[.int .i64 d2, .int .i64 v2, .int .u64 (n2 : Int), .slice a2 m2 c2] 35)) = w0 at *
        have HQ0 := Lib.hid (Below.refl w0.heap.size w0)
        obtain ⟨p0, p1, p2, p3, q0, q1, q2, q3⟩ := CL.out _ HQ0.out
        go_wp2_with (first
          | (go_at_call 23; (with_reducible refine (pfirst w0 (tabR_then HQ0.out HT0.out) (tabB_then HQ0.out HB0.out)).mono ?_); rintro e wq1 ⟨rfl, bq⟩; have HQ1 := Lib.hid (below_then HQ0.out bq HQ0.out.size); clear bq; clear p0 p1 p2 p3 q0 q1 q2 q3; obtain ⟨p0, p1, p2, p3, q0, q1, q2, q3⟩ := CL.out _ HQ1.out)
          | (go_at_call 23; (with_reducible refine (pfirst wq1 (tabR_then HQ1.out HT0.out) (tabB_then HQ1.out HB0.out)).mono ?_); rintro e wq2 ⟨rfl, bq⟩; have HQ2 := Lib.hid (below_then HQ1.out bq HQ1.out.size); clear bq; clear p0 p1 p2 p3 q0 q1 q2 q3; obtain ⟨p0, p1, p2, p3, q0, q1, q2, q3⟩ := CL.out _ HQ2.out))
        go_ret
        exact ⟨rfl, below_then HBA.out HQ2.out HBA.out.size⟩
      ·
        omega

theorem walk (a0 : Option Addr) (n0 c0 : Nat) (z0 : List Int) (d1 v1 n1 : Int) (a1 : Option Addr) (m1 c1 : Nat) (z1 : List Int) (d2 v2 n2 : Int) (a2 : Option Addr) (m2 c2 : Nat) (z2 : List Int) (W : World) (w0 : IsRow .u8 W a0 n0 c0 z0)
    (_ : (Lit.int .i64 d1).wf = true) (_ : (Lit.int .i64 v1).wf = true) (w1 : (Lit.int .u64 n1).wf = true) (r1 : IsRow .u8 W a1 m1 c1 z1) (_ : (Lit.int .i64 d2).wf = true) (_ : (Lit.int .i64 v2).wf = true) (w2 : (Lit.int .u64 n2).wf = true) (r2 : IsRow .u8 W a2 m2 c2 z2)
    (h1 : Lib.TabIs Tryd.prog W "tickertape/mac.rounds" .u32 [1116352408, 1899447441, 3049323471, 3921009573, 961987163, 1508970993, 2453635748, 2870763221, 3624381080, 310598401, 607225278, 1426881987, 1925078388, 2162078206, 2614888103, 3248222580, 3835390401, 4022224774, 264347078, 604807628, 770255983, 1249150122, 1555081692, 1996064986, 2554220882, 2821834349, 2952996808, 3210313671, 3336571891, 3584528711, 113926993, 338241895, 666307205, 773529912, 1294757372, 1396182291, 1695183700, 1986661051, 2177026350, 2456956037, 2730485921, 2820302411, 3259730800, 3345764771, 3516065817, 3600352804, 4094571909, 275423344, 430227734, 506948616, 659060556, 883997877, 958139571, 1322822218, 1537002063, 1747873779, 1955562222, 2024104815, 2227730452, 2361852424, 2428436474, 2756734187, 3204031479, 3329325298]) (h2 : Lib.TabIs Tryd.prog W "tickertape/mac.beginning" .u32 [1779033703, 3144134277, 1013904242, 2773480762, 1359893119, 2600822924, 528734635, 1541459225]) :
    Calls Tryd.prog 9 #[.slice a0 n0 c0, .agg #[.int .i64 d1, .int .i64 v1, .int .u64 n1, .slice a1 m1 c1], .agg #[.int .i64 d2, .int .i64 v2, .int .u64 n2, .slice a2 m2 c2]] W fun e W' => e = .returned (.bool true) ∧ Below W.heap.size W W' := by
  have hT := tabR_of h1
  have hB := tabB_of h2
  obtain ⟨n1, rfl⟩ := Int.eq_ofNat_of_zero_le (inU w1).1
  obtain ⟨n2, rfl⟩ := Int.eq_ofNat_of_zero_le (inU w2).1
  by_cases hno : 1000 < n0 ∨ 3000 < m1 ∨ 3000 < m2
  · exact apartOut a0 n0 c0 d1 v1 n1 a1 m1 c1 d2 v2 n2 a2 m2 c2 W hno hT hB
  · obtain ⟨key, rfl, kl, ks, k0, kcap, _⟩ := row_bytes w0
    obtain ⟨l1, rfl, x1, s1, y1, q1, _⟩ := row_bytes r1
    obtain ⟨l2, rfl, x2, s2, y2, q2, _⟩ := row_bytes r2
    cases g1 : mayB d1 v1 n1 l1.length with
    | false =>
      cases g2 : mayB d2 v2 n2 l2.length with
      | false => exact apartNN a0 c0 key d1 v1 n1 a1 c1 l1 d2 v2 n2 a2 c2 l2 W ks k0 kcap kl (by omega) s1 y1 q1 x1 (by omega) s2 y2 q2 x2 (by omega) g1 g2 hT hB
      | true =>
        obtain ⟨D2, V2, rfl, rfl, f1, f2, f3, f4, f5, f6⟩ := may_nat g2
        exact apartNY a0 c0 key d1 v1 n1 a1 c1 l1 D2 V2 n2 a2 c2 l2 W ks k0 kcap kl (by omega) s1 y1 q1 x1 (by omega) s2 y2 q2 x2 (by omega) g1 f1 f2 f3 f4 f5 f6 hT hB
    | true =>
      obtain ⟨D1, V1, rfl, rfl, e1, e2, e3, e4, e5, e6⟩ := may_nat g1
      cases g2 : mayB d2 v2 n2 l2.length with
      | false => exact apartYN a0 c0 key D1 V1 n1 a1 c1 l1 d2 v2 n2 a2 c2 l2 W ks k0 kcap kl (by omega) s1 y1 q1 x1 (by omega) s2 y2 q2 x2 (by omega) e1 e2 e3 e4 e5 e6 g2 hT hB
      | true =>
        obtain ⟨D2, V2, rfl, rfl, f1, f2, f3, f4, f5, f6⟩ := may_nat g2
        by_cases hlt : l1.length < 17
        · exact apart1 a0 c0 key D1 V1 n1 a1 c1 l1 D2 V2 n2 a2 c2 l2 W ks k0 kcap kl (by omega) s1 y1 q1 x1 (by omega) s2 y2 q2 x2 (by omega) e1 e2 e3 e4 e5 e6 f1 f2 f3 f4 f5 f6 _ rfl (by omega) hT hB
        · by_cases hne : tagL key (((sealL key D1 V1 n1 l1).take (9 + l1.length)).take (l1.length - 7)) = ((sealL key D1 V1 n1 l1).take (9 + l1.length)).drop (l1.length - 7)
          · exact apart3 a0 c0 key D1 V1 n1 a1 c1 l1 D2 V2 n2 a2 c2 l2 W ks k0 kcap kl (by omega) s1 y1 q1 x1 (by omega) s2 y2 q2 x2 (by omega) e1 e2 e3 e4 e5 e6 f1 f2 f3 f4 f5 f6 _ rfl (l1.length - 7) (by omega) (by omega) _ rfl hne hT hB
          · exact apart2 a0 c0 key D1 V1 n1 a1 c1 l1 D2 V2 n2 a2 c2 l2 W ks k0 kcap kl (by omega) s1 y1 q1 x1 (by omega) s2 y2 q2 x2 (by omega) e1 e2 e3 e4 e5 e6 f1 f2 f3 f4 f5 f6 _ rfl (l1.length - 7) (by omega) (by omega) _ rfl hne hT hB

end Go.Proofs.YtmfkfpgomglplaaDoor.Pz
