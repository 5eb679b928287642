/- PktBack: what was sealed is opened. -/
import Derived.Test.YtmfkfpgomglplaaDoorPz
import Derived.Test.YtmfkfpgomglplaaDoorOf
import Derived.Test.YtmfkfpgomglplaaDoorMl
set_option linter.unusedVariables false
namespace Go.Proofs.YtmfkfpgomglplaaDoor.Pb
open Go Go.RowKit Kit Mb Sha Ap Mc1 Sc Mx Sb Pd Su Pa Hm Mm Tg Mf Pk Se Op Pe Ps Pt Oq Pg Ar Dq Db Ds Dh Dk Ms Of Ml Pz


/-- Open, where the tag fits: something is told. -/
def AnP (w : World) (e : Ending) (w' : World) : Prop := ∃ (d v nn x : Int) (sa : Option Addr) (sn sc : Nat), e = .returned (.tuple #[.agg #[.int .i64 d, .int .i64 v, .int .u64 nn, .slice sa sn sc], .int .i64 x]) ∧ Below w.heap.size w w'
theorem openAny (bb bo bc bn kn : Nat) (b : List Nat) (ka : Option Addr) (kc : Nat) (key : List Nat) (w : World) (E : Nat) (ebn : bn = b.length) (ekn : kn = key.length)
    (hN : b.length = E + 16) (hE : 10 ≤ E) (hlen : b.length ≤ 800000) (hbc : b.length ≤ bc) (hb : Cells w bb bo b) (hbx : ∀ c ∈ b, c < 256)
    (ks : Sl w ka key) (k0 : ka = none → kc = 0) (kcap : key.length ≤ kc) (kl : ∀ c ∈ key, c < 256) (klen : key.length ≤ 800000) (hT : TabR w) (hB : TabB w)
    (hne : tagL key (b.take E) = b.drop E) :
    Calls Tryd.prog 27 #[.slice ka kn kc, .slice (some ⟨bb, bo, none⟩) bn bc] w (AnP w) := by
  subst ebn ekn
  cases hm : mayB ((b.getD 0 0 : Nat) : Int) ((b.getD 1 0 : Nat) : Int) (numL ((b.drop 2).take 8)) (E - 10) with
  | true =>
    refine (openOk bb bo bc b ka kc key w E hN hE hlen hbc hb hbx ks k0 kcap kl klen hT hB hne _ _ _ _ rfl rfl rfl rfl hm).mono ?_
    rintro e w' ⟨sl, rfl, o, b⟩
    obtain ⟨a, c, rfl, _⟩ := rb_sl o
    exact ⟨_, _, _, _, _, _, _, rfl, b⟩
  | false =>
    refine (openForm bb bo bc b ka kc key w E hN hE hlen hbc hb hbx ks k0 kcap kl klen hT hB hne _ _ _ _ rfl rfl rfl rfl hm).mono ?_
    rintro e w' ⟨rfl, b⟩
    exact ⟨_, _, _, _, _, _, _, rfl, b⟩
theorem box1 (w W : World) (t : TypeId) (x0 x1 x2 x3 : Value) (hb : Below (w.alloc (.cells #[x0, x1, x2, x3] t)).heap.size (w.alloc (.cells #[x0, x1, x2, x3] t)) W) :
    W.cell? ⟨w.heap.size, 0, none⟩ = some x0 ∧ W.cell? ⟨w.heap.size, 1, none⟩ = some x1 ∧ W.cell? ⟨w.heap.size, 2, none⟩ = some x2 ∧ W.cell? ⟨w.heap.size, 3, none⟩ = some x3 := by
  have h1 := heap_alloc_last w (.cells #[x0, x1, x2, x3] t)
  have k1 : W.heap[w.heap.size]? = some (.cells #[x0, x1, x2, x3] t) := by rw [hb.block _ (by simp)]; exact h1
  exact ⟨cell_of_row W w.heap.size 0 _ t _ k1, cell_of_row W w.heap.size 1 _ t _ k1, cell_of_row W w.heap.size 2 _ t _ k1, cell_of_row W w.heap.size 3 _ t _ k1⟩
theorem same_self (d v : Int) (n : Nat) (l : List Nat) : true = sameB d v n l d v n l := by simp [sameB]
theorem pow8 (S : Nat) (h : S < 8) : (2 : Int) ^ min S 8 % 256 = ((2 ^ S : Nat) : Int) ∧ 2 ^ S < 256 := by
  have : S = 0 ∨ S = 1 ∨ S = 2 ∨ S = 3 ∨ S = 4 ∨ S = 5 ∨ S = 6 ∨ S = 7 := by omega
  rcases this with rfl | rfl | rfl | rfl | rfl | rfl | rfl | rfl <;> decide
theorem step1 {W w1 w2 : World} (h : Below W.heap.size W w1) (o : Obj) (b : Below (w1.alloc o).heap.size (w1.alloc o) w2) : Below W.heap.size W w2 := below_then (h.alloc h.size _) b (by have := h.size; simp; omega)

theorem part_two {w : World} {ra : Option Addr} {rc n : Nat} {L : List Nat} (hn : n = L.length) (hs : Sl w ra L) (h0 : ra = none → rc = 0) (hc : L.length ≤ rc) (hl : ∀ c ∈ L, c < 256) (N : Nat) (hN : N ≤ n) :
    ∃ x1 y1 x2 y2, (∀ w1 : World, (Instr.sliceAt 22 (.slice ra n rc) none (some (.int .i64 (N : Int))) none).run Tryd.prog w1 = .ok (.slice x1 N y1) w1) ∧
      (∀ w1 : World, (Instr.sliceAt 22 (.slice ra n rc) (some (.int .i64 (N : Int))) none none).run Tryd.prog w1 = .ok (.slice x2 (n - N) y2) w1) ∧ (Sl w x1 (L.take N) ∧ (x1 = none → y1 = 0) ∧ (L.take N).length ≤ y1 ∧ ∀ c ∈ L.take N, c < 256) ∧ (Sl w x2 (L.drop N) ∧ (x2 = none → y2 = 0) ∧ (L.drop N).length ≤ y2 ∧ ∀ c ∈ L.drop N, c < 256) := by
  subst hn
  exact part_next (R := L) ⟨hs, h0, hc, hl⟩ N hN

set_option maxRecDepth 100000 in
set_option maxHeartbeats 8000000 in
theorem backIn (ka : Option Addr) (kc : Nat) (key : List Nat) (oa : Option Addr) (oc : Nat) (oth : List Nat) (D1 V1 n1 : Nat) (a1 : Option Addr) (c1 : Nat) (l1 : List Nat) (bit : Nat) (w : World) (ks : Sl w ka key) (k0 : ka = none → kc = 0) (kcap : key.length ≤ kc) (kl : ∀ c ∈ key, c < 256) (klen : key.length ≤ 1000) (os : Sl w oa oth) (o0 : oa = none → oc = 0) (ocap : oth.length ≤ oc) (ol : ∀ c ∈ oth, c < 256) (olen : oth.length ≤ 1000) (s1 : Sl w a1 l1) (z1 : a1 = none → c1 = 0) (k1 : l1.length ≤ c1) (x1 : ∀ c ∈ l1, c < 256) (e11 : 1 ≤ D1) (e12 : D1 ≤ 2) (e13 : V1 < 8) (e14 : 1 ≤ n1) (e15 : n1 ≤ 4611686018427387904) (e16 : l1.length ≤ 1200) (hbit : bit < 9223372036854775808) (hT : TabR w) (hB : TabB w) :
    Calls Tryd.prog 8 #[.slice ka key.length kc, .slice oa oth.length oc, .agg #[.int .i64 (D1 : Int), .int .i64 (V1 : Int), .int .u64 (n1 : Int), .slice a1 l1.length c1], .int .i64 (bit : Int)] w fun e w' => e = .returned (.bool true) ∧ Below w.heap.size w w' := by
  have HS1 := Lib.hid s1
  have HZ1 := Lib.hid z1
  have HC1 := Lib.hid k1
  have HX1 := Lib.hid x1
  have HKS := Lib.hid ks
  have HK0 := Lib.hid k0
  have HKC := Lib.hid kcap
  have HKX := Lib.hid kl
  have HK8 := Lib.hid (show key.length ≤ 800000 by omega)
  have HOS := Lib.hid os
  have HO0 := Lib.hid o0
  have HOC := Lib.hid ocap
  have HOX := Lib.hid ol
  have HO8 := Lib.hid (show oth.length ≤ 800000 by omega)
  have tk : ¬ 1000 < (key.length : Int) := by omega
  have tq : ¬ 1000 < (oth.length : Int) := by omega
  have tb : ¬ (bit : Int) < 0 := by omega
  have HT := Lib.hid hT
  have HB := Lib.hid hB
  obtain ⟨X, hX⟩ : ∃ X, X = sealL key D1 V1 n1 l1 := ⟨_, rfl⟩
  have HXE := Lib.hid hX
  have HXL := Lib.hid (show X.length = 26 + l1.length by rw [hX, sealL_len])
  have HXX := Lib.hid (show ∀ c ∈ X, c < 256 by rw [hX]; exact sealL_lt _ _ _ _ _ (by omega) (by omega) x1)
  have HXM := Lib.hid (show X.length ≤ 1000000 by rw [HXL.out]; omega)
  have HX80 := Lib.hid (show X.length ≤ 800000 by rw [HXL.out]; omega)
  have HXP := Lib.hid (show 0 < X.length by rw [HXL.out]; omega)
  obtain ⟨E, hE⟩ : ∃ E, E = 10 + l1.length := ⟨_, rfl⟩
  have HXE16 := Lib.hid (show X.length = E + 16 by rw [HXL.out]; omega)
  have HE10 := Lib.hid (show 10 ≤ E by omega)
  have HEX := Lib.hid (show E ≤ X.length by rw [HXE16.out]; omega)
  have HX16 := Lib.hid (show X.length - E = 16 by rw [HXE16.out]; omega)
  have u1 : (X.length : Int) - 16 = (E : Int) := by have := HXE16.out; omega
  have u3 : ((X.length : Int) != (10 : Int) + (l1.length : Int) + 16) = false := by have := HXL.out; simp; omega
  have u4 : ((X.length : Int) == (10 : Int) + (l1.length : Int) + 16) = true := by have := HXL.out; rw [beq_iff_eq]; omega
  have HEL := Lib.hid hE
  have HBIT := Lib.hid hbit
  have E11 := Lib.hid e11
  have E12 := Lib.hid e12
  have E13 := Lib.hid e13
  have E14 := Lib.hid e14
  have E15 := Lib.hid e15
  have E16 := Lib.hid e16
  have gE : E ≤ 100000 := by omega
  have gl : l1.length ≤ 100000 := by omega
  have gX : X.length ≤ 100000 := by rw [HXL.out]; omega
  have CL := Lib.hid (fun W (h : Below (w.alloc (.cells #[.int .i64 (D1 : Int), .int .i64 (V1 : Int), .int .u64 (n1 : Int), .slice a1 l1.length c1] 35)).heap.size (w.alloc (.cells #[.int .i64 (D1 : Int), .int .i64 (V1 : Int), .int .u64 (n1 : Int), .slice a1 l1.length c1] 35)) W) => box1 w W 35 _ _ _ _ h)
  have HBA := Lib.hid (show Below w.heap.size w (w.alloc (.cells #[.int .i64 (D1 : Int), .int .i64 (V1 : Int), .int .u64 (n1 : Int), .slice a1 l1.length c1] 35)) from (Below.refl _ w).alloc (Nat.le_refl _) _)
  clear ks k0 kcap kl klen os o0 ocap ol olen s1 z1 k1 x1 hT hB hX hE hbit e11 e12 e13 e14 e15 e16
  have u5 := wr_w E gE
  have u6 := wr_i E gE
  clear gE
  go_enter Tryd.func8, Tryd.ntmps8
  go_wp2_with fail
  generalize (w.alloc (.cells #[.int .i64 (D1 : Int), .int .i64 (V1 : Int), .int .u64 (n1 : Int), .slice a1 l1.length c1] 35)) = w0 at *
  have HKS0 := Lib.hid (sl_then HBA.out (Nat.le_refl _) HKS.out)
  have HOS0 := Lib.hid (sl_then HBA.out (Nat.le_refl _) HOS.out)
  have HS10 := Lib.hid (sl_then HBA.out (Nat.le_refl _) HS1.out)
  have HT0 := Lib.hid (tabR_then HBA.out HT.out)
  have HB0 := Lib.hid (tabB_then HBA.out HB.out)
  have HQ0 := Lib.hid (Below.refl w0.heap.size w0)
  obtain ⟨p0, p1, p2, p3⟩ := CL.out _ HQ0.out
  go_wp2_with (first
    | (go_at_call 23; (with_reducible refine (pfirst w0 (tabR_then HQ0.out HT0.out) (tabB_then HQ0.out HB0.out)).mono ?_); rintro e wq1 ⟨rfl, bq⟩; have HQ1 := Lib.hid (below_then HQ0.out bq HQ0.out.size); clear bq; clear p0 p1 p2 p3; obtain ⟨p0, p1, p2, p3⟩ := CL.out _ HQ1.out)
    | (go_at_call 30; (with_reducible refine (mayE (D1 : Int) (V1 : Int) n1 a1 l1.length c1 l1 wq1 true rfl (may_num D1 V1 n1 _ E11.out E12.out E13.out E14.out E15.out E16.out)).mono ?_); rintro e wq2 ⟨rfl, bq⟩; have HQ2 := Lib.hid (below_then HQ1.out bq HQ1.out.size); clear bq; clear p0 p1 p2 p3; obtain ⟨p0, p1, p2, p3⟩ := CL.out _ HQ2.out)
    | (go_at_call 24; (with_reducible refine (sealK D1 V1 n1 a1 l1.length c1 l1 X ka key.length kc key wq2 HXE.out rfl rfl E11.out E12.out E13.out E14.out E15.out E16.out (sl_then HQ2.out (Nat.le_refl _) HS10.out) HZ1.out HC1.out HX1.out (sl_then HQ2.out (Nat.le_refl _) HKS0.out) HK0.out HKC.out HKX.out HK8.out (tabR_then HQ2.out HT0.out) (tabB_then HQ2.out HB0.out)).mono ?_); rintro e wq3 ⟨xb, xo, xc, rfl, lx, kx, _, bq⟩; have HQ3 := Lib.hid (below_then HQ2.out bq HQ2.out.size); have X_3 := Lib.hid lx; clear bq lx; clear p0 p1 p2 p3; obtain ⟨p0, p1, p2, p3⟩ := CL.out _ HQ3.out; have HKXC := Lib.hid kx; clear kx; have HXC := Lib.hid (show 26 + l1.length ≤ xc by rw [← HXL.out]; exact HKXC.out))
    | (go_at_call 27; (with_reducible refine (openSeal (some ⟨xb, xo, none⟩) X.length xc ka kc key D1 V1 n1 l1 wq3 E11.out E12.out E13.out E14.out E15.out E16.out HX1.out HXL.out HXC.out (by rw [← HXE.out]; exact X_3.out) (sl_then HQ3.out (Nat.le_refl _) HKS0.out) HK0.out HKC.out HKX.out HK8.out (tabR_then HQ3.out HT0.out) (tabB_then HQ3.out HB0.out)).mono ?_); rintro e wq4 ⟨pv, rfl, rp, bq⟩; have HQ4 := Lib.hid (below_then HQ3.out bq HQ3.out.size); have X_4 := Lib.hid (sl_then bq (Nat.le_refl _) X_3.out); clear bq; clear p0 p1 p2 p3; obtain ⟨p0, p1, p2, p3⟩ := CL.out _ HQ4.out; obtain ⟨pa, pc, rfl, _, hps, _, _⟩ := rb_sl rp; have HPS := Lib.hid hps; clear rp hps; have r0 := past_alloc (o := .cells #[.int .i64 (D1 : Int), .int .i64 (V1 : Int), .int .u64 (n1 : Int), .slice pa l1.length pc] 35) p0; have r1 := past_alloc (o := .cells #[.int .i64 (D1 : Int), .int .i64 (V1 : Int), .int .u64 (n1 : Int), .slice pa l1.length pc] 35) p1; have r2 := past_alloc (o := .cells #[.int .i64 (D1 : Int), .int .i64 (V1 : Int), .int .u64 (n1 : Int), .slice pa l1.length pc] 35) p2; have r3 := past_alloc (o := .cells #[.int .i64 (D1 : Int), .int .i64 (V1 : Int), .int .u64 (n1 : Int), .slice pa l1.length pc] 35) p3)
    | (go_at_call 32; (with_reducible refine (sameP (D1 : Int) (V1 : Int) n1 pa l1.length pc l1 (D1 : Int) (V1 : Int) n1 a1 l1.length c1 l1 _ rfl rfl (sl_alloc HPS.out _) (sl_alloc (sl_then HQ4.out (Nat.le_refl _) HS10.out) _) HX1.out HX1.out true (same_self _ _ _ _)).mono ?_); rintro e wq5 ⟨rfl, bq⟩; have HQ5 := Lib.hid (step1 HQ4.out _ bq); have X_5 := Lib.hid (sl_then bq (Nat.le_refl _) (sl_alloc X_4.out _)); clear bq; clear p0 p1 p2 p3; obtain ⟨p0, p1, p2, p3⟩ := CL.out _ HQ5.out; clear r0 r1 r2 r3))
  clear tk tq tb u3 u4 u1
  as_aux_lemma =>
    obtain ⟨k, hk⟩ : ∃ k, k = bit % (8 * X.length) := ⟨_, rfl⟩
    have hbit := HBIT.out
    obtain ⟨K, hK⟩ : ∃ K, K = k / 8 := ⟨_, rfl⟩
    obtain ⟨S, hS⟩ : ∃ S, S = k % 8 := ⟨_, rfl⟩
    have hk8 : k < 8 * X.length := by rw [hk]; exact Nat.mod_lt _ (by have := HXP.out; omega)
    have kK : K < X.length := by omega
    have kS : S < 8 := by omega
    have HKX2 := Lib.hid kK
    have km1 : (bit : Int).tmod (8 * (X.length : Int)) = (k : Int) := by rw [hk]; have := tmod_nat bit (8 * X.length); push_cast at this ⊢; exact this
    have km2 : (bit : Int) % (8 * (X.length : Int)) = (k : Int) := by rw [hk]; push_cast; rfl
    have kd1 : (k : Int).tdiv 8 = (K : Int) := by rw [Int.tdiv_eq_ediv_of_nonneg (by omega)]; omega
    have kd2 : (k : Int) / 8 = (K : Int) := by omega
    have kd3 : (k : Int).tmod 8 = (S : Int) := by rw [Int.tmod_eq_emod_of_nonneg (by omega)]; omega
    have kd4 : (k : Int) % 8 = (S : Int) := by omega
    have kz1 : ¬ 8 * (X.length : Int) = 0 := by have := HXP.out; omega
    have kz2 : ¬ (X.length : Int) = 0 := by have := HXP.out; omega
    have kz3 : ¬ X.length = 0 := by have := HXP.out; omega
    have kz4 : ¬ X = [] := fun h => by have := HXP.out; rw [h] at this; simp at this
    have kl1 : (K : Int) < (X.length : Int) := by omega
    have kb1 : k ≤ 1000000 := by omega
    have kw1 : IntKind.u64.wrap (S : Int) = (S : Int) := by rw [IntKind.wrap_u64]; omega
    obtain ⟨kp1, hz8⟩ := pow8 S kS
    obtain ⟨Z, hZ⟩ : ∃ Z, Z = 2 ^ S := ⟨_, rfl⟩
    have kp0 : (2 : Int) ^ S % 256 = (Z : Int) := by rw [hZ, ← kp1, Nat.min_eq_left (by omega)]
    rw [← hZ] at kp1 hz8
    obtain ⟨Y0, hY0⟩ : ∃ y, y = X[K] := ⟨_, rfl⟩
    have hy8 : Y0 < 256 := by rw [hY0]; exact HXX.out _ (List.getElem_mem kK)
    obtain ⟨Y, hY⟩ : ∃ y, y = Y0 ^^^ Z := ⟨_, rfl⟩
    have hY8 : Y < 256 := by rw [hY]; exact Nat.xor_lt_two_pow (n := 8) hy8 hz8
    have kx1 : bits .xor .u8 (Y0 : Int) (Z : Int) = (Y : Int) := by rw [hY]; exact u8_xn _ _ hy8 hz8
    have HYY := Lib.hid hY0
    have HY8 := Lib.hid hY8
    clear hbit hk hK hS hk8 hz8 hZ hY0 hy8 hY hY8 kK kS
    go_wp2_with (go_at_call 14; (with_reducible refine (copyC (some ⟨xb, xo, none⟩) xc X wq5 HXM.out X_5.out (fun h => by cases h)).mono ?_); rintro e wq6 ⟨v7, rfl, q1, bq⟩; have HQ6 := Lib.hid (below_then HQ5.out bq HQ5.out.size); have X_6 := Lib.hid (sl_then bq (Nat.le_refl _) X_5.out); have HQC := Lib.hid bq; clear bq; clear p0 p1 p2 p3; obtain ⟨p0, p1, p2, p3⟩ := CL.out _ HQ6.out; obtain ⟨g, gc, rfl, hgc, hg, hcell, hfree, hset⟩ := rb_own q1 HXP.out; have HGC := Lib.hid hgc; have HG0 := Lib.hid hg; have HCELL := Lib.hid hcell; have HFREE := Lib.hid hfree; have HSET := Lib.hid hset; clear q1 hgc hg hcell hfree hset; have ck : wq6.cell? ⟨g, K, none⟩ = some (.int .u8 (Y0 : Int)) := (by rw [HYY.out]; exact HCELL.out K HKX2.out); have fk := HFREE.out K)
    clear km1 km2 kd1 kd2 kd3 kd4 kz1 kz2 kz3 kz4 kl1 kb1 kw1 kp0 kp1 kx1 ck fk
    as_aux_lemma =>
      obtain ⟨t, ht⟩ : ∃ t, t = X.set K Y := ⟨_, rfl⟩
      have HTL := Lib.hid (show X.length = t.length by rw [ht, List.length_set])
      have HTX := Lib.hid (show ∀ c ∈ t, c < 256 by
        rw [ht]; intro c hc
        rcases List.mem_or_eq_of_mem_set hc with h | h
        · exact HXX.out c h
        · rw [h]; exact HY8.out)
      have HTE := Lib.hid (show t.length = E + 16 by rw [← HTL.out]; exact HXE16.out)
      have HT8 := Lib.hid (show t.length ≤ 800000 by rw [← HTL.out]; exact HX80.out)
      have HTC := Lib.hid (show t.length ≤ gc by rw [← HTL.out]; exact HGC.out)
      have RB := HSET.out K Y
      have HT9 := Lib.hid (show Sl (wq6.setCell ⟨g, K, none⟩ (.int .u8 (Y : Int))) (some ⟨g, 0, none⟩) t by
        rw [ht]
        obtain ⟨a', c', e', _, h', _, _⟩ := rb_sl RB
        injection e' with e1 _ _
        rw [← e1] at h'
        exact h')
      have HQ8 := Lib.hid (show Below wq5.heap.size wq5 (wq6.setCell ⟨g, K, none⟩ (.int .u8 (Y : Int))) from HQC.out.setCell HG0.out _)
      clear ht RB
      clear p0 p1 p2 p3
      generalize (wq6.setCell ⟨g, K, none⟩ (.int .u8 (Y : Int))) = w8 at *
      have HBA8' := Lib.hid (below_then HQ5.out HQ8.out HQ5.out.size)
      have HBA8 := Lib.hid (below_then HBA.out HBA8'.out HBA.out.size)
      obtain ⟨p0, p1, p2, p3⟩ := CL.out _ HBA8'.out
      have CL := Lib.hid (show ∀ W, Below w8.heap.size w8 W → W.cell? ⟨w.heap.size, 0, none⟩ = some (.int .i64 (D1 : Int)) ∧ W.cell? ⟨w.heap.size, 1, none⟩ = some (.int .i64 (V1 : Int)) ∧ W.cell? ⟨w.heap.size, 2, none⟩ = some (.int .u64 (n1 : Int)) ∧ W.cell? ⟨w.heap.size, 3, none⟩ = some (.slice a1 l1.length c1) from fun W h => CL.out W (below_then HBA8'.out h HBA8'.out.size))
      have HKS8 := Lib.hid (sl_then HBA8'.out (Nat.le_refl _) HKS0.out)
      have HOS8 := Lib.hid (sl_then HBA8'.out (Nat.le_refl _) HOS0.out)
      have HT8R := Lib.hid (tabR_then HBA8'.out HT0.out)
      have HT8B := Lib.hid (tabB_then HBA8'.out HB0.out)
      have HX8 := Lib.hid (sl_then HQ8.out (Nat.le_refl _) X_5.out)
      have HTS8 := HT9
      have HR0 := Lib.hid (Below.refl w8.heap.size w8)
      clear HQ0 HQ1 HQ2 HQ3 HQ4 HQ5 HQ6 HQ8 HQC HCELL HFREE HSET HPS HT0 HB0 HKS0 HOS0 HS10 HG0 HGC HT9
      obtain ⟨TT1, hT1⟩ : ∃ T, T = tagL key (t.take E) := ⟨_, rfl⟩
      obtain ⟨TT2, hT2⟩ : ∃ T, T = tagL oth (X.take E) := ⟨_, rfl⟩
      have HT1 := Lib.hid hT1
      have HT2 := Lib.hid hT2
      have HT1L := Lib.hid (show 16 = TT1.length by rw [hT1]; exact (tagL_len _ _).symm)
      have HT2L := Lib.hid (show 16 = TT2.length by rw [hT2]; exact (tagL_len _ _).symm)
      have HT1X := Lib.hid (show ∀ c ∈ TT1, c < 256 by rw [hT1]; exact tagL_lt _ _)
      have HT2X := Lib.hid (show ∀ c ∈ TT2, c < 256 by rw [hT2]; exact tagL_lt _ _)
      have HEL1 := Lib.hid (show E = (t.take E).length by rw [List.length_take, HTE.out]; omega)
      have HEL2 := Lib.hid (show E = (X.take E).length by rw [List.length_take, HXE16.out]; omega)
      have HP81 := Lib.hid (show (t.take E).length ≤ 800000 by rw [← HEL1.out]; have := HTE.out; have := HT8.out; omega)
      have HP82 := Lib.hid (show (X.take E).length ≤ 800000 by rw [← HEL2.out]; have := HXE16.out; have := HX80.out; omega)
      have HR1L := Lib.hid (show 16 = (t.drop E).length by rw [List.length_drop, HTE.out]; omega)
      have HR2L := Lib.hid (show 16 = (X.drop E).length by rw [List.length_drop, HXE16.out]; omega)
      clear hT1 hT2
      as_aux_lemma =>
        by_cases c1 : tagL key (t.take E) = t.drop E
        · have HNE1 := Lib.hid c1
          have HD1 := Lib.hid (show true = decide (TT1 = t.drop E) from (decide_eq_true (by rw [HT1.out]; exact c1)).symm)
          clear c1
          by_cases c2 : tagL oth (X.take E) = X.drop E
          · have HNE2 := Lib.hid c2
            have HD2 := Lib.hid (show true = decide (TT2 = X.drop E) from (decide_eq_true (by rw [HT2.out]; exact c2)).symm)
            clear c2
            go_wp2_with (first
              | (go_at_call 27; (with_reducible refine (openAny g 0 gc X.length key.length t ka kc key w8 E HTL.out rfl HTE.out HE10.out HT8.out HTC.out (cells_of_sl (sl_then HR0.out (Nat.le_refl _) HTS8.out)) HTX.out (sl_then HR0.out (Nat.le_refl _) HKS8.out) HK0.out HKC.out HKX.out HK8.out (tabR_then HR0.out HT8R.out) (tabB_then HR0.out HT8B.out) HNE1.out).mono ?_); rintro e wq31 ⟨d4, v4, n4, x4, sa4, sn4, sc4, rfl, bq⟩; have HQ31 := Lib.hid (below_then HR0.out bq HR0.out.size); have X_31 := Lib.hid (sl_then bq (Nat.le_refl _) HX8.out); clear bq; clear p0 p1 p2 p3; obtain ⟨p0, p1, p2, p3⟩ := CL.out _ HQ31.out)
              | (go_at_call 27; (with_reducible refine (openAny xb xo xc X.length oth.length X oa oc oth _ E rfl rfl HXE16.out HE10.out HX80.out HKXC.out (cells_of_sl (sl_alloc X_31.out _)) HXX.out (sl_alloc (sl_then HQ31.out (Nat.le_refl _) HOS8.out) _) HO0.out HOC.out HOX.out HO8.out (tabR_then (HQ31.out.alloc HQ31.out.size _) HT8R.out) (tabB_then (HQ31.out.alloc HQ31.out.size _) HT8B.out) HNE2.out).mono ?_); rintro e wq32 ⟨d5, v5, n5, x5, sa5, sn5, sc5, rfl, bq⟩; have HQ32 := Lib.hid (step1 HQ31.out _ bq); have X_32 := Lib.hid (sl_then bq (Nat.le_refl _) (sl_alloc X_31.out _)); clear bq; clear p0 p1 p2 p3; obtain ⟨p0, p1, p2, p3⟩ := CL.out _ HQ32.out))
            have HQZ := Lib.hid (HQ32.out.alloc HQ32.out.size (.cells #[.int .i64 d5, .int .i64 v5, .int .u64 n5, .slice sa5 sn5 sc5] 35))
            clear p0 p1 p2 p3
            as_aux_lemma =>
              generalize (wq32.alloc (.cells #[.int .i64 d5, .int .i64 v5, .int .u64 n5, .slice sa5 sn5 sc5] 35)) = wz at *
              have HKSz := Lib.hid (sl_then HQZ.out (Nat.le_refl _) HKS8.out)
              have HOSz := Lib.hid (sl_then HQZ.out (Nat.le_refl _) HOS8.out)
              have HTz := Lib.hid (tabR_then HQZ.out HT8R.out)
              have HBz := Lib.hid (tabB_then HQZ.out HT8B.out)
              have HXz := Lib.hid (sl_then HQZ.out (Nat.le_refl _) HX8.out)
              have HTSz := Lib.hid (sl_then HQZ.out (Nat.le_refl _) HTS8.out)
              obtain ⟨pa1, pc1, pa2, pc2, hs1, hs2, pt1, pt2⟩ := part_two (ra := some ⟨g, 0, none⟩) (rc := gc) (n := X.length) HTL.out HTSz.out (fun h => by cases h) HTC.out HTX.out E HEX.out
              obtain ⟨qa1, qc1, qa2, qc2, gs1, gs2, qt1, qt2⟩ := part_two (ra := some ⟨xb, xo, none⟩) (rc := xc) (n := X.length) rfl HXz.out (fun h => by cases h) HKXC.out HXX.out E HEX.out
              rw [HX16.out] at hs2 gs2
              have HP1 := Lib.hid pt1
              have HP2 := Lib.hid pt2
              have HP3 := Lib.hid qt1
              have HP4 := Lib.hid qt2
              clear pt1 pt2 qt1 qt2
              go_wp2_with fail
              refine wp_region_held_drew (S := (fun W => Below wz.heap.size wz W)) (by kernel_rfl) ?_ (fun hHeld => ?_)
              · ((try dsimp only); (first | (with_reducible exact hN) | (with_reducible exact hHeld) | exact hN.drew | exact hHeld.drew | exact (Below.refl _ _).drew | exact Below.refl _ _))
              refine wpAnyH_take (i := 0) (oi := { dst := some 112, op := Op.move (Operand.tmp 0), type := 22, pos := _, after := #[], guard := none }) (v := ?_) rfl (by kernel_rfl) (by kernel_rfl) (by kernel_rfl) (fun _ _ _ h => h) (Or.inl ⟨by rfl, ?_⟩) (by assumption) ?_
              rotate_left
              · ((intro w hSw); (try dsimp only at hSw); go_simp; (try with_reducible rfl))
              try simp only [Act.put, List.setIfInBounds_toArray, List.set_cons_zero, List.set_cons_succ]
              refine wpAnyH_take (i := 1) (oi := { dst := some 113, op := Op.move (Operand.tmp 14), type := 22, pos := _, after := #[], guard := none }) (v := ?_) rfl (by kernel_rfl) (by kernel_rfl) (by kernel_rfl) (fun _ _ _ h => h) (Or.inl ⟨by rfl, ?_⟩) (by assumption) ?_
              rotate_left
              · ((intro w hSw); (try dsimp only at hSw); go_simp; (try with_reducible rfl))
              try simp only [Act.put, List.setIfInBounds_toArray, List.set_cons_zero, List.set_cons_succ]
              refine wpAnyH_take (i := 2) (oi := { dst := some 114, op := Op.move (Operand.tmp 13), type := 3, pos := _, after := #[], guard := none }) (v := ?_) rfl (by kernel_rfl) (by kernel_rfl) (by kernel_rfl) (fun _ _ _ h => h) (Or.inl ⟨by rfl, ?_⟩) (by assumption) ?_
              rotate_left
              · ((intro w hSw); (try dsimp only at hSw); go_simp; (try with_reducible rfl))
              try simp only [Act.put, List.setIfInBounds_toArray, List.set_cons_zero, List.set_cons_succ]
              refine wpAnyH_take (i := 3) (oi := { dst := some 115, op := Op.slice 22 (Operand.tmp 113) none (some (Operand.tmp 114)) none, type := 22, pos := _, after := #[{ on := 1, ground := Ground.data }, { on := 2, ground := Ground.data }], guard := none }) (v := ?_) rfl (by kernel_rfl) (by kernel_rfl) (by kernel_rfl) (fun _ _ _ h => h) (Or.inl ⟨by rfl, ?_⟩) (by assumption) ?_
              rotate_left
              · ((intro w hSw); (try dsimp only at hSw); go_simp; (try with_reducible rfl))
              try simp only [Act.put, List.setIfInBounds_toArray, List.set_cons_zero, List.set_cons_succ]
              refine wpAnyH_take (i := 5) (oi := { dst := some 117, op := Op.move (Operand.tmp 14), type := 22, pos := _, after := #[], guard := none }) (v := ?_) rfl (by kernel_rfl) (by kernel_rfl) (by kernel_rfl) (fun _ _ _ h => h) (Or.inl ⟨by rfl, ?_⟩) (by assumption) ?_
              rotate_left
              · ((intro w hSw); (try dsimp only at hSw); go_simp; (try with_reducible rfl))
              try simp only [Act.put, List.setIfInBounds_toArray, List.set_cons_zero, List.set_cons_succ]
              refine wpAnyH_take (i := 6) (oi := { dst := some 118, op := Op.move (Operand.tmp 13), type := 3, pos := _, after := #[], guard := none }) (v := ?_) rfl (by kernel_rfl) (by kernel_rfl) (by kernel_rfl) (fun _ _ _ h => h) (Or.inl ⟨by rfl, ?_⟩) (by assumption) ?_
              rotate_left
              · ((intro w hSw); (try dsimp only at hSw); go_simp; (try with_reducible rfl))
              try simp only [Act.put, List.setIfInBounds_toArray, List.set_cons_zero, List.set_cons_succ]
              refine wpAnyH_take (i := 7) (oi := { dst := some 119, op := Op.slice 22 (Operand.tmp 117) (some (Operand.tmp 118)) none none, type := 22, pos := _, after := #[{ on := 5, ground := Ground.data }, { on := 6, ground := Ground.data }], guard := none }) (v := ?_) rfl (by kernel_rfl) (by kernel_rfl) (by kernel_rfl) (fun _ _ _ h => h) (Or.inl ⟨by rfl, ?_⟩) (by assumption) ?_
              rotate_left
              · ((intro w hSw); (try dsimp only at hSw); go_simp; (try with_reducible rfl))
              try simp only [Act.put, List.setIfInBounds_toArray, List.set_cons_zero, List.set_cons_succ]
              refine wpAnyH_ready (rs := [4]) (by kernel_rfl) (by simp) ?_
              refine (AllReadyH.cons (o := { dst := some 116, op := Op.call { callee := Callee.value (Operand.func 21), args := #[Operand.tmp 112, Operand.tmp 115], argTypes := #[22, 22] }, type := 22, pos := _, after := #[{ on := 0, ground := Ground.data }, { on := 3, ground := Ground.data }], guard := none }) rfl (fun K hK => ?_) AllReadyH.nil)
              go_simp
              (go_at_call 21; (with_reducible refine (dtgK ka key.length kc key TT1 pa1 E pc1 (t.take E) _ HT1.out rfl HEL1.out (sl_then hHeld (Nat.le_refl _) HKSz.out) HK0.out HKC.out HKX.out HK8.out (sl_then hHeld (Nat.le_refl _) HP1.out.1) HP1.out.2.1 HP1.out.2.2.1 HP1.out.2.2.2 HP81.out).mono ?_); rintro e wt1 ⟨ga1, gc1, rfl, lg, _, _, ba⟩; have HGA1 := Lib.hid lg; have hN := below_then hHeld ba hHeld.size; clear ba lg)
              go_wp2_with fail
              refine hK.out _ _ ?_ (fun hHeld => ?_)
              · ((try dsimp only); (first | (with_reducible exact hN) | (with_reducible exact hHeld) | exact hN.drew | exact hHeld.drew | exact (Below.refl _ _).drew | exact Below.refl _ _))
              clear hK K
              try simp only [Act.put, List.setIfInBounds_toArray, List.set_cons_zero, List.set_cons_succ]
              refine wpAnyH_ready (rs := [8]) (by kernel_rfl) (by simp) ?_
              refine (AllReadyH.cons (o := { dst := some 120, op := Op.call { callee := Callee.value (Operand.func 15), args := #[Operand.tmp 116, Operand.tmp 119], argTypes := #[22, 22] }, type := 4, pos := _, after := #[{ on := 4, ground := Ground.data }, { on := 7, ground := Ground.data }, { on := 4, ground := Ground.chain }], guard := none }) rfl (fun K hK => ?_) AllReadyH.nil)
              go_simp
              (go_at_call 15; (with_reducible refine (bytesD ga1 pa2 gc1 pc2 16 16 TT1 (t.drop E) _ true HT1L.out HR1L.out HGA1.out (sl_then hHeld (Nat.le_refl _) HP2.out.1) HT1X.out HP2.out.2.2.2 HD1.out).mono ?_); rintro e wb ⟨rfl, rfl⟩)
              go_wp2_with fail
              refine hK.out _ _ ?_ (fun hHeld => ?_)
              · ((try dsimp only); (first | (with_reducible exact hN) | (with_reducible exact hHeld) | exact hN.drew | exact hHeld.drew | exact (Below.refl _ _).drew | exact Below.refl _ _))
              clear hK K
              try simp only [Act.put, List.setIfInBounds_toArray, List.set_cons_zero, List.set_cons_succ]
              refine wpAnyH_take (i := 9) (oi := { dst := some 20, op := Op.assign (Operand.tmp 120), type := 4, pos := _, after := #[{ on := 8, ground := Ground.data }, { on := 8, ground := Ground.chain }, { on := 0, ground := Ground.phase }, { on := 1, ground := Ground.phase }, { on := 2, ground := Ground.phase }, { on := 3, ground := Ground.phase }, { on := 4, ground := Ground.phase }, { on := 5, ground := Ground.phase }, { on := 6, ground := Ground.phase }, { on := 7, ground := Ground.phase }, { on := 8, ground := Ground.phase }], guard := none }) (v := ?_) rfl (by kernel_rfl) (by kernel_rfl) (by kernel_rfl) (fun _ _ _ h => h) (Or.inl ⟨by rfl, ?_⟩) (by assumption) ?_
              rotate_left
              · ((intro w hSw); (try dsimp only at hSw); go_simp; (try with_reducible rfl))
              try simp only [Act.put, List.setIfInBounds_toArray, List.set_cons_zero, List.set_cons_succ]
              refine wpAnyH_done (by kernel_rfl) ?_ _
              clear hs1 hs2 hN
              go_wp2_with fail
              refine wp_region_held_drew (S := (fun W => Below wz.heap.size wz W)) (by kernel_rfl) ?_ (fun hHeld => ?_)
              · ((try dsimp only); (first | (with_reducible exact hN) | (with_reducible exact hHeld) | exact hN.drew | exact hHeld.drew | exact (Below.refl _ _).drew | exact Below.refl _ _))
              refine wpAnyH_take (i := 0) (oi := { dst := some 121, op := Op.move (Operand.tmp 1), type := 22, pos := _, after := #[], guard := none }) (v := ?_) rfl (by kernel_rfl) (by kernel_rfl) (by kernel_rfl) (fun _ _ _ h => h) (Or.inl ⟨by rfl, ?_⟩) (by assumption) ?_
              rotate_left
              · ((intro w hSw); (try dsimp only at hSw); go_simp; (try with_reducible rfl))
              try simp only [Act.put, List.setIfInBounds_toArray, List.set_cons_zero, List.set_cons_succ]
              refine wpAnyH_take (i := 1) (oi := { dst := some 122, op := Op.move (Operand.tmp 9), type := 22, pos := _, after := #[], guard := none }) (v := ?_) rfl (by kernel_rfl) (by kernel_rfl) (by kernel_rfl) (fun _ _ _ h => h) (Or.inl ⟨by rfl, ?_⟩) (by assumption) ?_
              rotate_left
              · ((intro w hSw); (try dsimp only at hSw); go_simp; (try with_reducible rfl))
              try simp only [Act.put, List.setIfInBounds_toArray, List.set_cons_zero, List.set_cons_succ]
              refine wpAnyH_take (i := 2) (oi := { dst := some 123, op := Op.move (Operand.tmp 13), type := 3, pos := _, after := #[], guard := none }) (v := ?_) rfl (by kernel_rfl) (by kernel_rfl) (by kernel_rfl) (fun _ _ _ h => h) (Or.inl ⟨by rfl, ?_⟩) (by assumption) ?_
              rotate_left
              · ((intro w hSw); (try dsimp only at hSw); go_simp; (try with_reducible rfl))
              try simp only [Act.put, List.setIfInBounds_toArray, List.set_cons_zero, List.set_cons_succ]
              refine wpAnyH_take (i := 3) (oi := { dst := some 124, op := Op.slice 22 (Operand.tmp 122) none (some (Operand.tmp 123)) none, type := 22, pos := _, after := #[{ on := 1, ground := Ground.data }, { on := 2, ground := Ground.data }], guard := none }) (v := ?_) rfl (by kernel_rfl) (by kernel_rfl) (by kernel_rfl) (fun _ _ _ h => h) (Or.inl ⟨by rfl, ?_⟩) (by assumption) ?_
              rotate_left
              · ((intro w hSw); (try dsimp only at hSw); go_simp; (try with_reducible rfl))
              try simp only [Act.put, List.setIfInBounds_toArray, List.set_cons_zero, List.set_cons_succ]
              refine wpAnyH_take (i := 5) (oi := { dst := some 126, op := Op.move (Operand.tmp 9), type := 22, pos := _, after := #[], guard := none }) (v := ?_) rfl (by kernel_rfl) (by kernel_rfl) (by kernel_rfl) (fun _ _ _ h => h) (Or.inl ⟨by rfl, ?_⟩) (by assumption) ?_
              rotate_left
              · ((intro w hSw); (try dsimp only at hSw); go_simp; (try with_reducible rfl))
              try simp only [Act.put, List.setIfInBounds_toArray, List.set_cons_zero, List.set_cons_succ]
              refine wpAnyH_take (i := 6) (oi := { dst := some 127, op := Op.move (Operand.tmp 13), type := 3, pos := _, after := #[], guard := none }) (v := ?_) rfl (by kernel_rfl) (by kernel_rfl) (by kernel_rfl) (fun _ _ _ h => h) (Or.inl ⟨by rfl, ?_⟩) (by assumption) ?_
              rotate_left
              · ((intro w hSw); (try dsimp only at hSw); go_simp; (try with_reducible rfl))
              try simp only [Act.put, List.setIfInBounds_toArray, List.set_cons_zero, List.set_cons_succ]
              refine wpAnyH_take (i := 7) (oi := { dst := some 128, op := Op.slice 22 (Operand.tmp 126) (some (Operand.tmp 127)) none none, type := 22, pos := _, after := #[{ on := 5, ground := Ground.data }, { on := 6, ground := Ground.data }], guard := none }) (v := ?_) rfl (by kernel_rfl) (by kernel_rfl) (by kernel_rfl) (fun _ _ _ h => h) (Or.inl ⟨by rfl, ?_⟩) (by assumption) ?_
              rotate_left
              · ((intro w hSw); (try dsimp only at hSw); go_simp; (try with_reducible rfl))
              try simp only [Act.put, List.setIfInBounds_toArray, List.set_cons_zero, List.set_cons_succ]
              refine wpAnyH_ready (rs := [4]) (by kernel_rfl) (by simp) ?_
              refine (AllReadyH.cons (o := { dst := some 125, op := Op.call { callee := Callee.value (Operand.func 21), args := #[Operand.tmp 121, Operand.tmp 124], argTypes := #[22, 22] }, type := 22, pos := _, after := #[{ on := 0, ground := Ground.data }, { on := 3, ground := Ground.data }], guard := none }) rfl (fun K hK => ?_) AllReadyH.nil)
              go_simp
              (go_at_call 21; (with_reducible refine (dtgK oa oth.length oc oth TT2 qa1 E qc1 (X.take E) _ HT2.out rfl HEL2.out (sl_then hHeld (Nat.le_refl _) HOSz.out) HO0.out HOC.out HOX.out HO8.out (sl_then hHeld (Nat.le_refl _) HP3.out.1) HP3.out.2.1 HP3.out.2.2.1 HP3.out.2.2.2 HP82.out).mono ?_); rintro e wt2 ⟨ga2, gc2, rfl, lg, _, _, ba⟩; have HGA2 := Lib.hid lg; have hN := below_then hHeld ba hHeld.size; clear ba lg)
              go_wp2_with fail
              refine hK.out _ _ ?_ (fun hHeld => ?_)
              · ((try dsimp only); (first | (with_reducible exact hN) | (with_reducible exact hHeld) | exact hN.drew | exact hHeld.drew | exact (Below.refl _ _).drew | exact Below.refl _ _))
              clear hK K
              try simp only [Act.put, List.setIfInBounds_toArray, List.set_cons_zero, List.set_cons_succ]
              refine wpAnyH_ready (rs := [8]) (by kernel_rfl) (by simp) ?_
              refine (AllReadyH.cons (o := { dst := some 129, op := Op.call { callee := Callee.value (Operand.func 15), args := #[Operand.tmp 125, Operand.tmp 128], argTypes := #[22, 22] }, type := 4, pos := _, after := #[{ on := 4, ground := Ground.data }, { on := 7, ground := Ground.data }, { on := 4, ground := Ground.chain }], guard := none }) rfl (fun K hK => ?_) AllReadyH.nil)
              go_simp
              (go_at_call 15; (with_reducible refine (bytesD ga2 qa2 gc2 qc2 16 16 TT2 (X.drop E) _ true HT2L.out HR2L.out HGA2.out (sl_then hHeld (Nat.le_refl _) HP4.out.1) HT2X.out HP4.out.2.2.2 HD2.out).mono ?_); rintro e wb ⟨rfl, rfl⟩)
              go_wp2_with fail
              refine hK.out _ _ ?_ (fun hHeld => ?_)
              · ((try dsimp only); (first | (with_reducible exact hN) | (with_reducible exact hHeld) | exact hN.drew | exact hHeld.drew | exact (Below.refl _ _).drew | exact Below.refl _ _))
              clear hK K
              try simp only [Act.put, List.setIfInBounds_toArray, List.set_cons_zero, List.set_cons_succ]
              refine wpAnyH_take (i := 9) (oi := { dst := some 21, op := Op.assign (Operand.tmp 129), type := 4, pos := _, after := #[{ on := 8, ground := Ground.data }, { on := 8, ground := Ground.chain }, { on := 0, ground := Ground.phase }, { on := 1, ground := Ground.phase }, { on := 2, ground := Ground.phase }, { on := 3, ground := Ground.phase }, { on := 4, ground := Ground.phase }, { on := 5, ground := Ground.phase }, { on := 6, ground := Ground.phase }, { on := 7, ground := Ground.phase }, { on := 8, ground := Ground.phase }], guard := none }) (v := ?_) rfl (by kernel_rfl) (by kernel_rfl) (by kernel_rfl) (fun _ _ _ h => h) (Or.inl ⟨by rfl, ?_⟩) (by assumption) ?_
              rotate_left
              · ((intro w hSw); (try dsimp only at hSw); go_simp; (try with_reducible rfl))
              try simp only [Act.put, List.setIfInBounds_toArray, List.set_cons_zero, List.set_cons_succ]
              refine wpAnyH_done (by kernel_rfl) ?_ _
              go_wp2_with (go_at_call 23; (with_reducible refine (pfirst _ (tabR_then hHeld HTz.out) (tabB_then hHeld HBz.out)).mono ?_); rintro e wf ⟨rfl, ba⟩; have HBF := Lib.hid (below_then hHeld ba hHeld.size); clear ba)
              go_ret
              exact ⟨rfl, below_then HBA8.out (below_then HQZ.out HBF.out HQZ.out.size) HBA8.out.size⟩
          · have HNE2 := Lib.hid c2
            have HD2 := Lib.hid (show false = decide (TT2 = X.drop E) from (decide_eq_false (by rw [HT2.out]; exact c2)).symm)
            clear c2
            go_wp2_with (first
              | (go_at_call 27; (with_reducible refine (openAny g 0 gc X.length key.length t ka kc key w8 E HTL.out rfl HTE.out HE10.out HT8.out HTC.out (cells_of_sl (sl_then HR0.out (Nat.le_refl _) HTS8.out)) HTX.out (sl_then HR0.out (Nat.le_refl _) HKS8.out) HK0.out HKC.out HKX.out HK8.out (tabR_then HR0.out HT8R.out) (tabB_then HR0.out HT8B.out) HNE1.out).mono ?_); rintro e wq31 ⟨d4, v4, n4, x4, sa4, sn4, sc4, rfl, bq⟩; have HQ31 := Lib.hid (below_then HR0.out bq HR0.out.size); have X_31 := Lib.hid (sl_then bq (Nat.le_refl _) HX8.out); clear bq; clear p0 p1 p2 p3; obtain ⟨p0, p1, p2, p3⟩ := CL.out _ HQ31.out)
              | (go_at_call 27; (with_reducible refine (openTagG xb xo xc X.length oth.length X oa oc oth _ E rfl rfl HXE16.out HE10.out HX80.out HKXC.out (cells_of_sl (sl_alloc X_31.out _)) HXX.out (sl_alloc (sl_then HQ31.out (Nat.le_refl _) HOS8.out) _) HO0.out HOC.out HOX.out HO8.out (tabR_then (HQ31.out.alloc HQ31.out.size _) HT8R.out) (tabB_then (HQ31.out.alloc HQ31.out.size _) HT8B.out) HNE2.out).mono ?_); rintro e wq32 ⟨rfl, bq⟩; have HQ32 := Lib.hid (step1 HQ31.out _ bq); have X_32 := Lib.hid (sl_then bq (Nat.le_refl _) (sl_alloc X_31.out _)); clear bq; clear p0 p1 p2 p3; obtain ⟨p0, p1, p2, p3⟩ := CL.out _ HQ32.out))
            have HQZ := Lib.hid (HQ32.out.alloc HQ32.out.size (.cells #[.int .i64 0, .int .i64 0, .int .u64 0, .slice none 0 0] 35))
            clear p0 p1 p2 p3
            as_aux_lemma =>
              generalize (wq32.alloc (.cells #[.int .i64 0, .int .i64 0, .int .u64 0, .slice none 0 0] 35)) = wz at *
              have HKSz := Lib.hid (sl_then HQZ.out (Nat.le_refl _) HKS8.out)
              have HOSz := Lib.hid (sl_then HQZ.out (Nat.le_refl _) HOS8.out)
              have HTz := Lib.hid (tabR_then HQZ.out HT8R.out)
              have HBz := Lib.hid (tabB_then HQZ.out HT8B.out)
              have HXz := Lib.hid (sl_then HQZ.out (Nat.le_refl _) HX8.out)
              have HTSz := Lib.hid (sl_then HQZ.out (Nat.le_refl _) HTS8.out)
              obtain ⟨pa1, pc1, pa2, pc2, hs1, hs2, pt1, pt2⟩ := part_two (ra := some ⟨g, 0, none⟩) (rc := gc) (n := X.length) HTL.out HTSz.out (fun h => by cases h) HTC.out HTX.out E HEX.out
              obtain ⟨qa1, qc1, qa2, qc2, gs1, gs2, qt1, qt2⟩ := part_two (ra := some ⟨xb, xo, none⟩) (rc := xc) (n := X.length) rfl HXz.out (fun h => by cases h) HKXC.out HXX.out E HEX.out
              rw [HX16.out] at hs2 gs2
              have HP1 := Lib.hid pt1
              have HP2 := Lib.hid pt2
              have HP3 := Lib.hid qt1
              have HP4 := Lib.hid qt2
              clear pt1 pt2 qt1 qt2
              go_wp2_with fail
              refine wp_region_held_drew (S := (fun W => Below wz.heap.size wz W)) (by kernel_rfl) ?_ (fun hHeld => ?_)
              · ((try dsimp only); (first | (with_reducible exact hN) | (with_reducible exact hHeld) | exact hN.drew | exact hHeld.drew | exact (Below.refl _ _).drew | exact Below.refl _ _))
              refine wpAnyH_take (i := 0) (oi := { dst := some 112, op := Op.move (Operand.tmp 0), type := 22, pos := _, after := #[], guard := none }) (v := ?_) rfl (by kernel_rfl) (by kernel_rfl) (by kernel_rfl) (fun _ _ _ h => h) (Or.inl ⟨by rfl, ?_⟩) (by assumption) ?_
              rotate_left
              · ((intro w hSw); (try dsimp only at hSw); go_simp; (try with_reducible rfl))
              try simp only [Act.put, List.setIfInBounds_toArray, List.set_cons_zero, List.set_cons_succ]
              refine wpAnyH_take (i := 1) (oi := { dst := some 113, op := Op.move (Operand.tmp 14), type := 22, pos := _, after := #[], guard := none }) (v := ?_) rfl (by kernel_rfl) (by kernel_rfl) (by kernel_rfl) (fun _ _ _ h => h) (Or.inl ⟨by rfl, ?_⟩) (by assumption) ?_
              rotate_left
              · ((intro w hSw); (try dsimp only at hSw); go_simp; (try with_reducible rfl))
              try simp only [Act.put, List.setIfInBounds_toArray, List.set_cons_zero, List.set_cons_succ]
              refine wpAnyH_take (i := 2) (oi := { dst := some 114, op := Op.move (Operand.tmp 13), type := 3, pos := _, after := #[], guard := none }) (v := ?_) rfl (by kernel_rfl) (by kernel_rfl) (by kernel_rfl) (fun _ _ _ h => h) (Or.inl ⟨by rfl, ?_⟩) (by assumption) ?_
              rotate_left
              · ((intro w hSw); (try dsimp only at hSw); go_simp; (try with_reducible rfl))
              try simp only [Act.put, List.setIfInBounds_toArray, List.set_cons_zero, List.set_cons_succ]
              refine wpAnyH_take (i := 3) (oi := { dst := some 115, op := Op.slice 22 (Operand.tmp 113) none (some (Operand.tmp 114)) none, type := 22, pos := _, after := #[{ on := 1, ground := Ground.data }, { on := 2, ground := Ground.data }], guard := none }) (v := ?_) rfl (by kernel_rfl) (by kernel_rfl) (by kernel_rfl) (fun _ _ _ h => h) (Or.inl ⟨by rfl, ?_⟩) (by assumption) ?_
              rotate_left
              · ((intro w hSw); (try dsimp only at hSw); go_simp; (try with_reducible rfl))
              try simp only [Act.put, List.setIfInBounds_toArray, List.set_cons_zero, List.set_cons_succ]
              refine wpAnyH_take (i := 5) (oi := { dst := some 117, op := Op.move (Operand.tmp 14), type := 22, pos := _, after := #[], guard := none }) (v := ?_) rfl (by kernel_rfl) (by kernel_rfl) (by kernel_rfl) (fun _ _ _ h => h) (Or.inl ⟨by rfl, ?_⟩) (by assumption) ?_
              rotate_left
              · ((intro w hSw); (try dsimp only at hSw); go_simp; (try with_reducible rfl))
              try simp only [Act.put, List.setIfInBounds_toArray, List.set_cons_zero, List.set_cons_succ]
              refine wpAnyH_take (i := 6) (oi := { dst := some 118, op := Op.move (Operand.tmp 13), type := 3, pos := _, after := #[], guard := none }) (v := ?_) rfl (by kernel_rfl) (by kernel_rfl) (by kernel_rfl) (fun _ _ _ h => h) (Or.inl ⟨by rfl, ?_⟩) (by assumption) ?_
              rotate_left
              · ((intro w hSw); (try dsimp only at hSw); go_simp; (try with_reducible rfl))
              try simp only [Act.put, List.setIfInBounds_toArray, List.set_cons_zero, List.set_cons_succ]
              refine wpAnyH_take (i := 7) (oi := { dst := some 119, op := Op.slice 22 (Operand.tmp 117) (some (Operand.tmp 118)) none none, type := 22, pos := _, after := #[{ on := 5, ground := Ground.data }, { on := 6, ground := Ground.data }], guard := none }) (v := ?_) rfl (by kernel_rfl) (by kernel_rfl) (by kernel_rfl) (fun _ _ _ h => h) (Or.inl ⟨by rfl, ?_⟩) (by assumption) ?_
              rotate_left
              · ((intro w hSw); (try dsimp only at hSw); go_simp; (try with_reducible rfl))
              try simp only [Act.put, List.setIfInBounds_toArray, List.set_cons_zero, List.set_cons_succ]
              refine wpAnyH_ready (rs := [4]) (by kernel_rfl) (by simp) ?_
              refine (AllReadyH.cons (o := { dst := some 116, op := Op.call { callee := Callee.value (Operand.func 21), args := #[Operand.tmp 112, Operand.tmp 115], argTypes := #[22, 22] }, type := 22, pos := _, after := #[{ on := 0, ground := Ground.data }, { on := 3, ground := Ground.data }], guard := none }) rfl (fun K hK => ?_) AllReadyH.nil)
              go_simp
              (go_at_call 21; (with_reducible refine (dtgK ka key.length kc key TT1 pa1 E pc1 (t.take E) _ HT1.out rfl HEL1.out (sl_then hHeld (Nat.le_refl _) HKSz.out) HK0.out HKC.out HKX.out HK8.out (sl_then hHeld (Nat.le_refl _) HP1.out.1) HP1.out.2.1 HP1.out.2.2.1 HP1.out.2.2.2 HP81.out).mono ?_); rintro e wt1 ⟨ga1, gc1, rfl, lg, _, _, ba⟩; have HGA1 := Lib.hid lg; have hN := below_then hHeld ba hHeld.size; clear ba lg)
              go_wp2_with fail
              refine hK.out _ _ ?_ (fun hHeld => ?_)
              · ((try dsimp only); (first | (with_reducible exact hN) | (with_reducible exact hHeld) | exact hN.drew | exact hHeld.drew | exact (Below.refl _ _).drew | exact Below.refl _ _))
              clear hK K
              try simp only [Act.put, List.setIfInBounds_toArray, List.set_cons_zero, List.set_cons_succ]
              refine wpAnyH_ready (rs := [8]) (by kernel_rfl) (by simp) ?_
              refine (AllReadyH.cons (o := { dst := some 120, op := Op.call { callee := Callee.value (Operand.func 15), args := #[Operand.tmp 116, Operand.tmp 119], argTypes := #[22, 22] }, type := 4, pos := _, after := #[{ on := 4, ground := Ground.data }, { on := 7, ground := Ground.data }, { on := 4, ground := Ground.chain }], guard := none }) rfl (fun K hK => ?_) AllReadyH.nil)
              go_simp
              (go_at_call 15; (with_reducible refine (bytesD ga1 pa2 gc1 pc2 16 16 TT1 (t.drop E) _ true HT1L.out HR1L.out HGA1.out (sl_then hHeld (Nat.le_refl _) HP2.out.1) HT1X.out HP2.out.2.2.2 HD1.out).mono ?_); rintro e wb ⟨rfl, rfl⟩)
              go_wp2_with fail
              refine hK.out _ _ ?_ (fun hHeld => ?_)
              · ((try dsimp only); (first | (with_reducible exact hN) | (with_reducible exact hHeld) | exact hN.drew | exact hHeld.drew | exact (Below.refl _ _).drew | exact Below.refl _ _))
              clear hK K
              try simp only [Act.put, List.setIfInBounds_toArray, List.set_cons_zero, List.set_cons_succ]
              refine wpAnyH_take (i := 9) (oi := { dst := some 20, op := Op.assign (Operand.tmp 120), type := 4, pos := _, after := #[{ on := 8, ground := Ground.data }, { on := 8, ground := Ground.chain }, { on := 0, ground := Ground.phase }, { on := 1, ground := Ground.phase }, { on := 2, ground := Ground.phase }, { on := 3, ground := Ground.phase }, { on := 4, ground := Ground.phase }, { on := 5, ground := Ground.phase }, { on := 6, ground := Ground.phase }, { on := 7, ground := Ground.phase }, { on := 8, ground := Ground.phase }], guard := none }) (v := ?_) rfl (by kernel_rfl) (by kernel_rfl) (by kernel_rfl) (fun _ _ _ h => h) (Or.inl ⟨by rfl, ?_⟩) (by assumption) ?_
              rotate_left
              · ((intro w hSw); (try dsimp only at hSw); go_simp; (try with_reducible rfl))
              try simp only [Act.put, List.setIfInBounds_toArray, List.set_cons_zero, List.set_cons_succ]
              refine wpAnyH_done (by kernel_rfl) ?_ _
              clear hs1 hs2 hN
              go_wp2_with fail
              refine wp_region_held_drew (S := (fun W => Below wz.heap.size wz W)) (by kernel_rfl) ?_ (fun hHeld => ?_)
              · ((try dsimp only); (first | (with_reducible exact hN) | (with_reducible exact hHeld) | exact hN.drew | exact hHeld.drew | exact (Below.refl _ _).drew | exact Below.refl _ _))
              refine wpAnyH_take (i := 0) (oi := { dst := some 121, op := Op.move (Operand.tmp 1), type := 22, pos := _, after := #[], guard := none }) (v := ?_) rfl (by kernel_rfl) (by kernel_rfl) (by kernel_rfl) (fun _ _ _ h => h) (Or.inl ⟨by rfl, ?_⟩) (by assumption) ?_
              rotate_left
              · ((intro w hSw); (try dsimp only at hSw); go_simp; (try with_reducible rfl))
              try simp only [Act.put, List.setIfInBounds_toArray, List.set_cons_zero, List.set_cons_succ]
              refine wpAnyH_take (i := 1) (oi := { dst := some 122, op := Op.move (Operand.tmp 9), type := 22, pos := _, after := #[], guard := none }) (v := ?_) rfl (by kernel_rfl) (by kernel_rfl) (by kernel_rfl) (fun _ _ _ h => h) (Or.inl ⟨by rfl, ?_⟩) (by assumption) ?_
              rotate_left
              · ((intro w hSw); (try dsimp only at hSw); go_simp; (try with_reducible rfl))
              try simp only [Act.put, List.setIfInBounds_toArray, List.set_cons_zero, List.set_cons_succ]
              refine wpAnyH_take (i := 2) (oi := { dst := some 123, op := Op.move (Operand.tmp 13), type := 3, pos := _, after := #[], guard := none }) (v := ?_) rfl (by kernel_rfl) (by kernel_rfl) (by kernel_rfl) (fun _ _ _ h => h) (Or.inl ⟨by rfl, ?_⟩) (by assumption) ?_
              rotate_left
              · ((intro w hSw); (try dsimp only at hSw); go_simp; (try with_reducible rfl))
              try simp only [Act.put, List.setIfInBounds_toArray, List.set_cons_zero, List.set_cons_succ]
              refine wpAnyH_take (i := 3) (oi := { dst := some 124, op := Op.slice 22 (Operand.tmp 122) none (some (Operand.tmp 123)) none, type := 22, pos := _, after := #[{ on := 1, ground := Ground.data }, { on := 2, ground := Ground.data }], guard := none }) (v := ?_) rfl (by kernel_rfl) (by kernel_rfl) (by kernel_rfl) (fun _ _ _ h => h) (Or.inl ⟨by rfl, ?_⟩) (by assumption) ?_
              rotate_left
              · ((intro w hSw); (try dsimp only at hSw); go_simp; (try with_reducible rfl))
              try simp only [Act.put, List.setIfInBounds_toArray, List.set_cons_zero, List.set_cons_succ]
              refine wpAnyH_take (i := 5) (oi := { dst := some 126, op := Op.move (Operand.tmp 9), type := 22, pos := _, after := #[], guard := none }) (v := ?_) rfl (by kernel_rfl) (by kernel_rfl) (by kernel_rfl) (fun _ _ _ h => h) (Or.inl ⟨by rfl, ?_⟩) (by assumption) ?_
              rotate_left
              · ((intro w hSw); (try dsimp only at hSw); go_simp; (try with_reducible rfl))
              try simp only [Act.put, List.setIfInBounds_toArray, List.set_cons_zero, List.set_cons_succ]
              refine wpAnyH_take (i := 6) (oi := { dst := some 127, op := Op.move (Operand.tmp 13), type := 3, pos := _, after := #[], guard := none }) (v := ?_) rfl (by kernel_rfl) (by kernel_rfl) (by kernel_rfl) (fun _ _ _ h => h) (Or.inl ⟨by rfl, ?_⟩) (by assumption) ?_
              rotate_left
              · ((intro w hSw); (try dsimp only at hSw); go_simp; (try with_reducible rfl))
              try simp only [Act.put, List.setIfInBounds_toArray, List.set_cons_zero, List.set_cons_succ]
              refine wpAnyH_take (i := 7) (oi := { dst := some 128, op := Op.slice 22 (Operand.tmp 126) (some (Operand.tmp 127)) none none, type := 22, pos := _, after := #[{ on := 5, ground := Ground.data }, { on := 6, ground := Ground.data }], guard := none }) (v := ?_) rfl (by kernel_rfl) (by kernel_rfl) (by kernel_rfl) (fun _ _ _ h => h) (Or.inl ⟨by rfl, ?_⟩) (by assumption) ?_
              rotate_left
              · ((intro w hSw); (try dsimp only at hSw); go_simp; (try with_reducible rfl))
              try simp only [Act.put, List.setIfInBounds_toArray, List.set_cons_zero, List.set_cons_succ]
              refine wpAnyH_ready (rs := [4]) (by kernel_rfl) (by simp) ?_
              refine (AllReadyH.cons (o := { dst := some 125, op := Op.call { callee := Callee.value (Operand.func 21), args := #[Operand.tmp 121, Operand.tmp 124], argTypes := #[22, 22] }, type := 22, pos := _, after := #[{ on := 0, ground := Ground.data }, { on := 3, ground := Ground.data }], guard := none }) rfl (fun K hK => ?_) AllReadyH.nil)
              go_simp
              (go_at_call 21; (with_reducible refine (dtgK oa oth.length oc oth TT2 qa1 E qc1 (X.take E) _ HT2.out rfl HEL2.out (sl_then hHeld (Nat.le_refl _) HOSz.out) HO0.out HOC.out HOX.out HO8.out (sl_then hHeld (Nat.le_refl _) HP3.out.1) HP3.out.2.1 HP3.out.2.2.1 HP3.out.2.2.2 HP82.out).mono ?_); rintro e wt2 ⟨ga2, gc2, rfl, lg, _, _, ba⟩; have HGA2 := Lib.hid lg; have hN := below_then hHeld ba hHeld.size; clear ba lg)
              go_wp2_with fail
              refine hK.out _ _ ?_ (fun hHeld => ?_)
              · ((try dsimp only); (first | (with_reducible exact hN) | (with_reducible exact hHeld) | exact hN.drew | exact hHeld.drew | exact (Below.refl _ _).drew | exact Below.refl _ _))
              clear hK K
              try simp only [Act.put, List.setIfInBounds_toArray, List.set_cons_zero, List.set_cons_succ]
              refine wpAnyH_ready (rs := [8]) (by kernel_rfl) (by simp) ?_
              refine (AllReadyH.cons (o := { dst := some 129, op := Op.call { callee := Callee.value (Operand.func 15), args := #[Operand.tmp 125, Operand.tmp 128], argTypes := #[22, 22] }, type := 4, pos := _, after := #[{ on := 4, ground := Ground.data }, { on := 7, ground := Ground.data }, { on := 4, ground := Ground.chain }], guard := none }) rfl (fun K hK => ?_) AllReadyH.nil)
              go_simp
              (go_at_call 15; (with_reducible refine (bytesD ga2 qa2 gc2 qc2 16 16 TT2 (X.drop E) _ false HT2L.out HR2L.out HGA2.out (sl_then hHeld (Nat.le_refl _) HP4.out.1) HT2X.out HP4.out.2.2.2 HD2.out).mono ?_); rintro e wb ⟨rfl, rfl⟩)
              go_wp2_with fail
              refine hK.out _ _ ?_ (fun hHeld => ?_)
              · ((try dsimp only); (first | (with_reducible exact hN) | (with_reducible exact hHeld) | exact hN.drew | exact hHeld.drew | exact (Below.refl _ _).drew | exact Below.refl _ _))
              clear hK K
              try simp only [Act.put, List.setIfInBounds_toArray, List.set_cons_zero, List.set_cons_succ]
              refine wpAnyH_take (i := 9) (oi := { dst := some 21, op := Op.assign (Operand.tmp 129), type := 4, pos := _, after := #[{ on := 8, ground := Ground.data }, { on := 8, ground := Ground.chain }, { on := 0, ground := Ground.phase }, { on := 1, ground := Ground.phase }, { on := 2, ground := Ground.phase }, { on := 3, ground := Ground.phase }, { on := 4, ground := Ground.phase }, { on := 5, ground := Ground.phase }, { on := 6, ground := Ground.phase }, { on := 7, ground := Ground.phase }, { on := 8, ground := Ground.phase }], guard := none }) (v := ?_) rfl (by kernel_rfl) (by kernel_rfl) (by kernel_rfl) (fun _ _ _ h => h) (Or.inl ⟨by rfl, ?_⟩) (by assumption) ?_
              rotate_left
              · ((intro w hSw); (try dsimp only at hSw); go_simp; (try with_reducible rfl))
              try simp only [Act.put, List.setIfInBounds_toArray, List.set_cons_zero, List.set_cons_succ]
              refine wpAnyH_done (by kernel_rfl) ?_ _
              go_wp2_with (go_at_call 23; (with_reducible refine (pfirst _ (tabR_then hHeld HTz.out) (tabB_then hHeld HBz.out)).mono ?_); rintro e wf ⟨rfl, ba⟩; have HBF := Lib.hid (below_then hHeld ba hHeld.size); clear ba)
              go_ret
              exact ⟨rfl, below_then HBA8.out (below_then HQZ.out HBF.out HQZ.out.size) HBA8.out.size⟩
        · have HNE1 := Lib.hid c1
          have HD1 := Lib.hid (show false = decide (TT1 = t.drop E) from (decide_eq_false (by rw [HT1.out]; exact c1)).symm)
          clear c1
          by_cases c2 : tagL oth (X.take E) = X.drop E
          · have HNE2 := Lib.hid c2
            have HD2 := Lib.hid (show true = decide (TT2 = X.drop E) from (decide_eq_true (by rw [HT2.out]; exact c2)).symm)
            clear c2
            go_wp2_with (first
              | (go_at_call 27; (with_reducible refine (openTagG g 0 gc X.length key.length t ka kc key w8 E HTL.out rfl HTE.out HE10.out HT8.out HTC.out (cells_of_sl (sl_then HR0.out (Nat.le_refl _) HTS8.out)) HTX.out (sl_then HR0.out (Nat.le_refl _) HKS8.out) HK0.out HKC.out HKX.out HK8.out (tabR_then HR0.out HT8R.out) (tabB_then HR0.out HT8B.out) HNE1.out).mono ?_); rintro e wq31 ⟨rfl, bq⟩; have HQ31 := Lib.hid (below_then HR0.out bq HR0.out.size); have X_31 := Lib.hid (sl_then bq (Nat.le_refl _) HX8.out); clear bq; clear p0 p1 p2 p3; obtain ⟨p0, p1, p2, p3⟩ := CL.out _ HQ31.out)
              | (go_at_call 27; (with_reducible refine (openAny xb xo xc X.length oth.length X oa oc oth _ E rfl rfl HXE16.out HE10.out HX80.out HKXC.out (cells_of_sl (sl_alloc X_31.out _)) HXX.out (sl_alloc (sl_then HQ31.out (Nat.le_refl _) HOS8.out) _) HO0.out HOC.out HOX.out HO8.out (tabR_then (HQ31.out.alloc HQ31.out.size _) HT8R.out) (tabB_then (HQ31.out.alloc HQ31.out.size _) HT8B.out) HNE2.out).mono ?_); rintro e wq32 ⟨d5, v5, n5, x5, sa5, sn5, sc5, rfl, bq⟩; have HQ32 := Lib.hid (step1 HQ31.out _ bq); have X_32 := Lib.hid (sl_then bq (Nat.le_refl _) (sl_alloc X_31.out _)); clear bq; clear p0 p1 p2 p3; obtain ⟨p0, p1, p2, p3⟩ := CL.out _ HQ32.out))
            have HQZ := Lib.hid (HQ32.out.alloc HQ32.out.size (.cells #[.int .i64 d5, .int .i64 v5, .int .u64 n5, .slice sa5 sn5 sc5] 35))
            clear p0 p1 p2 p3
            as_aux_lemma =>
              generalize (wq32.alloc (.cells #[.int .i64 d5, .int .i64 v5, .int .u64 n5, .slice sa5 sn5 sc5] 35)) = wz at *
              have HKSz := Lib.hid (sl_then HQZ.out (Nat.le_refl _) HKS8.out)
              have HOSz := Lib.hid (sl_then HQZ.out (Nat.le_refl _) HOS8.out)
              have HTz := Lib.hid (tabR_then HQZ.out HT8R.out)
              have HBz := Lib.hid (tabB_then HQZ.out HT8B.out)
              have HXz := Lib.hid (sl_then HQZ.out (Nat.le_refl _) HX8.out)
              have HTSz := Lib.hid (sl_then HQZ.out (Nat.le_refl _) HTS8.out)
              obtain ⟨pa1, pc1, pa2, pc2, hs1, hs2, pt1, pt2⟩ := part_two (ra := some ⟨g, 0, none⟩) (rc := gc) (n := X.length) HTL.out HTSz.out (fun h => by cases h) HTC.out HTX.out E HEX.out
              obtain ⟨qa1, qc1, qa2, qc2, gs1, gs2, qt1, qt2⟩ := part_two (ra := some ⟨xb, xo, none⟩) (rc := xc) (n := X.length) rfl HXz.out (fun h => by cases h) HKXC.out HXX.out E HEX.out
              rw [HX16.out] at hs2 gs2
              have HP1 := Lib.hid pt1
              have HP2 := Lib.hid pt2
              have HP3 := Lib.hid qt1
              have HP4 := Lib.hid qt2
              clear pt1 pt2 qt1 qt2
              go_wp2_with fail
              refine wp_region_held_drew (S := (fun W => Below wz.heap.size wz W)) (by kernel_rfl) ?_ (fun hHeld => ?_)
              · ((try dsimp only); (first | (with_reducible exact hN) | (with_reducible exact hHeld) | exact hN.drew | exact hHeld.drew | exact (Below.refl _ _).drew | exact Below.refl _ _))
              refine wpAnyH_take (i := 0) (oi := { dst := some 112, op := Op.move (Operand.tmp 0), type := 22, pos := _, after := #[], guard := none }) (v := ?_) rfl (by kernel_rfl) (by kernel_rfl) (by kernel_rfl) (fun _ _ _ h => h) (Or.inl ⟨by rfl, ?_⟩) (by assumption) ?_
              rotate_left
              · ((intro w hSw); (try dsimp only at hSw); go_simp; (try with_reducible rfl))
              try simp only [Act.put, List.setIfInBounds_toArray, List.set_cons_zero, List.set_cons_succ]
              refine wpAnyH_take (i := 1) (oi := { dst := some 113, op := Op.move (Operand.tmp 14), type := 22, pos := _, after := #[], guard := none }) (v := ?_) rfl (by kernel_rfl) (by kernel_rfl) (by kernel_rfl) (fun _ _ _ h => h) (Or.inl ⟨by rfl, ?_⟩) (by assumption) ?_
              rotate_left
              · ((intro w hSw); (try dsimp only at hSw); go_simp; (try with_reducible rfl))
              try simp only [Act.put, List.setIfInBounds_toArray, List.set_cons_zero, List.set_cons_succ]
              refine wpAnyH_take (i := 2) (oi := { dst := some 114, op := Op.move (Operand.tmp 13), type := 3, pos := _, after := #[], guard := none }) (v := ?_) rfl (by kernel_rfl) (by kernel_rfl) (by kernel_rfl) (fun _ _ _ h => h) (Or.inl ⟨by rfl, ?_⟩) (by assumption) ?_
              rotate_left
              · ((intro w hSw); (try dsimp only at hSw); go_simp; (try with_reducible rfl))
              try simp only [Act.put, List.setIfInBounds_toArray, List.set_cons_zero, List.set_cons_succ]
              refine wpAnyH_take (i := 3) (oi := { dst := some 115, op := Op.slice 22 (Operand.tmp 113) none (some (Operand.tmp 114)) none, type := 22, pos := _, after := #[{ on := 1, ground := Ground.data }, { on := 2, ground := Ground.data }], guard := none }) (v := ?_) rfl (by kernel_rfl) (by kernel_rfl) (by kernel_rfl) (fun _ _ _ h => h) (Or.inl ⟨by rfl, ?_⟩) (by assumption) ?_
              rotate_left
              · ((intro w hSw); (try dsimp only at hSw); go_simp; (try with_reducible rfl))
              try simp only [Act.put, List.setIfInBounds_toArray, List.set_cons_zero, List.set_cons_succ]
              refine wpAnyH_take (i := 5) (oi := { dst := some 117, op := Op.move (Operand.tmp 14), type := 22, pos := _, after := #[], guard := none }) (v := ?_) rfl (by kernel_rfl) (by kernel_rfl) (by kernel_rfl) (fun _ _ _ h => h) (Or.inl ⟨by rfl, ?_⟩) (by assumption) ?_
              rotate_left
              · ((intro w hSw); (try dsimp only at hSw); go_simp; (try with_reducible rfl))
              try simp only [Act.put, List.setIfInBounds_toArray, List.set_cons_zero, List.set_cons_succ]
              refine wpAnyH_take (i := 6) (oi := { dst := some 118, op := Op.move (Operand.tmp 13), type := 3, pos := _, after := #[], guard := none }) (v := ?_) rfl (by kernel_rfl) (by kernel_rfl) (by kernel_rfl) (fun _ _ _ h => h) (Or.inl ⟨by rfl, ?_⟩) (by assumption) ?_
              rotate_left
              · ((intro w hSw); (try dsimp only at hSw); go_simp; (try with_reducible rfl))
              try simp only [Act.put, List.setIfInBounds_toArray, List.set_cons_zero, List.set_cons_succ]
              refine wpAnyH_take (i := 7) (oi := { dst := some 119, op := Op.slice 22 (Operand.tmp 117) (some (Operand.tmp 118)) none none, type := 22, pos := _, after := #[{ on := 5, ground := Ground.data }, { on := 6, ground := Ground.data }], guard := none }) (v := ?_) rfl (by kernel_rfl) (by kernel_rfl) (by kernel_rfl) (fun _ _ _ h => h) (Or.inl ⟨by rfl, ?_⟩) (by assumption) ?_
              rotate_left
              · ((intro w hSw); (try dsimp only at hSw); go_simp; (try with_reducible rfl))
              try simp only [Act.put, List.setIfInBounds_toArray, List.set_cons_zero, List.set_cons_succ]
              refine wpAnyH_ready (rs := [4]) (by kernel_rfl) (by simp) ?_
              refine (AllReadyH.cons (o := { dst := some 116, op := Op.call { callee := Callee.value (Operand.func 21), args := #[Operand.tmp 112, Operand.tmp 115], argTypes := #[22, 22] }, type := 22, pos := _, after := #[{ on := 0, ground := Ground.data }, { on := 3, ground := Ground.data }], guard := none }) rfl (fun K hK => ?_) AllReadyH.nil)
              go_simp
              (go_at_call 21; (with_reducible refine (dtgK ka key.length kc key TT1 pa1 E pc1 (t.take E) _ HT1.out rfl HEL1.out (sl_then hHeld (Nat.le_refl _) HKSz.out) HK0.out HKC.out HKX.out HK8.out (sl_then hHeld (Nat.le_refl _) HP1.out.1) HP1.out.2.1 HP1.out.2.2.1 HP1.out.2.2.2 HP81.out).mono ?_); rintro e wt1 ⟨ga1, gc1, rfl, lg, _, _, ba⟩; have HGA1 := Lib.hid lg; have hN := below_then hHeld ba hHeld.size; clear ba lg)
              go_wp2_with fail
              refine hK.out _ _ ?_ (fun hHeld => ?_)
              · ((try dsimp only); (first | (with_reducible exact hN) | (with_reducible exact hHeld) | exact hN.drew | exact hHeld.drew | exact (Below.refl _ _).drew | exact Below.refl _ _))
              clear hK K
              try simp only [Act.put, List.setIfInBounds_toArray, List.set_cons_zero, List.set_cons_succ]
              refine wpAnyH_ready (rs := [8]) (by kernel_rfl) (by simp) ?_
              refine (AllReadyH.cons (o := { dst := some 120, op := Op.call { callee := Callee.value (Operand.func 15), args := #[Operand.tmp 116, Operand.tmp 119], argTypes := #[22, 22] }, type := 4, pos := _, after := #[{ on := 4, ground := Ground.data }, { on := 7, ground := Ground.data }, { on := 4, ground := Ground.chain }], guard := none }) rfl (fun K hK => ?_) AllReadyH.nil)
              go_simp
              (go_at_call 15; (with_reducible refine (bytesD ga1 pa2 gc1 pc2 16 16 TT1 (t.drop E) _ false HT1L.out HR1L.out HGA1.out (sl_then hHeld (Nat.le_refl _) HP2.out.1) HT1X.out HP2.out.2.2.2 HD1.out).mono ?_); rintro e wb ⟨rfl, rfl⟩)
              go_wp2_with fail
              refine hK.out _ _ ?_ (fun hHeld => ?_)
              · ((try dsimp only); (first | (with_reducible exact hN) | (with_reducible exact hHeld) | exact hN.drew | exact hHeld.drew | exact (Below.refl _ _).drew | exact Below.refl _ _))
              clear hK K
              try simp only [Act.put, List.setIfInBounds_toArray, List.set_cons_zero, List.set_cons_succ]
              refine wpAnyH_take (i := 9) (oi := { dst := some 20, op := Op.assign (Operand.tmp 120), type := 4, pos := _, after := #[{ on := 8, ground := Ground.data }, { on := 8, ground := Ground.chain }, { on := 0, ground := Ground.phase }, { on := 1, ground := Ground.phase }, { on := 2, ground := Ground.phase }, { on := 3, ground := Ground.phase }, { on := 4, ground := Ground.phase }, { on := 5, ground := Ground.phase }, { on := 6, ground := Ground.phase }, { on := 7, ground := Ground.phase }, { on := 8, ground := Ground.phase }], guard := none }) (v := ?_) rfl (by kernel_rfl) (by kernel_rfl) (by kernel_rfl) (fun _ _ _ h => h) (Or.inl ⟨by rfl, ?_⟩) (by assumption) ?_
              rotate_left
              · ((intro w hSw); (try dsimp only at hSw); go_simp; (try with_reducible rfl))
              try simp only [Act.put, List.setIfInBounds_toArray, List.set_cons_zero, List.set_cons_succ]
              refine wpAnyH_done (by kernel_rfl) ?_ _
              clear hs1 hs2 hN
              go_wp2_with fail
              refine wp_region_held_drew (S := (fun W => Below wz.heap.size wz W)) (by kernel_rfl) ?_ (fun hHeld => ?_)
              · ((try dsimp only); (first | (with_reducible exact hN) | (with_reducible exact hHeld) | exact hN.drew | exact hHeld.drew | exact (Below.refl _ _).drew | exact Below.refl _ _))
              refine wpAnyH_take (i := 0) (oi := { dst := some 121, op := Op.move (Operand.tmp 1), type := 22, pos := _, after := #[], guard := none }) (v := ?_) rfl (by kernel_rfl) (by kernel_rfl) (by kernel_rfl) (fun _ _ _ h => h) (Or.inl ⟨by rfl, ?_⟩) (by assumption) ?_
              rotate_left
              · ((intro w hSw); (try dsimp only at hSw); go_simp; (try with_reducible rfl))
              try simp only [Act.put, List.setIfInBounds_toArray, List.set_cons_zero, List.set_cons_succ]
              refine wpAnyH_take (i := 1) (oi := { dst := some 122, op := Op.move (Operand.tmp 9), type := 22, pos := _, after := #[], guard := none }) (v := ?_) rfl (by kernel_rfl) (by kernel_rfl) (by kernel_rfl) (fun _ _ _ h => h) (Or.inl ⟨by rfl, ?_⟩) (by assumption) ?_
              rotate_left
              · ((intro w hSw); (try dsimp only at hSw); go_simp; (try with_reducible rfl))
              try simp only [Act.put, List.setIfInBounds_toArray, List.set_cons_zero, List.set_cons_succ]
              refine wpAnyH_take (i := 2) (oi := { dst := some 123, op := Op.move (Operand.tmp 13), type := 3, pos := _, after := #[], guard := none }) (v := ?_) rfl (by kernel_rfl) (by kernel_rfl) (by kernel_rfl) (fun _ _ _ h => h) (Or.inl ⟨by rfl, ?_⟩) (by assumption) ?_
              rotate_left
              · ((intro w hSw); (try dsimp only at hSw); go_simp; (try with_reducible rfl))
              try simp only [Act.put, List.setIfInBounds_toArray, List.set_cons_zero, List.set_cons_succ]
              refine wpAnyH_take (i := 3) (oi := { dst := some 124, op := Op.slice 22 (Operand.tmp 122) none (some (Operand.tmp 123)) none, type := 22, pos := _, after := #[{ on := 1, ground := Ground.data }, { on := 2, ground := Ground.data }], guard := none }) (v := ?_) rfl (by kernel_rfl) (by kernel_rfl) (by kernel_rfl) (fun _ _ _ h => h) (Or.inl ⟨by rfl, ?_⟩) (by assumption) ?_
              rotate_left
              · ((intro w hSw); (try dsimp only at hSw); go_simp; (try with_reducible rfl))
              try simp only [Act.put, List.setIfInBounds_toArray, List.set_cons_zero, List.set_cons_succ]
              refine wpAnyH_take (i := 5) (oi := { dst := some 126, op := Op.move (Operand.tmp 9), type := 22, pos := _, after := #[], guard := none }) (v := ?_) rfl (by kernel_rfl) (by kernel_rfl) (by kernel_rfl) (fun _ _ _ h => h) (Or.inl ⟨by rfl, ?_⟩) (by assumption) ?_
              rotate_left
              · ((intro w hSw); (try dsimp only at hSw); go_simp; (try with_reducible rfl))
              try simp only [Act.put, List.setIfInBounds_toArray, List.set_cons_zero, List.set_cons_succ]
              refine wpAnyH_take (i := 6) (oi := { dst := some 127, op := Op.move (Operand.tmp 13), type := 3, pos := _, after := #[], guard := none }) (v := ?_) rfl (by kernel_rfl) (by kernel_rfl) (by kernel_rfl) (fun _ _ _ h => h) (Or.inl ⟨by rfl, ?_⟩) (by assumption) ?_
              rotate_left
              · ((intro w hSw); (try dsimp only at hSw); go_simp; (try with_reducible rfl))
              try simp only [Act.put, List.setIfInBounds_toArray, List.set_cons_zero, List.set_cons_succ]
              refine wpAnyH_take (i := 7) (oi := { dst := some 128, op := Op.slice 22 (Operand.tmp 126) (some (Operand.tmp 127)) none none, type := 22, pos := _, after := #[{ on := 5, ground := Ground.data }, { on := 6, ground := Ground.data }], guard := none }) (v := ?_) rfl (by kernel_rfl) (by kernel_rfl) (by kernel_rfl) (fun _ _ _ h => h) (Or.inl ⟨by rfl, ?_⟩) (by assumption) ?_
              rotate_left
              · ((intro w hSw); (try dsimp only at hSw); go_simp; (try with_reducible rfl))
              try simp only [Act.put, List.setIfInBounds_toArray, List.set_cons_zero, List.set_cons_succ]
              refine wpAnyH_ready (rs := [4]) (by kernel_rfl) (by simp) ?_
              refine (AllReadyH.cons (o := { dst := some 125, op := Op.call { callee := Callee.value (Operand.func 21), args := #[Operand.tmp 121, Operand.tmp 124], argTypes := #[22, 22] }, type := 22, pos := _, after := #[{ on := 0, ground := Ground.data }, { on := 3, ground := Ground.data }], guard := none }) rfl (fun K hK => ?_) AllReadyH.nil)
              go_simp
              (go_at_call 21; (with_reducible refine (dtgK oa oth.length oc oth TT2 qa1 E qc1 (X.take E) _ HT2.out rfl HEL2.out (sl_then hHeld (Nat.le_refl _) HOSz.out) HO0.out HOC.out HOX.out HO8.out (sl_then hHeld (Nat.le_refl _) HP3.out.1) HP3.out.2.1 HP3.out.2.2.1 HP3.out.2.2.2 HP82.out).mono ?_); rintro e wt2 ⟨ga2, gc2, rfl, lg, _, _, ba⟩; have HGA2 := Lib.hid lg; have hN := below_then hHeld ba hHeld.size; clear ba lg)
              go_wp2_with fail
              refine hK.out _ _ ?_ (fun hHeld => ?_)
              · ((try dsimp only); (first | (with_reducible exact hN) | (with_reducible exact hHeld) | exact hN.drew | exact hHeld.drew | exact (Below.refl _ _).drew | exact Below.refl _ _))
              clear hK K
              try simp only [Act.put, List.setIfInBounds_toArray, List.set_cons_zero, List.set_cons_succ]
              refine wpAnyH_ready (rs := [8]) (by kernel_rfl) (by simp) ?_
              refine (AllReadyH.cons (o := { dst := some 129, op := Op.call { callee := Callee.value (Operand.func 15), args := #[Operand.tmp 125, Operand.tmp 128], argTypes := #[22, 22] }, type := 4, pos := _, after := #[{ on := 4, ground := Ground.data }, { on := 7, ground := Ground.data }, { on := 4, ground := Ground.chain }], guard := none }) rfl (fun K hK => ?_) AllReadyH.nil)
              go_simp
              (go_at_call 15; (with_reducible refine (bytesD ga2 qa2 gc2 qc2 16 16 TT2 (X.drop E) _ true HT2L.out HR2L.out HGA2.out (sl_then hHeld (Nat.le_refl _) HP4.out.1) HT2X.out HP4.out.2.2.2 HD2.out).mono ?_); rintro e wb ⟨rfl, rfl⟩)
              go_wp2_with fail
              refine hK.out _ _ ?_ (fun hHeld => ?_)
              · ((try dsimp only); (first | (with_reducible exact hN) | (with_reducible exact hHeld) | exact hN.drew | exact hHeld.drew | exact (Below.refl _ _).drew | exact Below.refl _ _))
              clear hK K
              try simp only [Act.put, List.setIfInBounds_toArray, List.set_cons_zero, List.set_cons_succ]
              refine wpAnyH_take (i := 9) (oi := { dst := some 21, op := Op.assign (Operand.tmp 129), type := 4, pos := _, after := #[{ on := 8, ground := Ground.data }, { on := 8, ground := Ground.chain }, { on := 0, ground := Ground.phase }, { on := 1, ground := Ground.phase }, { on := 2, ground := Ground.phase }, { on := 3, ground := Ground.phase }, { on := 4, ground := Ground.phase }, { on := 5, ground := Ground.phase }, { on := 6, ground := Ground.phase }, { on := 7, ground := Ground.phase }, { on := 8, ground := Ground.phase }], guard := none }) (v := ?_) rfl (by kernel_rfl) (by kernel_rfl) (by kernel_rfl) (fun _ _ _ h => h) (Or.inl ⟨by rfl, ?_⟩) (by assumption) ?_
              rotate_left
              · ((intro w hSw); (try dsimp only at hSw); go_simp; (try with_reducible rfl))
              try simp only [Act.put, List.setIfInBounds_toArray, List.set_cons_zero, List.set_cons_succ]
              refine wpAnyH_done (by kernel_rfl) ?_ _
              go_wp2_with (go_at_call 23; (with_reducible refine (pfirst _ (tabR_then hHeld HTz.out) (tabB_then hHeld HBz.out)).mono ?_); rintro e wf ⟨rfl, ba⟩; have HBF := Lib.hid (below_then hHeld ba hHeld.size); clear ba)
              go_ret
              exact ⟨rfl, below_then HBA8.out (below_then HQZ.out HBF.out HQZ.out.size) HBA8.out.size⟩
          · have HNE2 := Lib.hid c2
            have HD2 := Lib.hid (show false = decide (TT2 = X.drop E) from (decide_eq_false (by rw [HT2.out]; exact c2)).symm)
            clear c2
            go_wp2_with (first
              | (go_at_call 27; (with_reducible refine (openTagG g 0 gc X.length key.length t ka kc key w8 E HTL.out rfl HTE.out HE10.out HT8.out HTC.out (cells_of_sl (sl_then HR0.out (Nat.le_refl _) HTS8.out)) HTX.out (sl_then HR0.out (Nat.le_refl _) HKS8.out) HK0.out HKC.out HKX.out HK8.out (tabR_then HR0.out HT8R.out) (tabB_then HR0.out HT8B.out) HNE1.out).mono ?_); rintro e wq31 ⟨rfl, bq⟩; have HQ31 := Lib.hid (below_then HR0.out bq HR0.out.size); have X_31 := Lib.hid (sl_then bq (Nat.le_refl _) HX8.out); clear bq; clear p0 p1 p2 p3; obtain ⟨p0, p1, p2, p3⟩ := CL.out _ HQ31.out)
              | (go_at_call 27; (with_reducible refine (openTagG xb xo xc X.length oth.length X oa oc oth _ E rfl rfl HXE16.out HE10.out HX80.out HKXC.out (cells_of_sl (sl_alloc X_31.out _)) HXX.out (sl_alloc (sl_then HQ31.out (Nat.le_refl _) HOS8.out) _) HO0.out HOC.out HOX.out HO8.out (tabR_then (HQ31.out.alloc HQ31.out.size _) HT8R.out) (tabB_then (HQ31.out.alloc HQ31.out.size _) HT8B.out) HNE2.out).mono ?_); rintro e wq32 ⟨rfl, bq⟩; have HQ32 := Lib.hid (step1 HQ31.out _ bq); have X_32 := Lib.hid (sl_then bq (Nat.le_refl _) (sl_alloc X_31.out _)); clear bq; clear p0 p1 p2 p3; obtain ⟨p0, p1, p2, p3⟩ := CL.out _ HQ32.out))
            have HQZ := Lib.hid (HQ32.out.alloc HQ32.out.size (.cells #[.int .i64 0, .int .i64 0, .int .u64 0, .slice none 0 0] 35))
            clear p0 p1 p2 p3
            as_aux_lemma =>
              generalize (wq32.alloc (.cells #[.int .i64 0, .int .i64 0, .int .u64 0, .slice none 0 0] 35)) = wz at *
              have HKSz := Lib.hid (sl_then HQZ.out (Nat.le_refl _) HKS8.out)
              have HOSz := Lib.hid (sl_then HQZ.out (Nat.le_refl _) HOS8.out)
              have HTz := Lib.hid (tabR_then HQZ.out HT8R.out)
              have HBz := Lib.hid (tabB_then HQZ.out HT8B.out)
              have HXz := Lib.hid (sl_then HQZ.out (Nat.le_refl _) HX8.out)
              have HTSz := Lib.hid (sl_then HQZ.out (Nat.le_refl _) HTS8.out)
              obtain ⟨pa1, pc1, pa2, pc2, hs1, hs2, pt1, pt2⟩ := part_two (ra := some ⟨g, 0, none⟩) (rc := gc) (n := X.length) HTL.out HTSz.out (fun h => by cases h) HTC.out HTX.out E HEX.out
              obtain ⟨qa1, qc1, qa2, qc2, gs1, gs2, qt1, qt2⟩ := part_two (ra := some ⟨xb, xo, none⟩) (rc := xc) (n := X.length) rfl HXz.out (fun h => by cases h) HKXC.out HXX.out E HEX.out
              rw [HX16.out] at hs2 gs2
              have HP1 := Lib.hid pt1
              have HP2 := Lib.hid pt2
              have HP3 := Lib.hid qt1
              have HP4 := Lib.hid qt2
              clear pt1 pt2 qt1 qt2
              go_wp2_with fail
              refine wp_region_held_drew (S := (fun W => Below wz.heap.size wz W)) (by kernel_rfl) ?_ (fun hHeld => ?_)
              · ((try dsimp only); (first | (with_reducible exact hN) | (with_reducible exact hHeld) | exact hN.drew | exact hHeld.drew | exact (Below.refl _ _).drew | exact Below.refl _ _))
              refine wpAnyH_take (i := 0) (oi := { dst := some 112, op := Op.move (Operand.tmp 0), type := 22, pos := _, after := #[], guard := none }) (v := ?_) rfl (by kernel_rfl) (by kernel_rfl) (by kernel_rfl) (fun _ _ _ h => h) (Or.inl ⟨by rfl, ?_⟩) (by assumption) ?_
              rotate_left
              · ((intro w hSw); (try dsimp only at hSw); go_simp; (try with_reducible rfl))
              try simp only [Act.put, List.setIfInBounds_toArray, List.set_cons_zero, List.set_cons_succ]
              refine wpAnyH_take (i := 1) (oi := { dst := some 113, op := Op.move (Operand.tmp 14), type := 22, pos := _, after := #[], guard := none }) (v := ?_) rfl (by kernel_rfl) (by kernel_rfl) (by kernel_rfl) (fun _ _ _ h => h) (Or.inl ⟨by rfl, ?_⟩) (by assumption) ?_
              rotate_left
              · ((intro w hSw); (try dsimp only at hSw); go_simp; (try with_reducible rfl))
              try simp only [Act.put, List.setIfInBounds_toArray, List.set_cons_zero, List.set_cons_succ]
              refine wpAnyH_take (i := 2) (oi := { dst := some 114, op := Op.move (Operand.tmp 13), type := 3, pos := _, after := #[], guard := none }) (v := ?_) rfl (by kernel_rfl) (by kernel_rfl) (by kernel_rfl) (fun _ _ _ h => h) (Or.inl ⟨by rfl, ?_⟩) (by assumption) ?_
              rotate_left
              · ((intro w hSw); (try dsimp only at hSw); go_simp; (try with_reducible rfl))
              try simp only [Act.put, List.setIfInBounds_toArray, List.set_cons_zero, List.set_cons_succ]
              refine wpAnyH_take (i := 3) (oi := { dst := some 115, op := Op.slice 22 (Operand.tmp 113) none (some (Operand.tmp 114)) none, type := 22, pos := _, after := #[{ on := 1, ground := Ground.data }, { on := 2, ground := Ground.data }], guard := none }) (v := ?_) rfl (by kernel_rfl) (by kernel_rfl) (by kernel_rfl) (fun _ _ _ h => h) (Or.inl ⟨by rfl, ?_⟩) (by assumption) ?_
              rotate_left
              · ((intro w hSw); (try dsimp only at hSw); go_simp; (try with_reducible rfl))
              try simp only [Act.put, List.setIfInBounds_toArray, List.set_cons_zero, List.set_cons_succ]
              refine wpAnyH_take (i := 5) (oi := { dst := some 117, op := Op.move (Operand.tmp 14), type := 22, pos := _, after := #[], guard := none }) (v := ?_) rfl (by kernel_rfl) (by kernel_rfl) (by kernel_rfl) (fun _ _ _ h => h) (Or.inl ⟨by rfl, ?_⟩) (by assumption) ?_
              rotate_left
              · ((intro w hSw); (try dsimp only at hSw); go_simp; (try with_reducible rfl))
              try simp only [Act.put, List.setIfInBounds_toArray, List.set_cons_zero, List.set_cons_succ]
              refine wpAnyH_take (i := 6) (oi := { dst := some 118, op := Op.move (Operand.tmp 13), type := 3, pos := _, after := #[], guard := none }) (v := ?_) rfl (by kernel_rfl) (by kernel_rfl) (by kernel_rfl) (fun _ _ _ h => h) (Or.inl ⟨by rfl, ?_⟩) (by assumption) ?_
              rotate_left
              · ((intro w hSw); (try dsimp only at hSw); go_simp; (try with_reducible rfl))
              try simp only [Act.put, List.setIfInBounds_toArray, List.set_cons_zero, List.set_cons_succ]
              refine wpAnyH_take (i := 7) (oi := { dst := some 119, op := Op.slice 22 (Operand.tmp 117) (some (Operand.tmp 118)) none none, type := 22, pos := _, after := #[{ on := 5, ground := Ground.data }, { on := 6, ground := Ground.data }], guard := none }) (v := ?_) rfl (by kernel_rfl) (by kernel_rfl) (by kernel_rfl) (fun _ _ _ h => h) (Or.inl ⟨by rfl, ?_⟩) (by assumption) ?_
              rotate_left
              · ((intro w hSw); (try dsimp only at hSw); go_simp; (try with_reducible rfl))
              try simp only [Act.put, List.setIfInBounds_toArray, List.set_cons_zero, List.set_cons_succ]
              refine wpAnyH_ready (rs := [4]) (by kernel_rfl) (by simp) ?_
              refine (AllReadyH.cons (o := { dst := some 116, op := Op.call { callee := Callee.value (Operand.func 21), args := #[Operand.tmp 112, Operand.tmp 115], argTypes := #[22, 22] }, type := 22, pos := _, after := #[{ on := 0, ground := Ground.data }, { on := 3, ground := Ground.data }], guard := none }) rfl (fun K hK => ?_) AllReadyH.nil)
              go_simp
              (go_at_call 21; (with_reducible refine (dtgK ka key.length kc key TT1 pa1 E pc1 (t.take E) _ HT1.out rfl HEL1.out (sl_then hHeld (Nat.le_refl _) HKSz.out) HK0.out HKC.out HKX.out HK8.out (sl_then hHeld (Nat.le_refl _) HP1.out.1) HP1.out.2.1 HP1.out.2.2.1 HP1.out.2.2.2 HP81.out).mono ?_); rintro e wt1 ⟨ga1, gc1, rfl, lg, _, _, ba⟩; have HGA1 := Lib.hid lg; have hN := below_then hHeld ba hHeld.size; clear ba lg)
              go_wp2_with fail
              refine hK.out _ _ ?_ (fun hHeld => ?_)
              · ((try dsimp only); (first | (with_reducible exact hN) | (with_reducible exact hHeld) | exact hN.drew | exact hHeld.drew | exact (Below.refl _ _).drew | exact Below.refl _ _))
              clear hK K
              try simp only [Act.put, List.setIfInBounds_toArray, List.set_cons_zero, List.set_cons_succ]
              refine wpAnyH_ready (rs := [8]) (by kernel_rfl) (by simp) ?_
              refine (AllReadyH.cons (o := { dst := some 120, op := Op.call { callee := Callee.value (Operand.func 15), args := #[Operand.tmp 116, Operand.tmp 119], argTypes := #[22, 22] }, type := 4, pos := _, after := #[{ on := 4, ground := Ground.data }, { on := 7, ground := Ground.data }, { on := 4, ground := Ground.chain }], guard := none }) rfl (fun K hK => ?_) AllReadyH.nil)
              go_simp
              (go_at_call 15; (with_reducible refine (bytesD ga1 pa2 gc1 pc2 16 16 TT1 (t.drop E) _ false HT1L.out HR1L.out HGA1.out (sl_then hHeld (Nat.le_refl _) HP2.out.1) HT1X.out HP2.out.2.2.2 HD1.out).mono ?_); rintro e wb ⟨rfl, rfl⟩)
              go_wp2_with fail
              refine hK.out _ _ ?_ (fun hHeld => ?_)
              · ((try dsimp only); (first | (with_reducible exact hN) | (with_reducible exact hHeld) | exact hN.drew | exact hHeld.drew | exact (Below.refl _ _).drew | exact Below.refl _ _))
              clear hK K
              try simp only [Act.put, List.setIfInBounds_toArray, List.set_cons_zero, List.set_cons_succ]
              refine wpAnyH_take (i := 9) (oi := { dst := some 20, op := Op.assign (Operand.tmp 120), type := 4, pos := _, after := #[{ on := 8, ground := Ground.data }, { on := 8, ground := Ground.chain }, { on := 0, ground := Ground.phase }, { on := 1, ground := Ground.phase }, { on := 2, ground := Ground.phase }, { on := 3, ground := Ground.phase }, { on := 4, ground := Ground.phase }, { on := 5, ground := Ground.phase }, { on := 6, ground := Ground.phase }, { on := 7, ground := Ground.phase }, { on := 8, ground := Ground.phase }], guard := none }) (v := ?_) rfl (by kernel_rfl) (by kernel_rfl) (by kernel_rfl) (fun _ _ _ h => h) (Or.inl ⟨by rfl, ?_⟩) (by assumption) ?_
              rotate_left
              · ((intro w hSw); (try dsimp only at hSw); go_simp; (try with_reducible rfl))
              try simp only [Act.put, List.setIfInBounds_toArray, List.set_cons_zero, List.set_cons_succ]
              refine wpAnyH_done (by kernel_rfl) ?_ _
              clear hs1 hs2 hN
              go_wp2_with fail
              refine wp_region_held_drew (S := (fun W => Below wz.heap.size wz W)) (by kernel_rfl) ?_ (fun hHeld => ?_)
              · ((try dsimp only); (first | (with_reducible exact hN) | (with_reducible exact hHeld) | exact hN.drew | exact hHeld.drew | exact (Below.refl _ _).drew | exact Below.refl _ _))
              refine wpAnyH_take (i := 0) (oi := { dst := some 121, op := Op.move (Operand.tmp 1), type := 22, pos := _, after := #[], guard := none }) (v := ?_) rfl (by kernel_rfl) (by kernel_rfl) (by kernel_rfl) (fun _ _ _ h => h) (Or.inl ⟨by rfl, ?_⟩) (by assumption) ?_
              rotate_left
              · ((intro w hSw); (try dsimp only at hSw); go_simp; (try with_reducible rfl))
              try simp only [Act.put, List.setIfInBounds_toArray, List.set_cons_zero, List.set_cons_succ]
              refine wpAnyH_take (i := 1) (oi := { dst := some 122, op := Op.move (Operand.tmp 9), type := 22, pos := _, after := #[], guard := none }) (v := ?_) rfl (by kernel_rfl) (by kernel_rfl) (by kernel_rfl) (fun _ _ _ h => h) (Or.inl ⟨by rfl, ?_⟩) (by assumption) ?_
              rotate_left
              · ((intro w hSw); (try dsimp only at hSw); go_simp; (try with_reducible rfl))
              try simp only [Act.put, List.setIfInBounds_toArray, List.set_cons_zero, List.set_cons_succ]
              refine wpAnyH_take (i := 2) (oi := { dst := some 123, op := Op.move (Operand.tmp 13), type := 3, pos := _, after := #[], guard := none }) (v := ?_) rfl (by kernel_rfl) (by kernel_rfl) (by kernel_rfl) (fun _ _ _ h => h) (Or.inl ⟨by rfl, ?_⟩) (by assumption) ?_
              rotate_left
              · ((intro w hSw); (try dsimp only at hSw); go_simp; (try with_reducible rfl))
              try simp only [Act.put, List.setIfInBounds_toArray, List.set_cons_zero, List.set_cons_succ]
              refine wpAnyH_take (i := 3) (oi := { dst := some 124, op := Op.slice 22 (Operand.tmp 122) none (some (Operand.tmp 123)) none, type := 22, pos := _, after := #[{ on := 1, ground := Ground.data }, { on := 2, ground := Ground.data }], guard := none }) (v := ?_) rfl (by kernel_rfl) (by kernel_rfl) (by kernel_rfl) (fun _ _ _ h => h) (Or.inl ⟨by rfl, ?_⟩) (by assumption) ?_
              rotate_left
              · ((intro w hSw); (try dsimp only at hSw); go_simp; (try with_reducible rfl))
              try simp only [Act.put, List.setIfInBounds_toArray, List.set_cons_zero, List.set_cons_succ]
              refine wpAnyH_take (i := 5) (oi := { dst := some 126, op := Op.move (Operand.tmp 9), type := 22, pos := _, after := #[], guard := none }) (v := ?_) rfl (by kernel_rfl) (by kernel_rfl) (by kernel_rfl) (fun _ _ _ h => h) (Or.inl ⟨by rfl, ?_⟩) (by assumption) ?_
              rotate_left
              · ((intro w hSw); (try dsimp only at hSw); go_simp; (try with_reducible rfl))
              try simp only [Act.put, List.setIfInBounds_toArray, List.set_cons_zero, List.set_cons_succ]
              refine wpAnyH_take (i := 6) (oi := { dst := some 127, op := Op.move (Operand.tmp 13), type := 3, pos := _, after := #[], guard := none }) (v := ?_) rfl (by kernel_rfl) (by kernel_rfl) (by kernel_rfl) (fun _ _ _ h => h) (Or.inl ⟨by rfl, ?_⟩) (by assumption) ?_
              rotate_left
              · ((intro w hSw); (try dsimp only at hSw); go_simp; (try with_reducible rfl))
              try simp only [Act.put, List.setIfInBounds_toArray, List.set_cons_zero, List.set_cons_succ]
              refine wpAnyH_take (i := 7) (oi := { dst := some 128, op := Op.slice 22 (Operand.tmp 126) (some (Operand.tmp 127)) none none, type := 22, pos := _, after := #[{ on := 5, ground := Ground.data }, { on := 6, ground := Ground.data }], guard := none }) (v := ?_) rfl (by kernel_rfl) (by kernel_rfl) (by kernel_rfl) (fun _ _ _ h => h) (Or.inl ⟨by rfl, ?_⟩) (by assumption) ?_
              rotate_left
              · ((intro w hSw); (try dsimp only at hSw); go_simp; (try with_reducible rfl))
              try simp only [Act.put, List.setIfInBounds_toArray, List.set_cons_zero, List.set_cons_succ]
              refine wpAnyH_ready (rs := [4]) (by kernel_rfl) (by simp) ?_
              refine (AllReadyH.cons (o := { dst := some 125, op := Op.call { callee := Callee.value (Operand.func 21), args := #[Operand.tmp 121, Operand.tmp 124], argTypes := #[22, 22] }, type := 22, pos := _, after := #[{ on := 0, ground := Ground.data }, { on := 3, ground := Ground.data }], guard := none }) rfl (fun K hK => ?_) AllReadyH.nil)
              go_simp
              (go_at_call 21; (with_reducible refine (dtgK oa oth.length oc oth TT2 qa1 E qc1 (X.take E) _ HT2.out rfl HEL2.out (sl_then hHeld (Nat.le_refl _) HOSz.out) HO0.out HOC.out HOX.out HO8.out (sl_then hHeld (Nat.le_refl _) HP3.out.1) HP3.out.2.1 HP3.out.2.2.1 HP3.out.2.2.2 HP82.out).mono ?_); rintro e wt2 ⟨ga2, gc2, rfl, lg, _, _, ba⟩; have HGA2 := Lib.hid lg; have hN := below_then hHeld ba hHeld.size; clear ba lg)
              go_wp2_with fail
              refine hK.out _ _ ?_ (fun hHeld => ?_)
              · ((try dsimp only); (first | (with_reducible exact hN) | (with_reducible exact hHeld) | exact hN.drew | exact hHeld.drew | exact (Below.refl _ _).drew | exact Below.refl _ _))
              clear hK K
              try simp only [Act.put, List.setIfInBounds_toArray, List.set_cons_zero, List.set_cons_succ]
              refine wpAnyH_ready (rs := [8]) (by kernel_rfl) (by simp) ?_
              refine (AllReadyH.cons (o := { dst := some 129, op := Op.call { callee := Callee.value (Operand.func 15), args := #[Operand.tmp 125, Operand.tmp 128], argTypes := #[22, 22] }, type := 4, pos := _, after := #[{ on := 4, ground := Ground.data }, { on := 7, ground := Ground.data }, { on := 4, ground := Ground.chain }], guard := none }) rfl (fun K hK => ?_) AllReadyH.nil)
              go_simp
              (go_at_call 15; (with_reducible refine (bytesD ga2 qa2 gc2 qc2 16 16 TT2 (X.drop E) _ false HT2L.out HR2L.out HGA2.out (sl_then hHeld (Nat.le_refl _) HP4.out.1) HT2X.out HP4.out.2.2.2 HD2.out).mono ?_); rintro e wb ⟨rfl, rfl⟩)
              go_wp2_with fail
              refine hK.out _ _ ?_ (fun hHeld => ?_)
              · ((try dsimp only); (first | (with_reducible exact hN) | (with_reducible exact hHeld) | exact hN.drew | exact hHeld.drew | exact (Below.refl _ _).drew | exact Below.refl _ _))
              clear hK K
              try simp only [Act.put, List.setIfInBounds_toArray, List.set_cons_zero, List.set_cons_succ]
              refine wpAnyH_take (i := 9) (oi := { dst := some 21, op := Op.assign (Operand.tmp 129), type := 4, pos := _, after := #[{ on := 8, ground := Ground.data }, { on := 8, ground := Ground.chain }, { on := 0, ground := Ground.phase }, { on := 1, ground := Ground.phase }, { on := 2, ground := Ground.phase }, { on := 3, ground := Ground.phase }, { on := 4, ground := Ground.phase }, { on := 5, ground := Ground.phase }, { on := 6, ground := Ground.phase }, { on := 7, ground := Ground.phase }, { on := 8, ground := Ground.phase }], guard := none }) (v := ?_) rfl (by kernel_rfl) (by kernel_rfl) (by kernel_rfl) (fun _ _ _ h => h) (Or.inl ⟨by rfl, ?_⟩) (by assumption) ?_
              rotate_left
              · ((intro w hSw); (try dsimp only at hSw); go_simp; (try with_reducible rfl))
              try simp only [Act.put, List.setIfInBounds_toArray, List.set_cons_zero, List.set_cons_succ]
              refine wpAnyH_done (by kernel_rfl) ?_ _
              go_wp2_with (go_at_call 23; (with_reducible refine (pfirst _ (tabR_then hHeld HTz.out) (tabB_then hHeld HBz.out)).mono ?_); rintro e wf ⟨rfl, ba⟩; have HBF := Lib.hid (below_then hHeld ba hHeld.size); clear ba)
              go_ret
              exact ⟨rfl, below_then HBA8.out (below_then HQZ.out HBF.out HQZ.out.size) HBA8.out.size⟩

set_option maxRecDepth 100000 in
theorem backOut (ka : Option Addr) (kn kc : Nat) (oa : Option Addr) (on oc : Nat) (d1 v1 : Int) (n1 : Nat) (a1 : Option Addr) (c1 : Nat) (l1 : List Nat) (bit : Int) (w : World) (r : Bool) (hr : mayB d1 v1 n1 l1.length = r) (hno : 1000 < kn ∨ 1000 < on ∨ r = false ∨ bit < 0) (hT : TabR w) (hB : TabB w) :
    Calls Tryd.prog 8 #[.slice ka kn kc, .slice oa on oc, .agg #[.int .i64 d1, .int .i64 v1, .int .u64 (n1 : Int), .slice a1 l1.length c1], .int .i64 bit] w fun e w' => e = .returned (.bool true) ∧ Below w.heap.size w w' := by
  have CL := Lib.hid (fun W (h : Below (w.alloc (.cells #[.int .i64 d1, .int .i64 v1, .int .u64 (n1 : Int), .slice a1 l1.length c1] 35)).heap.size (w.alloc (.cells #[.int .i64 d1, .int .i64 v1, .int .u64 (n1 : Int), .slice a1 l1.length c1] 35)) W) => box1 w W 35 _ _ _ _ h)
  have HBA := Lib.hid (show Below w.heap.size w (w.alloc (.cells #[.int .i64 d1, .int .i64 v1, .int .u64 (n1 : Int), .slice a1 l1.length c1] 35)) from (Below.refl _ w).alloc (Nat.le_refl _) _)
  have HT0 := Lib.hid (tabR_then HBA.out hT)
  have HB0 := Lib.hid (tabB_then HBA.out hB)
  have HMR := Lib.hid hr
  clear hT hB hr
  by_cases h0 : 1000 < (kn : Int)
  · clear hno
    go_enter Tryd.func8, Tryd.ntmps8
    go_wp2_with fail
    generalize (w.alloc (.cells #[.int .i64 d1, .int .i64 v1, .int .u64 (n1 : Int), .slice a1 l1.length c1] 35)) = w0 at *
    have HQ0 := Lib.hid (Below.refl w0.heap.size w0)
    obtain ⟨p0, p1, p2, p3⟩ := CL.out _ HQ0.out
    go_wp2_with (first
      | (go_at_call 23; (with_reducible refine (pfirst w0 (tabR_then HQ0.out HT0.out) (tabB_then HQ0.out HB0.out)).mono ?_); rintro e wq1 ⟨rfl, bq⟩; have HQ1 := Lib.hid (below_then HQ0.out bq HQ0.out.size); clear bq; clear p0 p1 p2 p3; obtain ⟨p0, p1, p2, p3⟩ := CL.out _ HQ1.out)
      | (go_at_call 23; (with_reducible refine (pfirst wq1 (tabR_then HQ1.out HT0.out) (tabB_then HQ1.out HB0.out)).mono ?_); rintro e wq2 ⟨rfl, bq⟩; have HQ2 := Lib.hid (below_then HQ1.out bq HQ1.out.size); clear bq; clear p0 p1 p2 p3; obtain ⟨p0, p1, p2, p3⟩ := CL.out _ HQ2.out))
    go_ret
    exact ⟨rfl, below_then HBA.out HQ2.out HBA.out.size⟩
  ·
    by_cases h1 : 1000 < (on : Int)
    · clear hno
      go_enter Tryd.func8, Tryd.ntmps8
      go_wp2_with fail
      generalize (w.alloc (.cells #[.int .i64 d1, .int .i64 v1, .int .u64 (n1 : Int), .slice a1 l1.length c1] 35)) = w0 at *
      have HQ0 := Lib.hid (Below.refl w0.heap.size w0)
      obtain ⟨p0, p1, p2, p3⟩ := CL.out _ HQ0.out
      go_wp2_with (first
        | (go_at_call 23; (with_reducible refine (pfirst w0 (tabR_then HQ0.out HT0.out) (tabB_then HQ0.out HB0.out)).mono ?_); rintro e wq1 ⟨rfl, bq⟩; have HQ1 := Lib.hid (below_then HQ0.out bq HQ0.out.size); clear bq; clear p0 p1 p2 p3; obtain ⟨p0, p1, p2, p3⟩ := CL.out _ HQ1.out)
        | (go_at_call 23; (with_reducible refine (pfirst wq1 (tabR_then HQ1.out HT0.out) (tabB_then HQ1.out HB0.out)).mono ?_); rintro e wq2 ⟨rfl, bq⟩; have HQ2 := Lib.hid (below_then HQ1.out bq HQ1.out.size); clear bq; clear p0 p1 p2 p3; obtain ⟨p0, p1, p2, p3⟩ := CL.out _ HQ2.out))
      go_ret
      exact ⟨rfl, below_then HBA.out HQ2.out HBA.out.size⟩
    ·
      cases r with
      | false =>
        clear hno
        go_enter Tryd.func8, Tryd.ntmps8
        go_wp2_with fail
        generalize (w.alloc (.cells #[.int .i64 d1, .int .i64 v1, .int .u64 (n1 : Int), .slice a1 l1.length c1] 35)) = w0 at *
        have HQ0 := Lib.hid (Below.refl w0.heap.size w0)
        obtain ⟨p0, p1, p2, p3⟩ := CL.out _ HQ0.out
        go_wp2_with (first
          | (go_at_call 23; (with_reducible refine (pfirst w0 (tabR_then HQ0.out HT0.out) (tabB_then HQ0.out HB0.out)).mono ?_); rintro e wq1 ⟨rfl, bq⟩; have HQ1 := Lib.hid (below_then HQ0.out bq HQ0.out.size); clear bq; clear p0 p1 p2 p3; obtain ⟨p0, p1, p2, p3⟩ := CL.out _ HQ1.out)
          | (go_at_call 30; (with_reducible refine (mayE d1 v1 n1 a1 l1.length c1 l1 wq1 false rfl HMR.out).mono ?_); rintro e wq2 ⟨rfl, bq⟩; have HQ2 := Lib.hid (below_then HQ1.out bq HQ1.out.size); clear bq; clear p0 p1 p2 p3; obtain ⟨p0, p1, p2, p3⟩ := CL.out _ HQ2.out)
          | (go_at_call 23; (with_reducible refine (pfirst wq2 (tabR_then HQ2.out HT0.out) (tabB_then HQ2.out HB0.out)).mono ?_); rintro e wq3 ⟨rfl, bq⟩; have HQ3 := Lib.hid (below_then HQ2.out bq HQ2.out.size); clear bq; clear p0 p1 p2 p3; obtain ⟨p0, p1, p2, p3⟩ := CL.out _ HQ3.out))
        go_ret
        exact ⟨rfl, below_then HBA.out HQ3.out HBA.out.size⟩
      | true =>
        have hno : bit < 0 := by simp at hno; omega
        go_enter Tryd.func8, Tryd.ntmps8
        go_wp2_with fail
        generalize (w.alloc (.cells #[.int .i64 d1, .int .i64 v1, .int .u64 (n1 : Int), .slice a1 l1.length c1] 35)) = w0 at *
        have HQ0 := Lib.hid (Below.refl w0.heap.size w0)
        obtain ⟨p0, p1, p2, p3⟩ := CL.out _ HQ0.out
        go_wp2_with (first
          | (go_at_call 23; (with_reducible refine (pfirst w0 (tabR_then HQ0.out HT0.out) (tabB_then HQ0.out HB0.out)).mono ?_); rintro e wq1 ⟨rfl, bq⟩; have HQ1 := Lib.hid (below_then HQ0.out bq HQ0.out.size); clear bq; clear p0 p1 p2 p3; obtain ⟨p0, p1, p2, p3⟩ := CL.out _ HQ1.out)
          | (go_at_call 30; (with_reducible refine (mayE d1 v1 n1 a1 l1.length c1 l1 wq1 true rfl HMR.out).mono ?_); rintro e wq2 ⟨rfl, bq⟩; have HQ2 := Lib.hid (below_then HQ1.out bq HQ1.out.size); clear bq; clear p0 p1 p2 p3; obtain ⟨p0, p1, p2, p3⟩ := CL.out _ HQ2.out)
          | (go_at_call 23; (with_reducible refine (pfirst wq2 (tabR_then HQ2.out HT0.out) (tabB_then HQ2.out HB0.out)).mono ?_); rintro e wq3 ⟨rfl, bq⟩; have HQ3 := Lib.hid (below_then HQ2.out bq HQ2.out.size); clear bq; clear p0 p1 p2 p3; obtain ⟨p0, p1, p2, p3⟩ := CL.out _ HQ3.out))
        go_ret
        exact ⟨rfl, below_then HBA.out HQ3.out HBA.out.size⟩

theorem walk (a0 : Option Addr) (n0 c0 : Nat) (z0 : List Int) (b0 : Option Addr) (q0 e0 : Nat) (y0 : List Int) (d1 v1 n1 : Int) (a1 : Option Addr) (m1 c1 : Nat) (z1 : List Int) (bit : Int) (W : World) (w0 : IsRow .u8 W a0 n0 c0 z0) (u0 : IsRow .u8 W b0 q0 e0 y0)
    (_ : (Lit.int .i64 d1).wf = true) (_ : (Lit.int .i64 v1).wf = true) (w1 : (Lit.int .u64 n1).wf = true) (r1 : IsRow .u8 W a1 m1 c1 z1) (w2 : (Lit.int .i64 bit).wf = true)
    (h1 : Lib.TabIs Tryd.prog W "tickertape/mac.rounds" .u32 [1116352408, 1899447441, 3049323471, 3921009573, 961987163, 1508970993, 2453635748, 2870763221, 3624381080, 310598401, 607225278, 1426881987, 1925078388, 2162078206, 2614888103, 3248222580, 3835390401, 4022224774, 264347078, 604807628, 770255983, 1249150122, 1555081692, 1996064986, 2554220882, 2821834349, 2952996808, 3210313671, 3336571891, 3584528711, 113926993, 338241895, 666307205, 773529912, 1294757372, 1396182291, 1695183700, 1986661051, 2177026350, 2456956037, 2730485921, 2820302411, 3259730800, 3345764771, 3516065817, 3600352804, 4094571909, 275423344, 430227734, 506948616, 659060556, 883997877, 958139571, 1322822218, 1537002063, 1747873779, 1955562222, 2024104815, 2227730452, 2361852424, 2428436474, 2756734187, 3204031479, 3329325298]) (h2 : Lib.TabIs Tryd.prog W "tickertape/mac.beginning" .u32 [1779033703, 3144134277, 1013904242, 2773480762, 1359893119, 2600822924, 528734635, 1541459225]) :
    Calls Tryd.prog 8 #[.slice a0 n0 c0, .slice b0 q0 e0, .agg #[.int .i64 d1, .int .i64 v1, .int .u64 n1, .slice a1 m1 c1], .int .i64 bit] W fun e W' => e = .returned (.bool true) ∧ Below W.heap.size W W' := by
  have hT := tabR_of h1
  have hB := tabB_of h2
  have hi := inI w2
  obtain ⟨n1, rfl⟩ := Int.eq_ofNat_of_zero_le (inU w1).1
  obtain ⟨key, rfl, kl, ks, k0, kcap, _⟩ := row_bytes w0
  obtain ⟨oth, rfl, ol, os, o0, ocap, _⟩ := row_bytes u0
  obtain ⟨l1, rfl, x1, s1, y1, q1, _⟩ := row_bytes r1
  cases g1 : mayB d1 v1 n1 l1.length with
  | false => exact backOut a0 key.length c0 b0 oth.length e0 d1 v1 n1 a1 c1 l1 bit W false g1 (.inr (.inr (.inl rfl))) hT hB
  | true =>
    by_cases hno : 1000 < key.length ∨ 1000 < oth.length ∨ bit < 0
    · exact backOut a0 key.length c0 b0 oth.length e0 d1 v1 n1 a1 c1 l1 bit W true g1 (by rcases hno with h | h | h <;> simp [h]) hT hB
    · obtain ⟨D1, V1, rfl, rfl, e1, e2, e3, e4, e5, e6⟩ := may_nat g1
      obtain ⟨bt, rfl⟩ := Int.eq_ofNat_of_zero_le (show 0 ≤ bit by omega)
      exact backIn a0 c0 key b0 e0 oth D1 V1 n1 a1 c1 l1 bt W ks k0 kcap kl (by omega) os o0 ocap ol (by omega) s1 y1 q1 x1 e1 e2 e3 e4 e5 e6 (by omega) hT hB

end Go.Proofs.YtmfkfpgomglplaaDoor.Pb
