/- FragBack: the walk. -/
import Derived.Test.YtellhkcleicfbaaFo
set_option linter.unusedVariables false
namespace Go.Proofs.Ytellhkcleicfbaa.Fp
open Go Go.RowKit Go.MapKept Kit Crc Var Get Bytes WireFirst Ref3 Copy Ap Rd RdA RdB RdC RdD RdE Fr Fa Sb Fb Fc Fd Fe Ff Fg Fh Fi Fj Fk Fl Fm Fn Fo

/-- numbers that came in. -/
theorem row_ints {w : World} {a : Option Addr} {len cap : Nat} {zs : List Int} (h : IsRow .i64 w a len cap zs) : len = 0 ∨ ∃ b off, a = some ⟨b, off, none⟩ ∧ ∀ i, i < len → w.cell? ⟨b, off + i, none⟩ = some (.int .i64 (zs.getD i 0)) := by
  rcases h with ⟨rfl, rfl, rfl, rfl⟩ | ⟨⟨b, off, sp⟩, rfl, hl, hm, hz, hc, hw⟩
  · exact .inl rfl
  · by_cases h0 : len = 0
    · exact .inl h0
    · have hsp : sp = none := by simpa [Addr.add] using World.cell?_spot (hc 0 (by omega))
      subst hsp
      refine .inr ⟨b, off, rfl, fun i hi => ?_⟩
      have := hc i (by omega)
      rw [add_plain] at this
      exact this
/-- a place by a number below nought. -/
theorem neg_place (kk : Int) (nb : Nat) (hk : kk < 0) (hb : 1 ≤ nb) (hb2 : nb ≤ 20) : ∃ (r : Int) (j : Nat), Int.tmod kk (nb : Int) = r ∧ -20 < r ∧ r ≤ 0 ∧ Int.tmod (r + (nb : Int)) (nb : Int) = (j : Int) ∧ j < nb := by
  obtain ⟨m, hm⟩ := Int.eq_ofNat_of_zero_le (a := -kk) (by omega)
  have h1 : Int.tmod kk (nb : Int) = -((m % nb : Nat) : Int) := by
    have e : kk = -(m : Int) := by omega
    have e3 : Int.tmod (m : Int) (nb : Int) = ((m % nb : Nat) : Int) := (Int.tmod_eq_emod_of_nonneg (Int.natCast_nonneg _)).trans (Int.natCast_emod m nb).symm
    rw [e, Int.neg_tmod, e3]
  have h2 : m % nb < nb := Nat.mod_lt _ (by omega)
  refine ⟨_, (nb - m % nb) % nb, h1, by omega, by omega, ?_, Nat.mod_lt _ (by omega)⟩
  have e2 : -((m % nb : Nat) : Int) + (nb : Int) = ((nb - m % nb : Nat) : Int) := by omega
  rw [e2]
  exact (Int.tmod_eq_emod_of_nonneg (Int.natCast_nonneg _)).trans (Int.natCast_emod _ nb).symm
set_option maxRecDepth 100000 in
set_option maxHeartbeats 16000000 in
theorem no_la (id : Int) (a1 : Option Addr) (n1 c1 : Nat) (a2 : Option Addr) (n2 c2 : Nat) (a3 : Option Addr) (np c3 : Nat) (W : World) (h : 5000 < n1) :
    Calls Try.prog 4 #[.int .u64 id, .slice a1 n1 c1, .slice a2 n2 c2, .slice a3 np c3] W fun e w' => e = .returned (.bool true) ∧ Below W.heap.size W w' := by
  have HFIRST := Lib.hid (fun w => firstF w)
  have t1 : (5000 : Int) < (n1 : Int) := by omega
  clear h
  go_enter Try.func4, Try.ntmps4
  go_wp2_with (first
    | (go_at_call 7; (with_reducible refine (HFIRST.out W).mono ?_); rintro e w1 ⟨rfl, hb⟩; have HB1 := Lib.hid hb; clear hb)
    | (go_at_call 7; (with_reducible refine (HFIRST.out w1).mono ?_); rintro e w2 ⟨rfl, hb⟩; have HB2 := Lib.hid (below_next2 HB1.out hb); clear hb))
  go_ret
  exact ⟨rfl, HB2.out⟩
set_option maxRecDepth 100000 in
set_option maxHeartbeats 16000000 in
theorem no_lb (id : Int) (a1 : Option Addr) (n1 c1 : Nat) (a2 : Option Addr) (n2 c2 : Nat) (a3 : Option Addr) (np c3 : Nat) (W : World) (h0 : n1 ≤ 5000) (h : 5000 < n2) :
    Calls Try.prog 4 #[.int .u64 id, .slice a1 n1 c1, .slice a2 n2 c2, .slice a3 np c3] W fun e w' => e = .returned (.bool true) ∧ Below W.heap.size W w' := by
  have HFIRST := Lib.hid (fun w => firstF w)
  have t1 : ¬ (5000 : Int) < (n1 : Int) := by omega
  have t2 : (5000 : Int) < (n2 : Int) := by omega
  clear h0 h
  go_enter Try.func4, Try.ntmps4
  go_wp2_with (first
    | (go_at_call 7; (with_reducible refine (HFIRST.out W).mono ?_); rintro e w1 ⟨rfl, hb⟩; have HB1 := Lib.hid hb; clear hb)
    | (go_at_call 7; (with_reducible refine (HFIRST.out w1).mono ?_); rintro e w2 ⟨rfl, hb⟩; have HB2 := Lib.hid (below_next2 HB1.out hb); clear hb))
  go_ret
  exact ⟨rfl, HB2.out⟩
set_option maxRecDepth 100000 in
set_option maxHeartbeats 16000000 in
theorem no_lp (id : Int) (a1 : Option Addr) (n1 c1 : Nat) (a2 : Option Addr) (n2 c2 : Nat) (a3 : Option Addr) (np c3 : Nat) (W : World) (h0 : n1 ≤ 5000) (h1 : n2 ≤ 5000) (h : 200 < np) :
    Calls Try.prog 4 #[.int .u64 id, .slice a1 n1 c1, .slice a2 n2 c2, .slice a3 np c3] W fun e w' => e = .returned (.bool true) ∧ Below W.heap.size W w' := by
  have HFIRST := Lib.hid (fun w => firstF w)
  have t1 : ¬ (5000 : Int) < (n1 : Int) := by omega
  have t2 : ¬ (5000 : Int) < (n2 : Int) := by omega
  have t3 : (200 : Int) < (np : Int) := by omega
  clear h0 h1 h
  go_enter Try.func4, Try.ntmps4
  go_wp2_with (first
    | (go_at_call 7; (with_reducible refine (HFIRST.out W).mono ?_); rintro e w1 ⟨rfl, hb⟩; have HB1 := Lib.hid hb; clear hb)
    | (go_at_call 7; (with_reducible refine (HFIRST.out w1).mono ?_); rintro e w2 ⟨rfl, hb⟩; have HB2 := Lib.hid (below_next2 HB1.out hb); clear hb))
  go_ret
  exact ⟨rfl, HB2.out⟩
set_option maxRecDepth 100000 in
set_option maxHeartbeats 16000000 in
theorem no_id0 (id : Int) (a1 : Option Addr) (n1 c1 : Nat) (a2 : Option Addr) (n2 c2 : Nat) (a3 : Option Addr) (np c3 : Nat) (W : World) (h0 : n1 ≤ 5000) (h1 : n2 ≤ 5000) (h2 : np ≤ 200) (h : id < 2) :
    Calls Try.prog 4 #[.int .u64 id, .slice a1 n1 c1, .slice a2 n2 c2, .slice a3 np c3] W fun e w' => e = .returned (.bool true) ∧ Below W.heap.size W w' := by
  have HFIRST := Lib.hid (fun w => firstF w)
  have t1 : ¬ (5000 : Int) < (n1 : Int) := by omega
  have t2 : ¬ (5000 : Int) < (n2 : Int) := by omega
  have t3 : ¬ (200 : Int) < (np : Int) := by omega
  clear h0 h1 h2
  go_enter Try.func4, Try.ntmps4
  go_wp2_with (first
    | (go_at_call 7; (with_reducible refine (HFIRST.out W).mono ?_); rintro e w1 ⟨rfl, hb⟩; have HB1 := Lib.hid hb; clear hb)
    | (go_at_call 7; (with_reducible refine (HFIRST.out w1).mono ?_); rintro e w2 ⟨rfl, hb⟩; have HB2 := Lib.hid (below_next2 HB1.out hb); clear hb))
  go_ret
  exact ⟨rfl, HB2.out⟩
set_option maxRecDepth 100000 in
set_option maxHeartbeats 16000000 in
theorem no_id9 (id : Int) (a1 : Option Addr) (n1 c1 : Nat) (a2 : Option Addr) (n2 c2 : Nat) (a3 : Option Addr) (np c3 : Nat) (W : World) (h0 : n1 ≤ 5000) (h1 : n2 ≤ 5000) (h2 : np ≤ 200) (h3 : ¬ id < 2) (h : 4611686018427387904 < id) :
    Calls Try.prog 4 #[.int .u64 id, .slice a1 n1 c1, .slice a2 n2 c2, .slice a3 np c3] W fun e w' => e = .returned (.bool true) ∧ Below W.heap.size W w' := by
  have HFIRST := Lib.hid (fun w => firstF w)
  have t1 : ¬ (5000 : Int) < (n1 : Int) := by omega
  have t2 : ¬ (5000 : Int) < (n2 : Int) := by omega
  have t3 : ¬ (200 : Int) < (np : Int) := by omega
  clear h0 h1 h2
  go_enter Try.func4, Try.ntmps4
  go_wp2_with (first
    | (go_at_call 7; (with_reducible refine (HFIRST.out W).mono ?_); rintro e w1 ⟨rfl, hb⟩; have HB1 := Lib.hid hb; clear hb)
    | (go_at_call 7; (with_reducible refine (HFIRST.out w1).mono ?_); rintro e w2 ⟨rfl, hb⟩; have HB2 := Lib.hid (below_next2 HB1.out hb); clear hb))
  go_ret
  exact ⟨rfl, HB2.out⟩
theorem gm_bool {w w' : World} {h p id cnt : Nat} {m : Option Nat} {E : List (Nat × Part)} {vs : Array Value} (hg : GM w p p id cnt m E) (hh : w.heap[h]? = some (.cells vs 4)) (hk : ∀ j, j ≠ h → w'.heap[j]? = w.heap[j]?) (hz : w.heap.size ≤ w'.heap.size) (hvs : ∀ o x, w.cell? ⟨h, o, none⟩ ≠ some (.int .u8 x)) : GM w' p p id cnt m E := by
  have hp : p ≠ h := by rintro rfl; have := hg.blk; rw [hh] at this; cases this
  have hb0 : ∀ b : Nat, (∃ es clock, w.heap[b]? = some (.map es clock)) → b ≠ h := by
    rintro b ⟨es, clock, hb⟩ rfl
    rw [hh] at hb; cases hb
  have hs1 : ∀ (a : Option Addr) (l : List Nat), Sl w a l → Sl w' a l := by
    intro a l hs
    rcases hs with hs | ⟨k, off, e, hc⟩
    · exact .inl hs
    · refine .inr ⟨k, off, e, fun i hi => ?_⟩
      have hkh : k ≠ h := by rintro rfl; exact hvs _ _ (hc i hi)
      exact (World.cell?_of_block (hk k hkh)).trans (hc i hi)
  refine ⟨hg.plo, (hk p hp).trans hg.blk, hg.map.imp (fun x => x) fun ⟨b, e, h1, h2⟩ => ⟨b, e, h1, h2.keep (hk b (hb0 b ?_))⟩, fun q hq => ⟨hs1 _ _ (hg.parts q hq).1, (hg.parts q hq).2⟩, hg.nod, hg.low, hg.idb, hg.cnb, hg.len, hg.zero⟩
  obtain ⟨es, clock, hb, _⟩ := h2
  exact ⟨es, clock, hb⟩
theorem had_no {w : World} {h n : Nat} {f : Nat → Bool} (hh : w.heap[h]? = some (.cells (hadV n f) 4)) (o : Nat) (x : Int) : w.cell? ⟨h, o, none⟩ ≠ some (.int .u8 x) := by
  intro hc
  by_cases ho : o < n
  · rw [hadV_cell hh o ho] at hc; cases hc
  · simp [World.cell?, hh, hadV] at hc
    try omega
theorem sl_bool {w w' : World} {h n : Nat} {f : Nat → Bool} (hh : w.heap[h]? = some (.cells (hadV n f) 4)) (hk : ∀ j, j ≠ h → w'.heap[j]? = w.heap[j]?) {a : Option Addr} {l : List Nat} (hs : Sl w a l) : Sl w' a l := by
  rcases hs with hs | ⟨k, off, e, hc⟩
  · exact .inl hs
  · refine .inr ⟨k, off, e, fun i hi => ?_⟩
    have hkh : k ≠ h := by rintro rfl; exact had_no hh _ _ (hc i hi)
    exact (World.cell?_of_block (hk k hkh)).trans (hc i hi)
set_option maxRecDepth 100000 in
set_option maxHeartbeats 16000000 in
theorem main (id : Nat) (a1 : Option Addr) (n1 c1 : Nat) (A : List Nat) (a2 : Option Addr) (n2 c2 : Nat) (O : List Nat) (a3 : Option Addr) (np c3 : Nat) (z : Nat → Int) (W : World) (e1 : n1 = A.length) (e2 : n2 = O.length) (l1 : n1 ≤ 5000) (l2 : n2 ≤ 5000) (l3 : np ≤ 200) (pA : Pt W ⟨a1, c1, A⟩) (pB : Pt W ⟨a2, c2, O⟩) (hz : np = 0 ∨ ∃ b off, a3 = some ⟨b, off, none⟩ ∧ ∀ i, i < np → W.cell? ⟨b, off + i, none⟩ = some (.int .i64 (z i))) (hid : 2 ≤ id ∧ id ≤ 4611686018427387904) :
    Calls Try.prog 4 #[.int .u64 (id : Int), .slice a1 n1 c1, .slice a2 n2 c2, .slice a3 np c3] W fun e w' => e = .returned (.bool true) ∧ Below W.heap.size W w' := by
  have HFIRST := Lib.hid (fun w => firstF w)
  obtain ⟨na, hna⟩ : ∃ q, cntN n1 = q := ⟨_, rfl⟩
  obtain ⟨nb, hnb⟩ : ∃ q, cntN n2 = q := ⟨_, rfl⟩
  have HCA := Lib.hid (fun w1 (hb : Below W.heap.size W w1) => cutX id a1 n1 c1 A w1 e1 (by omega) (pt_then hb (Nat.le_refl _) pA) ⟨by omega, by omega⟩ na hna)
  obtain ⟨id1, hid1⟩ : ∃ x : Int, x = (id : Int) - 1 := ⟨_, rfl⟩
  have HCB := Lib.hid (fun w1 (hb : Below W.heap.size W w1) => (show Calls Try.prog 8 #[.int .u64 ((id : Int) - 1), .slice a2 n2 c2] w1 (CutQ (cutP (id - 1) O) nb w1) from by
    have h := cutX (id - 1) a2 n2 c2 O w1 e2 (by omega) (pt_then hb (Nat.le_refl _) pB) ⟨by omega, by omega⟩ nb hnb
    have e : (((id - 1 : Nat)) : Int) = (id : Int) - 1 := by omega
    rw [e] at h; exact h))
  have ca := cnt_bounds (n := n1) l1
  have cb := cnt_bounds (n := n2) l2
  rw [hna] at ca
  rw [hnb] at cb
  have HNA := Lib.hid (show cntN A.length = na by rw [← e1]; exact hna)
  have HNB := Lib.hid (show cntN O.length = nb by rw [← e2]; exact hnb)
  have HID := Lib.hid hid
  have HA5 := Lib.hid (show A.length ≤ 5000 by omega)
  have HB5 := Lib.hid (show O.length ≤ 5000 by omega)
  have HA8 := Lib.hid (show ∀ c ∈ A, c < 256 from pA.2.2.2)
  have HB8 := Lib.hid (show ∀ c ∈ O, c < 256 from pB.2.2.2)
  have HPA := Lib.hid pA
  have HEA := Lib.hid e1
  have HQ := Lib.hid (And.intro ca (And.intro cb l3))
  have HZ := Lib.hid hz
  have I4 := Lib.hid i4
  have t1 : ¬ (5000 : Int) < (n1 : Int) := by omega
  have t2 : ¬ (5000 : Int) < (n2 : Int) := by omega
  have t3 : ¬ (200 : Int) < (np : Int) := by omega
  have t4 : ¬ (id : Int) < 2 := by omega
  have t5 : ¬ (4611686018427387904 : Int) < (id : Int) := by omega
  have t6 : ¬ (na : Int) < 1 := by omega
  have t7 : ¬ (nb : Int) < 1 := by omega
  have t8 : ¬ (na : Int) = 0 := by omega
  have t9 : ¬ na = 0 := by omega
  have t11 : IntKind.u64.wrap ((id : Int) - 1) = (id : Int) - 1 := by rw [IntKind.wrap_u64]; omega
  have t12 : IntKind.i64.wrap ((np : Int) + (na : Int)) = (np : Int) + (na : Int) := IntWalk.i64_in _ (by omega)
  have HMK := Lib.hid (fun w => make_had na (by omega) w)
  clear e1 e2 l1 l2 l3 pA pB hid hz hna hnb ca cb hid1
  go_enter Try.func4, Try.ntmps4
  go_upto_region 10 with (first
    | (go_at_call 7; (with_reducible refine (HFIRST.out W).mono ?_); rintro e w1 ⟨rfl, hb⟩; have HB1 := Lib.hid hb; clear hb)
    | (go_at_call 8; (with_reducible refine (HCA.out w1 HB1.out).mono ?_); rintro e w2 ⟨la, lca, Aa, Ca, rfl, hlc, hd, hb⟩; have HB2 := Lib.hid (below_next2 HB1.out hb); have HDA := Lib.hid hd; clear hb hd hlc)
    | (go_at_call 8; (with_reducible refine (HCB.out w2 HB2.out).mono ?_); rintro e w3 ⟨lb, lcb, Ab, Cb, rfl, hlc, hd, hb⟩; have HB3 := Lib.hid (below_next2 HB2.out hb); have HDA3 := Lib.hid (HDA.out.then_ hb); have HDB3 := Lib.hid hd; clear hb hd hlc)
    | (go_at_call 10; (with_reducible refine (newG w3).mono ?_); rintro e w4 ⟨rfl, hg, hb⟩; have HG4 := Lib.hid hg; have HB4 := Lib.hid hb; clear hg hb))
  obtain ⟨ga, rfl, _, _⟩ := HDA3.out.cell 0 (by have := HQ.out; omega)
  obtain ⟨gb, rfl, _, _⟩ := HDB3.out.cell 0 (by have := HQ.out; omega)
  have hmk := HMK.out w4
  have HG5 := Lib.hid (HG4.out.then_ (below_one w4 (.cells (hadV na (fun _ => false)) 4)))
  have HB5' := Lib.hid (below_next2 HB4.out (below_one w4 (.cells (hadV na (fun _ => false)) 4)))
  have HH5 := Lib.hid (heap_alloc_last w4 (.cells (hadV na (fun _ => false)) 4))
  have HPH0 := Lib.hid (show w3.heap.size ≤ w4.heap.size from HB4.out.size)
  go_upto_region 11 with fail
  clear hmk
  generalize w4.alloc (.cells (hadV na (fun _ => false)) 4) = w5 at *
  generalize w4.heap.size = h at *
  obtain ⟨p, hp⟩ : ∃ p, p = w3.heap.size := ⟨_, rfl⟩
  rw [← hp] at HG5 HB5' HPH0 ⊢
  have HPH := Lib.hid HPH0.out
  have HVA := Lib.hid (fun V (hb : Below p w3 V) => HDA3.out.then_ (w' := V) (hp ▸ hb))
  have HVB := Lib.hid (fun V (hb : Below p w3 V) => HDB3.out.then_ (w' := V) (hp ▸ hb))
  have HVS := Lib.hid (fun V (hb : Below p w3 V) => (show p ≤ V.heap.size by rw [hp]; exact hb.size))
  have HVW := Lib.hid (fun V (hb : Below p w3 V) => (show Below W.heap.size W V from below_then HB3.out (hp ▸ hb) HB3.out.size))
  clear hp HG4 HB4
  go_wp2
  go_loopw [15, 16, 17] (fun s15 s16 s17 wr => ∃ (i n came : Nat) (S : PS) (f : Nat → Bool) (m : Option Nat) (E : List (Nat × Part)), i ≤ np + na ∧ s17 = .int .i64 (i : Int) ∧ s15 = .int .i64 (n : Int) ∧ s16 = .int .i64 (came : Int) ∧ Hid (Inv id A O np i S n came f) ∧ Hid (GM wr p p S.id S.cnt m E) ∧ Hid (pairs E = S.l) ∧ Hid (Below p w3 wr) ∧ Hid (wr.heap[h]? = some (.cells (hadV na f) 4))) (fun _ _ s17 _ => np + na - (intOf s17).toNat)
  case atStart => exact ⟨0, 0, 0, ⟨0, 0, []⟩, fun _ => false, none, [], Nat.zero_le _, rfl, rfl, rfl, Lib.hid (inv_start id A O np HID.out.1), HG5, Lib.hid rfl, HB5', HH5⟩
  case round =>
    obtain ⟨i, n, came, S, f, m, E, hi, rfl, rfl, rfl, HI, HG, HE, HB, HH⟩ := hrel
    have HLN := Lib.hid (HI.out.len HA5.out HB5.out)
    by_cases hlt : i < np + na
    · have hiI : (i : Int) < (np : Int) + (na : Int) := by omega
      have hw1 : IntKind.i64.wrap ((i : Int) + 1) = (i : Int) + 1 := IntWalk.i64_in _ (by have := HQ.out; omega)
      have HIQ := Lib.hid (show i + 1 ≤ np + na ∧ np + na - (i + 1) < np + na - i by omega)
      by_cases hnp : i < np
      · obtain ⟨zb, zo, rfl, hzc⟩ : ∃ b off, a3 = some ⟨b, off, none⟩ ∧ ∀ i, i < np → W.cell? ⟨b, off + i, none⟩ = some (.int .i64 (z i)) := HZ.out.resolve_left (by omega)
        have hzi := cell_then (HVW.out wr HB.out) (Nat.le_refl _) (hzc i hnp)
        generalize z i = kk at hzi
        have hnI2 : (i : Int) < (np : Int) := by omega
        have hw2 : IntKind.i64.wrap ((i : Int) - (np : Int)) = (i : Int) - (np : Int) := IntWalk.i64_in _ (by have := HQ.out; omega)
        by_cases hneg : kk < 0
        · clear hi hlt hzc
          obtain ⟨r, j, f1, f2, f3, f4, hj⟩ := neg_place kk nb hneg (by have := HQ.out; omega) (by have := HQ.out; omega)
          obtain ⟨gl', e, _, hc⟩ := (HVB.out wr HB.out).cell j hj
          injection e with e; injection e with e
          subst e
          obtain ⟨L, hL⟩ : ∃ L, L = (cutP (id - 1) O j).length := ⟨_, rfl⟩
          rw [← hL] at hc
          obtain ⟨S', ok, msg, hst, hinv, hok⟩ := inv_old HI.out HID.out.1 hnp j (by rw [HNB.out]; exact hj)
          obtain ⟨ln, hln⟩ : ∃ ln, ln = msg.length := ⟨_, rfl⟩
          have HP := Lib.hid (show Calls Try.prog 12 #[.pointer (some ⟨p, 0, none⟩), .slice (Ab j) L (Cb j)] wr (PutB p h S' ok msg ln wr) from
            putB HG.out HE.out (part_ok ⟨by have := HID.out; omega, by have := HID.out; omega⟩ (by have := HB5.out; omega) (by rw [HNB.out]; exact hj)) hL (chunk_byte HB8.out j) ((HVB.out wr HB.out).bytes j hj) (HVS.out wr HB.out) HLN.out.1 hst hln)
          have hjI : (j : Int) < (nb : Int) := by omega
          have f5 : IntKind.i64.wrap (r + (nb : Int)) = r + (nb : Int) := IntWalk.i64_in _ (by have := HQ.out; omega)
          have f6 : ¬ (nb : Int) = 0 := by have := HQ.out; omega
          have f7 : ¬ nb = 0 := by have := HQ.out; omega
          have HINV := Lib.hid hinv
          clear hst hinv hL hln hj f2 f3
          cases ok with
          | false =>
            clear hok
            go_wp2_with ((go_at_call 12; (with_reducible refine HP.out.mono ?_); rintro e v1 ⟨m1, E1, va, vc, rfl, _, hg, hE, hb, _, hhd⟩; have HG1 := Lib.hid hg; have HE1 := Lib.hid hE; have HB1' := Lib.hid (hb _ HB.out); have HH1 := Lib.hid (hhd _ HH.out); clear hg hE hb hhd hc))
            first
              | exact ⟨⟨i + 1, n, came, S', f, m1, E1, HIQ.out.1, by go_num, by go_num, by go_num, HINV, HG1, HE1, HB1', HH1⟩, by simp only [intOf]; exact HIQ.out.2⟩
              | (go_roundw
                 · exact ⟨i + 1, n, came, S', f, m1, E1, HIQ.out.1, by go_num, by go_num, by go_num, HINV, HG1, HE1, HB1', HH1⟩
                 · simp only [intOf]; exact HIQ.out.2)
          | true =>
            obtain rfl := hok rfl
            clear hok
            go_wp2_with ((go_at_call 12; (with_reducible refine HP.out.mono ?_); rintro e v1 ⟨m1, E1, va, vc, rfl, _, hg, hE, hb, _, hhd⟩; have HG1 := Lib.hid hg; have HE1 := Lib.hid hE; have HB1' := Lib.hid (hb _ HB.out); have HH1 := Lib.hid (hhd _ HH.out); clear hg hE hb hhd hc))
            first
              | exact ⟨⟨i + 1, 0, came, S', f, m1, E1, HIQ.out.1, by go_num, by go_num, by go_num, HINV, HG1, HE1, HB1', HH1⟩, by simp only [intOf]; exact HIQ.out.2⟩
              | (go_roundw
                 · exact ⟨i + 1, 0, came, S', f, m1, E1, HIQ.out.1, by go_num, by go_num, by go_num, HINV, HG1, HE1, HB1', HH1⟩
                 · simp only [intOf]; exact HIQ.out.2)
        · obtain ⟨K, hK⟩ := Int.eq_ofNat_of_zero_le (a := kk) (by omega)
          obtain ⟨k, hkk⟩ : ∃ k, k = K % na := ⟨_, rfl⟩
          have hk : k < na := by rw [hkk]; exact Nat.mod_lt _ (by omega)
          have f1 : Int.tmod kk (na : Int) = (k : Int) := by rw [hK, hkk]; exact (Int.tmod_eq_emod_of_nonneg (Int.natCast_nonneg _)).trans (Int.natCast_emod K na).symm
          have hik : i < np ∨ k + np = i := .inl hnp
          clear hi hlt hzc hK hkk hnp
          obtain ⟨gl', e, _, hc⟩ := (HVA.out wr HB.out).cell k hk
          injection e with e; injection e with e
          subst e
          obtain ⟨L, hL⟩ : ∃ L, L = (cutP id A k).length := ⟨_, rfl⟩
          rw [← hL] at hc
          obtain ⟨S', ok, msg, hst, hinv, hsi, hsl, hok⟩ := inv_new HI.out k (by rw [HNA.out]; exact hk) hik
          have hhk := hadV_cell HH.out k hk
          have hkI : (k : Int) < (na : Int) := by omega
          have hnI : IntKind.i64.wrap ((n : Int) + 1) = (n : Int) + 1 := IntWalk.i64_in _ (by have := HLN.out; omega)
          have hcI : IntKind.i64.wrap ((came : Int) + 1) = (came : Int) + 1 := IntWalk.i64_in _ (by have := HLN.out; omega)
          obtain ⟨ln, hln⟩ : ∃ ln, ln = msg.length := ⟨_, rfl⟩
          have HP := Lib.hid (show Calls Try.prog 12 #[.pointer (some ⟨p, 0, none⟩), .slice (Aa k) L (Ca k)] wr (PutB p h S' ok msg ln wr) from
            putB HG.out HE.out (part_ok ⟨by have := HID.out; omega, by have := HID.out; omega⟩ (by have := HA5.out; omega) (by rw [HNA.out]; exact hk)) hL (chunk_byte HA8.out k) ((HVA.out wr HB.out).bytes k hk) (HVS.out wr HB.out) HLN.out.1 hst hln)
          have HII := Lib.hid (show ((S'.id : Nat) : Int) = (id : Int) by rw [hsi])
          cases hf : f k with
          | true =>
            rw [hf] at hhk hinv hsl hok
            cases ok with
            | true => exact absurd (hok rfl).2.2 (by simp)
            | false =>
              simp only [if_true, if_false, Bool.false_eq_true] at hinv hsl
              have HINV := Lib.hid (show Inv id A O np (i + 1) S' n came f from by
                have e : (fun j => if j = k then true else f j) = f := by
                  funext j
                  by_cases hj : j = k
                  · rw [if_pos hj, hj, hf]
                  · rw [if_neg hj]
                rw [e] at hinv; exact hinv)
              have HSL := Lib.hid hsl
              have HKL := Lib.hid hk
              have HFK := Lib.hid hf
              clear hst hinv hsi hsl hok hL hln hf hk hik
              go_wp2_with (first
                | (go_at_call 12; (with_reducible refine HP.out.mono ?_); rintro e v1 ⟨m1, E1, va, vc, rfl, hsv, hg, hE, hb, _, hhd⟩; have HSV := Lib.hid hsv; have HG1 := Lib.hid hg; have HE1 := Lib.hid hE; have HB1' := Lib.hid (hb _ HB.out); have HH1 := Lib.hid (hhd _ HH.out); have HN1 := Lib.hid (show E1.length = n by rw [← pairs_len, hE, HSL.out]); replace hhk := (hadV_cell HH1.out k HKL.out); rw [HFK.out] at hhk; clear hsv hg hE hb hhd hc)
                | (go_at_call 14; (with_reducible refine (idC p p _ _ m1 E1 _ HG1.out).mono ?_); rintro e w' ⟨rfl, rfl⟩; rw [HII.out])
                | (go_at_call 15; (with_reducible refine (haveC p p _ _ m1 E1 _ HG1.out).mono ?_); rintro e w' ⟨rfl, rfl⟩; rw [HN1.out]))
              first
                | exact ⟨⟨i + 1, n, came, S', f, m1, E1, HIQ.out.1, by go_num, by go_num, by go_num, HINV, HG1, HE1, HB1', HH1⟩, by simp only [intOf]; exact HIQ.out.2⟩
                | (go_roundw
                   · exact ⟨i + 1, n, came, S', f, m1, E1, HIQ.out.1, by go_num, by go_num, by go_num, HINV, HG1, HE1, HB1', HH1⟩
                   · simp only [intOf]; exact HIQ.out.2)
          | false =>
            rw [hf] at hhk hinv hsl hok
            have HHF := Lib.hid (hadV_set na f k hk)
            have HKS := Lib.hid (show k < (hadV na f).size by rw [hadV_size]; exact hk)
            cases ok with
            | false =>
              simp only [if_false, Bool.false_eq_true] at hinv hsl
              have HINV := Lib.hid hinv
              have HSL := Lib.hid hsl
              have HKL := Lib.hid hk
              have HFK := Lib.hid hf
              clear hst hinv hsi hsl hok hL hln hf hk hik
              go_wp2_with (first
                | (go_at_call 12; (with_reducible refine HP.out.mono ?_); rintro e v1 ⟨m1, E1, va, vc, rfl, hsv, hg, hE, hb, _, hhd⟩; have HSV := Lib.hid hsv; have HG1 := Lib.hid hg; have HE1 := Lib.hid hE; have HB1' := Lib.hid (hb _ HB.out); have HH1 := Lib.hid (hhd _ HH.out); have HN1 := Lib.hid (show E1.length = n + 1 by rw [← pairs_len, hE, HSL.out]); replace hhk := (hadV_cell HH1.out k HKL.out); rw [HFK.out] at hhk; clear hsv hg hE hb hhd hc)
                | ((with_reducible refine wpList_store_at rfl 4 _ _ rfl I4.out h k 4 (hadV na f) (hadV na fun j => if j = k then true else f j) (.bool true) rfl rfl rfl rfl HH1.out HKS.out HHF.out ?_); intro v2 hs hb0 hk0 hz; have HG2 := Lib.hid (gm_bool HG1.out HH1.out hk0 hz (had_no HH1.out)); have HB2' := Lib.hid (hb0 _ _ HPH.out HB1'.out); have HH2 := Lib.hid hs; have HSV2 := Lib.hid (sl_bool HH1.out hk0 HSV.out); clear hs hb0 hk0 hz hhk)
                | (go_at_call 14; (with_reducible refine (idC p p _ _ m1 E1 _ HG2.out).mono ?_); rintro e w' ⟨rfl, rfl⟩; rw [HII.out])
                | (go_at_call 15; (with_reducible refine (haveC p p _ _ m1 E1 _ HG2.out).mono ?_); rintro e w' ⟨rfl, rfl⟩; rw [HN1.out]))
              first
                | exact ⟨⟨i + 1, n + 1, came, S', (fun j => if j = k then true else f j), m1, E1, HIQ.out.1, by go_num, by go_num, by go_num, HINV, HG2, HE1, HB2', HH2⟩, by simp only [intOf]; exact HIQ.out.2⟩
                | (go_roundw
                   · exact ⟨i + 1, n + 1, came, S', (fun j => if j = k then true else f j), m1, E1, HIQ.out.1, by go_num, by go_num, by go_num, HINV, HG2, HE1, HB2', HH2⟩
                   · simp only [intOf]; exact HIQ.out.2)
            | true =>
              obtain ⟨hn1, hmsg, _⟩ := hok rfl
              replace hmsg := hmsg.symm
              subst hmsg
              simp only [if_true, if_false, Bool.false_eq_true] at hinv hsl
              have hnn : n + 1 = na := by rw [HNA.out] at hn1; exact hn1
              have hln' : ln = n1 := by rw [hln]; exact HEA.out.symm
              subst hln'
              have HINV := Lib.hid hinv
              have HSL := Lib.hid hsl
              have u1 : ((n : Int) + 1 != (na : Int)) = false := by rw [bne_eq_false_iff_eq]; omega
              have HNN := Lib.hid (show (n : Int) + 1 = (na : Int) by omega)
              have HBY := Lib.hid (fun V va vc (hb : Below p w3 V) (hs : Sl V va A) => (show Calls Try.prog 11 #[.slice va ln vc, .slice a1 ln c1] V fun e w' => e = .returned (.bool true) ∧ V = w' from by have h := bytesC va a1 vc c1 A A V hs (sl_then (HVW.out V hb) (Nat.le_refl _) HPA.out.1) HA8.out HA8.out; rw [← HEA.out] at h; exact h.mono fun e w' hq => ⟨by rw [hq.1, decide_eq_true rfl], hq.2⟩))
              have HKL := Lib.hid hk
              have HFK := Lib.hid hf
              clear hst hinv hsi hsl hok hL hln hf hk hik hn1 hnn
              go_wp2_with (first
                | (go_at_call 12; (with_reducible refine HP.out.mono ?_); rintro e v1 ⟨m1, E1, va, vc, rfl, hsv, hg, hE, hb, _, hhd⟩; have HSV := Lib.hid hsv; have HG1 := Lib.hid hg; have HE1 := Lib.hid hE; have HB1' := Lib.hid (hb _ HB.out); have HH1 := Lib.hid (hhd _ HH.out); have HN1 := Lib.hid (show E1.length = n + 1 by rw [← pairs_len, hE, HSL.out]); replace hhk := (hadV_cell HH1.out k HKL.out); rw [HFK.out] at hhk; clear hsv hg hE hb hhd hc)
                | ((with_reducible refine wpList_store_at rfl 4 _ _ rfl I4.out h k 4 (hadV na f) (hadV na fun j => if j = k then true else f j) (.bool true) rfl rfl rfl rfl HH1.out HKS.out HHF.out ?_); intro v2 hs hb0 hk0 hz; have HG2 := Lib.hid (gm_bool HG1.out HH1.out hk0 hz (had_no HH1.out)); have HB2' := Lib.hid (hb0 _ _ HPH.out HB1'.out); have HH2 := Lib.hid hs; have HSV2 := Lib.hid (sl_bool HH1.out hk0 HSV.out); clear hs hb0 hk0 hz hhk)
                | (go_at_call 11; (with_reducible refine (HBY.out v2 va vc HB2'.out HSV2.out).mono ?_); rintro e w' ⟨rfl, rfl⟩)
                | (go_at_call 14; (with_reducible refine (idC p p _ _ m1 E1 _ HG2.out).mono ?_); rintro e w' ⟨rfl, rfl⟩; rw [HII.out])
                | (go_at_call 15; (with_reducible refine (haveC p p _ _ m1 E1 _ HG2.out).mono ?_); rintro e w' ⟨rfl, rfl⟩; rw [HN1.out]))
              first
                | exact ⟨⟨i + 1, n + 1, (came + 1), S', (fun j => if j = k then true else f j), m1, E1, HIQ.out.1, by go_num, by go_num, by go_num, HINV, HG2, HE1, HB2', HH2⟩, by simp only [intOf]; exact HIQ.out.2⟩
                | (go_roundw
                   · exact ⟨i + 1, n + 1, (came + 1), S', (fun j => if j = k then true else f j), m1, E1, HIQ.out.1, by go_num, by go_num, by go_num, HINV, HG2, HE1, HB2', HH2⟩
                   · simp only [intOf]; exact HIQ.out.2)
      · obtain ⟨k, hkk⟩ : ∃ k, k = i - np := ⟨_, rfl⟩
        have hk : k < na := by omega
        have hnI2 : ¬ (i : Int) < (np : Int) := by omega
        have hw0 : (i : Int) - (np : Int) = (k : Int) := by omega
        have hw2 : IntKind.i64.wrap (k : Int) = (k : Int) := IntWalk.i64_in _ (by have := HQ.out; omega)
        have f1 : Int.tmod (k : Int) (na : Int) = (k : Int) := by rw [Int.tmod_eq_emod_of_nonneg (Int.natCast_nonneg _)]; exact Int.emod_eq_of_lt (Int.natCast_nonneg _) (by omega)
        have f0 : ¬ (k : Int) < 0 := by omega
        have hik : i < np ∨ k + np = i := .inr (by omega)
        clear hi hlt hkk hnp
        obtain ⟨gl', e, _, hc⟩ := (HVA.out wr HB.out).cell k hk
        injection e with e; injection e with e
        subst e
        obtain ⟨L, hL⟩ : ∃ L, L = (cutP id A k).length := ⟨_, rfl⟩
        rw [← hL] at hc
        obtain ⟨S', ok, msg, hst, hinv, hsi, hsl, hok⟩ := inv_new HI.out k (by rw [HNA.out]; exact hk) hik
        have hhk := hadV_cell HH.out k hk
        have hkI : (k : Int) < (na : Int) := by omega
        have hnI : IntKind.i64.wrap ((n : Int) + 1) = (n : Int) + 1 := IntWalk.i64_in _ (by have := HLN.out; omega)
        have hcI : IntKind.i64.wrap ((came : Int) + 1) = (came : Int) + 1 := IntWalk.i64_in _ (by have := HLN.out; omega)
        obtain ⟨ln, hln⟩ : ∃ ln, ln = msg.length := ⟨_, rfl⟩
        have HP := Lib.hid (show Calls Try.prog 12 #[.pointer (some ⟨p, 0, none⟩), .slice (Aa k) L (Ca k)] wr (PutB p h S' ok msg ln wr) from
          putB HG.out HE.out (part_ok ⟨by have := HID.out; omega, by have := HID.out; omega⟩ (by have := HA5.out; omega) (by rw [HNA.out]; exact hk)) hL (chunk_byte HA8.out k) ((HVA.out wr HB.out).bytes k hk) (HVS.out wr HB.out) HLN.out.1 hst hln)
        have HII := Lib.hid (show ((S'.id : Nat) : Int) = (id : Int) by rw [hsi])
        cases hf : f k with
        | true =>
          rw [hf] at hhk hinv hsl hok
          cases ok with
          | true => exact absurd (hok rfl).2.2 (by simp)
          | false =>
            simp only [if_true, if_false, Bool.false_eq_true] at hinv hsl
            have HINV := Lib.hid (show Inv id A O np (i + 1) S' n came f from by
              have e : (fun j => if j = k then true else f j) = f := by
                funext j
                by_cases hj : j = k
                · rw [if_pos hj, hj, hf]
                · rw [if_neg hj]
              rw [e] at hinv; exact hinv)
            have HSL := Lib.hid hsl
            have HKL := Lib.hid hk
            have HFK := Lib.hid hf
            clear hst hinv hsi hsl hok hL hln hf hk hik
            go_wp2_with (first
              | (go_at_call 12; (with_reducible refine HP.out.mono ?_); rintro e v1 ⟨m1, E1, va, vc, rfl, hsv, hg, hE, hb, _, hhd⟩; have HSV := Lib.hid hsv; have HG1 := Lib.hid hg; have HE1 := Lib.hid hE; have HB1' := Lib.hid (hb _ HB.out); have HH1 := Lib.hid (hhd _ HH.out); have HN1 := Lib.hid (show E1.length = n by rw [← pairs_len, hE, HSL.out]); replace hhk := (hadV_cell HH1.out k HKL.out); rw [HFK.out] at hhk; clear hsv hg hE hb hhd hc)
              | (go_at_call 14; (with_reducible refine (idC p p _ _ m1 E1 _ HG1.out).mono ?_); rintro e w' ⟨rfl, rfl⟩; rw [HII.out])
              | (go_at_call 15; (with_reducible refine (haveC p p _ _ m1 E1 _ HG1.out).mono ?_); rintro e w' ⟨rfl, rfl⟩; rw [HN1.out]))
            first
              | exact ⟨⟨i + 1, n, came, S', f, m1, E1, HIQ.out.1, by go_num, by go_num, by go_num, HINV, HG1, HE1, HB1', HH1⟩, by simp only [intOf]; exact HIQ.out.2⟩
              | (go_roundw
                 · exact ⟨i + 1, n, came, S', f, m1, E1, HIQ.out.1, by go_num, by go_num, by go_num, HINV, HG1, HE1, HB1', HH1⟩
                 · simp only [intOf]; exact HIQ.out.2)
        | false =>
          rw [hf] at hhk hinv hsl hok
          have HHF := Lib.hid (hadV_set na f k hk)
          have HKS := Lib.hid (show k < (hadV na f).size by rw [hadV_size]; exact hk)
          cases ok with
          | false =>
            simp only [if_false, Bool.false_eq_true] at hinv hsl
            have HINV := Lib.hid hinv
            have HSL := Lib.hid hsl
            have HKL := Lib.hid hk
            have HFK := Lib.hid hf
            clear hst hinv hsi hsl hok hL hln hf hk hik
            go_wp2_with (first
              | (go_at_call 12; (with_reducible refine HP.out.mono ?_); rintro e v1 ⟨m1, E1, va, vc, rfl, hsv, hg, hE, hb, _, hhd⟩; have HSV := Lib.hid hsv; have HG1 := Lib.hid hg; have HE1 := Lib.hid hE; have HB1' := Lib.hid (hb _ HB.out); have HH1 := Lib.hid (hhd _ HH.out); have HN1 := Lib.hid (show E1.length = n + 1 by rw [← pairs_len, hE, HSL.out]); replace hhk := (hadV_cell HH1.out k HKL.out); rw [HFK.out] at hhk; clear hsv hg hE hb hhd hc)
              | ((with_reducible refine wpList_store_at rfl 4 _ _ rfl I4.out h k 4 (hadV na f) (hadV na fun j => if j = k then true else f j) (.bool true) rfl rfl rfl rfl HH1.out HKS.out HHF.out ?_); intro v2 hs hb0 hk0 hz; have HG2 := Lib.hid (gm_bool HG1.out HH1.out hk0 hz (had_no HH1.out)); have HB2' := Lib.hid (hb0 _ _ HPH.out HB1'.out); have HH2 := Lib.hid hs; have HSV2 := Lib.hid (sl_bool HH1.out hk0 HSV.out); clear hs hb0 hk0 hz hhk)
              | (go_at_call 14; (with_reducible refine (idC p p _ _ m1 E1 _ HG2.out).mono ?_); rintro e w' ⟨rfl, rfl⟩; rw [HII.out])
              | (go_at_call 15; (with_reducible refine (haveC p p _ _ m1 E1 _ HG2.out).mono ?_); rintro e w' ⟨rfl, rfl⟩; rw [HN1.out]))
            first
              | exact ⟨⟨i + 1, n + 1, came, S', (fun j => if j = k then true else f j), m1, E1, HIQ.out.1, by go_num, by go_num, by go_num, HINV, HG2, HE1, HB2', HH2⟩, by simp only [intOf]; exact HIQ.out.2⟩
              | (go_roundw
                 · exact ⟨i + 1, n + 1, came, S', (fun j => if j = k then true else f j), m1, E1, HIQ.out.1, by go_num, by go_num, by go_num, HINV, HG2, HE1, HB2', HH2⟩
                 · simp only [intOf]; exact HIQ.out.2)
          | true =>
            obtain ⟨hn1, hmsg, _⟩ := hok rfl
            replace hmsg := hmsg.symm
            subst hmsg
            simp only [if_true, if_false, Bool.false_eq_true] at hinv hsl
            have hnn : n + 1 = na := by rw [HNA.out] at hn1; exact hn1
            have hln' : ln = n1 := by rw [hln]; exact HEA.out.symm
            subst hln'
            have HINV := Lib.hid hinv
            have HSL := Lib.hid hsl
            have u1 : ((n : Int) + 1 != (na : Int)) = false := by rw [bne_eq_false_iff_eq]; omega
            have HNN := Lib.hid (show (n : Int) + 1 = (na : Int) by omega)
            have HBY := Lib.hid (fun V va vc (hb : Below p w3 V) (hs : Sl V va A) => (show Calls Try.prog 11 #[.slice va ln vc, .slice a1 ln c1] V fun e w' => e = .returned (.bool true) ∧ V = w' from by have h := bytesC va a1 vc c1 A A V hs (sl_then (HVW.out V hb) (Nat.le_refl _) HPA.out.1) HA8.out HA8.out; rw [← HEA.out] at h; exact h.mono fun e w' hq => ⟨by rw [hq.1, decide_eq_true rfl], hq.2⟩))
            have HKL := Lib.hid hk
            have HFK := Lib.hid hf
            clear hst hinv hsi hsl hok hL hln hf hk hik hn1 hnn
            go_wp2_with (first
              | (go_at_call 12; (with_reducible refine HP.out.mono ?_); rintro e v1 ⟨m1, E1, va, vc, rfl, hsv, hg, hE, hb, _, hhd⟩; have HSV := Lib.hid hsv; have HG1 := Lib.hid hg; have HE1 := Lib.hid hE; have HB1' := Lib.hid (hb _ HB.out); have HH1 := Lib.hid (hhd _ HH.out); have HN1 := Lib.hid (show E1.length = n + 1 by rw [← pairs_len, hE, HSL.out]); replace hhk := (hadV_cell HH1.out k HKL.out); rw [HFK.out] at hhk; clear hsv hg hE hb hhd hc)
              | ((with_reducible refine wpList_store_at rfl 4 _ _ rfl I4.out h k 4 (hadV na f) (hadV na fun j => if j = k then true else f j) (.bool true) rfl rfl rfl rfl HH1.out HKS.out HHF.out ?_); intro v2 hs hb0 hk0 hz; have HG2 := Lib.hid (gm_bool HG1.out HH1.out hk0 hz (had_no HH1.out)); have HB2' := Lib.hid (hb0 _ _ HPH.out HB1'.out); have HH2 := Lib.hid hs; have HSV2 := Lib.hid (sl_bool HH1.out hk0 HSV.out); clear hs hb0 hk0 hz hhk)
              | (go_at_call 11; (with_reducible refine (HBY.out v2 va vc HB2'.out HSV2.out).mono ?_); rintro e w' ⟨rfl, rfl⟩)
              | (go_at_call 14; (with_reducible refine (idC p p _ _ m1 E1 _ HG2.out).mono ?_); rintro e w' ⟨rfl, rfl⟩; rw [HII.out])
              | (go_at_call 15; (with_reducible refine (haveC p p _ _ m1 E1 _ HG2.out).mono ?_); rintro e w' ⟨rfl, rfl⟩; rw [HN1.out]))
            first
              | exact ⟨⟨i + 1, n + 1, (came + 1), S', (fun j => if j = k then true else f j), m1, E1, HIQ.out.1, by go_num, by go_num, by go_num, HINV, HG2, HE1, HB2', HH2⟩, by simp only [intOf]; exact HIQ.out.2⟩
              | (go_roundw
                 · exact ⟨i + 1, n + 1, (came + 1), S', (fun j => if j = k then true else f j), m1, E1, HIQ.out.1, by go_num, by go_num, by go_num, HINV, HG2, HE1, HB2', HH2⟩
                 · simp only [intOf]; exact HIQ.out.2)
    · obtain rfl : i = np + na := by omega
      have hce := inv_end (id := id) (b := A) (old := O) (np := np) (s := S) (n := n) (came := came) (f := f) (by rw [HNA.out]; exact HI.out)
      subst hce
      have hd0 : ¬ ((np + na : Nat) : Int) < (np : Int) + (na : Int) := by omega
      clear hlt hi
      go_wp2_with (go_at_call 7; (with_reducible refine (HFIRST.out _).mono ?_); rintro e w9 ⟨rfl, hb⟩; have HB9 := Lib.hid (below_next2 (HVW.out _ HB.out) hb); clear hb)
      go_ret
      exact ⟨rfl, HB9.out⟩
/-- FragBack. -/
theorem walk (id : Int) (a1 : Option Addr) (n1 c1 : Nat) (zs : List Int) (a2 : Option Addr) (n2 c2 : Nat) (ys : List Int) (a3 : Option Addr) (np c3 : Nat) (xs : List Int) (W : World) (h1 : (Lit.int .u64 id).wf = true) (h2 : IsRow .u8 W a1 n1 c1 zs) (h3 : IsRow .u8 W a2 n2 c2 ys) (h4 : IsRow .i64 W a3 np c3 xs) :
    Calls Try.prog 4 #[.int .u64 id, .slice a1 n1 c1, .slice a2 n2 c2, .slice a3 np c3] W fun e w' => e = .returned (.bool true) ∧ Below W.heap.size W w' := by
  obtain ⟨g1, g2⟩ := inU h1
  by_cases l1 : n1 ≤ 5000
  · by_cases l2 : n2 ≤ 5000
    · by_cases l3 : np ≤ 200
      · by_cases i1 : id < 2
        · exact no_id0 id a1 n1 c1 a2 n2 c2 a3 np c3 W l1 l2 l3 i1
        · by_cases i2 : 4611686018427387904 < id
          · exact no_id9 id a1 n1 c1 a2 n2 c2 a3 np c3 W l1 l2 l3 i1 i2
          · obtain ⟨k, rfl⟩ := Int.eq_ofNat_of_zero_le g1
            obtain ⟨A, hA, sA, xA, zA, kA⟩ := row_nats h2
            obtain ⟨B, hB, sB, xB, zB, kB⟩ := row_nats h3
            exact main k a1 n1 c1 A a2 n2 c2 B a3 np c3 (fun i => xs.getD i 0) W hA.symm hB.symm l1 l2 l3 ⟨sA, zA, by show A.length ≤ c1; omega, xA⟩ ⟨sB, zB, by show B.length ≤ c2; omega, xB⟩ (row_ints h4) (by omega)
      · exact no_lp id a1 n1 c1 a2 n2 c2 a3 np c3 W l1 l2 (by omega)
    · exact no_lb id a1 n1 c1 a2 n2 c2 a3 np c3 W l1 (by omega)
  · exact no_la id a1 n1 c1 a2 n2 c2 a3 np c3 W (by omega)
end Go.Proofs.Ytellhkcleicfbaa.Fp
