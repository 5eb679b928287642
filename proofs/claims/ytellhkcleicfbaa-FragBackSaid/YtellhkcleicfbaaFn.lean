/- FragNewer: the walk. -/
import Derived.Test.YtellhkcleicfbaaFm
set_option linter.unusedVariables false
namespace Go.Proofs.Ytellhkcleicfbaa.Fn
open Go Go.RowKit Go.MapKept Kit Crc Var Get Bytes WireFirst Ref3 Copy Ap Rd RdA RdB RdC RdD RdE Fr Fa Sb Fb Fc Fd Fe Ff Fg Fh Fi Fj Fk Fl Fm

/-- what Put answers, in letters. -/
def PutN (p : Nat) (s : PS) (ok : Bool) (msg : List Nat) (ln : Nat) (w : World) (e : Ending) (w' : World) : Prop :=
  ∃ m' E' va vc, e = .returned (.tuple #[.slice va ln vc, .bool ok, .int .i64 0]) ∧ Sl w' va msg ∧ GM w' p p s.id s.cnt m' E' ∧ pairs E' = s.l ∧ (∀ W, Below p W w → Below p W w') ∧ w.heap.size ≤ w'.heap.size
theorem putN {p : Nat} {s s' : PS} {m : Option Nat} {E : List (Nat × Part)} {a : Option Addr} {n cap : Nat} {w : World} (h : GM w p p s.id s.cnt m E) (hE : pairs E = s.l) {id pl cn : Nat} {body msg : List Nat} {ok : Bool} {ln : Nat} (hok : PartOk id pl cn body) (hn : n = (partL id pl cn body).length) (h8 : ∀ c ∈ body, c < 256) (hs : Sl w a (partL id pl cn body)) (hlo : p ≤ w.heap.size) (hl : s.l.length ≤ 3000)
    (hst : stepP s id pl cn body = (s', ok, 0, msg)) (hln : ln = msg.length) : Calls Try.prog 12 #[.pointer (some ⟨p, 0, none⟩), .slice a n cap] w (PutN p s' ok msg ln w) := by
  refine (putOk p p s m E a n cap w h hE id pl cn body hok hn h8 hs hlo hl).mono fun e w' hq => ?_
  rw [hst] at hq
  obtain ⟨m', E', va, vc, he, h1, h2, h3, h4, h5⟩ := hq
  exact ⟨m', E', va, vc, by rw [hln]; exact he, h1, h2, h3, h4, h5⟩
set_option maxRecDepth 100000 in
set_option maxHeartbeats 8000000 in
theorem no_la (id had : Int) (a1 : Option Addr) (n1 c1 : Nat) (a2 : Option Addr) (n2 c2 : Nat) (W : World) (h : 5000 < n1) :
    Calls Try.prog 6 #[.int .u64 id, .slice a1 n1 c1, .slice a2 n2 c2, .int .i64 had] W fun e w' => e = .returned (.bool true) ∧ Below W.heap.size W w' := by
  have HFIRST := Lib.hid (fun w => firstF w)
  have t1 : (5000 : Int) < (n1 : Int) := by omega
  clear h
  go_enter Try.func6, Try.ntmps6
  go_wp2_with (first
    | (go_at_call 7; (with_reducible refine (HFIRST.out W).mono ?_); rintro e w1 ⟨rfl, hb⟩; have HB1 := Lib.hid hb; clear hb)
    | (go_at_call 7; (with_reducible refine (HFIRST.out w1).mono ?_); rintro e w2 ⟨rfl, hb⟩; have HB2 := Lib.hid (below_next2 HB1.out hb); clear hb))
  go_ret
  exact ⟨rfl, HB2.out⟩
set_option maxRecDepth 100000 in
set_option maxHeartbeats 8000000 in
theorem no_lb (id had : Int) (a1 : Option Addr) (n1 c1 : Nat) (a2 : Option Addr) (n2 c2 : Nat) (W : World) (h0 : n1 ≤ 5000) (h : 5000 < n2) :
    Calls Try.prog 6 #[.int .u64 id, .slice a1 n1 c1, .slice a2 n2 c2, .int .i64 had] W fun e w' => e = .returned (.bool true) ∧ Below W.heap.size W w' := by
  have HFIRST := Lib.hid (fun w => firstF w)
  have t1 : ¬ (5000 : Int) < (n1 : Int) := by omega
  have t2 : (5000 : Int) < (n2 : Int) := by omega
  clear h0 h
  go_enter Try.func6, Try.ntmps6
  go_wp2_with (first
    | (go_at_call 7; (with_reducible refine (HFIRST.out W).mono ?_); rintro e w1 ⟨rfl, hb⟩; have HB1 := Lib.hid hb; clear hb)
    | (go_at_call 7; (with_reducible refine (HFIRST.out w1).mono ?_); rintro e w2 ⟨rfl, hb⟩; have HB2 := Lib.hid (below_next2 HB1.out hb); clear hb))
  go_ret
  exact ⟨rfl, HB2.out⟩
set_option maxRecDepth 100000 in
set_option maxHeartbeats 8000000 in
theorem no_id0 (id had : Int) (a1 : Option Addr) (n1 c1 : Nat) (a2 : Option Addr) (n2 c2 : Nat) (W : World) (h0 : n1 ≤ 5000) (h1 : n2 ≤ 5000) (h : id < 1) :
    Calls Try.prog 6 #[.int .u64 id, .slice a1 n1 c1, .slice a2 n2 c2, .int .i64 had] W fun e w' => e = .returned (.bool true) ∧ Below W.heap.size W w' := by
  have HFIRST := Lib.hid (fun w => firstF w)
  have t1 : ¬ (5000 : Int) < (n1 : Int) := by omega
  have t2 : ¬ (5000 : Int) < (n2 : Int) := by omega
  clear h0 h1
  go_enter Try.func6, Try.ntmps6
  go_wp2_with (first
    | (go_at_call 7; (with_reducible refine (HFIRST.out W).mono ?_); rintro e w1 ⟨rfl, hb⟩; have HB1 := Lib.hid hb; clear hb)
    | (go_at_call 7; (with_reducible refine (HFIRST.out w1).mono ?_); rintro e w2 ⟨rfl, hb⟩; have HB2 := Lib.hid (below_next2 HB1.out hb); clear hb))
  go_ret
  exact ⟨rfl, HB2.out⟩
set_option maxRecDepth 100000 in
set_option maxHeartbeats 8000000 in
theorem no_id9 (id had : Int) (a1 : Option Addr) (n1 c1 : Nat) (a2 : Option Addr) (n2 c2 : Nat) (W : World) (h0 : n1 ≤ 5000) (h1 : n2 ≤ 5000) (h2 : ¬ id < 1) (h : 4611686018427387904 ≤ id) :
    Calls Try.prog 6 #[.int .u64 id, .slice a1 n1 c1, .slice a2 n2 c2, .int .i64 had] W fun e w' => e = .returned (.bool true) ∧ Below W.heap.size W w' := by
  have HFIRST := Lib.hid (fun w => firstF w)
  have t1 : ¬ (5000 : Int) < (n1 : Int) := by omega
  have t2 : ¬ (5000 : Int) < (n2 : Int) := by omega
  clear h0 h1
  go_enter Try.func6, Try.ntmps6
  go_wp2_with (first
    | (go_at_call 7; (with_reducible refine (HFIRST.out W).mono ?_); rintro e w1 ⟨rfl, hb⟩; have HB1 := Lib.hid hb; clear hb)
    | (go_at_call 7; (with_reducible refine (HFIRST.out w1).mono ?_); rintro e w2 ⟨rfl, hb⟩; have HB2 := Lib.hid (below_next2 HB1.out hb); clear hb))
  go_ret
  exact ⟨rfl, HB2.out⟩
set_option maxRecDepth 100000 in
set_option maxHeartbeats 8000000 in
theorem no_had (id had : Int) (a1 : Option Addr) (n1 c1 : Nat) (a2 : Option Addr) (n2 c2 : Nat) (W : World) (h0 : n1 ≤ 5000) (h1 : n2 ≤ 5000) (h2 : ¬ id < 1) (h3 : ¬ 4611686018427387904 ≤ id) (h : had < 0) :
    Calls Try.prog 6 #[.int .u64 id, .slice a1 n1 c1, .slice a2 n2 c2, .int .i64 had] W fun e w' => e = .returned (.bool true) ∧ Below W.heap.size W w' := by
  have HFIRST := Lib.hid (fun w => firstF w)
  have t1 : ¬ (5000 : Int) < (n1 : Int) := by omega
  have t2 : ¬ (5000 : Int) < (n2 : Int) := by omega
  clear h0 h1
  go_enter Try.func6, Try.ntmps6
  go_wp2_with (first
    | (go_at_call 7; (with_reducible refine (HFIRST.out W).mono ?_); rintro e w1 ⟨rfl, hb⟩; have HB1 := Lib.hid hb; clear hb)
    | (go_at_call 7; (with_reducible refine (HFIRST.out w1).mono ?_); rintro e w2 ⟨rfl, hb⟩; have HB2 := Lib.hid (below_next2 HB1.out hb); clear hb))
  go_ret
  exact ⟨rfl, HB2.out⟩
set_option maxRecDepth 100000 in
set_option maxHeartbeats 8000000 in
theorem main (id : Nat) (had : Int) (a1 : Option Addr) (n1 c1 : Nat) (A : List Nat) (a2 : Option Addr) (n2 c2 : Nat) (B : List Nat) (W : World) (e1 : n1 = A.length) (e2 : n2 = B.length) (l1 : n1 ≤ 5000) (l2 : n2 ≤ 5000) (pA : Pt W ⟨a1, c1, A⟩) (pB : Pt W ⟨a2, c2, B⟩) (hid : 1 ≤ id ∧ id < 4611686018427387904) (hh : 0 ≤ had) :
    Calls Try.prog 6 #[.int .u64 (id : Int), .slice a1 n1 c1, .slice a2 n2 c2, .int .i64 had] W fun e w' => e = .returned (.bool true) ∧ Below W.heap.size W w' := by
  have HFIRST := Lib.hid (fun w => firstF w)
  obtain ⟨na, hna⟩ : ∃ q, cntN n1 = q := ⟨_, rfl⟩
  obtain ⟨nb, hnb⟩ : ∃ q, cntN n2 = q := ⟨_, rfl⟩
  have HCA := Lib.hid (fun w1 (hb : Below W.heap.size W w1) => cutX id a1 n1 c1 A w1 e1 (by omega) (pt_then hb (Nat.le_refl _) pA) ⟨hid.1, by omega⟩ na hna)
  have HCB := Lib.hid (fun w1 (hb : Below W.heap.size W w1) => (show Calls Try.prog 8 #[.int .u64 ((id : Int) + 1), .slice a2 n2 c2] w1 (CutQ (cutP (id + 1) B) nb w1) from cutX (id + 1) a2 n2 c2 B w1 e2 (by omega) (pt_then hb (Nat.le_refl _) pB) ⟨by omega, by omega⟩ nb hnb))
  have ca := cnt_bounds (n := n1) l1
  have cb := cnt_bounds (n := n2) l2
  rw [hna] at ca
  rw [hnb] at cb
  obtain ⟨i0, hi0⟩ := Int.eq_ofNat_of_zero_le hh
  obtain ⟨k0, hk0⟩ : ∃ k, k = i0 % na := ⟨_, rfl⟩
  have hkn : k0 < na := by rw [hk0]; exact Nat.mod_lt _ (by omega)
  have HNA := Lib.hid (show cntN A.length = na by rw [← e1]; exact hna)
  have HNB := Lib.hid (show cntN B.length = nb by rw [← e2]; exact hnb)
  have HID := Lib.hid hid
  have HA5 := Lib.hid (show A.length ≤ 5000 by omega)
  have HB5 := Lib.hid (show B.length ≤ 5000 by omega)
  have HA8 := Lib.hid (show ∀ c ∈ A, c < 256 from pA.2.2.2)
  have HB8 := Lib.hid (show ∀ c ∈ B, c < 256 from pB.2.2.2)
  have HPB := Lib.hid pB
  have HEB := Lib.hid e2
  have HQ := Lib.hid (And.intro ca cb)
  have HK := Lib.hid hkn
  have t1 : ¬ (5000 : Int) < (n1 : Int) := by omega
  have t2 : ¬ (5000 : Int) < (n2 : Int) := by omega
  have t3 : ¬ (id : Int) < 1 := by omega
  have t4 : decide ((4611686018427387904 : Int) ≤ (id : Int)) = false := decide_eq_false (by omega)
  have t5 : ¬ had < 0 := by omega
  have t6 : ¬ (na : Int) < 1 := by omega
  have t7 : ¬ (nb : Int) < 1 := by omega
  have t8 : ¬ (na : Int) = 0 := by omega
  have t9 : ¬ na = 0 := by omega
  have t10 : Int.tmod had (na : Int) = (k0 : Int) := by rw [hi0, hk0]; exact (Int.tmod_eq_emod_of_nonneg (Int.natCast_nonneg _)).trans (Int.natCast_emod i0 na).symm
  have t11 : IntKind.u64.wrap ((id : Int) + 1) = (id : Int) + 1 := by rw [IntKind.wrap_u64]; omega
  have t12 : IntKind.i64.wrap ((na : Int) - 1) = (na : Int) - 1 := IntWalk.i64_in _ (by omega)
  have t13 : IntKind.i64.wrap ((nb : Int) - 1) = (nb : Int) - 1 := IntWalk.i64_in _ (by omega)
  clear e1 e2 l1 l2 pA pB hid hh hna hnb ca cb hi0 hk0 hkn
  go_enter Try.func6, Try.ntmps6
  go_wp2_with (first
    | (go_at_call 7; (with_reducible refine (HFIRST.out W).mono ?_); rintro e w1 ⟨rfl, hb⟩; have HB1 := Lib.hid hb; clear hb)
    | (go_at_call 8; (with_reducible refine (HCA.out w1 HB1.out).mono ?_); rintro e w2 ⟨la, lca, Aa, Ca, rfl, hlc, hd, hb⟩; have HB2 := Lib.hid (below_next2 HB1.out hb); have HDA := Lib.hid hd; clear hb hd hlc)
    | (go_at_call 8; (with_reducible refine (HCB.out w2 HB2.out).mono ?_); rintro e w3 ⟨lb, lcb, Ab, Cb, rfl, hlc, hd, hb⟩; have HB3 := Lib.hid (below_next2 HB2.out hb); have HDA3 := Lib.hid (HDA.out.then_ hb); have HDB3 := Lib.hid hd; clear hb hd hlc)
    | (go_at_call 10; (with_reducible refine (newG w3).mono ?_); rintro e w4 ⟨rfl, hg, hb⟩; have HG4 := Lib.hid hg; have HB4 := Lib.hid hb; clear hg hb))
  obtain ⟨ga, rfl, _, _⟩ := HDA3.out.cell 0 (by have := HQ.out; omega)
  obtain ⟨gb, rfl, _, _⟩ := HDB3.out.cell 0 (by have := HQ.out; omega)
  obtain ⟨p, hp⟩ : ∃ p, p = w3.heap.size := ⟨_, rfl⟩
  rw [← hp] at HG4 HB4 ⊢
  have HPP := Lib.hid hp
  have HVA := Lib.hid (fun V (hb : Below p w3 V) => HDA3.out.then_ (w' := V) (hp ▸ hb))
  have HVB := Lib.hid (fun V (hb : Below p w3 V) => HDB3.out.then_ (w' := V) (hp ▸ hb))
  have HVS := Lib.hid (fun V (hb : Below p w3 V) => (show p ≤ V.heap.size by rw [hp]; exact hb.size))
  have HVW := Lib.hid (fun V (hb : Below p w3 V) => (show Below W.heap.size W V from below_then HB3.out (hp ▸ hb) HB3.out.size))
  clear hp
  -- the states
  obtain ⟨SA, hSA⟩ : ∃ S, S = stA ⟨0, 0, []⟩ id A := ⟨_, rfl⟩
  obtain ⟨SB, hSB⟩ : ∃ S, S = stA (SA k0) (id + 1) B := ⟨_, rfl⟩
  have HPA := Lib.hid (fun V (hb : Below p w3 V) i (hi : i < k0) m E (hg : GM V p p (SA i).id (SA i).cnt m E) (hE : pairs E = (SA i).l) (L : Nat) (hL : L = (cutP id A i).length) => (show Calls Try.prog 12 #[.pointer (some ⟨p, 0, none⟩), .slice (Aa i) L (Ca i)] V (PutN p (SA (i + 1)) false [] 0 V) from by
    have hin : i < cntN A.length := by rw [HNA.out]; have := HK.out; omega
    refine putN hg hE (part_ok ⟨HID.out.1, by have := HID.out.2; omega⟩ (by have := HA5.out; omega) hin) hL (chunk_byte HA8.out i) ((HVA.out V hb).bytes i (by have := HK.out; omega)) (HVS.out V hb) (by rw [hSA]; exact stA_len i (by simp) (by have := HK.out; have := HQ.out; omega)) ?_ rfl
    rw [hSA, stA_next (by show 0 < id; exact HID.out.1) hin, decide_eq_false (by rw [HNA.out]; have := HK.out; omega), if_neg (by rw [HNA.out]; have := HK.out; omega)]))
  have HPB1 := Lib.hid (fun V (hb : Below p w3 V) i (hi : i + 1 < nb) m E (hg : GM V p p (SB i).id (SB i).cnt m E) (hE : pairs E = (SB i).l) (L : Nat) (hL : L = (cutP (id + 1) B i).length) => (show Calls Try.prog 12 #[.pointer (some ⟨p, 0, none⟩), .slice (Ab i) L (Cb i)] V (PutN p (SB (i + 1)) false [] 0 V) from by
    have hin : i < cntN B.length := by rw [HNB.out]; omega
    refine putN hg hE (part_ok ⟨by omega, by have := HID.out.2; omega⟩ (by have := HB5.out; omega) hin) hL (chunk_byte HB8.out i) ((HVB.out V hb).bytes i (by omega)) (HVS.out V hb) (by rw [hSB]; exact stA_len i (by rw [hSA]; exact stA_len k0 (by simp) (by have := HK.out; have := HQ.out; omega)) (by have := HQ.out; omega)) ?_ rfl
    rw [hSB, stA_next (by rw [hSA]; have := stA_lt (s0 := ⟨0, 0, []⟩) (id := id) (b := A) k0 (Nat.zero_le _); omega) hin, decide_eq_false (by rw [HNB.out]; omega), if_neg (by rw [HNB.out]; omega)]))
  have HPB2 := Lib.hid (fun V (hb : Below p w3 V) i (hi : i + 1 = nb) m E (hg : GM V p p (SB i).id (SB i).cnt m E) (hE : pairs E = (SB i).l) (L : Nat) (hL : L = (cutP (id + 1) B i).length) => (show Calls Try.prog 12 #[.pointer (some ⟨p, 0, none⟩), .slice (Ab i) L (Cb i)] V (PutN p (SB (i + 1)) true B n2 V) from by
    have hin : i < cntN B.length := by rw [HNB.out]; omega
    refine putN hg hE (part_ok ⟨by omega, by have := HID.out.2; omega⟩ (by have := HB5.out; omega) hin) hL (chunk_byte HB8.out i) ((HVB.out V hb).bytes i (by omega)) (HVS.out V hb) (by rw [hSB]; exact stA_len i (by rw [hSA]; exact stA_len k0 (by simp) (by have := HK.out; have := HQ.out; omega)) (by have := HQ.out; omega)) ?_ HEB.out
    rw [hSB, stA_next (by rw [hSA]; have := stA_lt (s0 := ⟨0, 0, []⟩) (id := id) (b := A) k0 (Nat.zero_le _); omega) hin, decide_eq_true (by rw [HNB.out]; omega), if_pos (by rw [HNB.out]; omega)]))
  have HSBI := Lib.hid (show ∀ i, (SB (i + 1)).id = id + 1 ∧ (SB (i + 1)).l.length = i + 1 from fun i => by rw [hSB]; unfold stA; rw [if_neg (by omega)]; exact ⟨rfl, front_len _ _⟩)
  have HPO := Lib.hid (fun V (hb : Below p w3 V) i (hi : i < nb) m E (hg : GM V p p (SB (i + 1)).id (SB (i + 1)).cnt m E) (hE : pairs E = (SB (i + 1)).l) (L : Nat) (hL : L = (cutP id A (na - 1)).length) => (show Calls Try.prog 12 #[.pointer (some ⟨p, 0, none⟩), .slice (Aa (na - 1)) L (Ca (na - 1))] V (PutN p (SB (i + 1)) false [] 0 V) from by
    have hin : na - 1 < cntN A.length := by rw [HNA.out]; have := HK.out; omega
    refine putN hg hE (part_ok ⟨HID.out.1, by have := HID.out.2; omega⟩ (by have := HA5.out; omega) hin) hL (chunk_byte HA8.out _) ((HVA.out V hb).bytes _ (by have := HK.out; omega)) (HVS.out V hb) (by rw [(HSBI.out i).2]; have := HQ.out; omega) ?_ rfl
    exact step_elder (by rw [(HSBI.out i).1]; omega) _))
  have HSAL := Lib.hid (show ∀ i, (SA (i + 1)).l.length = i + 1 from fun i => by rw [hSA]; unfold stA; rw [if_neg (by omega)]; exact front_len _ _)
  have HSA0 := Lib.hid (show SA 0 = ⟨0, 0, []⟩ from by rw [hSA]; unfold stA; rw [if_pos rfl])
  have HSB0 := Lib.hid (show SB 0 = SA k0 from by rw [hSB]; unfold stA; rw [if_pos rfl])
  have HMA := Lib.hid (fun i => (show ∃ L, L = (cutP id A i).length from ⟨_, rfl⟩))
  clear hSA hSB
  go_loopw [15] (fun s15 wr => ∃ (i : Nat) (m : Option Nat) (E : List (Nat × Part)), i ≤ k0 ∧ s15 = .int .i64 (i : Int) ∧ Hid (GM wr p p (SA i).id (SA i).cnt m E) ∧ Hid (pairs E = (SA i).l) ∧ Hid (Below p w3 wr)) (fun s15 _ => k0 - (intOf s15).toNat)
  case atStart => exact ⟨0, none, [], Nat.zero_le _, rfl, by rw [HSA0.out]; exact HG4, by rw [HSA0.out]; exact Lib.hid rfl, HB4⟩
  case round =>
    obtain ⟨i, m, E, hi, rfl, HG, HE, HB⟩ := hrel
    by_cases hlt : i < k0
    · obtain ⟨gl', e, _, hc⟩ := (HVA.out wr HB.out).cell i (by have := HK.out; omega)
      injection e with e; injection e with e
      subst e
      obtain ⟨L, hL⟩ := HMA.out i
      rw [← hL] at hc
      have HP := Lib.hid (HPA.out wr HB.out i hlt m E HG.out HE.out L hL)
      have hqI : (i : Int) < (k0 : Int) := by omega
      have hqA : (i : Int) < (na : Int) := by have := HK.out; omega
      have hw1 : IntKind.i64.wrap ((i : Int) + 1) = (i : Int) + 1 := IntWalk.i64_in _ (by have := HQ.out; have := HK.out; omega)
      have HIQ := Lib.hid (show i + 1 ≤ k0 ∧ k0 - (i + 1) < k0 - i by omega)
      have HLE := Lib.hid (show ((i + 1 : Nat) : Int) = (i : Int) + 1 by omega)
      clear hi hlt hL
      go_wp2_with (first
        | (go_at_call 12; (with_reducible refine HP.out.mono ?_); rintro e v1 ⟨m1, E1, va, vc, rfl, _, hg, hE, hb, _⟩; have HG1 := Lib.hid hg; have HE1 := Lib.hid hE; have HB1' := Lib.hid (hb _ HB.out); have HN1 := Lib.hid (show E1.length = i + 1 by rw [← pairs_len, hE, HSAL.out]); clear hg hE hb hc)
        | (go_at_call 15; (with_reducible refine (haveC p p _ _ m1 E1 _ HG1.out).mono ?_); rintro e w' ⟨rfl, rfl⟩; rw [HN1.out, HLE.out]))
      first
        | exact ⟨⟨i + 1, m1, E1, HIQ.out.1, by go_num, HG1, HE1, HB1'⟩, by simp only [intOf]; exact HIQ.out.2⟩
        | (go_roundw
           · exact ⟨i + 1, m1, E1, HIQ.out.1, by go_num, HG1, HE1, HB1'⟩
           · simp only [intOf]; exact HIQ.out.2)
    · obtain rfl : i = k0 := by omega
      have HG' := Lib.hid (show GM wr p p (SB 0).id (SB 0).cnt m E by rw [HSB0.out]; exact HG.out)
      have HE' := Lib.hid (show pairs E = (SB 0).l by rw [HSB0.out]; exact HE.out)
      clear hlt hi
      go_wp2
      go_loopw [19] (fun s19 wq => ∃ (j : Nat) (m : Option Nat) (E : List (Nat × Part)), j ≤ nb ∧ s19 = .int .i64 (j : Int) ∧ Hid (GM wq p p (SB j).id (SB j).cnt m E) ∧ Hid (pairs E = (SB j).l) ∧ Hid (Below p w3 wq)) (fun s19 _ => nb - (intOf s19).toNat)
      case atStart => exact ⟨0, m, E, Nat.zero_le _, rfl, HG', HE', HB⟩
      case round =>
        clear HG HE HB HG' HE'
        obtain ⟨j, m2, E2, hj, rfl, HG, HE, HB⟩ := hrel
        by_cases hlt : j < nb
        · obtain ⟨gl', e, _, hc⟩ := (HVB.out wr HB.out).cell j hlt
          injection e with e; injection e with e
          subst e
          obtain ⟨L, hL⟩ : ∃ L, L = (cutP (id + 1) B j).length := ⟨_, rfl⟩
          rw [← hL] at hc
          have hqI : (j : Int) < (nb : Int) := by omega
          have hw1 : IntKind.i64.wrap ((j : Int) + 1) = (j : Int) + 1 := IntWalk.i64_in _ (by have := HQ.out; omega)
          have HIQ := Lib.hid (show j + 1 ≤ nb ∧ nb - (j + 1) < nb - j by omega)
          have HJ := Lib.hid hlt
          have HLE := Lib.hid (show ((j + 1 : Nat) : Int) = (j : Int) + 1 by omega)
          have HII := Lib.hid (show (((SB (j + 1)).id : Nat) : Int) = (id : Int) + 1 by rw [(HSBI.out j).1]; omega)
          obtain ⟨L0, hL0⟩ := HMA.out (na - 1)
          have HL0 := Lib.hid hL0
          obtain ⟨zz, hzz⟩ : ∃ z, z = na - 1 := ⟨_, rfl⟩
          have hz1 : (na : Int) - 1 = (zz : Int) := by have := HQ.out; omega
          have hz2 : IntKind.i64.wrap (zz : Int) = (zz : Int) := IntWalk.i64_in _ (by have := HQ.out; omega)
          have hz3 : (zz : Int) < (na : Int) := by have := HQ.out; omega
          have HCZ := Lib.hid (fun V (hb : Below p w3 V) => (show V.cell? ⟨ga, zz, none⟩ = some (.slice (Aa (na - 1)) L0 (Ca (na - 1))) from by
            obtain ⟨g2, e, _, hc2⟩ := (HVA.out V hb).cell (na - 1) (by have := HQ.out; omega)
            injection e with e; injection e with e
            subst e
            rw [← hL0, ← hzz] at hc2
            rw [← hzz]; exact hc2))
          by_cases hl : j + 1 < nb
          · have HP := Lib.hid (HPB1.out wr HB.out j hl m2 E2 HG.out HE.out L hL)
            have u1 : ((j : Int) == (nb : Int) - 1) = false := by rw [beq_eq_false_iff_ne]; omega
            clear hj hlt hL hL0 hzz hl
            go_wp2_with (first
              | (go_at_call 12; (with_reducible refine HP.out.mono ?_); rintro e v1 ⟨m1, E1, va, vc, rfl, hsl, hg, hE, hb, _⟩; have HSL := Lib.hid hsl; have HG1 := Lib.hid hg; have HE1 := Lib.hid hE; have HB1' := Lib.hid (hb _ HB.out); have HN1 := Lib.hid (show E1.length = j + 1 by rw [← pairs_len, hE, (HSBI.out j).2]); have hcz := HCZ.out v1 HB1'.out; clear hsl hg hE hb hc)
              | (go_at_call 14; (with_reducible refine (idC p p _ _ m1 E1 _ HG1.out).mono ?_); rintro e w' ⟨rfl, rfl⟩; rw [HII.out])
              | (go_at_call 15; (with_reducible refine (haveC p p _ _ m1 E1 _ HG1.out).mono ?_); rintro e w' ⟨rfl, rfl⟩; rw [HN1.out, HLE.out])
              | (go_at_call 12; (with_reducible refine (HPO.out v1 HB1'.out j HJ.out m1 E1 HG1.out HE1.out L0 HL0.out).mono ?_); rintro e v2 ⟨m3, E3, vb, vd, rfl, _, hg, hE, hb, _⟩; have HG3 := Lib.hid hg; have HE3 := Lib.hid hE; have HB3' := Lib.hid (hb _ HB1'.out); have HN3 := Lib.hid (show E3.length = j + 1 by rw [← pairs_len, hE, (HSBI.out j).2]); clear hg hE hb hcz)
              | (go_at_call 14; (with_reducible refine (idC p p _ _ m3 E3 _ HG3.out).mono ?_); rintro e w' ⟨rfl, rfl⟩; rw [HII.out])
              | (go_at_call 15; (with_reducible refine (haveC p p _ _ m3 E3 _ HG3.out).mono ?_); rintro e w' ⟨rfl, rfl⟩; rw [HN3.out, HLE.out]))
            first
              | exact ⟨⟨j + 1, m3, E3, HIQ.out.1, by go_num, HG3, HE3, HB3'⟩, by simp only [intOf]; exact HIQ.out.2⟩
              | (go_roundw
                 · exact ⟨j + 1, m3, E3, HIQ.out.1, by go_num, HG3, HE3, HB3'⟩
                 · simp only [intOf]; exact HIQ.out.2)
          · have HP := Lib.hid (HPB2.out wr HB.out j (by omega) m2 E2 HG.out HE.out L hL)
            have HBY := Lib.hid (fun V va vc (hb : Below p w3 V) (hs : Sl V va B) => (show Calls Try.prog 11 #[.slice va n2 vc, .slice a2 n2 c2] V fun e w' => e = .returned (.bool true) ∧ V = w' from by have h := bytesC va a2 vc c2 B B V hs (sl_then (HVW.out V hb) (Nat.le_refl _) HPB.out.1) HB8.out HB8.out; rw [← HEB.out] at h; exact h.mono fun e w' hq => ⟨by rw [hq.1, decide_eq_true rfl], hq.2⟩))
            have u1 : ((j : Int) == (nb : Int) - 1) = true := by rw [beq_iff_eq]; omega
            clear hj hlt hL hL0 hzz hl
            go_wp2_with (first
              | (go_at_call 12; (with_reducible refine HP.out.mono ?_); rintro e v1 ⟨m1, E1, va, vc, rfl, hsl, hg, hE, hb, _⟩; have HSL := Lib.hid hsl; have HG1 := Lib.hid hg; have HE1 := Lib.hid hE; have HB1' := Lib.hid (hb _ HB.out); have HN1 := Lib.hid (show E1.length = j + 1 by rw [← pairs_len, hE, (HSBI.out j).2]); have hcz := HCZ.out v1 HB1'.out; clear hsl hg hE hb hc)
              | (go_at_call 11; (with_reducible refine (HBY.out _ va vc HB1'.out HSL.out).mono ?_); rintro e w' ⟨rfl, rfl⟩)
              | (go_at_call 14; (with_reducible refine (idC p p _ _ m1 E1 _ HG1.out).mono ?_); rintro e w' ⟨rfl, rfl⟩; rw [HII.out])
              | (go_at_call 15; (with_reducible refine (haveC p p _ _ m1 E1 _ HG1.out).mono ?_); rintro e w' ⟨rfl, rfl⟩; rw [HN1.out, HLE.out])
              | (go_at_call 12; (with_reducible refine (HPO.out v1 HB1'.out j HJ.out m1 E1 HG1.out HE1.out L0 HL0.out).mono ?_); rintro e v2 ⟨m3, E3, vb, vd, rfl, _, hg, hE, hb, _⟩; have HG3 := Lib.hid hg; have HE3 := Lib.hid hE; have HB3' := Lib.hid (hb _ HB1'.out); have HN3 := Lib.hid (show E3.length = j + 1 by rw [← pairs_len, hE, (HSBI.out j).2]); clear hg hE hb hcz)
              | (go_at_call 14; (with_reducible refine (idC p p _ _ m3 E3 _ HG3.out).mono ?_); rintro e w' ⟨rfl, rfl⟩; rw [HII.out])
              | (go_at_call 15; (with_reducible refine (haveC p p _ _ m3 E3 _ HG3.out).mono ?_); rintro e w' ⟨rfl, rfl⟩; rw [HN3.out, HLE.out]))
            first
              | exact ⟨⟨j + 1, m3, E3, HIQ.out.1, by go_num, HG3, HE3, HB3'⟩, by simp only [intOf]; exact HIQ.out.2⟩
              | (go_roundw
                 · exact ⟨j + 1, m3, E3, HIQ.out.1, by go_num, HG3, HE3, HB3'⟩
                 · simp only [intOf]; exact HIQ.out.2)
        · obtain rfl : j = nb := by omega
          clear hlt hj
          go_wp2_with (go_at_call 7; (with_reducible refine (HFIRST.out _).mono ?_); rintro e w9 ⟨rfl, hb⟩; have HB9 := Lib.hid (below_next2 (HVW.out _ HB.out) hb); clear hb)
          go_ret
          exact ⟨rfl, HB9.out⟩
/-- FragNewer. -/
theorem walk (id : Int) (a1 : Option Addr) (n1 c1 : Nat) (zs : List Int) (a2 : Option Addr) (n2 c2 : Nat) (ys : List Int) (had : Int) (W : World) (h1 : (Lit.int .u64 id).wf = true) (h2 : IsRow .u8 W a1 n1 c1 zs) (h3 : IsRow .u8 W a2 n2 c2 ys) (_ : (Lit.int .i64 had).wf = true) :
    Calls Try.prog 6 #[.int .u64 id, .slice a1 n1 c1, .slice a2 n2 c2, .int .i64 had] W fun e w' => e = .returned (.bool true) ∧ Below W.heap.size W w' := by
  obtain ⟨g1, g2⟩ := inU h1
  by_cases l1 : n1 ≤ 5000
  · by_cases l2 : n2 ≤ 5000
    · by_cases i1 : id < 1
      · exact no_id0 id had a1 n1 c1 a2 n2 c2 W l1 l2 i1
      · by_cases i2 : 4611686018427387904 ≤ id
        · exact no_id9 id had a1 n1 c1 a2 n2 c2 W l1 l2 i1 i2
        · by_cases i3 : had < 0
          · exact no_had id had a1 n1 c1 a2 n2 c2 W l1 l2 i1 i2 i3
          · obtain ⟨k, rfl⟩ := Int.eq_ofNat_of_zero_le g1
            obtain ⟨A, hA, sA, xA, zA, kA⟩ := row_nats h2
            obtain ⟨B, hB, sB, xB, zB, kB⟩ := row_nats h3
            exact main k had a1 n1 c1 A a2 n2 c2 B W hA.symm hB.symm l1 l2 ⟨sA, zA, by show A.length ≤ c1; omega, xA⟩ ⟨sB, zB, by show B.length ≤ c2; omega, xB⟩ (by omega) (by omega)
    · exact no_lb id had a1 n1 c1 a2 n2 c2 W l1 (by omega)
  · exact no_la id had a1 n1 c1 a2 n2 c2 W (by omega)
end Go.Proofs.Ytellhkcleicfbaa.Fn
