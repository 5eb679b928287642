/- PeerRoams: whatever came in. -/
import Derived.Test.YtmfkfpgomglplaaDoorPv
set_option linter.unusedVariables false
namespace Go.Proofs.YtmfkfpgomglplaaDoor.Px
open Go Go.RowKit Kit Mb Sha Ap Mc1 Sc Mx Sb Pd Su Pa Hm Mm Tg Mf Pk Se Wn Op Pe Ps Pt Oq Pu Ar Pv


set_option maxRecDepth 100000 in
theorem out1 (ka : Option Addr) (kc : Nat) (key : List Nat) (oa : Option Addr) (on oc : Nat) (fa : Option Addr) (fn fc : Nat) (w : World)
    (ks : Sl w ka key) (k0 : ka = none → kc = 0) (kb : key.length ≤ 140737488355328) (h1 : 1000 < key.length) (hT : TabR w) (hB : TabB w) :
    Calls Tryd.prog 12 #[.slice ka key.length kc, .slice oa on oc, .slice fa fn fc] w fun e w' => e = .returned (.bool true) ∧ Below w.heap.size w w' := by
  have KS := Lib.hid ks
  have K0 := Lib.hid k0
  have KB := Lib.hid kb
  have HT := Lib.hid hT
  have HB := Lib.hid hB
  have t1 : 1000 < (key.length : Int) := by omega
  clear h1
  clear ks k0 kb hT hB
  go_enter Tryd.func12, Tryd.ntmps12
  go_wp2_with (first
    | (go_at_call 37; (with_reducible refine (qfirst w HT.out HB.out).mono ?_); rintro e w0 ⟨rfl, b0⟩; have HB0 := Lib.hid b0; clear b0)
    | (go_at_call 39; (with_reducible refine (newA ka _ kc key w0 ?_ (sl_then HB0.out (Nat.le_refl _) KS.out) K0.out KB.out).mono ?_); exact rfl; rintro e w1 ⟨xa, rfl, pa, la, ha, ba⟩; have HB1 := Lib.hid (below_then HB0.out ba HB0.out.size); clear pa la ha ba)
    | (go_at_call 39; (with_reducible refine (newB ka _ kc key w1 ?_ (sl_then HB1.out (Nat.le_refl _) KS.out) K0.out KB.out).mono ?_); exact rfl; rintro e w2 ⟨xb, rfl, pb, lb, hb, bb⟩; have HB2 := Lib.hid (below_then HB1.out bb HB1.out.size); clear pb lb hb bb)
    | (go_at_call 37; (with_reducible refine (qfirst w2 (tabR_then HB2.out HT.out) (tabB_then HB2.out HB.out)).mono ?_); rintro e w3 ⟨rfl, b3⟩; have HB3 := Lib.hid (below_then HB2.out b3 HB2.out.size); clear b3))
  go_ret
  exact ⟨rfl, HB3.out⟩

set_option maxRecDepth 100000 in
theorem out2 (ka : Option Addr) (kc : Nat) (key : List Nat) (oa : Option Addr) (on oc : Nat) (fa : Option Addr) (fn fc : Nat) (w : World)
    (ks : Sl w ka key) (k0 : ka = none → kc = 0) (kb : key.length ≤ 140737488355328) (h1 : ¬ 1000 < key.length) (h2 : 100 < on) (hT : TabR w) (hB : TabB w) :
    Calls Tryd.prog 12 #[.slice ka key.length kc, .slice oa on oc, .slice fa fn fc] w fun e w' => e = .returned (.bool true) ∧ Below w.heap.size w w' := by
  have KS := Lib.hid ks
  have K0 := Lib.hid k0
  have KB := Lib.hid kb
  have HT := Lib.hid hT
  have HB := Lib.hid hB
  have t1 : ¬ 1000 < (key.length : Int) := by omega
  have t2 : 100 < (on : Int) := by omega
  clear h1 h2
  clear ks k0 kb hT hB
  go_enter Tryd.func12, Tryd.ntmps12
  go_wp2_with (first
    | (go_at_call 37; (with_reducible refine (qfirst w HT.out HB.out).mono ?_); rintro e w0 ⟨rfl, b0⟩; have HB0 := Lib.hid b0; clear b0)
    | (go_at_call 39; (with_reducible refine (newA ka _ kc key w0 ?_ (sl_then HB0.out (Nat.le_refl _) KS.out) K0.out KB.out).mono ?_); exact rfl; rintro e w1 ⟨xa, rfl, pa, la, ha, ba⟩; have HB1 := Lib.hid (below_then HB0.out ba HB0.out.size); clear pa la ha ba)
    | (go_at_call 39; (with_reducible refine (newB ka _ kc key w1 ?_ (sl_then HB1.out (Nat.le_refl _) KS.out) K0.out KB.out).mono ?_); exact rfl; rintro e w2 ⟨xb, rfl, pb, lb, hb, bb⟩; have HB2 := Lib.hid (below_then HB1.out bb HB1.out.size); clear pb lb hb bb)
    | (go_at_call 37; (with_reducible refine (qfirst w2 (tabR_then HB2.out HT.out) (tabB_then HB2.out HB.out)).mono ?_); rintro e w3 ⟨rfl, b3⟩; have HB3 := Lib.hid (below_then HB2.out b3 HB2.out.size); clear b3))
  go_ret
  exact ⟨rfl, HB3.out⟩

set_option maxRecDepth 100000 in
theorem out3 (ka : Option Addr) (kc : Nat) (key : List Nat) (oa : Option Addr) (on oc : Nat) (fa : Option Addr) (fn fc : Nat) (w : World)
    (ks : Sl w ka key) (k0 : ka = none → kc = 0) (kb : key.length ≤ 140737488355328) (h1 : ¬ 1000 < key.length) (h2 : ¬ 100 < on) (h3 : fn < on) (hT : TabR w) (hB : TabB w) :
    Calls Tryd.prog 12 #[.slice ka key.length kc, .slice oa on oc, .slice fa fn fc] w fun e w' => e = .returned (.bool true) ∧ Below w.heap.size w w' := by
  have KS := Lib.hid ks
  have K0 := Lib.hid k0
  have KB := Lib.hid kb
  have HT := Lib.hid hT
  have HB := Lib.hid hB
  have t1 : ¬ 1000 < (key.length : Int) := by omega
  have t2 : ¬ 100 < (on : Int) := by omega
  have t3 : (fn : Int) < (on : Int) := by omega
  clear h1 h2 h3
  clear ks k0 kb hT hB
  go_enter Tryd.func12, Tryd.ntmps12
  go_wp2_with (first
    | (go_at_call 37; (with_reducible refine (qfirst w HT.out HB.out).mono ?_); rintro e w0 ⟨rfl, b0⟩; have HB0 := Lib.hid b0; clear b0)
    | (go_at_call 39; (with_reducible refine (newA ka _ kc key w0 ?_ (sl_then HB0.out (Nat.le_refl _) KS.out) K0.out KB.out).mono ?_); exact rfl; rintro e w1 ⟨xa, rfl, pa, la, ha, ba⟩; have HB1 := Lib.hid (below_then HB0.out ba HB0.out.size); clear pa la ha ba)
    | (go_at_call 39; (with_reducible refine (newB ka _ kc key w1 ?_ (sl_then HB1.out (Nat.le_refl _) KS.out) K0.out KB.out).mono ?_); exact rfl; rintro e w2 ⟨xb, rfl, pb, lb, hb, bb⟩; have HB2 := Lib.hid (below_then HB1.out bb HB1.out.size); clear pb lb hb bb)
    | (go_at_call 37; (with_reducible refine (qfirst w2 (tabR_then HB2.out HT.out) (tabB_then HB2.out HB.out)).mono ?_); rintro e w3 ⟨rfl, b3⟩; have HB3 := Lib.hid (below_then HB2.out b3 HB2.out.size); clear b3))
  go_ret
  exact ⟨rfl, HB3.out⟩

theorem is_of {w : World} {a : Option Addr} {l : List Int} (h : l = [] ∨ ∃ b off, a = some ⟨b, off, none⟩ ∧ ∀ i, (h : i < l.length) → w.cell? ⟨b, off + i, none⟩ = some (.int .i64 l[i])) : Is w a l := h
theorem walk (a0 : Option Addr) (n0 c0 : Nat) (z0 : List Int) (a1 : Option Addr) (n1 c1 : Nat) (z1 : List Int) (a2 : Option Addr) (n2 c2 : Nat) (z2 : List Int) (W : World)
    (w0 : IsRow .u8 W a0 n0 c0 z0 ∧ n0 ≤ 140737488351232) (w1 : IsRow .i64 W a1 n1 c1 z1) (w2 : IsRow .i64 W a2 n2 c2 z2)
    (h1 : Lib.TabIs Tryd.prog W "tickertape/mac.rounds" .u32 [1116352408, 1899447441, 3049323471, 3921009573, 961987163, 1508970993, 2453635748, 2870763221, 3624381080, 310598401, 607225278, 1426881987, 1925078388, 2162078206, 2614888103, 3248222580, 3835390401, 4022224774, 264347078, 604807628, 770255983, 1249150122, 1555081692, 1996064986, 2554220882, 2821834349, 2952996808, 3210313671, 3336571891, 3584528711, 113926993, 338241895, 666307205, 773529912, 1294757372, 1396182291, 1695183700, 1986661051, 2177026350, 2456956037, 2730485921, 2820302411, 3259730800, 3345764771, 3516065817, 3600352804, 4094571909, 275423344, 430227734, 506948616, 659060556, 883997877, 958139571, 1322822218, 1537002063, 1747873779, 1955562222, 2024104815, 2227730452, 2361852424, 2428436474, 2756734187, 3204031479, 3329325298]) (h2 : Lib.TabIs Tryd.prog W "tickertape/mac.beginning" .u32 [1779033703, 3144134277, 1013904242, 2773480762, 1359893119, 2600822924, 528734635, 1541459225]) :
    Calls Tryd.prog 12 #[.slice a0 n0 c0, .slice a1 n1 c1, .slice a2 n2 c2] W fun e w' => e = .returned (.bool true) ∧ Below W.heap.size W w' := by
  obtain ⟨w0, hb0⟩ := w0
  obtain ⟨key, rfl, kl, ks, k0, kcap, _⟩ := row_bytes w0
  obtain ⟨O, rfl, _, hO, _⟩ := row_ints w1
  obtain ⟨F, rfl, _, hF, _⟩ := row_ints w2
  have hT := tabR_of h1
  have hB := tabB_of h2
  by_cases g1 : 1000 < key.length
  · exact out1 a0 c0 key a1 O.length c1 a2 F.length c2 W ks k0 (by omega) g1 hT hB
  · by_cases g2 : 100 < O.length
    · exact out2 a0 c0 key a1 O.length c1 a2 F.length c2 W ks k0 (by omega) g1 g2 hT hB
    · by_cases g3 : F.length < O.length
      · exact out3 a0 c0 key a1 O.length c1 a2 F.length c2 W ks k0 (by omega) g1 g2 g3 hT hB
      · exact walkIn a0 c0 key a1 c1 O a2 c2 F W ks k0 kl (by omega) hO hF (by omega) (by omega) hT hB

end Go.Proofs.YtmfkfpgomglplaaDoor.Px
