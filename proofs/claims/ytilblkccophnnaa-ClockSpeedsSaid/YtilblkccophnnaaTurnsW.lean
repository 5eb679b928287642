/- tiklaw22.ClockTurns: the walk. -/
import Derived.Test.YtilblkccophnnaaCkTwo
set_option linter.unusedVariables false
namespace Go.Proofs.Ytilblkccophnnaa.TurnsW
open Go Go.RowKit Kit Nums Scale Scale2 Scales CkMath CkC CkD CkE CkN CkF CkTwo

def OutP (w : World) (e : Ending) (w' : World) : Prop := e = .returned (.bool true) ∧ Below w.heap.size w w'
theorem boxes (w : World) (a b c d : Int) :
    ((w.alloc (.cells #[.int .u64 a, .int .u64 b] 24)).alloc (.cells #[.int .u64 c, .int .u64 d] 24)).cell? ⟨w.heap.size, 0, none⟩ = some (.int .u64 a) ∧
    ((w.alloc (.cells #[.int .u64 a, .int .u64 b] 24)).alloc (.cells #[.int .u64 c, .int .u64 d] 24)).cell? ⟨w.heap.size, 1, none⟩ = some (.int .u64 b) ∧
    ((w.alloc (.cells #[.int .u64 a, .int .u64 b] 24)).alloc (.cells #[.int .u64 c, .int .u64 d] 24)).cell? ⟨w.heap.size + 1, 0, none⟩ = some (.int .u64 c) ∧
    ((w.alloc (.cells #[.int .u64 a, .int .u64 b] 24)).alloc (.cells #[.int .u64 c, .int .u64 d] 24)).cell? ⟨w.heap.size + 1, 1, none⟩ = some (.int .u64 d) ∧
    Below w.heap.size w ((w.alloc (.cells #[.int .u64 a, .int .u64 b] 24)).alloc (.cells #[.int .u64 c, .int .u64 d] 24)) := by
  have e : (w.alloc (.cells #[.int .u64 a, .int .u64 b] 24)).heap.size = w.heap.size + 1 := World.size_alloc _ _
  refine ⟨past_alloc (by rw [World.cell?_alloc_new]; rfl), past_alloc (by rw [World.cell?_alloc_new]; rfl), ?_, ?_, ((Below.refl _ _).alloc (Nat.le_refl _) _).alloc (by simp) _⟩
  · rw [← e, World.cell?_alloc_new]; rfl
  · rw [← e, World.cell?_alloc_new]; rfl
set_option maxRecDepth 100000 in
set_option maxHeartbeats 4000000 in
theorem outA (t x more n d n2 d2 : Nat) (w : World) (hn : n < 18446744073709551616) (hd : d < 18446744073709551616) (hno : ¬ (mayN n d = true ∧ t ≤ mx ∧ x ≤ mx)) :
    Calls Try.prog 5 #[.int .u64 (t : Int), .int .u64 (x : Int), .int .u64 (more : Int), .agg #[.int .u64 (n : Int), .int .u64 (d : Int)], .agg #[.int .u64 (n2 : Int), .int .u64 (d2 : Int)]] w (OutP w) := by
  have HN := Lib.hid (fun w => newNo t x n d w hn hd hno)
  clear hn hd hno
  go_enter Try.func5, Try.ntmps5
  go_wp2_with fail
  obtain ⟨x0, x1, x2, x3, hb0⟩ := boxes w n d n2 d2
  generalize (w.alloc (.cells #[.int .u64 (n : Int), .int .u64 (d : Int)] 24)).alloc (.cells #[.int .u64 (n2 : Int), .int .u64 (d2 : Int)] 24) = W0 at *
  refine (first _).mono ?_
  rintro e w1 ⟨rfl, hb1⟩
  have y0 := cell_then hb1 (Nat.le_refl _) x0
  have y1 := cell_then hb1 (Nat.le_refl _) x1
  clear x0 x1 x2 x3
  go_wp2_with fail
  refine (HN.out _).mono ?_
  rintro e w2 ⟨rfl, hb2⟩
  have z0 := cell_then hb2 (Nat.le_refl _) y0
  have z1 := cell_then hb2 (Nat.le_refl _) y1
  clear y0 y1
  go_wp2_with fail
  refine (HN.out _).mono ?_
  rintro e w3 ⟨rfl, hb3⟩
  clear z0 z1
  go_wp2_with fail
  refine (first _).mono ?_
  rintro e w4 ⟨rfl, hb4⟩
  go_wp2
  go_ret
  exact ⟨rfl, below_next (below_next (below_next (below_next hb0 hb1) hb2) hb3) hb4⟩
set_option maxRecDepth 100000 in
set_option maxHeartbeats 4000000 in
theorem outB (t x more n d n2 d2 : Nat) (w : World) (hn : n < 18446744073709551616) (hd : d < 18446744073709551616) (hn2 : n2 < 18446744073709551616) (hd2 : d2 < 18446744073709551616) (hm : mayN n d = true) (ht : t ≤ mx) (hx : x ≤ mx)
    (B : Bool) (hm2 : mayN n2 d2 = B) (b1 b2 b3 : Bool) (hb1 : decide ((1099511627776 : Int) < (more : Int)) = b1) (hb2 : decide ((1152921504606846976 : Int) < (t : Int)) = b2) (hb3 : decide ((1152921504606846976 : Int) < (x : Int)) = b3) (hall : (!B || b1 || b2 || b3) = true) :
    Calls Try.prog 5 #[.int .u64 (t : Int), .int .u64 (x : Int), .int .u64 (more : Int), .agg #[.int .u64 (n : Int), .int .u64 (d : Int)], .agg #[.int .u64 (n2 : Int), .int .u64 (d2 : Int)]] w (OutP w) := by
  have HN := Lib.hid (fun w => new1 t x n d w hn hd hm ht hx)
  have HM : Hid (∀ w, Calls Try.prog 21 #[.agg #[.int .u64 (n2 : Int), .int .u64 (d2 : Int)]] w fun e w' => e = .returned (.bool B) ∧ w.alloc (.cells #[.int .u64 (n2 : Int), .int .u64 (d2 : Int)] 24) = w') := Lib.hid (fun w => by have := mayC n2 d2 w hn2 hd2; rw [hm2] at this; exact this)
  clear hn hd hn2 hd2 hm ht hx hm2
  cases B <;> cases b1 <;> cases b2 <;> cases b3
  all_goals first
    | (exact absurd hall (by decide))
    | skip
  all_goals
    clear hall
    go_enter Try.func5, Try.ntmps5
    go_wp2_with fail
    obtain ⟨x0, x1, x2, x3, hb0⟩ := boxes w n d n2 d2
    generalize (w.alloc (.cells #[.int .u64 (n : Int), .int .u64 (d : Int)] 24)).alloc (.cells #[.int .u64 (n2 : Int), .int .u64 (d2 : Int)] 24) = W0 at *
    refine (first _).mono ?_
    rintro e w1 ⟨rfl, hb1⟩
    have y0 := cell_then hb1 (Nat.le_refl _) x0
    have y1 := cell_then hb1 (Nat.le_refl _) x1
    have y2 := cell_then hb1 (Nat.le_refl _) x2
    have y3 := cell_then hb1 (Nat.le_refl _) x3
    clear x0 x1 x2 x3
    go_wp2_with fail
    refine (HN.out _).mono ?_
    rintro e w2 ⟨p, hp, rfl, hc, hb2⟩
    have z0 := cell_then hb2 (Nat.le_refl _) y0
    have z1 := cell_then hb2 (Nat.le_refl _) y1
    have z2 := cell_then hb2 (Nat.le_refl _) y2
    have z3 := cell_then hb2 (Nat.le_refl _) y3
    clear y0 y1 y2 y3
    go_wp2_with fail
    refine (HN.out _).mono ?_
    rintro e w3 ⟨q, hq, rfl, hc2, hb3⟩
    have y2 := cell_then hb3 (Nat.le_refl _) z2
    have y3 := cell_then hb3 (Nat.le_refl _) z3
    clear z0 z1 z2 z3
    go_wp2_with fail
    refine (HM.out _).mono ?_
    rintro e w4 ⟨rfl, rfl⟩
    clear y2 y3
    go_wp2_with fail
    refine (first _).mono ?_
    rintro e w4 ⟨rfl, hb4⟩
    go_wp2
    go_ret
    exact ⟨rfl, below_next (below_al (below_next (below_next (below_next hb0 hb1) hb2) hb3)) hb4⟩
set_option maxRecDepth 100000 in
set_option maxHeartbeats 8000000 in
theorem main (t x more n d n2 d2 T T2 T3 M2 M3 : Nat) (w : World) (hn : n < 18446744073709551616) (hd : d < 18446744073709551616) (hn2 : n2 < 18446744073709551616) (hd2 : d2 < 18446744073709551616) (hm : mayN n d = true) (hx : x ≤ 1152921504606846976)
    (hm2 : mayN n2 d2 = true) (hb1 : decide ((1099511627776 : Int) < (more : Int)) = false) (hb2 : decide ((1152921504606846976 : Int) < (t : Int)) = false) (hb3 : decide ((1152921504606846976 : Int) < (x : Int)) = false)
    (eT : T = t + more) (eT2 : T2 = t + 2 * more) (eT3 : T3 = t + 3 * more) (eM2 : M2 = 2 * more) (eM3 : M3 = 3 * more) (ht : t ≤ 1152921504606846976) (hmo : more ≤ 1099511627776) :
    Calls Try.prog 5 #[.int .u64 (t : Int), .int .u64 (x : Int), .int .u64 (more : Int), .agg #[.int .u64 (n : Int), .int .u64 (d : Int)], .agg #[.int .u64 (n2 : Int), .int .u64 (d2 : Int)]] w (OutP w) := by
  have htm : t ≤ mx := by rw [mx_eq]; omega
  have hTm : T ≤ mx := by rw [mx_eq]; omega
  have hT2m : T2 ≤ mx := by rw [mx_eq]; omega
  have hT3m : T3 ≤ mx := by rw [mx_eq]; omega
  have hxm : x ≤ mx := by rw [mx_eq]; omega
  have l64 : ∀ z, z ≤ mx → z < 18446744073709551616 := fun z h => by rw [mx_eq] at h; omega
  have a1 : IntKind.u64.wrap ((t : Int) + (more : Int)) = (T : Int) := by rw [IntKind.wrap_u64]; omega
  have a2 : IntKind.u64.wrap (2 * (more : Int)) = (M2 : Int) := by rw [IntKind.wrap_u64]; omega
  have a3 : IntKind.u64.wrap ((t : Int) + (M2 : Int)) = (T2 : Int) := by rw [IntKind.wrap_u64]; omega
  have a4 : IntKind.u64.wrap (3 * (more : Int)) = (M3 : Int) := by rw [IntKind.wrap_u64]; omega
  have a5 : IntKind.u64.wrap ((t : Int) + (M3 : Int)) = (T3 : Int) := by rw [IntKind.wrap_u64]; omega
  have HN := Lib.hid (fun w => new1 t x n d w hn hd hm htm hxm)
  have HM : Hid (∀ w, Calls Try.prog 21 #[.agg #[.int .u64 (n2 : Int), .int .u64 (d2 : Int)]] w fun e w' => e = .returned (.bool true) ∧ w.alloc (.cells #[.int .u64 (n2 : Int), .int .u64 (d2 : Int)] 24) = w') := Lib.hid (fun w => by have := mayC n2 d2 w hn2 hd2; rw [hm2] at this; exact this)
  obtain ⟨c0, hc0⟩ : ∃ c0 : Ck, c0 = ⟨t, x, 0, n, d⟩ := ⟨_, rfl⟩
  have K0 : Ckk c0 := by rw [hc0]; exact new_ckk (l64 _ htm) hxm hm
  have n0 : c0.now = t := by rw [hc0]
  have m0 : c0.num = n ∧ c0.den = d := by rw [hc0]; exact ⟨rfl, rfl⟩
  obtain ⟨g, hg⟩ : ∃ g, go c0 T = g := ⟨_, rfl⟩
  have Kg : Ckk g := by rw [← hg]; exact go_ckk K0 (l64 _ hTm)
  have ng : g.now = T := by rw [← hg]; exact go_now (by omega)
  have e1 : turn c0 T n d = g := by rw [← hg, ← turn_self K0.ok T, m0.1, m0.2]
  have e2 : go g T = g := by rw [← hg]; exact go_go K0.ok (by omega) (Nat.le_refl _)
  obtain ⟨k3, hk3⟩ : ∃ k3, turn g T n2 d2 = k3 := ⟨_, rfl⟩
  have K3 : Ckk k3 := by rw [← hk3]; exact turn_ckk Kg (l64 _ hTm) hm2
  have n3 : k3.now = T := by rw [← hk3, turn_eq, e2]; exact ng
  have p3 : k3.pos = g.pos := by rw [← hk3, turn_eq, e2]
  obtain ⟨k4, hk4⟩ : ∃ k4, go k3 T = k4 := ⟨_, rfl⟩
  have K4 : Ckk k4 := by rw [← hk4]; exact go_ckk K3 (l64 _ hTm)
  have n4 : k4.now = T := by rw [← hk4]; exact go_now (by omega)
  have p4 : k4.pos = g.pos := by rw [← hk4, ← p3]; have := go_self K3.ok; rw [n3] at this; exact this
  have hP := Kg.ok.pos
  obtain ⟨P, eP⟩ : ∃ P, P = g.pos := ⟨_, rfl⟩
  rw [← eP] at p4 hP
  have m01 : mayN 0 1 = true := by decide
  have m11 : mayN 1 1 = true := by decide
  have m00 : mayN 0 0 = false := by decide
  have e5 : turn k4 T 0 1 = ⟨T, P, 0, 0, 1⟩ := by have := turn_stop K4.ok; rw [n4, p4] at this; exact this
  have K5 : Ckk ⟨T, P, 0, 0, 1⟩ := new_ckk (l64 _ hTm) hP m01
  have e6 : go ⟨T, P, 0, 0, 1⟩ T2 = ⟨T2, P, 0, 0, 1⟩ := go_stop hP (by omega)
  have K6 : Ckk ⟨T2, P, 0, 0, 1⟩ := new_ckk (l64 _ hT2m) hP m01
  have e7 : turn ⟨T2, P, 0, 0, 1⟩ T2 1 1 = ⟨T2, P, 0, 1, 1⟩ := turn_wall hP
  have K7 : Ckk ⟨T2, P, 0, 1, 1⟩ := new_ckk (l64 _ hT2m) hP m11
  obtain ⟨k8, hk8⟩ : ∃ k8, go ⟨T2, P, 0, 1, 1⟩ T3 = k8 := ⟨_, rfl⟩
  have K8 : Ckk k8 := by rw [← hk8]; exact go_ckk K7 (l64 _ hT3m)
  obtain ⟨Z, eZ⟩ : ∃ Z, Z = P + more := ⟨_, rfl⟩
  have p8 : k8.pos = min Z mx := by rw [← hk8, go_pos (show (⟨T2, P, 0, 1, 1⟩ : Ck).now ≤ T3 by show T2 ≤ T3; omega), reach_wall (by omega), eZ, show T3 - T2 = more by omega]
  have a6 : IntKind.u64.wrap ((P : Int) + (more : Int)) = (Z : Int) := by rw [mx_eq] at hP; rw [IntKind.wrap_u64]; omega
  have K9 : Ckk (stood k8 t 5) := ⟨⟨K8.ok.den, K8.ok.den, show (5 : Nat) ≤ mx by decide⟩, K8.may, l64 _ htm⟩
  have r9 : (reach (stood k8 t 5) t).1 = 5 := reach_now K9.ok
  have s9 : (stood k8 t 5).rest = 0 := rfl
  obtain ⟨k9, hk9⟩ : ∃ k9, stood k8 t 5 = k9 := ⟨_, rfl⟩
  rw [hk9] at K9 r9 s9
  have hno : ¬ (t ≤ mx ∧ mayN 0 0 = true) := fun h => by rw [m00] at h; exact absurd h.2 (by decide)
  have hc5 : (5 : Nat) ≤ mx := by decide
  have C1 := Lib.hid (fun w p q d' W (h : Two w p q c0 d' W) => turn2 T n d h K0 hTm hm hn hd e1)
  have C2 := Lib.hid (fun w p q d' W (h : Two w p q g d' W) => go2 T h Kg (l64 _ hTm) e2)
  have C3 := Lib.hid (fun w p q d' W (h : Two w p q c0 d' W) => go2 T h K0 (l64 _ hTm) hg)
  have C4 := Lib.hid (fun w p q d' W (h : Two w p q g d' W) => turn2 T n2 d2 h Kg hTm hm2 hn2 hd2 hk3)
  have C5 := Lib.hid (fun w p q d' W (h : Two w p q k3 d' W) => go2 T h K3 (l64 _ hTm) hk4)
  have C6 := Lib.hid (fun w p q d' W (h : Two w p q k4 d' W) => turn2 T 0 1 h K4 hTm m01 (by decide) (by decide) e5)
  have C7 := Lib.hid (fun w p q d' W (h : Two w p q ⟨T, P, 0, 0, 1⟩ d' W) => go2 T2 h K5 (l64 _ hT2m) e6)
  have C8 := Lib.hid (fun w p q d' W (h : Two w p q ⟨T2, P, 0, 0, 1⟩ d' W) => turn2 T2 1 1 h K6 hT2m m11 (by decide) (by decide) e7)
  have C9 := Lib.hid (fun w p q d' W (h : Two w p q ⟨T2, P, 0, 1, 1⟩ d' W) => go2 T3 h K7 (l64 _ hT3m) hk8)
  have C10 := Lib.hid (fun w p q d' W (h : Two w p q k8 d' W) => set2 t 5 h htm hc5)
  have C11 := Lib.hid (fun w p q d' W (h : Two w p q k9 d' W) => at2 t h K9 (l64 _ htm))
  have C12 := Lib.hid (fun w p q d' W (h : Two w p q k9 d' W) => turn2No t 0 0 h K9 (l64 _ htm) (by decide) (by decide) hno)
  rw [r9] at C11
  have HP8 := Lib.hid p8
  have HK9 := Lib.hid hk9
  have HS9 := Lib.hid s9
  have P4 := Lib.hid p4
  have HE := Lib.hid hc0
  have EP := Lib.hid eP
  clear K0 n0 m0 hg Kg ng e1 e2 hk3 K3 n3 p3 hk4 K4 n4 p4 hP eP e5 K5 e6 K6 e7 K7 hk8 K8 eZ p8 K9 r9 s9 hno hc5 hc0 hm hm2 hn hd hn2 hd2 htm hTm hT2m hT3m hxm l64 hmo ht hx eT eT2 eT3 eM2 eM3 hk9 m01 m11 m00
  go_enter Try.func5, Try.ntmps5
  go_wp2_with fail
  obtain ⟨x0, x1, x2, x3, hb0⟩ := boxes w n d n2 d2
  generalize (w.alloc (.cells #[.int .u64 (n : Int), .int .u64 (d : Int)] 24)).alloc (.cells #[.int .u64 (n2 : Int), .int .u64 (d2 : Int)] 24) = W0 at *
  have X0 := Lib.hid x0
  have X1 := Lib.hid x1
  have X2 := Lib.hid x2
  have X3 := Lib.hid x3
  clear x0 x1 x2 x3
  refine (first _).mono ?_
  rintro e w1 ⟨rfl, hb1⟩
  have y0 := cell_then hb1 (Nat.le_refl _) X0.out
  have y1 := cell_then hb1 (Nat.le_refl _) X1.out
  go_wp2_with fail
  refine (HN.out _).mono ?_
  rintro e w2 ⟨p, hp, rfl, hc, hb2⟩
  have z0 := cell_then hb2 (Nat.le_refl _) y0
  have z1 := cell_then hb2 (Nat.le_refl _) y1
  clear y0 y1
  go_wp2_with fail
  refine (HN.out _).mono ?_
  rintro e w3 ⟨q, hq, rfl, hc2, hb3⟩
  clear z0 z1
  rw [← HE.out] at hc hc2
  have h3 : Two W0 p q c0 c0 w3 := two_of hb1 hp hc hb2 hq hc2 hb3
  clear hc hc2 hb1 hb2 hb3 hp hq
  have y2 := h3.cell X2.out
  have y3 := h3.cell X3.out
  go_wp2_with fail
  refine (HM.out _).mono ?_
  rintro e w4 ⟨rfl, rfl⟩
  have h4 := h3.then_ ((Below.refl _ _).alloc (Nat.le_refl _) (.cells #[.int .u64 (n2 : Int), .int .u64 (d2 : Int)] 24))
  clear h3 y2 y3
  generalize w3.alloc (.cells #[.int .u64 (n2 : Int), .int .u64 (d2 : Int)] 24) = w4 at *
  have y0 := h4.cell X0.out
  have y1 := h4.cell X1.out
  go_wp2_with fail
  refine (C1.out _ _ _ _ _ h4).mono ?_
  rintro e w5 ⟨rfl, h5⟩
  clear y0 y1 h4
  go_wp2_with fail
  refine (C2.out _ _ _ _ _ h5).mono ?_
  rintro e w6 ⟨rfl, h6⟩
  clear h5
  go_wp2_with fail
  refine (C3.out _ _ _ _ _ h6.swap).mono ?_
  rintro e w7 ⟨rfl, h7⟩
  clear h6
  have g0 : ((g.pos : Int) != (g.pos : Int)) = false := by simp
  have g1 : ((g.rest : Int) != (g.rest : Int)) = false := by simp
  go_wp2_with fail
  refine (restC p g w7 h7.swap.cp).mono ?_
  rintro e w8 ⟨rfl, rfl⟩
  go_wp2_with fail
  refine (restC q g w7 h7.cp).mono ?_
  rintro e w8 ⟨rfl, rfl⟩
  go_wp2_with fail
  refine (C2.out _ _ _ _ _ h7.swap).mono ?_
  rintro e w8 ⟨rfl, h8⟩
  clear h7
  rw [← EP.out]
  have y2 := h8.cell X2.out
  have y3 := h8.cell X3.out
  go_wp2_with fail
  refine (C4.out _ _ _ _ _ h8).mono ?_
  rintro e w9 ⟨rfl, h9⟩
  clear h8 y2 y3
  go_wp2_with fail
  refine (C5.out _ _ _ _ _ h9).mono ?_
  rintro e w10 ⟨rfl, h10⟩
  clear h9
  rw [P4.out]
  have g2 : ((P : Int) != (P : Int)) = false := by simp
  go_wp2_with fail
  refine (C6.out _ _ _ _ _ h10).mono ?_
  rintro e w11 ⟨rfl, h11⟩
  clear h10
  go_wp2_with fail
  refine (C7.out _ _ _ _ _ h11).mono ?_
  rintro e w12 ⟨rfl, h12⟩
  clear h11
  go_wp2_with fail
  refine (C8.out _ _ _ _ _ h12).mono ?_
  rintro e w13 ⟨rfl, h13⟩
  clear h12
  go_wp2_with fail
  refine (C9.out _ _ _ _ _ h13).mono ?_
  rintro e w14 ⟨rfl, h14⟩
  clear h13
  rw [HP8.out]
  have hz : (Hid (min Z mx = 4611686018427387904) ∧ (4611686018427387904 : Int) < (Z : Int)) ∨ (Hid (min Z mx = Z) ∧ ¬ (4611686018427387904 : Int) < (Z : Int)) := by
    rw [mx_eq]
    by_cases h : 4611686018427387904 < Z
    · exact .inl ⟨Lib.hid (by omega), by omega⟩
    · exact .inr ⟨Lib.hid (by omega), by omega⟩
  rcases hz with ⟨HZ, hz⟩ | ⟨HZ, hz⟩
  all_goals
    rw [HZ.out]
    have g3 : ((Z : Int) != (Z : Int)) = false := by simp
    go_wp2_with fail
    refine (first _).mono ?_
    rintro e w15 ⟨rfl, hb15⟩
    replace h14 := h14.then_ hb15
    clear hb15
    go_wp2_with fail
    refine (C10.out _ _ _ _ _ h14).mono ?_
    rintro e w16 ⟨rfl, h16⟩
    clear h14
    rw [HK9.out] at h16
    go_wp2_with fail
    refine (C11.out _ _ _ _ _ h16).mono ?_
    rintro e w17 ⟨rfl, h17⟩
    clear h16
    go_wp2_with fail
    refine (restC p k9 w17 h17.cp).mono ?_
    rw [HS9.out]
    rintro e w18 ⟨rfl, rfl⟩
    go_wp2_with fail
    refine (C12.out _ _ _ _ _ h17).mono ?_
    rintro e w18 ⟨rfl, h18⟩
    go_wp2
    go_ret
    exact ⟨rfl, below_next hb0 h18.bel⟩
theorem in64 {n : Int} (h : (Lit.int .u64 n).wf = true) : 0 ≤ n ∧ n < 18446744073709551616 := by
  simp only [Lit.wf, Bool.and_eq_true, decide_eq_true_eq] at h
  have h1 : IntKind.u64.min = 0 := by decide
  have h2 : IntKind.u64.max = 18446744073709551615 := by decide
  omega
theorem walk (t x more n d n2 d2 : Int) (W : World) (w0 : (Lit.int .u64 t).wf = true) (w1 : (Lit.int .u64 x).wf = true) (w2 : (Lit.int .u64 more).wf = true) (w3 : (Lit.int .u64 n).wf = true) (w4 : (Lit.int .u64 d).wf = true) (w5 : (Lit.int .u64 n2).wf = true) (w6 : (Lit.int .u64 d2).wf = true) :
    Calls Try.prog 5 #[.int .u64 t, .int .u64 x, .int .u64 more, .agg #[.int .u64 n, .int .u64 d], .agg #[.int .u64 n2, .int .u64 d2]] W fun e w' => e = .returned (.bool true) ∧ Below W.heap.size W w' := by
  obtain ⟨p0, q0⟩ := in64 w0
  obtain ⟨p1, q1⟩ := in64 w1
  obtain ⟨p2, q2⟩ := in64 w2
  obtain ⟨p3, q3⟩ := in64 w3
  obtain ⟨p4, q4⟩ := in64 w4
  obtain ⟨p5, q5⟩ := in64 w5
  obtain ⟨p6, q6⟩ := in64 w6
  obtain ⟨t, rfl⟩ := Int.eq_ofNat_of_zero_le p0
  obtain ⟨x, rfl⟩ := Int.eq_ofNat_of_zero_le p1
  obtain ⟨more, rfl⟩ := Int.eq_ofNat_of_zero_le p2
  obtain ⟨n, rfl⟩ := Int.eq_ofNat_of_zero_le p3
  obtain ⟨d, rfl⟩ := Int.eq_ofNat_of_zero_le p4
  obtain ⟨n2, rfl⟩ := Int.eq_ofNat_of_zero_le p5
  obtain ⟨d2, rfl⟩ := Int.eq_ofNat_of_zero_le p6
  by_cases hA : mayN n d = true ∧ t ≤ mx ∧ x ≤ mx
  · by_cases hB : mayN n2 d2 = true ∧ more ≤ 1099511627776 ∧ t ≤ 1152921504606846976 ∧ x ≤ 1152921504606846976
    · obtain ⟨h1, h2, h3, h4⟩ := hB
      exact main t x more n d n2 d2 _ _ _ _ _ W (by omega) (by omega) (by omega) (by omega) hA.1 h4 h1 (decide_eq_false (by omega)) (decide_eq_false (by omega)) (decide_eq_false (by omega)) rfl rfl rfl rfl rfl h3 h2
    · refine outB t x more n d n2 d2 W (by omega) (by omega) (by omega) (by omega) hA.1 hA.2.1 hA.2.2 _ rfl _ _ _ rfl rfl rfl ?_
      cases h1 : mayN n2 d2
      · rfl
      · simp only [Bool.not_true, Bool.false_or, Bool.or_eq_true, decide_eq_true_eq]
        have hB : ¬ (more ≤ 1099511627776 ∧ t ≤ 1152921504606846976 ∧ x ≤ 1152921504606846976) := fun h => hB ⟨h1, h⟩
        omega
  · exact outA t x more n d n2 d2 W (by omega) (by omega) hA
end Go.Proofs.Ytilblkccophnnaa.TurnsW
