/- tiklaw22.ClockSpeeds: the walk. -/
import Derived.Test.YtilblkccophnnaaTurnsW
import Derived.Test.YtilblkccophnnaaStepsW
set_option linter.unusedVariables false
namespace Go.Proofs.Ytilblkccophnnaa.SpeedsW
open Go Go.RowKit Kit Nums Scale Scale2 Scales CkMath CkC CkD CkE CkN CkF CkTwo

def OutP (w : World) (e : Ending) (w' : World) : Prop := e = .returned (.bool true) ∧ Below w.heap.size w w'
theorem reach_min {t x n d T : Nat} (hd : 0 < d) (hx : x ≤ mx) : (reach ⟨t, x, 0, n, d⟩ T).1 = min (x + (T - t) * n / d) mx := by
  rw [reach_by (c := ⟨t, x, 0, n, d⟩) ⟨hd, hd, hx⟩ T]
  simp only [Nat.add_zero]
  split <;> simp only <;> omega
theorem reach_free {t x n d T : Nat} (hd : 0 < d) (hx : x ≤ mx) (h : x + (T - t) * n / d < mx) : reach ⟨t, x, 0, n, d⟩ T = (x + (T - t) * n / d, (T - t) * n % d) := by
  rw [reach_by (c := ⟨t, x, 0, n, d⟩) ⟨hd, hd, hx⟩ T]
  simp only [Nat.add_zero]
  rw [if_neg (by omega)]
theorem faster {E n d n2 d2 : Nat} (hd : 0 < d) (hd2 : 0 < d2) (h : n2 * d ≤ n * d2) : E * n2 / d2 ≤ E * n / d := by
  rw [Nat.le_div_iff_mul_le hd]
  have h1 : E * n2 / d2 * d2 ≤ E * n2 := Nat.div_mul_le_self _ _
  refine Nat.le_of_mul_le_mul_right (c := d2) ?_ hd2
  calc E * n2 / d2 * d * d2 = E * n2 / d2 * d2 * d := by rw [Nat.mul_assoc, Nat.mul_comm d d2, ← Nat.mul_assoc]
    _ ≤ E * n2 * d := Nat.mul_le_mul_right _ h1
    _ = E * (n2 * d) := Nat.mul_assoc _ _ _
    _ ≤ E * (n * d2) := Nat.mul_le_mul_left _ h
    _ = E * n * d2 := (Nat.mul_assoc _ _ _).symm
theorem mayLe {n d : Nat} (h : mayN n d = true) : 0 < d ∧ d ≤ 1048576 ∧ n ≤ 1024 * d := by
  obtain ⟨k, h1, h2, h3, _⟩ := may_pow h
  have h4 : 2 ^ k ≤ 2 ^ 20 := Nat.pow_le_pow_right (by decide) h1
  have h5 : 0 < 2 ^ k := Nat.two_pow_pos k
  omega
set_option maxRecDepth 100000 in
set_option maxHeartbeats 4000000 in
theorem outA1 (t x n d n2 d2 : Nat) (a : Option Addr) (len cap : Nat) (w : World) (hn : n < 18446744073709551616) (hd : d < 18446744073709551616) (hn2 : n2 < 18446744073709551616) (hd2 : d2 < 18446744073709551616) (hno : ¬ (mayN n d = true ∧ t ≤ mx ∧ x ≤ mx)) (hno2 : ¬ (mayN n2 d2 = true ∧ t ≤ mx ∧ x ≤ mx)) :
    Calls Try.prog 6 #[.int .u64 (t : Int), .int .u64 (x : Int), .agg #[.int .u64 (n : Int), .int .u64 (d : Int)], .agg #[.int .u64 (n2 : Int), .int .u64 (d2 : Int)], .slice a len cap] w (OutP w) := by
  have HN := Lib.hid (fun w => newNo t x n d w hn hd hno)
  have HN2 := Lib.hid (fun w => newNo t x n2 d2 w hn2 hd2 hno2)
  clear hn hd hn2 hd2 hno
  go_enter Try.func6, Try.ntmps6
  go_wp2_with fail
  obtain ⟨x0, x1, x2, x3, hb0⟩ := TurnsW.boxes w n d n2 d2
  generalize (w.alloc (.cells #[.int .u64 (n : Int), .int .u64 (d : Int)] 24)).alloc (.cells #[.int .u64 (n2 : Int), .int .u64 (d2 : Int)] 24) = W0 at *
  refine (first _).mono ?_
  rintro e w1 ⟨rfl, hb1⟩
  have y0 := cell_then hb1 (Nat.le_refl _) x0
  have y1 := cell_then hb1 (Nat.le_refl _) x1
  have y2 := cell_then hb1 (Nat.le_refl _) x2
  have y3 := cell_then hb1 (Nat.le_refl _) x3
  clear x0 x1 x2 x3
  go_wp2_with fail
  refine (HN.out _).mono ?_
  rintro e w2 ⟨rfl, hb2⟩
  have z0 := cell_then hb2 (Nat.le_refl _) y0
  have z1 := cell_then hb2 (Nat.le_refl _) y1
  have z2 := cell_then hb2 (Nat.le_refl _) y2
  have z3 := cell_then hb2 (Nat.le_refl _) y3
  clear y0 y1 y2 y3
  go_wp2_with fail
  refine (HN2.out _).mono ?_
  rintro e w3 ⟨rfl, hb3⟩
  have y0 := cell_then hb3 (Nat.le_refl _) z0
  have y1 := cell_then hb3 (Nat.le_refl _) z1
  have y2 := cell_then hb3 (Nat.le_refl _) z2
  have y3 := cell_then hb3 (Nat.le_refl _) z3
  clear z0 z1 z2 z3
  go_wp2_with fail
  refine (first _).mono ?_
  rintro e w4 ⟨rfl, hb4⟩
  go_wp2
  go_ret
  exact ⟨rfl, below_next (below_next (below_next (below_next hb0 hb1) hb2) hb3) hb4⟩
set_option maxRecDepth 100000 in
set_option maxHeartbeats 4000000 in
theorem outA2 (t x n d n2 d2 : Nat) (a : Option Addr) (len cap : Nat) (w : World) (hn : n < 18446744073709551616) (hd : d < 18446744073709551616) (hn2 : n2 < 18446744073709551616) (hd2 : d2 < 18446744073709551616) (hno : ¬ (mayN n d = true ∧ t ≤ mx ∧ x ≤ mx)) (hm2 : mayN n2 d2 = true) (ht : t ≤ mx) (hx : x ≤ mx) :
    Calls Try.prog 6 #[.int .u64 (t : Int), .int .u64 (x : Int), .agg #[.int .u64 (n : Int), .int .u64 (d : Int)], .agg #[.int .u64 (n2 : Int), .int .u64 (d2 : Int)], .slice a len cap] w (OutP w) := by
  have HN := Lib.hid (fun w => newNo t x n d w hn hd hno)
  have HN2 := Lib.hid (fun w => new1 t x n2 d2 w hn2 hd2 hm2 ht hx)
  clear hn hd hn2 hd2 hno
  go_enter Try.func6, Try.ntmps6
  go_wp2_with fail
  obtain ⟨x0, x1, x2, x3, hb0⟩ := TurnsW.boxes w n d n2 d2
  generalize (w.alloc (.cells #[.int .u64 (n : Int), .int .u64 (d : Int)] 24)).alloc (.cells #[.int .u64 (n2 : Int), .int .u64 (d2 : Int)] 24) = W0 at *
  refine (first _).mono ?_
  rintro e w1 ⟨rfl, hb1⟩
  have y0 := cell_then hb1 (Nat.le_refl _) x0
  have y1 := cell_then hb1 (Nat.le_refl _) x1
  have y2 := cell_then hb1 (Nat.le_refl _) x2
  have y3 := cell_then hb1 (Nat.le_refl _) x3
  clear x0 x1 x2 x3
  go_wp2_with fail
  refine (HN.out _).mono ?_
  rintro e w2 ⟨rfl, hb2⟩
  have z0 := cell_then hb2 (Nat.le_refl _) y0
  have z1 := cell_then hb2 (Nat.le_refl _) y1
  have z2 := cell_then hb2 (Nat.le_refl _) y2
  have z3 := cell_then hb2 (Nat.le_refl _) y3
  clear y0 y1 y2 y3
  go_wp2_with fail
  refine (HN2.out _).mono ?_
  rintro e w3 ⟨q, hq, rfl, hc2, hb3⟩
  have y0 := cell_then hb3 (Nat.le_refl _) z0
  have y1 := cell_then hb3 (Nat.le_refl _) z1
  have y2 := cell_then hb3 (Nat.le_refl _) z2
  have y3 := cell_then hb3 (Nat.le_refl _) z3
  clear z0 z1 z2 z3
  go_wp2_with fail
  refine (first _).mono ?_
  rintro e w4 ⟨rfl, hb4⟩
  go_wp2
  go_ret
  exact ⟨rfl, below_next (below_next (below_next (below_next hb0 hb1) hb2) hb3) hb4⟩
set_option maxRecDepth 100000 in
set_option maxHeartbeats 4000000 in
theorem outB (t x n d n2 d2 : Nat) (a : Option Addr) (len cap : Nat) (w : World) (hn : n < 18446744073709551616) (hd : d < 18446744073709551616) (hn2 : n2 < 18446744073709551616) (hd2 : d2 < 18446744073709551616) (hm : mayN n d = true) (ht : t ≤ mx) (hx : x ≤ mx) (hno2 : ¬ (mayN n2 d2 = true ∧ t ≤ mx ∧ x ≤ mx)) :
    Calls Try.prog 6 #[.int .u64 (t : Int), .int .u64 (x : Int), .agg #[.int .u64 (n : Int), .int .u64 (d : Int)], .agg #[.int .u64 (n2 : Int), .int .u64 (d2 : Int)], .slice a len cap] w (OutP w) := by
  have HN := Lib.hid (fun w => new1 t x n d w hn hd hm ht hx)
  have HN2 := Lib.hid (fun w => newNo t x n2 d2 w hn2 hd2 hno2)
  clear hn hd hn2 hd2 
  go_enter Try.func6, Try.ntmps6
  go_wp2_with fail
  obtain ⟨x0, x1, x2, x3, hb0⟩ := TurnsW.boxes w n d n2 d2
  generalize (w.alloc (.cells #[.int .u64 (n : Int), .int .u64 (d : Int)] 24)).alloc (.cells #[.int .u64 (n2 : Int), .int .u64 (d2 : Int)] 24) = W0 at *
  refine (first _).mono ?_
  rintro e w1 ⟨rfl, hb1⟩
  have y0 := cell_then hb1 (Nat.le_refl _) x0
  have y1 := cell_then hb1 (Nat.le_refl _) x1
  have y2 := cell_then hb1 (Nat.le_refl _) x2
  have y3 := cell_then hb1 (Nat.le_refl _) x3
  clear x0 x1 x2 x3
  go_wp2_with fail
  refine (HN.out _).mono ?_
  rintro e w2 ⟨p, hp, rfl, hc1, hb2⟩
  have z0 := cell_then hb2 (Nat.le_refl _) y0
  have z1 := cell_then hb2 (Nat.le_refl _) y1
  have z2 := cell_then hb2 (Nat.le_refl _) y2
  have z3 := cell_then hb2 (Nat.le_refl _) y3
  clear y0 y1 y2 y3
  go_wp2_with fail
  refine (HN2.out _).mono ?_
  rintro e w3 ⟨rfl, hb3⟩
  have y0 := cell_then hb3 (Nat.le_refl _) z0
  have y1 := cell_then hb3 (Nat.le_refl _) z1
  have y2 := cell_then hb3 (Nat.le_refl _) z2
  have y3 := cell_then hb3 (Nat.le_refl _) z3
  clear z0 z1 z2 z3
  go_wp2_with fail
  refine (first _).mono ?_
  rintro e w4 ⟨rfl, hb4⟩
  go_wp2
  go_ret
  exact ⟨rfl, below_next (below_next (below_next (below_next hb0 hb1) hb2) hb3) hb4⟩
set_option maxRecDepth 100000 in
set_option maxHeartbeats 4000000 in
theorem outC (t x n d n2 d2 : Nat) (a : Option Addr) (len cap : Nat) (w : World) (hn : n < 18446744073709551616) (hd : d < 18446744073709551616) (hn2 : n2 < 18446744073709551616) (hd2 : d2 < 18446744073709551616) (hm : mayN n d = true) (ht : t ≤ mx) (hx : x ≤ mx) (hm2 : mayN n2 d2 = true) (A B : Nat) (hA : A = n * d2) (hB : B = n2 * d) (hlm : len ≤ 9223372036854775807) (b0 b1 b2 b3 : Bool) (h0 : decide ((200 : Int) < (len : Int)) = b0) (h1 : decide ((1125899906842624 : Int) < (t : Int)) = b1) (h2 : decide ((1125899906842624 : Int) < (x : Int)) = b2) (h3 : decide ((A : Int) < (B : Int)) = b3) (hall : (b0 || b1 || b2 || b3) = true) :
    Calls Try.prog 6 #[.int .u64 (t : Int), .int .u64 (x : Int), .agg #[.int .u64 (n : Int), .int .u64 (d : Int)], .agg #[.int .u64 (n2 : Int), .int .u64 (d2 : Int)], .slice a len cap] w (OutP w) := by
  have HN := Lib.hid (fun w => new1 t x n d w hn hd hm ht hx)
  have HN2 := Lib.hid (fun w => new1 t x n2 d2 w hn2 hd2 hm2 ht hx)
  obtain ⟨l1, l2, l3⟩ := mayLe hm
  obtain ⟨l4, l5, l6⟩ := mayLe hm2
  have pA : n * d2 ≤ 1073741824 * 1048576 := Nat.mul_le_mul (by omega) l5
  have pB : n2 * d ≤ 1073741824 * 1048576 := Nat.mul_le_mul (by omega) l2
  have eA : IntKind.u64.wrap ((n : Int) * (d2 : Int)) = (A : Int) := by rw [wu, ← Int.natCast_mul, ← hA]; omega
  have eB : IntKind.u64.wrap ((n2 : Int) * (d : Int)) = (B : Int) := by rw [wu, ← Int.natCast_mul, ← hB]; omega
  have h3' : decide (A < B) = b3 := by rw [← h3]; exact decide_eq_decide.2 (by omega)
  clear hn hd hn2 hd2 hm ht hx hm2 hA hB l1 l2 l3 l4 l5 l6 pA pB
  cases b0 <;> cases b1 <;> cases b2 <;> cases b3
  all_goals first
    | (exact absurd hall (by decide))
    | skip
  all_goals
    clear hall
    go_enter Try.func6, Try.ntmps6
    go_wp2_with fail
    obtain ⟨x0, x1, x2, x3, hb0⟩ := TurnsW.boxes w n d n2 d2
    generalize (w.alloc (.cells #[.int .u64 (n : Int), .int .u64 (d : Int)] 24)).alloc (.cells #[.int .u64 (n2 : Int), .int .u64 (d2 : Int)] 24) = W0 at *
    refine (first _).mono ?_
    rintro e w1 ⟨rfl, hb1⟩
    have y0 := cell_then hb1 (Nat.le_refl _) x0
    have y1 := cell_then hb1 (Nat.le_refl _) x1
    have y2 := cell_then hb1 (Nat.le_refl _) x2
    have y3 := cell_then hb1 (Nat.le_refl _) x3
    clear x0 x1 x2 x3
    go_wp2_with fail
    refine (HN.out _).mono ?_
    rintro e w2 ⟨p, hp, rfl, hc1, hb2⟩
    have z0 := cell_then hb2 (Nat.le_refl _) y0
    have z1 := cell_then hb2 (Nat.le_refl _) y1
    have z2 := cell_then hb2 (Nat.le_refl _) y2
    have z3 := cell_then hb2 (Nat.le_refl _) y3
    clear y0 y1 y2 y3
    go_wp2_with fail
    refine (HN2.out _).mono ?_
    rintro e w3 ⟨q, hq, rfl, hc2, hb3⟩
    have y0 := cell_then hb3 (Nat.le_refl _) z0
    have y1 := cell_then hb3 (Nat.le_refl _) z1
    have y2 := cell_then hb3 (Nat.le_refl _) z2
    have y3 := cell_then hb3 (Nat.le_refl _) z3
    clear z0 z1 z2 z3
    go_wp2_with fail
    refine (first _).mono ?_
    rintro e w4 ⟨rfl, hb4⟩
    go_wp2
    go_ret
    exact ⟨rfl, below_next (below_next (below_next (below_next hb0 hb1) hb2) hb3) hb4⟩
set_option maxRecDepth 100000 in
set_option maxHeartbeats 8000000 in
theorem main (t x n d n2 d2 : Nat) (a : Option Addr) (len cap : Nat) (zs : List Int) (w : World) (hn : n < 18446744073709551616) (hd : d < 18446744073709551616) (hn2 : n2 < 18446744073709551616) (hd2 : d2 < 18446744073709551616) (hm : mayN n d = true) (hm2 : mayN n2 d2 = true)
    (ht : t ≤ 1125899906842624) (hx : x ≤ 1125899906842624) (hl : len ≤ 200) (hr : IsRow .u64 w a len cap zs) (hAB : n2 * d ≤ n * d2) :
    Calls Try.prog 6 #[.int .u64 (t : Int), .int .u64 (x : Int), .agg #[.int .u64 (n : Int), .int .u64 (d : Int)], .agg #[.int .u64 (n2 : Int), .int .u64 (d2 : Int)], .slice a len cap] w (OutP w) := by
  have htm : t ≤ mx := by rw [mx_eq]; omega
  have hxm : x ≤ mx := by rw [mx_eq]; omega
  have HN := Lib.hid (fun w => new1 t x n d w hn hd hm htm hxm)
  have HN2 := Lib.hid (fun w => new1 t x n2 d2 w hn2 hd2 hm2 htm hxm)
  have HROW := Lib.hid (StepsW.row_at hr)
  obtain ⟨l1, l2, l3⟩ := mayLe hm
  obtain ⟨l4, l5, l6⟩ := mayLe hm2
  obtain ⟨A, hA⟩ : ∃ A, A = n * d2 := ⟨_, rfl⟩
  obtain ⟨B, hB⟩ : ∃ B, B = n2 * d := ⟨_, rfl⟩
  have pA : n * d2 ≤ 1073741824 * 1048576 := Nat.mul_le_mul (by omega) l5
  have pB : n2 * d ≤ 1073741824 * 1048576 := Nat.mul_le_mul (by omega) l2
  have eA : IntKind.u64.wrap ((n : Int) * (d2 : Int)) = (A : Int) := by rw [wu, ← Int.natCast_mul, ← hA]; omega
  have eB : IntKind.u64.wrap ((n2 : Int) * (d : Int)) = (B : Int) := by rw [wu, ← Int.natCast_mul, ← hB]; omega
  have b0 : decide ((200 : Int) < (len : Int)) = false := decide_eq_false (by omega)
  have b1 : decide ((1125899906842624 : Int) < (t : Int)) = false := decide_eq_false (by omega)
  have b2 : decide ((1125899906842624 : Int) < (x : Int)) = false := decide_eq_false (by omega)
  have b3 : decide ((A : Int) < (B : Int)) = false := decide_eq_false (by omega)
  have b3' : decide (A < B) = false := decide_eq_false (by omega)
  have hia := StepsW.go_init (t := t) (n := n) l1 hxm
  have hib := StepsW.go_init (t := t) (n := n2) l4 hxm
  have HFAST := Lib.hid (fun T => show (reach ⟨t, x, 0, n2, d2⟩ T).1 ≤ (reach ⟨t, x, 0, n, d⟩ T).1 from by
    rw [reach_min l1 hxm, reach_min l4 hxm]
    have := faster (E := T - t) l1 l4 hAB
    omega)
  have HEND := Lib.hid (fun X (hX : X ≤ 268435456) => show X * n / d ≤ 274877906944 from by
    have h1 : X * n ≤ X * 1024 * d := by rw [Nat.mul_assoc]; exact Nat.mul_le_mul_left _ l3
    have h2 : X * n / d ≤ X * 1024 := by
      rw [Nat.div_le_iff_le_mul_add_pred l1]
      rw [Nat.mul_comm d]
      omega
    omega)
  have HSC := Lib.hid (fun X (hX : X ≤ 268435456) (w : World) => scaleC X 0 n d w (by omega) (by omega) hn hd)
  have HFREE := Lib.hid (fun T (h : x + (T - t) * n / d < mx) => reach_free (t := t) (n := n) l1 hxm h)
  obtain ⟨ca, hca⟩ : ∃ c : Ck, c = ⟨t, x, 0, n, d⟩ := ⟨_, rfl⟩
  obtain ⟨cb, hcb⟩ : ∃ c : Ck, c = ⟨t, x, 0, n2, d2⟩ := ⟨_, rfl⟩
  have KA : Ckk ca := by rw [hca]; exact new_ckk (by omega) hxm hm
  have KB : Ckk cb := by rw [hcb]; exact new_ckk (by omega) hxm hm2
  have na : ca.now = t := by rw [hca]
  have nb : cb.now = t := by rw [hcb]
  rw [← hca] at hia HFAST HFREE
  rw [← hcb] at hib HFAST
  have HGA := Lib.hid (fun (s T : Nat) (h0 : t ≤ s) (h : s ≤ T) => go_go KA.ok (by rw [na]; exact h0) h)
  have HGB := Lib.hid (fun (s T : Nat) (h0 : t ≤ s) (h : s ≤ T) => go_go KB.ok (by rw [nb]; exact h0) h)
  have HRG := Lib.hid (fun (s T : Nat) (h0 : t ≤ s) (h : s ≤ T) => reach_go KA.ok.den (s := s) (t := T) (by rw [na]; exact h0) h)
  have HPA := Lib.hid (fun (T : Nat) (h : t ≤ T) => go_pos (c := ca) (t := T) (by rw [na]; exact h))
  have HPB := Lib.hid (fun (T : Nat) (h : t ≤ T) => go_pos (c := cb) (t := T) (by rw [nb]; exact h))
  have HRA := Lib.hid (fun (T : Nat) (h : t ≤ T) => go_rest (c := ca) (t := T) (by rw [na]; exact h))
  have HKA := Lib.hid (fun (T : Nat) (h : T < 18446744073709551616) => go_ckk KA h)
  have HKB := Lib.hid (fun (T : Nat) (h : T < 18446744073709551616) => go_ckk KB h)
  have HM := Lib.hid hm
  have HD := Lib.hid l1
  have HIA := Lib.hid hia
  have HIB := Lib.hid hib
  have HCA := Lib.hid hca
  have HCB := Lib.hid hcb
  clear hn hd hn2 hd2 hm hm2 hr hAB htm hxm l1 l2 l3 l4 l5 l6 hA hB pA pB hia hib hca hcb KA KB na nb
  go_enter Try.func6, Try.ntmps6
  go_wp2_with fail
  obtain ⟨x0, x1, x2, x3, hb0⟩ := TurnsW.boxes w n d n2 d2
  generalize (w.alloc (.cells #[.int .u64 (n : Int), .int .u64 (d : Int)] 24)).alloc (.cells #[.int .u64 (n2 : Int), .int .u64 (d2 : Int)] 24) = W0 at *
  have X0 := Lib.hid x0
  have X1 := Lib.hid x1
  refine (first _).mono ?_
  rintro e w1 ⟨rfl, hb1⟩
  have y0 := cell_then hb1 (Nat.le_refl _) x0
  have y1 := cell_then hb1 (Nat.le_refl _) x1
  have y2 := cell_then hb1 (Nat.le_refl _) x2
  have y3 := cell_then hb1 (Nat.le_refl _) x3
  clear x0 x1 x2 x3
  go_wp2_with fail
  refine (HN.out _).mono ?_
  rintro e w2 ⟨p, hp, rfl, hc, hb2⟩
  have z0 := cell_then hb2 (Nat.le_refl _) y0
  have z1 := cell_then hb2 (Nat.le_refl _) y1
  have z2 := cell_then hb2 (Nat.le_refl _) y2
  have z3 := cell_then hb2 (Nat.le_refl _) y3
  clear y0 y1 y2 y3
  go_wp2_with fail
  refine (HN2.out _).mono ?_
  rintro e w3 ⟨q, hq, rfl, hc2, hb3⟩
  have y0 := cell_then hb3 (Nat.le_refl _) z0
  have y1 := cell_then hb3 (Nat.le_refl _) z1
  have y2 := cell_then hb3 (Nat.le_refl _) z2
  have y3 := cell_then hb3 (Nat.le_refl _) z3
  clear z0 z1 z2 z3
  rw [← HCA.out] at hc
  rw [← HCB.out] at hc2
  have h3 : Two W0 p q ca cb w3 := two_of hb1 hp hc hb2 hq hc2 hb3
  have H3 := Lib.hid h3
  clear hc hc2 hb1 hb2 hb3 hp hq h3
  go_wp2
  clear y0 y1 y2 y3
  go_loopw [15, 16] (fun s15 s16 wr => ∃ i T : Nat, i ≤ len ∧ s15 = .int .u64 (T : Int) ∧ s16 = .int .i64 (i : Int) ∧ (t ≤ T ∧ T ≤ t + i * 1048576) ∧ Two W0 p q (go ca T) (go cb T) wr) (fun _ s16 _ => len - (intOf s16).toNat)
  case atStart => exact ⟨0, t, Nat.zero_le _, rfl, rfl, ⟨Nat.le_refl _, by omega⟩, by rw [HIA.out, HIB.out]; exact H3.out⟩
  case round =>
    obtain ⟨i, T, hi, rfl, rfl, ⟨hT0, hT1⟩, hB⟩ := hrel
    by_cases hlt : i < len
    · obtain ⟨sb, so, z, rfl, hcell, hz⟩ := HROW.out i hlt
      have hcr : wr.cell? ⟨sb, so + i, none⟩ = some (.int .u64 (z : Int)) := cell_then (below_next hb0 hB.bel) (Nat.le_refl _) hcell
      clear hcell
      cases hz1 : decide ((1048576 : Int) < (z : Int))
      · have hz1' : z ≤ 1048576 := by have := of_decide_eq_false hz1; omega
        obtain ⟨T2, hT2⟩ : ∃ T2, T2 = T + z := ⟨_, rfl⟩
        have ha : IntKind.u64.wrap ((T : Int) + (z : Int)) = (T2 : Int) := by rw [IntKind.wrap_u64]; omega
        have hb64 : T2 < 18446744073709551616 := by omega
        have HT := Lib.hid (show t ≤ T2 ∧ T2 ≤ t + (i + 1) * 1048576 from ⟨by omega, by omega⟩)
        have C1 := Lib.hid (fun W (h : Two W0 p q (go ca T) (go cb T) W) => go2 T2 h (HKA.out T (by omega)) hb64 (HGA.out T T2 hT0 (by omega)))
        have C2 := Lib.hid (fun W (h : Two W0 q p (go cb T) (go ca T2) W) => go2 T2 h (HKB.out T (by omega)) hb64 (HGB.out T T2 hT0 (by omega)))
        rw [HPA.out T2 HT.out.1] at C1
        rw [HPB.out T2 HT.out.1] at C2
        have hf := HFAST.out T2
        have m1 : decide (((reach ca T2).1 : Int) < ((reach cb T2).1 : Int)) = false := decide_eq_false (by omega)
        have m1' : decide ((reach ca T2).1 < (reach cb T2).1) = false := decide_eq_false (by omega)
        have HB := Lib.hid hB
        clear hf hz1' hT2 hb64 hT0 hT1 hB
        go_wp2_with fail
        refine (C1.out _ HB.out).mono ?_
        rintro e w6 ⟨rfl, h6⟩
        go_wp2_with fail
        refine (C2.out _ h6.swap).mono ?_
        rintro e w7 ⟨rfl, h7⟩
        go_wp2
        go_roundw
        case rel => exact ⟨i + 1, T2, by omega, rfl, by go_num, HT.out, h7.swap⟩
        case measure => simp [intOf]; omega
      · have HB := Lib.hid hB
        clear hB hT0 hT1
        go_wp2_with fail
        refine (first _).mono ?_
        rintro e w6 ⟨rfl, hb6⟩
        go_wp2
        go_ret
        exact ⟨rfl, below_next (below_next hb0 HB.out.bel) hb6⟩
    · obtain rfl : i = len := by omega
      obtain ⟨X, hX⟩ : ∃ X, X = T - t := ⟨_, rfl⟩
      have hX2 : X ≤ 268435456 := by omega
      have hs : IntKind.u64.wrap ((T : Int) - (t : Int)) = (X : Int) := by rw [IntKind.wrap_u64]; omega
      have hq := HEND.out X hX2
      have hsc := HSC.out X hX2
      rw [sc_ok HM.out HD.out (by rw [Nat.add_zero]; omega), Nat.add_zero] at hsc
      have hfr := HFREE.out T (by rw [← hX, mx_eq]; omega)
      rw [← hX] at hfr
      obtain ⟨Q, hQ⟩ : ∃ Q, Q = X * n / d := ⟨_, rfl⟩
      obtain ⟨R, hR⟩ : ∃ R, R = X * n % d := ⟨_, rfl⟩
      rw [← hQ, ← hR] at hfr hsc
      rw [← hQ] at hq
      obtain ⟨V, hV⟩ : ∃ V, V = x + Q := ⟨_, rfl⟩
      have hadd : IntKind.u64.wrap ((x : Int) + (Q : Int)) = (V : Int) := by rw [IntKind.wrap_u64]; omega
      have hT64 : T < 18446744073709551616 := by omega
      have hsc' : ∀ w, Calls Try.prog 22 #[.int .u64 (X : Int), .int .u64 0, .agg #[.int .u64 (n : Int), .int .u64 (d : Int)]] w fun e w' => e = .returned (.tuple #[.int .u64 (Q : Int), .int .u64 (R : Int), .int .i64 0]) ∧ Below w.heap.size w w' := fun w => hsc w
      have HS := Lib.hid hsc'
      have C1 := Lib.hid (fun W (h : Two W0 p q (go ca T) (go cb T) W) => at2 T h (HKA.out T hT64) hT64)
      rw [HRG.out T T hT0 (Nat.le_refl _), hfr, ← hV] at C1
      have hrest := HRA.out T hT0
      rw [hfr] at hrest
      have HRest := Lib.hid hrest
      have m3 : ((V : Int) == (V : Int)) = true := by simp
      have m4 : ((R : Int) == (R : Int)) = true := by simp
      have y0 := hB.cell X0.out
      have y1 := hB.cell X1.out
      clear hT0 hT1 hT64 hsc hsc' hfr hQ hR hV hq hX hX2 hrest
      go_wp2_with fail
      refine (HS.out _).mono ?_
      rintro e w5 ⟨rfl, hb5⟩
      replace hB := hB.then_ hb5
      clear y0 y1 hb5
      go_wp2_with fail
      refine (first _).mono ?_
      rintro e w6 ⟨rfl, hb6⟩
      replace hB := hB.then_ hb6
      clear hb6
      go_wp2_with fail
      refine (C1.out _ hB).mono ?_
      rintro e w7 ⟨rfl, h7⟩
      go_wp2_with fail
      refine (restC p (go ca T) w7 h7.cp).mono ?_
      rw [HRest.out]
      rintro e w9 ⟨rfl, rfl⟩
      go_wp2
      go_ret
      exact ⟨rfl, below_next hb0 h7.bel⟩
theorem walk (t x n d n2 d2 : Int) (a : Option Addr) (len cap : Nat) (zs : List Int) (W : World) (w0 : (Lit.int .u64 t).wf = true) (w1 : (Lit.int .u64 x).wf = true) (w3 : (Lit.int .u64 n).wf = true) (w4 : (Lit.int .u64 d).wf = true) (w5 : (Lit.int .u64 n2).wf = true) (w6 : (Lit.int .u64 d2).wf = true) (wr : IsRow .u64 W a len cap zs) :
    Calls Try.prog 6 #[.int .u64 t, .int .u64 x, .agg #[.int .u64 n, .int .u64 d], .agg #[.int .u64 n2, .int .u64 d2], .slice a len cap] W fun e w' => e = .returned (.bool true) ∧ Below W.heap.size W w' := by
  obtain ⟨p0, q0⟩ := StepsW.in64 w0
  obtain ⟨p1, q1⟩ := StepsW.in64 w1
  obtain ⟨p3, q3⟩ := StepsW.in64 w3
  obtain ⟨p4, q4⟩ := StepsW.in64 w4
  obtain ⟨p5, q5⟩ := StepsW.in64 w5
  obtain ⟨p6, q6⟩ := StepsW.in64 w6
  obtain ⟨t, rfl⟩ := Int.eq_ofNat_of_zero_le p0
  obtain ⟨x, rfl⟩ := Int.eq_ofNat_of_zero_le p1
  obtain ⟨n, rfl⟩ := Int.eq_ofNat_of_zero_le p3
  obtain ⟨d, rfl⟩ := Int.eq_ofNat_of_zero_le p4
  obtain ⟨n2, rfl⟩ := Int.eq_ofNat_of_zero_le p5
  obtain ⟨d2, rfl⟩ := Int.eq_ofNat_of_zero_le p6
  by_cases hA : mayN n d = true ∧ t ≤ mx ∧ x ≤ mx
  · by_cases hB : mayN n2 d2 = true ∧ t ≤ mx ∧ x ≤ mx
    · by_cases hC : n2 * d ≤ n * d2 ∧ len ≤ 200 ∧ t ≤ 1125899906842624 ∧ x ≤ 1125899906842624
      · obtain ⟨h1, h2, h3, h4⟩ := hC
        exact main t x n d n2 d2 a len cap zs W (by omega) (by omega) (by omega) (by omega) hA.1 hB.1 h3 h4 h2 wr h1
      · refine outC t x n d n2 d2 a len cap W (by omega) (by omega) (by omega) (by omega) hA.1 hA.2.1 hA.2.2 hB.1 _ _ rfl rfl (StepsW.row_len wr) _ _ _ _ rfl rfl rfl rfl ?_
        simp only [Bool.or_eq_true, decide_eq_true_eq]
        generalize n2 * d = B at *
        generalize n * d2 = A at *
        omega
    · exact outB t x n d n2 d2 a len cap W (by omega) (by omega) (by omega) (by omega) hA.1 hA.2.1 hA.2.2 hB
  · by_cases hB : mayN n2 d2 = true ∧ t ≤ mx ∧ x ≤ mx
    · exact outA2 t x n d n2 d2 a len cap W (by omega) (by omega) (by omega) (by omega) hA hB.1 hB.2.1 hB.2.2
    · exact outA1 t x n d n2 d2 a len cap W (by omega) (by omega) (by omega) (by omega) hA hB
end Go.Proofs.Ytilblkccophnnaa.SpeedsW
