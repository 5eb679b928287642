/- tiklaw22.ClockSteps: the walk. -/
import Derived.Test.YtilblkccophnnaaCkTwo
import Derived.LoopTactic
set_option linter.unusedVariables false
namespace Go.Proofs.Ytilblkccophnnaa.StepsW
open Go Go.RowKit Kit Nums Scale Scale2 Scales CkMath CkC CkD CkE CkN CkF CkTwo

def OutP (w : World) (e : Ending) (w' : World) : Prop := e = .returned (.bool true) ∧ Below w.heap.size w w'
theorem in64 {n : Int} (h : (Lit.int .u64 n).wf = true) : 0 ≤ n ∧ n < 18446744073709551616 := by
  simp only [Lit.wf, Bool.and_eq_true, decide_eq_true_eq] at h
  have h1 : IntKind.u64.min = 0 := by decide
  have h2 : IntKind.u64.max = 18446744073709551615 := by decide
  omega
theorem add_at (b o i : Nat) : (⟨b, o, none⟩ : Addr).add i = ⟨b, o + i, none⟩ := by unfold Addr.add; split <;> simp_all
theorem row_at {w : World} {a : Option Addr} {len cap : Nat} {zs : List Int} (h : IsRow .u64 w a len cap zs) (i : Nat) (hi : i < len) :
    ∃ (b off z : Nat), a = some ⟨b, off, none⟩ ∧ w.cell? ⟨b, off + i, none⟩ = some (.int .u64 (z : Int)) ∧ z < 18446744073709551616 := by
  rcases h with ⟨_, rfl, _, _⟩ | ⟨⟨b, o, sp⟩, rfl, hlc, hm, hz, hcell, hwf⟩
  · omega
  · have g := hcell i (by omega)
    have hspot : sp = none := by simpa [Addr.add] using World.cell?_spot (hcell 0 (by omega))
    subst hspot
    rw [add_at] at g
    have hmem : zs.getD i 0 ∈ zs := by
      rw [List.getD_eq_getElem?_getD, List.getElem?_eq_getElem (by omega)]
      exact List.getElem_mem _
    obtain ⟨h0, h1⟩ := in64 (hwf _ hmem)
    obtain ⟨z, hz⟩ := Int.eq_ofNat_of_zero_le h0
    rw [hz] at g h1
    exact ⟨b, o, z, rfl, g, by omega⟩
theorem row_len {w : World} {a : Option Addr} {len cap : Nat} {zs : List Int} (h : IsRow .u64 w a len cap zs) : len ≤ 9223372036854775807 := by
  rcases h with ⟨_, rfl, _, _⟩ | ⟨_, _, hlc, hm, _⟩
  · decide
  · unfold maxLen at hm; omega
theorem box (w : World) (a b : Int) : (w.alloc (.cells #[.int .u64 a, .int .u64 b] 24)).cell? ⟨w.heap.size, 0, none⟩ = some (.int .u64 a) ∧ (w.alloc (.cells #[.int .u64 a, .int .u64 b] 24)).cell? ⟨w.heap.size, 1, none⟩ = some (.int .u64 b) ∧ Below w.heap.size w (w.alloc (.cells #[.int .u64 a, .int .u64 b] 24)) := by
  refine ⟨by rw [World.cell?_alloc_new]; rfl, by rw [World.cell?_alloc_new]; rfl, (Below.refl _ _).alloc (Nat.le_refl _) _⟩
theorem go_init {t x n d : Nat} (hd : 0 < d) (hx : x ≤ mx) : go ⟨t, x, 0, n, d⟩ t = ⟨t, x, 0, n, d⟩ := by
  unfold go
  rw [if_pos (Nat.le_refl _)]
  unfold reach tot
  simp only [Nat.sub_self, Nat.zero_mul, Nat.add_zero]
  split
  · rename_i h
    have : mx ≤ x := Nat.le_of_mul_le_mul_right h hd
    have : x = mx := by omega
    rw [this]
  · simp only [Nat.mul_div_cancel _ hd, Nat.mul_mod_left]
set_option maxRecDepth 100000 in
set_option maxHeartbeats 4000000 in
theorem outA (t x n d : Nat) (a : Option Addr) (len cap : Nat) (w : World) (hn : n < 18446744073709551616) (hd : d < 18446744073709551616) (hno : ¬ (mayN n d = true ∧ t ≤ mx ∧ x ≤ mx)) :
    Calls Try.prog 4 #[.int .u64 (t : Int), .int .u64 (x : Int), .agg #[.int .u64 (n : Int), .int .u64 (d : Int)], .slice a len cap] w (OutP w) := by
  have HN := Lib.hid (fun w => newNo t x n d w hn hd hno)
  clear hn hd hno
  go_enter Try.func4, Try.ntmps4
  go_wp2_with fail
  obtain ⟨x0, x1, hb0⟩ := box w n d
  generalize w.alloc (.cells #[.int .u64 (n : Int), .int .u64 (d : Int)] 24) = W0 at *
  refine (first _).mono ?_
  rintro e w1 ⟨rfl, hb1⟩
  have y0 := cell_then hb1 (Nat.le_refl _) x0
  have y1 := cell_then hb1 (Nat.le_refl _) x1
  clear x0 x1
  go_wp2_with fail
  refine (HN.out _).mono ?_
  rintro e w2 ⟨rfl, hb2⟩
  have z0 := cell_then hb2 (Nat.le_refl _) y0
  have z1 := cell_then hb2 (Nat.le_refl _) y1
  clear y0 y1
  go_wp2_with fail
  refine (HN.out _).mono ?_
  rintro e w3 ⟨rfl, hb3⟩
  clear z0 z1
  go_wp2_with fail
  refine (first _).mono ?_
  rintro e w4 ⟨rfl, hb4⟩
  go_wp2
  go_ret
  exact ⟨rfl, below_next (below_next (below_next (below_next hb0 hb1) hb2) hb3) hb4⟩
set_option maxRecDepth 100000 in
set_option maxHeartbeats 4000000 in
theorem outB (t x n d : Nat) (a : Option Addr) (len cap : Nat) (w : World) (hn : n < 18446744073709551616) (hd : d < 18446744073709551616) (hm : mayN n d = true) (ht : t ≤ mx) (hx : x ≤ mx) (hl : 200 < len) (hlm : len ≤ 9223372036854775807) :
    Calls Try.prog 4 #[.int .u64 (t : Int), .int .u64 (x : Int), .agg #[.int .u64 (n : Int), .int .u64 (d : Int)], .slice a len cap] w (OutP w) := by
  have HN := Lib.hid (fun w => new1 t x n d w hn hd hm ht hx)
  clear hn hd hm ht hx
  go_enter Try.func4, Try.ntmps4
  go_wp2_with fail
  obtain ⟨x0, x1, hb0⟩ := box w n d
  generalize w.alloc (.cells #[.int .u64 (n : Int), .int .u64 (d : Int)] 24) = W0 at *
  refine (first _).mono ?_
  rintro e w1 ⟨rfl, hb1⟩
  have y0 := cell_then hb1 (Nat.le_refl _) x0
  have y1 := cell_then hb1 (Nat.le_refl _) x1
  clear x0 x1
  go_wp2_with fail
  refine (HN.out _).mono ?_
  rintro e w2 ⟨p, hp, rfl, hc, hb2⟩
  have z0 := cell_then hb2 (Nat.le_refl _) y0
  have z1 := cell_then hb2 (Nat.le_refl _) y1
  clear y0 y1 hc
  go_wp2_with fail
  refine (HN.out _).mono ?_
  rintro e w3 ⟨q, hq, rfl, hc, hb3⟩
  clear z0 z1 hc
  go_wp2_with fail
  refine (first _).mono ?_
  rintro e w4 ⟨rfl, hb4⟩
  go_wp2
  go_ret
  exact ⟨rfl, below_next (below_next (below_next (below_next hb0 hb1) hb2) hb3) hb4⟩
set_option maxRecDepth 100000 in
set_option maxHeartbeats 8000000 in
theorem main (t x n d : Nat) (a : Option Addr) (len cap : Nat) (zs : List Int) (w : World) (hn : n < 18446744073709551616) (hd : d < 18446744073709551616) (hm : mayN n d = true) (ht : t ≤ mx) (hx : x ≤ mx) (hl : len ≤ 200) (hr : IsRow .u64 w a len cap zs) :
    Calls Try.prog 4 #[.int .u64 (t : Int), .int .u64 (x : Int), .agg #[.int .u64 (n : Int), .int .u64 (d : Int)], .slice a len cap] w (OutP w) := by
  have HN := Lib.hid (fun w => new1 t x n d w hn hd hm ht hx)
  have HROW := Lib.hid (row_at hr)
  have hd0 : 0 < d := by
    obtain ⟨k, _, hk, _⟩ := may_pow hm
    rw [hk]; exact Nat.two_pow_pos k
  have hgi := go_init (t := t) (n := n) hd0 hx
  obtain ⟨c0, hc0⟩ : ∃ c0 : Ck, c0 = ⟨t, x, 0, n, d⟩ := ⟨_, rfl⟩
  have K0 : Ckk c0 := by rw [hc0]; exact new_ckk (by rw [mx_eq] at ht; omega) hx hm
  rw [← hc0] at hgi
  have hden : c0.den = d := by rw [hc0]
  have hnow : c0.now = t := by rw [hc0]
  have hpos : (reach c0 t).1 = x := by have := reach_now K0.ok; rw [hnow] at this; rw [this, hc0]
  have HM := Lib.hid (fun (s T : Nat) (h : s ≤ T) => reach_mono K0.ok h)
  have HGO := Lib.hid (fun (s T : Nat) (h0 : t ≤ s) (h : s ≤ T) => go_go K0.ok (by rw [hnow]; exact h0) h)
  have HRG := Lib.hid (fun (s T : Nat) (h0 : t ≤ s) (h : s ≤ T) => reach_go K0.ok.den (s := s) (t := T) (by rw [hnow]; exact h0) h)
  have HPOS := Lib.hid (fun (T : Nat) (h : t ≤ T) => go_pos (c := c0) (t := T) (by rw [hnow]; exact h))
  have HK := Lib.hid (fun (T : Nat) (h : T < 18446744073709551616) => go_ckk K0 h)
  have HRS := Lib.hid (fun (T : Nat) (h : T < 18446744073709551616) => (go_ckk K0 h).ok.rest)
  have HDN := Lib.hid (fun T => (go_den c0 T).trans hden)
  have HC0 := Lib.hid hc0
  have HGI := Lib.hid hgi
  have HP := Lib.hid hpos
  have HK0 := Lib.hid K0
  have htm := ht
  rw [mx_eq] at htm
  clear hn hd hm ht hx hr hd0 hgi hc0 K0 hden hnow hpos
  go_enter Try.func4, Try.ntmps4
  go_wp2_with fail
  obtain ⟨x0, x1, hb0⟩ := box w n d
  generalize w.alloc (.cells #[.int .u64 (n : Int), .int .u64 (d : Int)] 24) = W0 at *
  have X0 := Lib.hid x0
  have X1 := Lib.hid x1
  clear x0 x1
  refine (first _).mono ?_
  rintro e w1 ⟨rfl, hb1⟩
  have y0 := cell_then hb1 (Nat.le_refl _) X0.out
  have y1 := cell_then hb1 (Nat.le_refl _) X1.out
  go_wp2_with fail
  refine (HN.out _).mono ?_
  rintro e w2 ⟨p, hp, rfl, hc, hb2⟩
  have z0 := cell_then hb2 (Nat.le_refl _) y0
  have z1 := cell_then hb2 (Nat.le_refl _) y1
  clear y0 y1
  go_wp2_with fail
  refine (HN.out _).mono ?_
  rintro e w3 ⟨q, hq, rfl, hc2, hb3⟩
  clear z0 z1
  rw [← HC0.out] at hc hc2
  have h3 : Two W0 p q c0 c0 w3 := two_of hb1 hp hc hb2 hq hc2 hb3
  have H3 := Lib.hid h3
  clear hc hc2 hb1 hb2 hb3 hp hq h3
  go_wp2
  go_loopw [13, 14, 15] (fun s13 s14 s15 wr => ∃ i T : Nat, i ≤ len ∧ s13 = .int .u64 ((reach c0 T).1 : Int) ∧ s14 = .int .u64 (T : Int) ∧ s15 = .int .i64 (i : Int) ∧ (t ≤ T ∧ T ≤ 4611686018427387904) ∧ Two W0 p q (go c0 T) c0 wr) (fun _ _ s15 _ => len - (intOf s15).toNat)
  case atStart => exact ⟨0, t, Nat.zero_le _, by rw [HP.out], rfl, rfl, ⟨Nat.le_refl _, htm⟩, by rw [HGI.out]; exact H3.out⟩
  case round =>
    obtain ⟨i, T, hi, rfl, rfl, rfl, ⟨hT0, hT1⟩, hB⟩ := hrel
    by_cases hlt : i < len
    · obtain ⟨sb, so, z, rfl, hcell, hz⟩ := HROW.out i hlt
      have hcr : wr.cell? ⟨sb, so + i, none⟩ = some (.int .u64 (z : Int)) := cell_then (below_next hb0 hB.bel) (Nat.le_refl _) hcell
      have HC := Lib.hid hcell
      clear hcell
      cases hz1 : decide ((1073741824 : Int) < (z : Int))
      · cases hz2 : decide ((1152921504606846976 : Int) < (T : Int))
        · have hz1' : z ≤ 1073741824 := by have := of_decide_eq_false hz1; omega
          have hz2' : T ≤ 1152921504606846976 := by have := of_decide_eq_false hz2; omega
          obtain ⟨T2, hT2⟩ : ∃ T2, T2 = T + z := ⟨_, rfl⟩
          have ha : IntKind.u64.wrap ((T : Int) + (z : Int)) = (T2 : Int) := by rw [IntKind.wrap_u64]; omega
          have hb64 : T2 < 18446744073709551616 := by omega
          have HT := Lib.hid (show t ≤ T2 ∧ T2 ≤ 4611686018427387904 from ⟨by omega, by omega⟩)
          have C1 := Lib.hid (fun W (h : Two W0 p q (go c0 T) c0 W) => at2 T2 h (HK.out T (by omega)) hb64)
          rw [HRG.out T T2 hT0 (by omega)] at C1
          have C2 := Lib.hid (fun W (h : Two W0 p q (go c0 T) c0 W) => go2 T2 h (HK.out T (by omega)) hb64 (HGO.out T T2 hT0 (by omega)))
          rw [HPOS.out T2 HT.out.1] at C2
          have hmono := HM.out T T2 (by omega)
          have hrest := HRS.out T2 hb64
          rw [HDN.out] at hrest
          have m1 : decide (((reach c0 T2).1 : Int) < ((reach c0 T).1 : Int)) = false := decide_eq_false (by omega)
          have m2 : decide ((d : Int) ≤ ((go c0 T2).rest : Int)) = false := decide_eq_false (by omega)
          have m1' : decide ((reach c0 T2).1 < (reach c0 T).1) = false := decide_eq_false (by omega)
          have m2' : decide (d ≤ (go c0 T2).rest) = false := decide_eq_false (by omega)
          have m3 : (((reach c0 T2).1 : Int) != ((reach c0 T2).1 : Int)) = false := by simp
          have HB := Lib.hid hB
          clear hmono hrest hz1' hz2' hT2 hb64 hT0 hT1 hB
          go_wp2_with fail
          refine (C1.out _ HB.out).mono ?_
          rintro e w6 ⟨rfl, h6⟩
          replace h6 := h6.then_ (Below.refl _ _).drew
          go_wp2_with fail
          refine wp_region_held_drew (S := (fun W => W.cell? ⟨w.heap.size, 1, none⟩ = some (.int .u64 (d : Int)))) (by kernel_rfl) ?_ (fun hHeld => ?_)
          · ((try dsimp only); exact h6.cell X1.out)
          refine wpAnyH_take (i := 0) (oi := { dst := some 80, op := Op.move (Operand.tmp 9), type := 27, pos := _, after := #[], guard := none }) (v := ?_) rfl (by kernel_rfl) (by kernel_rfl) (by kernel_rfl) (fun _ _ _ h => h) (Or.inl ⟨by rfl, ?_⟩) (by assumption) ?_
          rotate_left
          · ((intro w hSw); (try dsimp only at hSw); go_simp; (try with_reducible rfl))
          try simp only [Act.put, List.setIfInBounds_toArray, List.set_cons_zero, List.set_cons_succ]
          refine wpAnyH_take (i := 1) (oi := { dst := some 81, op := Op.move (Operand.tmp 14), type := 22, pos := _, after := #[], guard := none }) (v := ?_) rfl (by kernel_rfl) (by kernel_rfl) (by kernel_rfl) (fun _ _ _ h => h) (Or.inl ⟨by rfl, ?_⟩) (by assumption) ?_
          rotate_left
          · ((intro w hSw); (try dsimp only at hSw); go_simp; (try with_reducible rfl))
          try simp only [Act.put, List.setIfInBounds_toArray, List.set_cons_zero, List.set_cons_succ]
          refine wpAnyH_take (i := 3) (oi := { dst := some 83, op := Op.move (Operand.tmp 16), type := 22, pos := _, after := #[], guard := none }) (v := ?_) rfl (by kernel_rfl) (by kernel_rfl) (by kernel_rfl) (fun _ _ _ h => h) (Or.inl ⟨by rfl, ?_⟩) (by assumption) ?_
          rotate_left
          · ((intro w hSw); (try dsimp only at hSw); go_simp; (try with_reducible rfl))
          try simp only [Act.put, List.setIfInBounds_toArray, List.set_cons_zero, List.set_cons_succ]
          refine wpAnyH_ready (rs := [2]) (by kernel_rfl) (by simp) ?_
          refine (AllReadyH.cons (o := { dst := some 82, op := Op.call { callee := Callee.value (Operand.func 11), args := #[Operand.tmp 80, Operand.tmp 81], argTypes := #[27, 22] }, type := 22, pos := _, after := #[{ on := 0, ground := Ground.data }, { on := 1, ground := Ground.data }], guard := none }) rfl (fun K hK => ?_) AllReadyH.nil)
          go_simp
          (refine (C2.out _ h6).mono ?_; rintro e w7 ⟨rfl, h7⟩)
          go_wp2_with fail
          refine hK.out _ _ ?_ (fun hHeld => ?_)
          · ((try dsimp only); exact h7.cell X1.out)
          clear hK K
          try simp only [Act.put, List.setIfInBounds_toArray, List.set_cons_zero, List.set_cons_succ]
          refine wpAnyH_take (i := 4) (oi := { dst := some 84, op := Op.binOp BinOp.neq 22 (Operand.tmp 82) (Operand.tmp 83) 22, type := 4, pos := _, after := #[{ on := 2, ground := Ground.data }, { on := 3, ground := Ground.data }], guard := none }) (v := ?_) rfl (by kernel_rfl) (by kernel_rfl) (by kernel_rfl) (fun _ _ _ h => h) (Or.inl ⟨by rfl, ?_⟩) (by assumption) ?_
          rotate_left
          · ((intro w hSw); (try dsimp only at hSw); go_simp; (try with_reducible rfl))
          try simp only [Act.put, List.setIfInBounds_toArray, List.set_cons_zero, List.set_cons_succ]
          refine wpAnyH_take (i := 5) (oi := { dst := some 85, op := Op.move (Operand.tmp 84), type := 4, pos := _, after := #[{ on := 4, ground := Ground.data }, { on := 2, ground := Ground.chain }], guard := none }) (v := ?_) rfl (by kernel_rfl) (by kernel_rfl) (by kernel_rfl) (fun _ _ _ h => h) (Or.inl ⟨by rfl, ?_⟩) (by assumption) ?_
          rotate_left
          · ((intro w hSw); (try dsimp only at hSw); go_simp; (try with_reducible rfl))
          try simp only [Act.put, List.setIfInBounds_toArray, List.set_cons_zero, List.set_cons_succ]
          refine wpAnyH_take (i := 6) (oi := { dst := some 86, op := Op.move (Operand.tmp 16), type := 22, pos := _, after := #[{ on := 5, ground := Ground.guard }], guard := some (5, false) }) (v := ?_) rfl (by kernel_rfl) (by kernel_rfl) (by kernel_rfl) (fun _ _ _ h => h) (Or.inl ⟨by rfl, ?_⟩) (by assumption) ?_
          rotate_left
          · ((intro w hSw); (try dsimp only at hSw); go_simp; (try with_reducible rfl))
          try simp only [Act.put, List.setIfInBounds_toArray, List.set_cons_zero, List.set_cons_succ]
          refine wpAnyH_take (i := 7) (oi := { dst := some 87, op := Op.move (Operand.tmp 13), type := 22, pos := _, after := #[{ on := 5, ground := Ground.guard }], guard := some (5, false) }) (v := ?_) rfl (by kernel_rfl) (by kernel_rfl) (by kernel_rfl) (fun _ _ _ h => h) (Or.inl ⟨by rfl, ?_⟩) (by assumption) ?_
          rotate_left
          · ((intro w hSw); (try dsimp only at hSw); go_simp; (try with_reducible rfl))
          try simp only [Act.put, List.setIfInBounds_toArray, List.set_cons_zero, List.set_cons_succ]
          refine wpAnyH_take (i := 8) (oi := { dst := some 88, op := Op.binOp BinOp.lss 22 (Operand.tmp 86) (Operand.tmp 87) 22, type := 4, pos := _, after := #[{ on := 6, ground := Ground.data }, { on := 7, ground := Ground.data }, { on := 5, ground := Ground.guard }], guard := some (5, false) }) (v := ?_) rfl (by kernel_rfl) (by kernel_rfl) (by kernel_rfl) (fun _ _ _ h => h) (Or.inl ⟨by rfl, ?_⟩) (by assumption) ?_
          rotate_left
          · ((intro w hSw); (try dsimp only at hSw); go_simp; (try with_reducible rfl))
          try simp only [Act.put, List.setIfInBounds_toArray, List.set_cons_zero, List.set_cons_succ]
          refine wpAnyH_take (i := 9) (oi := { dst := some 89, op := Op.pick (Operand.tmp 85) (Operand.const (Value.bool true)) (Operand.tmp 88), type := 4, pos := _, after := #[{ on := 5, ground := Ground.data }, { on := 8, ground := Ground.data }], guard := none }) (v := ?_) rfl (by kernel_rfl) (by kernel_rfl) (by kernel_rfl) (fun _ _ _ h => h) (Or.inl ⟨by rfl, ?_⟩) (by assumption) ?_
          rotate_left
          · ((intro w hSw); (try dsimp only at hSw); go_simp; (try with_reducible rfl))
          try simp only [Act.put, List.setIfInBounds_toArray, List.set_cons_zero, List.set_cons_succ]
          refine wpAnyH_take (i := 10) (oi := { dst := some 90, op := Op.move (Operand.tmp 89), type := 4, pos := _, after := #[{ on := 9, ground := Ground.data }, { on := 5, ground := Ground.chain }], guard := none }) (v := ?_) rfl (by kernel_rfl) (by kernel_rfl) (by kernel_rfl) (fun _ _ _ h => h) (Or.inl ⟨by rfl, ?_⟩) (by assumption) ?_
          rotate_left
          · ((intro w hSw); (try dsimp only at hSw); go_simp; (try with_reducible rfl))
          try simp only [Act.put, List.setIfInBounds_toArray, List.set_cons_zero, List.set_cons_succ]
          refine wpAnyH_take (i := 11) (oi := { dst := some 91, op := Op.move (Operand.tmp 9), type := 27, pos := _, after := #[{ on := 10, ground := Ground.guard }], guard := some (10, false) }) (v := ?_) rfl (by kernel_rfl) (by kernel_rfl) (by kernel_rfl) (fun _ _ _ h => h) (Or.inl ⟨by rfl, ?_⟩) (by assumption) ?_
          rotate_left
          · ((intro w hSw); (try dsimp only at hSw); go_simp; (try with_reducible rfl))
          try simp only [Act.put, List.setIfInBounds_toArray, List.set_cons_zero, List.set_cons_succ]
          refine wpAnyH_take (i := 13) (oi := { dst := some 93, op := Op.fieldAddr 24 (Operand.tmp 6) 1, type := 0, pos := _, after := #[{ on := 10, ground := Ground.guard }], guard := some (10, false) }) (v := ?_) rfl (by kernel_rfl) (by kernel_rfl) (by kernel_rfl) (fun _ _ _ h => h) (Or.inl ⟨by rfl, ?_⟩) (by assumption) ?_
          rotate_left
          · ((intro w hSw); (try dsimp only at hSw); go_simp; (try with_reducible rfl))
          try simp only [Act.put, List.setIfInBounds_toArray, List.set_cons_zero, List.set_cons_succ]
          refine wpAnyH_take (i := 14) (oi := { dst := some 94, op := Op.load 22 (Operand.tmp 93), type := 22, pos := _, after := #[{ on := 13, ground := Ground.data }, { on := 10, ground := Ground.guard }], guard := some (10, false) }) (v := ?_) rfl (by kernel_rfl) (by kernel_rfl) (by kernel_rfl) (fun _ _ _ h => h) (Or.inl ⟨by rfl, ?_⟩) (by assumption) ?_
          rotate_left
          · ((intro w hSw); (try dsimp only at hSw); go_simp; (try with_reducible rfl))
          try simp only [Act.put, List.setIfInBounds_toArray, List.set_cons_zero, List.set_cons_succ]
          refine wpAnyH_ready (rs := [12]) (by kernel_rfl) (by simp) ?_
          refine (AllReadyH.cons (o := { dst := some 92, op := Op.call { callee := Callee.value (Operand.func 19), args := #[Operand.tmp 91], argTypes := #[27] }, type := 22, pos := _, after := #[{ on := 11, ground := Ground.data }, { on := 10, ground := Ground.chain }, { on := 10, ground := Ground.guard }], guard := some (10, false) }) rfl (fun K hK => ?_) AllReadyH.nil)
          go_simp
          (refine (restC p (go c0 T2) w7 h7.cp).mono ?_; rintro e w8 ⟨rfl, rfl⟩)
          go_wp2_with fail
          refine hK.out _ _ ?_ (fun hHeld => ?_)
          · ((try dsimp only); exact h7.cell X1.out)
          clear hK K
          try simp only [Act.put, List.setIfInBounds_toArray, List.set_cons_zero, List.set_cons_succ]
          refine wpAnyH_take (i := 15) (oi := { dst := some 95, op := Op.binOp BinOp.geq 22 (Operand.tmp 92) (Operand.tmp 94) 22, type := 4, pos := _, after := #[{ on := 12, ground := Ground.data }, { on := 14, ground := Ground.data }, { on := 10, ground := Ground.guard }], guard := some (10, false) }) (v := ?_) rfl (by kernel_rfl) (by kernel_rfl) (by kernel_rfl) (fun _ _ _ h => h) (Or.inl ⟨by rfl, ?_⟩) (by assumption) ?_
          rotate_left
          · ((intro w hSw); (try dsimp only at hSw); go_simp; (try with_reducible rfl))
          try simp only [Act.put, List.setIfInBounds_toArray, List.set_cons_zero, List.set_cons_succ]
          refine wpAnyH_take (i := 16) (oi := { dst := some 96, op := Op.pick (Operand.tmp 90) (Operand.const (Value.bool true)) (Operand.tmp 95), type := 4, pos := _, after := #[{ on := 10, ground := Ground.data }, { on := 15, ground := Ground.data }], guard := none }) (v := ?_) rfl (by kernel_rfl) (by kernel_rfl) (by kernel_rfl) (fun _ _ _ h => h) (Or.inl ⟨by rfl, ?_⟩) (by assumption) ?_
          rotate_left
          · ((intro w hSw); (try dsimp only at hSw); go_simp; (try with_reducible rfl))
          try simp only [Act.put, List.setIfInBounds_toArray, List.set_cons_zero, List.set_cons_succ]
          refine wpAnyH_done (by kernel_rfl) ?_ _
          go_wp2
          go_roundw
          case rel => exact ⟨i + 1, T2, by omega, rfl, rfl, by go_num, HT.out, h7⟩
          case measure => simp [intOf]; omega
        · have HB := Lib.hid hB
          clear hB hT0 hT1
          go_wp2_with fail
          refine (first _).mono ?_
          rintro e w6 ⟨rfl, hb6⟩
          go_wp2
          go_ret
          exact ⟨rfl, below_next (below_next hb0 HB.out.bel) hb6⟩
      · have HB := Lib.hid hB
        clear hB hT0 hT1
        go_wp2_with fail
        refine (first _).mono ?_
        rintro e w6 ⟨rfl, hb6⟩
        go_wp2
        go_ret
        exact ⟨rfl, below_next (below_next hb0 HB.out.bel) hb6⟩
    · obtain rfl : i = len := by omega
      have HT := Lib.hid (And.intro hT0 hT1)
      have hT64 : T < 18446744073709551616 := by omega
      have C1 := Lib.hid (fun W (h : Two W0 q p c0 (go c0 T) W) => at2 T h HK0.out hT64)
      have C2 := Lib.hid (fun W (h : Two W0 q p c0 (go c0 T) W) => go2 T h HK0.out hT64 (g := go c0 T) rfl)
      rw [HPOS.out T hT0] at C2
      have m3 : (((reach c0 T).1 : Int) == ((reach c0 T).1 : Int)) = true := by simp
      have m4 : (((go c0 T).rest : Int) == ((go c0 T).rest : Int)) = true := by simp
      clear hT0 hT1 hT64
      go_wp2_with fail
      refine (first _).mono ?_
      rintro e w6 ⟨rfl, hb6⟩
      have h6 := (hB.then_ hb6).swap
      go_wp2_with fail
      refine (C1.out _ h6).mono ?_
      rintro e w7 ⟨rfl, h7⟩
      go_wp2_with fail
      refine (C2.out _ h7).mono ?_
      rintro e w8 ⟨rfl, h8⟩
      go_wp2_with fail
      refine (restC q (go c0 T) w8 h8.cp).mono ?_
      rintro e w9 ⟨rfl, rfl⟩
      go_wp2_with fail
      refine (restC p (go c0 T) w8 h8.cq).mono ?_
      rintro e w9 ⟨rfl, rfl⟩
      go_wp2
      go_ret
      exact ⟨rfl, below_next hb0 h8.bel⟩
theorem walk (t x n d : Int) (a : Option Addr) (len cap : Nat) (zs : List Int) (W : World) (w0 : (Lit.int .u64 t).wf = true) (w1 : (Lit.int .u64 x).wf = true) (w3 : (Lit.int .u64 n).wf = true) (w4 : (Lit.int .u64 d).wf = true) (w5 : IsRow .u64 W a len cap zs) :
    Calls Try.prog 4 #[.int .u64 t, .int .u64 x, .agg #[.int .u64 n, .int .u64 d], .slice a len cap] W fun e w' => e = .returned (.bool true) ∧ Below W.heap.size W w' := by
  obtain ⟨p0, q0⟩ := in64 w0
  obtain ⟨p1, q1⟩ := in64 w1
  obtain ⟨p3, q3⟩ := in64 w3
  obtain ⟨p4, q4⟩ := in64 w4
  obtain ⟨t, rfl⟩ := Int.eq_ofNat_of_zero_le p0
  obtain ⟨x, rfl⟩ := Int.eq_ofNat_of_zero_le p1
  obtain ⟨n, rfl⟩ := Int.eq_ofNat_of_zero_le p3
  obtain ⟨d, rfl⟩ := Int.eq_ofNat_of_zero_le p4
  by_cases hA : mayN n d = true ∧ t ≤ mx ∧ x ≤ mx
  · by_cases hl : 200 < len
    · exact outB t x n d a len cap W (by omega) (by omega) hA.1 hA.2.1 hA.2.2 hl (row_len w5)
    · exact main t x n d a len cap zs W (by omega) (by omega) hA.1 hA.2.1 hA.2.2 (by omega) w5
  · exact outA t x n d a len cap W (by omega) (by omega) hA
end Go.Proofs.Ytilblkccophnnaa.StepsW
