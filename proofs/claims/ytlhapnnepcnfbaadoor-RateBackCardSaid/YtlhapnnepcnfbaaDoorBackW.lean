/- RateBack: the walk. -/
import Derived.Test.YtlhapnnepcnfbaaDoorFz
import Derived.Test.YtlhapnnepcnfbaaDoorOfTab
import Derived.Test.YtlhapnnepcnfbaaDoorStands
import Derived.Test.YtlhapnnepcnfbaaDoorEdgesW
import Derived.LoopTactic
import Derived.Deep.RegionHeld3
set_option linter.unusedVariables false
namespace Go.Proofs.YtlhapnnepcnfbaaDoor.BackW
open Go Go.RowKit Kit Nums Flt Fx Rate0 Rate1 RateFirst Seconds Scale Scale2 Steps Stands OfA OfB Fy Fz

theorem below_next {w W W1 : World} (h : Below w.heap.size w W) (k : Below W.heap.size W W1) : Below w.heap.size w W1 := below_then h k h.size
/-- scaled in two parts. -/
theorem parts (a b n d : Nat) (hd : 0 < d) : a * n / d + (b * n + a * n % d) / d = (a + b) * n / d ∧ (b * n + a * n % d) % d = (a + b) * n % d := by
  have h1 := Nat.div_add_mod (a * n) d
  have e : (a + b) * n = (b * n + a * n % d) + d * (a * n / d) := by rw [Nat.add_mul]; omega
  rw [e, Nat.add_mul_div_left _ _ hd, Nat.add_mul_mod_self_left]
  exact ⟨by omega, rfl⟩
/-- a faster one never goes less far. -/
theorem faster {a n d m g : Nat} (hd : 0 < d) (hg : 0 < g) (h : m * d < n * g) : a * m / g ≤ a * n / d := by
  rw [Nat.le_div_iff_mul_le hd]
  refine Nat.le_of_mul_le_mul_right ?_ hg
  have h1 := Nat.div_mul_le_self (a * m) g
  calc a * m / g * d * g = a * m / g * g * d := by rw [Nat.mul_right_comm]
    _ ≤ a * m * d := Nat.mul_le_mul_right _ h1
    _ = a * (m * d) := by rw [Nat.mul_assoc]
    _ ≤ a * (n * g) := Nat.mul_le_mul_left _ (by omega)
    _ = a * n * g := by rw [Nat.mul_assoc]
theorem val_iff {n k m j : Nat} (hk : k ≤ 20) (hj : j ≤ 20) : (m * 2 ^ (kE - j) < n * 2 ^ (kE - k)) ↔ (m * 2 ^ k < n * 2 ^ j) := by
  have hE := kE_eq
  constructor
  · intro h
    rcases Nat.lt_or_ge (m * 2 ^ k) (n * 2 ^ j) with h1 | h1
    · exact h1
    · have := scale_le (a' := kE - k) (b' := kE - j) h1 (by omega); omega
  · intro h
    rcases Nat.lt_or_ge (m * 2 ^ (kE - j)) (n * 2 ^ (kE - k)) with h1 | h1
    · exact h1
    · have := scale_le (a' := j) (b' := k) h1 (by omega); omega
set_option maxRecDepth 100000 in
set_option maxHeartbeats 8000000 in
theorem main (n d m g a b : Nat) (w : World) (hT : TabZ w) (hT58 : w.cell? ⟨4, 58, none⟩ = some (.int .u8 19)) (hn : n < 18446744073709551616) (hd : d < 18446744073709551616) (hm : m < 18446744073709551616) (hg : g < 18446744073709551616)
    (hs : mayN n d = true) (ht : mayN m g = true) (ha : a ≤ 1073741824) (hb : b ≤ 1073741824) :
    Calls Tryd.prog 6 #[.agg #[.int .u64 (n : Int), .int .u64 (d : Int)], .agg #[.int .u64 (m : Int), .int .u64 (g : Int)], .int .u64 (a : Int), .int .u64 (b : Int)] w fun e w' => e = .returned (.bool true) ∧ Below w.heap.size w w' := by
  obtain ⟨k, hk, hdk, hnk, hno⟩ := may_pow hs
  obtain ⟨j, hj, hgj, hmj, hmo⟩ := may_pow ht
  have hd0 : 0 < d := by rw [hdk]; exact Nat.two_pow_pos k
  have hg0 : 0 < g := by rw [hgj]; exact Nat.two_pow_pos j
  have hd20 : d ≤ 1048576 := by rw [hdk]; exact Nat.le_trans (Nat.pow_le_pow_right (by decide) hk) (by decide : 2 ^ 20 ≤ 1048576)
  have hg20 : g ≤ 1048576 := by rw [hgj]; exact Nat.le_trans (Nat.pow_le_pow_right (by decide) hj) (by decide : 2 ^ 20 ≤ 1048576)
  rw [← hdk] at hnk
  rw [← hgj] at hmj
  obtain ⟨r, hr, hfr, hof, hvr⟩ := of_back hk (by rw [← hdk]; exact hnk) hno
  obtain ⟨q, hq, hfq, _, hvq⟩ := of_back hj (by rw [← hgj]; exact hmj) hmo
  have hord := order_val hr hq
  rw [hvr, hvq, show decide (m * 2 ^ (kE - j) < n * 2 ^ (kE - k)) = decide (m * 2 ^ k < n * 2 ^ j) from decide_eq_decide.2 (val_iff hk hj), ← hdk, ← hgj] at hord
  rw [← hdk] at hfr hof
  rw [← hgj] at hfq
  have hr64 := (pos_word hr).1
  have hq64 := (pos_word hq).1
  have CF1 := Lib.hid (fun w => floatC n d w hn hd)
  rw [show floA n d = r from by rw [floA, if_pos hs]; exact hfr] at CF1
  have CF2 := Lib.hid (fun w => floatC m g w hm hg)
  rw [show floA m g = q from by rw [floA, if_pos ht]; exact hfq] at CF2
  have CO := Lib.hid (fun w h => ofC r w hr64 h)
  unfold OfP at CO
  rw [hof] at CO
  have CX := Lib.hid (fun w => orderC r q w hr64 hq64)
  have CM1 := Lib.hid (fun w => mayC n d w hn hd)
  rw [hs] at CM1
  have CM2 := Lib.hid (fun w => mayC m g w hm hg)
  rw [ht] at CM2
  obtain ⟨p1, p2⟩ := parts a b n d hd0
  have hR1 : a * n % d < d := Nat.mod_lt _ hd0
  have hfas := fun h => faster (a := a) (n := n) (d := d) (m := m) (g := g) hd0 hg0 h
  have e1 : scaleN b (a * n % d) n d = ((b * n + a * n % d) / d, (b * n + a * n % d) % d, 0) := by
    refine sc_ok hs hR1 ?_
    have h1 : b * n ≤ 1073741824 * (1024 * d) := Nat.mul_le_mul hb hnk
    refine Nat.le_trans (Nat.div_le_of_le_mul (n := 1099511627777) ?_) (by decide)
    omega
  have S1 := Lib.hid (fun w => scaleC a 0 n d w (by omega) (by decide) hn hd)
  rw [sc_small hs (by omega)] at S1
  have S2 := Lib.hid (fun w => scaleC b (a * n % d) n d w (by omega) (by omega) hn hd)
  rw [e1, p2] at S2
  have S3 := Lib.hid (fun w => scaleC (a + b) 0 n d w (by omega) (by decide) hn hd)
  rw [sc_small hs (by omega), ← p1] at S3
  have S4 := Lib.hid (fun w => scaleC a 0 m g w (by omega) (by decide) hm hg)
  rw [sc_small ht (by omega)] at S4
  have hX1 : n * g ≤ 1073741824 * 1048576 := Nat.mul_le_mul (by omega) hg20
  have hX2 : m * d ≤ 1073741824 * 1048576 := Nat.mul_le_mul (by omega) hd20
  have hN1 : a * n / d ≤ 1099511627776 := by
    have h1 : a * n ≤ 1073741824 * (1024 * d) := Nat.mul_le_mul ha hnk
    exact Nat.div_le_of_le_mul (by omega)
  have hN2 : (b * n + a * n % d) / d ≤ 1099511627777 := by
    have h1 : b * n ≤ 1073741824 * (1024 * d) := Nat.mul_le_mul hb hnk
    exact Nat.div_le_of_le_mul (by omega)
  generalize a * n / d = N1 at *
  generalize (b * n + a * n % d) / d = N2 at *
  generalize a * n % d = R1 at *
  generalize (a + b) * n % d = R2 at *
  generalize a * m / g = P at *
  generalize a * m % g = R4 at *
  obtain ⟨AB, hAB⟩ : ∃ AB, AB = a + b := ⟨_, rfl⟩
  obtain ⟨NN, hNN⟩ : ∃ NN, NN = N1 + N2 := ⟨_, rfl⟩
  rw [← hAB] at S3
  rw [← hNN] at S3
  have w1 : IntKind.u64.wrap ((a : Int) + (b : Int)) = (AB : Int) := by rw [IntKind.wrap_u64]; omega
  have w2 : IntKind.u64.wrap ((N1 : Int) + (N2 : Int)) = (NN : Int) := by rw [IntKind.wrap_u64]; omega
  obtain ⟨X, hX⟩ : ∃ X, X = n * g := ⟨_, rfl⟩
  obtain ⟨Y, hY⟩ : ∃ Y, Y = m * d := ⟨_, rfl⟩
  rw [← hX] at hX1 hfas hord
  rw [← hY] at hX2 hfas hord
  have w3 : IntKind.u64.wrap ((n : Int) * (g : Int)) = (X : Int) := by rw [← Int.natCast_mul, ← hX, IntKind.wrap_u64]; omega
  have w4 : IntKind.u64.wrap ((m : Int) * (d : Int)) = (Y : Int) := by rw [← Int.natCast_mul, ← hY, IntKind.wrap_u64]; omega
  have b1 : decide ((1073741824 : Int) < (a : Int)) = false := decide_eq_false (by omega)
  have b2 : decide ((1073741824 : Int) < (b : Int)) = false := decide_eq_false (by omega)
  have b3 : decide ((d : Int) ≤ (R1 : Int)) = false := decide_eq_false (by omega)
  have b3' : decide (d ≤ R1) = false := decide_eq_false (by omega)
  generalize ordZ (rankZ (r : Int)) (rankZ (q : Int)) = O at *
  have hT0 := (hT.alloc (.cells #[.int .u64 (n : Int), .int .u64 (d : Int)] 26)).alloc (.cells #[.int .u64 (m : Int), .int .u64 (g : Int)] 26)
  have hT1 := past_alloc (o := .cells #[.int .u64 (m : Int), .int .u64 (g : Int)] 26) (past_alloc (o := .cells #[.int .u64 (n : Int), .int .u64 (d : Int)] 26) hT58)
  have hB0 := ((Below.refl w.heap.size w).alloc (Nat.le_refl _) (.cells #[.int .u64 (n : Int), .int .u64 (d : Int)] 26)).alloc (by simp) (.cells #[.int .u64 (m : Int), .int .u64 (g : Int)] 26)
  obtain ⟨c0, c1⟩ := EdgesW.new_cells (w := w) (a := n) (b := d) (T := 26)
  obtain ⟨c2, c3⟩ := EdgesW.new_cells (w := w.alloc (.cells #[.int .u64 (n : Int), .int .u64 (d : Int)] 26)) (a := m) (b := g) (T := 26)
  replace c0 := past_alloc (o := .cells #[.int .u64 (m : Int), .int .u64 (g : Int)] 26) c0
  replace c1 := past_alloc (o := .cells #[.int .u64 (m : Int), .int .u64 (g : Int)] 26) c1
  rw [show (w.alloc (.cells #[.int .u64 (n : Int), .int .u64 (d : Int)] 26)).heap.size = w.heap.size + 1 from by simp] at c2 c3
  have HF := Lib.hid (fun w h => first w h)
  clear hT hT58 hs ht hn hd hm hg hnk hmj hno hmo hk hj hdk hgj hfr hfq hof hvr hvq hr hq hr64 hq64 p1 p2 hR1 e1 hAB hNN hX hY hX1 hX2 hN1 hN2 hd0 hg0 hd20 hg20 ha hb
  generalize hw0 : (w.alloc (.cells #[.int .u64 (n : Int), .int .u64 (d : Int)] 26)).alloc (.cells #[.int .u64 (m : Int), .int .u64 (g : Int)] 26) = W0 at *
  go_enter Tryd.func6, Tryd.ntmps6
  go_wp2_with fail
  have HT0 := Lib.hid hT0
  have HT1 := Lib.hid hT1
  clear hT0 hT1
  refine (HF.out _ HT1.out).mono ?_
  rintro e v1 ⟨rfl, hb⟩
  clear hw0
  replace c0 := cell_then hb (Nat.le_refl _) c0
  replace c1 := cell_then hb (Nat.le_refl _) c1
  replace c2 := cell_then hb (Nat.le_refl _) c2
  replace c3 := cell_then hb (Nat.le_refl _) c3
  replace hB0 := below_next hB0 hb
  replace HT0 := Lib.hid (HT0.out.then_ hb)
  replace HT1 := Lib.hid (cell_then hb (Nat.le_refl _) HT1.out)
  clear hb
  go_wp2_with fail
  refine (CM1.out _).mono ?_
  rintro e v2 ⟨rfl, hw⟩
  have hb := (Below.refl v1.heap.size v1).alloc (Nat.le_refl _) (.cells #[.int .u64 (n : Int), .int .u64 (d : Int)] 26)
  rw [hw] at hb
  clear hw
  replace c0 := cell_then hb (Nat.le_refl _) c0
  replace c1 := cell_then hb (Nat.le_refl _) c1
  replace c2 := cell_then hb (Nat.le_refl _) c2
  replace c3 := cell_then hb (Nat.le_refl _) c3
  replace hB0 := below_next hB0 hb
  replace HT0 := Lib.hid (HT0.out.then_ hb)
  replace HT1 := Lib.hid (cell_then hb (Nat.le_refl _) HT1.out)
  clear hb
  go_wp2_with fail
  refine (CM2.out _).mono ?_
  rintro e v3 ⟨rfl, hw⟩
  have hb := (Below.refl v2.heap.size v2).alloc (Nat.le_refl _) (.cells #[.int .u64 (m : Int), .int .u64 (g : Int)] 26)
  rw [hw] at hb
  clear hw
  replace c0 := cell_then hb (Nat.le_refl _) c0
  replace c1 := cell_then hb (Nat.le_refl _) c1
  replace c2 := cell_then hb (Nat.le_refl _) c2
  replace c3 := cell_then hb (Nat.le_refl _) c3
  replace hB0 := below_next hB0 hb
  replace HT0 := Lib.hid (HT0.out.then_ hb)
  replace HT1 := Lib.hid (cell_then hb (Nat.le_refl _) HT1.out)
  clear hb
  go_wp2_with fail
  refine (CF1.out _).mono ?_
  rintro e v4 ⟨rfl, hb⟩
  replace c0 := cell_then hb (Nat.le_refl _) c0
  replace c1 := cell_then hb (Nat.le_refl _) c1
  replace c2 := cell_then hb (Nat.le_refl _) c2
  replace c3 := cell_then hb (Nat.le_refl _) c3
  replace hB0 := below_next hB0 hb
  replace HT0 := Lib.hid (HT0.out.then_ hb)
  replace HT1 := Lib.hid (cell_then hb (Nat.le_refl _) HT1.out)
  clear hb
  go_wp2_with fail
  refine (CO.out _ HT0.out).mono ?_
  rintro e v5 ⟨rfl, hb⟩
  replace c0 := cell_then hb (Nat.le_refl _) c0
  replace c1 := cell_then hb (Nat.le_refl _) c1
  replace c2 := cell_then hb (Nat.le_refl _) c2
  replace c3 := cell_then hb (Nat.le_refl _) c3
  replace hB0 := below_next hB0 hb
  replace HT0 := Lib.hid (HT0.out.then_ hb)
  replace HT1 := Lib.hid (cell_then hb (Nat.le_refl _) HT1.out)
  clear hb
  obtain ⟨c4, c5⟩ := EdgesW.new_cells (w := v5) (a := n) (b := d) (T := 26)
  have hb := (Below.refl v5.heap.size v5).alloc (Nat.le_refl _) (.cells #[.int .u64 (n : Int), .int .u64 (d : Int)] 26)
  replace c0 := cell_then hb (Nat.le_refl _) c0
  replace c1 := cell_then hb (Nat.le_refl _) c1
  replace c2 := cell_then hb (Nat.le_refl _) c2
  replace c3 := cell_then hb (Nat.le_refl _) c3
  replace hB0 := below_next hB0 hb
  replace HT0 := Lib.hid (HT0.out.then_ hb)
  replace HT1 := Lib.hid (cell_then hb (Nat.le_refl _) HT1.out)
  clear hb
  generalize hw6 : v5.alloc (.cells #[.int .u64 (n : Int), .int .u64 (d : Int)] 26) = v6 at *
  generalize hB6 : v5.heap.size = B6 at *
  go_wp2_with fail
  clear hw6 hB6
  refine (S1.out _).mono ?_
  rintro e v7 ⟨rfl, hb⟩
  replace c0 := cell_then hb (Nat.le_refl _) c0
  replace c1 := cell_then hb (Nat.le_refl _) c1
  replace c2 := cell_then hb (Nat.le_refl _) c2
  replace c3 := cell_then hb (Nat.le_refl _) c3
  replace c4 := cell_then hb (Nat.le_refl _) c4
  replace c5 := cell_then hb (Nat.le_refl _) c5
  replace hB0 := below_next hB0 hb
  replace HT0 := Lib.hid (HT0.out.then_ hb)
  replace HT1 := Lib.hid (cell_then hb (Nat.le_refl _) HT1.out)
  clear hb
  go_wp2_with fail
  refine (S2.out _).mono ?_
  rintro e v8 ⟨rfl, hb⟩
  replace c0 := cell_then hb (Nat.le_refl _) c0
  replace c1 := cell_then hb (Nat.le_refl _) c1
  replace c2 := cell_then hb (Nat.le_refl _) c2
  replace c3 := cell_then hb (Nat.le_refl _) c3
  replace c4 := cell_then hb (Nat.le_refl _) c4
  replace c5 := cell_then hb (Nat.le_refl _) c5
  replace hB0 := below_next hB0 hb
  replace HT0 := Lib.hid (HT0.out.then_ hb)
  replace HT1 := Lib.hid (cell_then hb (Nat.le_refl _) HT1.out)
  clear hb
  go_wp2_with fail
  refine (S3.out _).mono ?_
  rintro e v9 ⟨rfl, hb⟩
  replace c0 := cell_then hb (Nat.le_refl _) c0
  replace c1 := cell_then hb (Nat.le_refl _) c1
  replace c2 := cell_then hb (Nat.le_refl _) c2
  replace c3 := cell_then hb (Nat.le_refl _) c3
  replace c4 := cell_then hb (Nat.le_refl _) c4
  replace c5 := cell_then hb (Nat.le_refl _) c5
  replace hB0 := below_next hB0 hb
  replace HT0 := Lib.hid (HT0.out.then_ hb)
  replace HT1 := Lib.hid (cell_then hb (Nat.le_refl _) HT1.out)
  clear hb
  go_wp2_with fail
  refine (S4.out _).mono ?_
  rintro e v10 ⟨rfl, hb⟩
  replace c0 := cell_then hb (Nat.le_refl _) c0
  replace c1 := cell_then hb (Nat.le_refl _) c1
  replace c2 := cell_then hb (Nat.le_refl _) c2
  replace c3 := cell_then hb (Nat.le_refl _) c3
  replace c4 := cell_then hb (Nat.le_refl _) c4
  replace c5 := cell_then hb (Nat.le_refl _) c5
  replace hB0 := below_next hB0 hb
  replace HT0 := Lib.hid (HT0.out.then_ hb)
  replace HT1 := Lib.hid (cell_then hb (Nat.le_refl _) HT1.out)
  clear hb
  clear c4 c5
  have HO := Lib.hid hord
  have HFS := Lib.hid hfas
  clear hord hfas
  cases fb : decide (Y < X)
  · have hO : (O == 1) = false := HO.out.trans fb
    go_wp2_with fail
    refine wp_region_held_drew (S := (fun W => W.cell? ⟨w.heap.size, 0, none⟩ = some (.int .u64 (n : Int)) ∧ W.cell? ⟨w.heap.size, 1, none⟩ = some (.int .u64 (d : Int)) ∧ W.cell? ⟨w.heap.size + 1, 0, none⟩ = some (.int .u64 (m : Int)) ∧ W.cell? ⟨w.heap.size + 1, 1, none⟩ = some (.int .u64 (g : Int)))) (by kernel_rfl) ?_ (fun hHeld => ?_)
    · ((try dsimp only); exact ⟨past_drew c0, past_drew c1, past_drew c2, past_drew c3⟩)
    refine wpAnyH_ready (rs := [0]) (by kernel_rfl) (by simp) ?_
    refine (AllReadyH.cons (o := { dst := some 130, op := Op.call { callee := Callee.value (Operand.func 15), args := #[], argTypes := #[] }, type := 4, pos := _, after := #[], guard := none }) rfl (fun K hK => ?_) AllReadyH.nil)
    go_simp
    (refine (HF.out _ (show v10.drew.cell? ⟨4, 58, none⟩ = some (.int .u8 19) from HT1.out)).mono ?_; rintro e x1 ⟨rfl, g1⟩)
    go_wp2_with fail
    refine hK.out _ _ ?_ (fun hHeld => ?_)
    · ((try dsimp only); exact ⟨(cell_then g1 (Nat.le_refl _) (past_drew c0)), (cell_then g1 (Nat.le_refl _) (past_drew c1)), (cell_then g1 (Nat.le_refl _) (past_drew c2)), (cell_then g1 (Nat.le_refl _) (past_drew c3))⟩)
    clear hK K
    try simp only [Act.put, List.setIfInBounds_toArray, List.set_cons_zero, List.set_cons_succ]
    refine wpAnyH_take (i := 1) (oi := { dst := some 131, op := Op.move (Operand.tmp 130), type := 4, pos := _, after := #[{ on := 0, ground := Ground.data }, { on := 0, ground := Ground.chain }], guard := none }) (v := ?_) rfl (by kernel_rfl) (by kernel_rfl) (by kernel_rfl) (fun _ _ _ h => h) (Or.inl ⟨by rfl, ?_⟩) (by assumption) ?_
    rotate_left
    · ((intro w hSw); (try dsimp only at hSw); go_simp; (try with_reducible rfl))
    try simp only [Act.put, List.setIfInBounds_toArray, List.set_cons_zero, List.set_cons_succ]
    refine wpAnyH_take (i := 2) (oi := { dst := some 132, op := Op.move (Operand.tmp 23), type := 4, pos := _, after := #[{ on := 1, ground := Ground.guard }], guard := some (1, true) }) (v := ?_) rfl (by kernel_rfl) (by kernel_rfl) (by kernel_rfl) (fun _ _ _ h => h) (Or.inl ⟨by rfl, ?_⟩) (by assumption) ?_
    rotate_left
    · ((intro w hSw); (try dsimp only at hSw); go_simp; (try with_reducible rfl))
    try simp only [Act.put, List.setIfInBounds_toArray, List.set_cons_zero, List.set_cons_succ]
    refine wpAnyH_take (i := 3) (oi := { dst := some 133, op := Op.unOp UnOp.not 4 (Operand.tmp 132), type := 4, pos := _, after := #[{ on := 2, ground := Ground.data }, { on := 1, ground := Ground.guard }], guard := some (1, true) }) (v := ?_) rfl (by kernel_rfl) (by kernel_rfl) (by kernel_rfl) (fun _ _ _ h => h) (Or.inl ⟨by rfl, ?_⟩) (by assumption) ?_
    rotate_left
    · ((intro w hSw); (try dsimp only at hSw); go_simp; (try with_reducible rfl))
    try simp only [Act.put, List.setIfInBounds_toArray, List.set_cons_zero, List.set_cons_succ]
    refine wpAnyH_take (i := 4) (oi := { dst := some 134, op := Op.move (Operand.tmp 133), type := 4, pos := _, after := #[{ on := 3, ground := Ground.data }, { on := 1, ground := Ground.chain }, { on := 1, ground := Ground.guard }], guard := some (1, true) }) (v := ?_) rfl (by kernel_rfl) (by kernel_rfl) (by kernel_rfl) (fun _ _ _ h => h) (Or.inl ⟨by rfl, ?_⟩) (by assumption) ?_
    rotate_left
    · ((intro w hSw); (try dsimp only at hSw); go_simp; (try with_reducible rfl))
    try simp only [Act.put, List.setIfInBounds_toArray, List.set_cons_zero, List.set_cons_succ]
    refine wpAnyH_take (i := 5) (oi := { dst := some 135, op := Op.move (Operand.tmp 11), type := 22, pos := _, after := #[{ on := 4, ground := Ground.guard }], guard := some (4, false) }) (v := undef) rfl (by kernel_rfl) (by kernel_rfl) (by kernel_rfl) (fun _ _ _ h => h) (Or.inr ⟨by rfl, rfl⟩) (by assumption) ?_
    try simp only [Act.put, List.setIfInBounds_toArray, List.set_cons_zero, List.set_cons_succ]
    refine wpAnyH_take (i := 6) (oi := { dst := some 136, op := Op.move (Operand.tmp 20), type := 22, pos := _, after := #[{ on := 4, ground := Ground.guard }], guard := some (4, false) }) (v := undef) rfl (by kernel_rfl) (by kernel_rfl) (by kernel_rfl) (fun _ _ _ h => h) (Or.inr ⟨by rfl, rfl⟩) (by assumption) ?_
    try simp only [Act.put, List.setIfInBounds_toArray, List.set_cons_zero, List.set_cons_succ]
    refine wpAnyH_take (i := 7) (oi := { dst := some 137, op := Op.binOp BinOp.geq 22 (Operand.tmp 135) (Operand.tmp 136) 22, type := 4, pos := _, after := #[{ on := 5, ground := Ground.data }, { on := 6, ground := Ground.data }, { on := 4, ground := Ground.guard }], guard := some (4, false) }) (v := undef) rfl (by kernel_rfl) (by kernel_rfl) (by kernel_rfl) (fun _ _ _ h => h) (Or.inr ⟨by rfl, rfl⟩) (by assumption) ?_
    try simp only [Act.put, List.setIfInBounds_toArray, List.set_cons_zero, List.set_cons_succ]
    refine wpAnyH_take (i := 8) (oi := { dst := some 138, op := Op.pick (Operand.tmp 134) (Operand.const (Value.bool true)) (Operand.tmp 137), type := 4, pos := _, after := #[{ on := 4, ground := Ground.data }, { on := 7, ground := Ground.data }, { on := 1, ground := Ground.guard }], guard := some (1, true) }) (v := ?_) rfl (by kernel_rfl) (by kernel_rfl) (by kernel_rfl) (fun _ _ _ h => h) (Or.inl ⟨by rfl, ?_⟩) (by assumption) ?_
    rotate_left
    · ((intro w hSw); (try dsimp only at hSw); go_simp; (try with_reducible rfl))
    try simp only [Act.put, List.setIfInBounds_toArray, List.set_cons_zero, List.set_cons_succ]
    refine wpAnyH_take (i := 9) (oi := { dst := some 139, op := Op.pick (Operand.tmp 131) (Operand.tmp 138) (Operand.const (Value.bool false)), type := 4, pos := _, after := #[{ on := 1, ground := Ground.data }, { on := 8, ground := Ground.data }], guard := none }) (v := ?_) rfl (by kernel_rfl) (by kernel_rfl) (by kernel_rfl) (fun _ _ _ h => h) (Or.inl ⟨by rfl, ?_⟩) (by assumption) ?_
    rotate_left
    · ((intro w hSw); (try dsimp only at hSw); go_simp; (try with_reducible rfl))
    try simp only [Act.put, List.setIfInBounds_toArray, List.set_cons_zero, List.set_cons_succ]
    refine wpAnyH_take (i := 10) (oi := { dst := some 140, op := Op.move (Operand.tmp 139), type := 4, pos := _, after := #[{ on := 9, ground := Ground.data }, { on := 4, ground := Ground.chain }], guard := none }) (v := ?_) rfl (by kernel_rfl) (by kernel_rfl) (by kernel_rfl) (fun _ _ _ h => h) (Or.inl ⟨by rfl, ?_⟩) (by assumption) ?_
    rotate_left
    · ((intro w hSw); (try dsimp only at hSw); go_simp; (try with_reducible rfl))
    try simp only [Act.put, List.setIfInBounds_toArray, List.set_cons_zero, List.set_cons_succ]
    refine wpAnyH_take (i := 11) (oi := { dst := some 141, op := Op.load 26 (Operand.tmp 4), type := 26, pos := _, after := #[{ on := 10, ground := Ground.guard }], guard := some (10, true) }) (v := ?_) rfl (by kernel_rfl) (by kernel_rfl) (by kernel_rfl) (fun _ _ _ h => h) (Or.inl ⟨by rfl, ?_⟩) (by assumption) ?_
    rotate_left
    · ((intro w hSw); (try dsimp only at hSw); go_simp; (try with_reducible rfl))
    try simp only [Act.put, List.setIfInBounds_toArray, List.set_cons_zero, List.set_cons_succ]
    refine wpAnyH_take (i := 13) (oi := { dst := some 143, op := Op.load 26 (Operand.tmp 5), type := 26, pos := _, after := #[{ on := 10, ground := Ground.guard }], guard := some (10, true) }) (v := ?_) rfl (by kernel_rfl) (by kernel_rfl) (by kernel_rfl) (fun _ _ _ h => h) (Or.inl ⟨by rfl, ?_⟩) (by assumption) ?_
    rotate_left
    · ((intro w hSw); (try dsimp only at hSw); go_simp; (try with_reducible rfl))
    try simp only [Act.put, List.setIfInBounds_toArray, List.set_cons_zero, List.set_cons_succ]
    refine wpAnyH_take (i := 17) (oi := { dst := some 147, op := Op.move (Operand.tmp 23), type := 4, pos := _, after := #[{ on := 10, ground := Ground.guard }], guard := some (10, true) }) (v := ?_) rfl (by kernel_rfl) (by kernel_rfl) (by kernel_rfl) (fun _ _ _ h => h) (Or.inl ⟨by rfl, ?_⟩) (by assumption) ?_
    rotate_left
    · ((intro w hSw); (try dsimp only at hSw); go_simp; (try with_reducible rfl))
    try simp only [Act.put, List.setIfInBounds_toArray, List.set_cons_zero, List.set_cons_succ]
    refine wpAnyH_ready (rs := [12]) (by kernel_rfl) (by simp) ?_
    refine (AllReadyH.cons (o := { dst := some 142, op := Op.call { callee := Callee.value (Operand.func 29), args := #[Operand.tmp 141], argTypes := #[26] }, type := 23, pos := _, after := #[{ on := 11, ground := Ground.data }, { on := 10, ground := Ground.chain }, { on := 10, ground := Ground.guard }], guard := some (10, true) }) rfl (fun K hK => ?_) AllReadyH.nil)
    go_simp
    (refine (CF1.out _).mono ?_; rintro e x2 ⟨rfl, g2⟩)
    go_wp2_with fail
    refine hK.out _ _ ?_ (fun hHeld => ?_)
    · ((try dsimp only); exact ⟨(cell_then g2 (Nat.le_refl _) (cell_then g1 (Nat.le_refl _) (past_drew c0))), (cell_then g2 (Nat.le_refl _) (cell_then g1 (Nat.le_refl _) (past_drew c1))), (cell_then g2 (Nat.le_refl _) (cell_then g1 (Nat.le_refl _) (past_drew c2))), (cell_then g2 (Nat.le_refl _) (cell_then g1 (Nat.le_refl _) (past_drew c3)))⟩)
    clear hK K
    try simp only [Act.put, List.setIfInBounds_toArray, List.set_cons_zero, List.set_cons_succ]
    refine wpAnyH_ready (rs := [14]) (by kernel_rfl) (by simp) ?_
    refine (AllReadyH.cons (o := { dst := some 144, op := Op.call { callee := Callee.value (Operand.func 29), args := #[Operand.tmp 143], argTypes := #[26] }, type := 23, pos := _, after := #[{ on := 13, ground := Ground.data }, { on := 12, ground := Ground.chain }, { on := 10, ground := Ground.guard }], guard := some (10, true) }) rfl (fun K hK => ?_) AllReadyH.nil)
    go_simp
    (refine (CF2.out _).mono ?_; rintro e x3 ⟨rfl, g3⟩)
    go_wp2_with fail
    refine hK.out _ _ ?_ (fun hHeld => ?_)
    · ((try dsimp only); exact ⟨(cell_then g3 (Nat.le_refl _) (cell_then g2 (Nat.le_refl _) (cell_then g1 (Nat.le_refl _) (past_drew c0)))), (cell_then g3 (Nat.le_refl _) (cell_then g2 (Nat.le_refl _) (cell_then g1 (Nat.le_refl _) (past_drew c1)))), (cell_then g3 (Nat.le_refl _) (cell_then g2 (Nat.le_refl _) (cell_then g1 (Nat.le_refl _) (past_drew c2)))), (cell_then g3 (Nat.le_refl _) (cell_then g2 (Nat.le_refl _) (cell_then g1 (Nat.le_refl _) (past_drew c3))))⟩)
    clear hK K
    try simp only [Act.put, List.setIfInBounds_toArray, List.set_cons_zero, List.set_cons_succ]
    refine wpAnyH_ready (rs := [15]) (by kernel_rfl) (by simp) ?_
    refine (AllReadyH.cons (o := { dst := some 145, op := Op.call { callee := Callee.value (Operand.func 23), args := #[Operand.tmp 142, Operand.tmp 144], argTypes := #[23, 23] }, type := 3, pos := _, after := #[{ on := 12, ground := Ground.data }, { on := 14, ground := Ground.data }, { on := 14, ground := Ground.chain }, { on := 10, ground := Ground.guard }], guard := some (10, true) }) rfl (fun K hK => ?_) AllReadyH.nil)
    go_simp
    (refine (CX.out _).mono ?_; rintro e xx ⟨rfl, rfl⟩)
    go_wp2_with fail
    refine hK.out _ _ ?_ (fun hHeld => ?_)
    · ((try dsimp only); exact ⟨(cell_then g3 (Nat.le_refl _) (cell_then g2 (Nat.le_refl _) (cell_then g1 (Nat.le_refl _) (past_drew c0)))), (cell_then g3 (Nat.le_refl _) (cell_then g2 (Nat.le_refl _) (cell_then g1 (Nat.le_refl _) (past_drew c1)))), (cell_then g3 (Nat.le_refl _) (cell_then g2 (Nat.le_refl _) (cell_then g1 (Nat.le_refl _) (past_drew c2)))), (cell_then g3 (Nat.le_refl _) (cell_then g2 (Nat.le_refl _) (cell_then g1 (Nat.le_refl _) (past_drew c3))))⟩)
    clear hK K
    try simp only [Act.put, List.setIfInBounds_toArray, List.set_cons_zero, List.set_cons_succ]
    refine wpAnyH_take (i := 16) (oi := { dst := some 146, op := Op.binOp BinOp.eql 3 (Operand.tmp 145) (Operand.const (Value.int IntKind.i64 1)) 3, type := 4, pos := _, after := #[{ on := 15, ground := Ground.data }, { on := 10, ground := Ground.guard }], guard := some (10, true) }) (v := ?_) rfl (by kernel_rfl) (by kernel_rfl) (by kernel_rfl) (fun _ _ _ h => h) (Or.inl ⟨by rfl, ?_⟩) (by assumption) ?_
    rotate_left
    · ((intro w hSw); (try dsimp only at hSw); go_simp; (try with_reducible rfl))
    try simp only [Act.put, List.setIfInBounds_toArray, List.set_cons_zero, List.set_cons_succ]
    refine wpAnyH_take (i := 18) (oi := { dst := some 148, op := Op.binOp BinOp.eql 4 (Operand.tmp 146) (Operand.tmp 147) 4, type := 4, pos := _, after := #[{ on := 16, ground := Ground.data }, { on := 17, ground := Ground.data }, { on := 10, ground := Ground.guard }], guard := some (10, true) }) (v := ?_) rfl (by kernel_rfl) (by kernel_rfl) (by kernel_rfl) (fun _ _ _ h => h) (Or.inl ⟨by rfl, ?_⟩) (by assumption) ?_
    rotate_left
    · ((intro w hSw); (try dsimp only at hSw); go_simp; (try with_reducible rfl))
    try simp only [Act.put, List.setIfInBounds_toArray, List.set_cons_zero, List.set_cons_succ]
    refine wpAnyH_take (i := 19) (oi := { dst := some 149, op := Op.pick (Operand.tmp 140) (Operand.tmp 148) (Operand.const (Value.bool false)), type := 4, pos := _, after := #[{ on := 10, ground := Ground.data }, { on := 18, ground := Ground.data }], guard := none }) (v := ?_) rfl (by kernel_rfl) (by kernel_rfl) (by kernel_rfl) (fun _ _ _ h => h) (Or.inl ⟨by rfl, ?_⟩) (by assumption) ?_
    rotate_left
    · ((intro w hSw); (try dsimp only at hSw); go_simp; (try with_reducible rfl))
    try simp only [Act.put, List.setIfInBounds_toArray, List.set_cons_zero, List.set_cons_succ]
    refine wpAnyH_take (i := 20) (oi := { dst := some 8, op := Op.assign (Operand.tmp 149), type := 4, pos := _, after := #[{ on := 19, ground := Ground.data }, { on := 15, ground := Ground.chain }, { on := 0, ground := Ground.phase }, { on := 1, ground := Ground.phase }, { on := 2, ground := Ground.phase }, { on := 3, ground := Ground.phase }, { on := 4, ground := Ground.phase }, { on := 5, ground := Ground.phase }, { on := 6, ground := Ground.phase }, { on := 7, ground := Ground.phase }, { on := 8, ground := Ground.phase }, { on := 9, ground := Ground.phase }, { on := 10, ground := Ground.phase }, { on := 11, ground := Ground.phase }, { on := 12, ground := Ground.phase }, { on := 13, ground := Ground.phase }, { on := 14, ground := Ground.phase }, { on := 15, ground := Ground.phase }, { on := 16, ground := Ground.phase }, { on := 17, ground := Ground.phase }, { on := 18, ground := Ground.phase }, { on := 19, ground := Ground.phase }], guard := none }) (v := ?_) rfl (by kernel_rfl) (by kernel_rfl) (by kernel_rfl) (fun _ _ _ h => h) (Or.inl ⟨by rfl, ?_⟩) (by assumption) ?_
    rotate_left
    · ((intro w hSw); (try dsimp only at hSw); go_simp; (try with_reducible rfl))
    try simp only [Act.put, List.setIfInBounds_toArray, List.set_cons_zero, List.set_cons_succ]
    refine wpAnyH_done (by kernel_rfl) ?_ _
    go_wp2
    go_ret
    exact ⟨rfl, below_next hB0 (below_next (below_next (below_next (Below.refl _ _).drew g1) g2) g3)⟩
  · have hO : (O == 1) = true := HO.out.trans fb
    have hp := HFS.out (of_decide_eq_true fb)
    have hP : decide (P ≤ N1) = true := decide_eq_true hp
    have hP2 : decide ((P : Int) ≤ (N1 : Int)) = true := decide_eq_true (by omega)
    clear hp
    go_wp2_with fail
    refine wp_region_held_drew (S := (fun W => W.cell? ⟨w.heap.size, 0, none⟩ = some (.int .u64 (n : Int)) ∧ W.cell? ⟨w.heap.size, 1, none⟩ = some (.int .u64 (d : Int)) ∧ W.cell? ⟨w.heap.size + 1, 0, none⟩ = some (.int .u64 (m : Int)) ∧ W.cell? ⟨w.heap.size + 1, 1, none⟩ = some (.int .u64 (g : Int)))) (by kernel_rfl) ?_ (fun hHeld => ?_)
    · ((try dsimp only); exact ⟨past_drew c0, past_drew c1, past_drew c2, past_drew c3⟩)
    refine wpAnyH_ready (rs := [0]) (by kernel_rfl) (by simp) ?_
    refine (AllReadyH.cons (o := { dst := some 130, op := Op.call { callee := Callee.value (Operand.func 15), args := #[], argTypes := #[] }, type := 4, pos := _, after := #[], guard := none }) rfl (fun K hK => ?_) AllReadyH.nil)
    go_simp
    (refine (HF.out _ (show v10.drew.cell? ⟨4, 58, none⟩ = some (.int .u8 19) from HT1.out)).mono ?_; rintro e x1 ⟨rfl, g1⟩)
    go_wp2_with fail
    refine hK.out _ _ ?_ (fun hHeld => ?_)
    · ((try dsimp only); exact ⟨(cell_then g1 (Nat.le_refl _) (past_drew c0)), (cell_then g1 (Nat.le_refl _) (past_drew c1)), (cell_then g1 (Nat.le_refl _) (past_drew c2)), (cell_then g1 (Nat.le_refl _) (past_drew c3))⟩)
    clear hK K
    try simp only [Act.put, List.setIfInBounds_toArray, List.set_cons_zero, List.set_cons_succ]
    refine wpAnyH_take (i := 1) (oi := { dst := some 131, op := Op.move (Operand.tmp 130), type := 4, pos := _, after := #[{ on := 0, ground := Ground.data }, { on := 0, ground := Ground.chain }], guard := none }) (v := ?_) rfl (by kernel_rfl) (by kernel_rfl) (by kernel_rfl) (fun _ _ _ h => h) (Or.inl ⟨by rfl, ?_⟩) (by assumption) ?_
    rotate_left
    · ((intro w hSw); (try dsimp only at hSw); go_simp; (try with_reducible rfl))
    try simp only [Act.put, List.setIfInBounds_toArray, List.set_cons_zero, List.set_cons_succ]
    refine wpAnyH_take (i := 2) (oi := { dst := some 132, op := Op.move (Operand.tmp 23), type := 4, pos := _, after := #[{ on := 1, ground := Ground.guard }], guard := some (1, true) }) (v := ?_) rfl (by kernel_rfl) (by kernel_rfl) (by kernel_rfl) (fun _ _ _ h => h) (Or.inl ⟨by rfl, ?_⟩) (by assumption) ?_
    rotate_left
    · ((intro w hSw); (try dsimp only at hSw); go_simp; (try with_reducible rfl))
    try simp only [Act.put, List.setIfInBounds_toArray, List.set_cons_zero, List.set_cons_succ]
    refine wpAnyH_take (i := 3) (oi := { dst := some 133, op := Op.unOp UnOp.not 4 (Operand.tmp 132), type := 4, pos := _, after := #[{ on := 2, ground := Ground.data }, { on := 1, ground := Ground.guard }], guard := some (1, true) }) (v := ?_) rfl (by kernel_rfl) (by kernel_rfl) (by kernel_rfl) (fun _ _ _ h => h) (Or.inl ⟨by rfl, ?_⟩) (by assumption) ?_
    rotate_left
    · ((intro w hSw); (try dsimp only at hSw); go_simp; (try with_reducible rfl))
    try simp only [Act.put, List.setIfInBounds_toArray, List.set_cons_zero, List.set_cons_succ]
    refine wpAnyH_take (i := 4) (oi := { dst := some 134, op := Op.move (Operand.tmp 133), type := 4, pos := _, after := #[{ on := 3, ground := Ground.data }, { on := 1, ground := Ground.chain }, { on := 1, ground := Ground.guard }], guard := some (1, true) }) (v := ?_) rfl (by kernel_rfl) (by kernel_rfl) (by kernel_rfl) (fun _ _ _ h => h) (Or.inl ⟨by rfl, ?_⟩) (by assumption) ?_
    rotate_left
    · ((intro w hSw); (try dsimp only at hSw); go_simp; (try with_reducible rfl))
    try simp only [Act.put, List.setIfInBounds_toArray, List.set_cons_zero, List.set_cons_succ]
    refine wpAnyH_take (i := 5) (oi := { dst := some 135, op := Op.move (Operand.tmp 11), type := 22, pos := _, after := #[{ on := 4, ground := Ground.guard }], guard := some (4, false) }) (v := ?_) rfl (by kernel_rfl) (by kernel_rfl) (by kernel_rfl) (fun _ _ _ h => h) (Or.inl ⟨by rfl, ?_⟩) (by assumption) ?_
    rotate_left
    · ((intro w hSw); (try dsimp only at hSw); go_simp; (try with_reducible rfl))
    try simp only [Act.put, List.setIfInBounds_toArray, List.set_cons_zero, List.set_cons_succ]
    refine wpAnyH_take (i := 6) (oi := { dst := some 136, op := Op.move (Operand.tmp 20), type := 22, pos := _, after := #[{ on := 4, ground := Ground.guard }], guard := some (4, false) }) (v := ?_) rfl (by kernel_rfl) (by kernel_rfl) (by kernel_rfl) (fun _ _ _ h => h) (Or.inl ⟨by rfl, ?_⟩) (by assumption) ?_
    rotate_left
    · ((intro w hSw); (try dsimp only at hSw); go_simp; (try with_reducible rfl))
    try simp only [Act.put, List.setIfInBounds_toArray, List.set_cons_zero, List.set_cons_succ]
    refine wpAnyH_take (i := 7) (oi := { dst := some 137, op := Op.binOp BinOp.geq 22 (Operand.tmp 135) (Operand.tmp 136) 22, type := 4, pos := _, after := #[{ on := 5, ground := Ground.data }, { on := 6, ground := Ground.data }, { on := 4, ground := Ground.guard }], guard := some (4, false) }) (v := ?_) rfl (by kernel_rfl) (by kernel_rfl) (by kernel_rfl) (fun _ _ _ h => h) (Or.inl ⟨by rfl, ?_⟩) (by assumption) ?_
    rotate_left
    · ((intro w hSw); (try dsimp only at hSw); go_simp; (try with_reducible rfl))
    try simp only [Act.put, List.setIfInBounds_toArray, List.set_cons_zero, List.set_cons_succ]
    refine wpAnyH_take (i := 8) (oi := { dst := some 138, op := Op.pick (Operand.tmp 134) (Operand.const (Value.bool true)) (Operand.tmp 137), type := 4, pos := _, after := #[{ on := 4, ground := Ground.data }, { on := 7, ground := Ground.data }, { on := 1, ground := Ground.guard }], guard := some (1, true) }) (v := ?_) rfl (by kernel_rfl) (by kernel_rfl) (by kernel_rfl) (fun _ _ _ h => h) (Or.inl ⟨by rfl, ?_⟩) (by assumption) ?_
    rotate_left
    · ((intro w hSw); (try dsimp only at hSw); go_simp; (try with_reducible rfl))
    try simp only [Act.put, List.setIfInBounds_toArray, List.set_cons_zero, List.set_cons_succ]
    refine wpAnyH_take (i := 9) (oi := { dst := some 139, op := Op.pick (Operand.tmp 131) (Operand.tmp 138) (Operand.const (Value.bool false)), type := 4, pos := _, after := #[{ on := 1, ground := Ground.data }, { on := 8, ground := Ground.data }], guard := none }) (v := ?_) rfl (by kernel_rfl) (by kernel_rfl) (by kernel_rfl) (fun _ _ _ h => h) (Or.inl ⟨by rfl, ?_⟩) (by assumption) ?_
    rotate_left
    · ((intro w hSw); (try dsimp only at hSw); go_simp; (try with_reducible rfl))
    try simp only [Act.put, List.setIfInBounds_toArray, List.set_cons_zero, List.set_cons_succ]
    refine wpAnyH_take (i := 10) (oi := { dst := some 140, op := Op.move (Operand.tmp 139), type := 4, pos := _, after := #[{ on := 9, ground := Ground.data }, { on := 4, ground := Ground.chain }], guard := none }) (v := ?_) rfl (by kernel_rfl) (by kernel_rfl) (by kernel_rfl) (fun _ _ _ h => h) (Or.inl ⟨by rfl, ?_⟩) (by assumption) ?_
    rotate_left
    · ((intro w hSw); (try dsimp only at hSw); go_simp; (try with_reducible rfl))
    try simp only [Act.put, List.setIfInBounds_toArray, List.set_cons_zero, List.set_cons_succ]
    refine wpAnyH_take (i := 11) (oi := { dst := some 141, op := Op.load 26 (Operand.tmp 4), type := 26, pos := _, after := #[{ on := 10, ground := Ground.guard }], guard := some (10, true) }) (v := ?_) rfl (by kernel_rfl) (by kernel_rfl) (by kernel_rfl) (fun _ _ _ h => h) (Or.inl ⟨by rfl, ?_⟩) (by assumption) ?_
    rotate_left
    · ((intro w hSw); (try dsimp only at hSw); go_simp; (try with_reducible rfl))
    try simp only [Act.put, List.setIfInBounds_toArray, List.set_cons_zero, List.set_cons_succ]
    refine wpAnyH_take (i := 13) (oi := { dst := some 143, op := Op.load 26 (Operand.tmp 5), type := 26, pos := _, after := #[{ on := 10, ground := Ground.guard }], guard := some (10, true) }) (v := ?_) rfl (by kernel_rfl) (by kernel_rfl) (by kernel_rfl) (fun _ _ _ h => h) (Or.inl ⟨by rfl, ?_⟩) (by assumption) ?_
    rotate_left
    · ((intro w hSw); (try dsimp only at hSw); go_simp; (try with_reducible rfl))
    try simp only [Act.put, List.setIfInBounds_toArray, List.set_cons_zero, List.set_cons_succ]
    refine wpAnyH_take (i := 17) (oi := { dst := some 147, op := Op.move (Operand.tmp 23), type := 4, pos := _, after := #[{ on := 10, ground := Ground.guard }], guard := some (10, true) }) (v := ?_) rfl (by kernel_rfl) (by kernel_rfl) (by kernel_rfl) (fun _ _ _ h => h) (Or.inl ⟨by rfl, ?_⟩) (by assumption) ?_
    rotate_left
    · ((intro w hSw); (try dsimp only at hSw); go_simp; (try with_reducible rfl))
    try simp only [Act.put, List.setIfInBounds_toArray, List.set_cons_zero, List.set_cons_succ]
    refine wpAnyH_ready (rs := [12]) (by kernel_rfl) (by simp) ?_
    refine (AllReadyH.cons (o := { dst := some 142, op := Op.call { callee := Callee.value (Operand.func 29), args := #[Operand.tmp 141], argTypes := #[26] }, type := 23, pos := _, after := #[{ on := 11, ground := Ground.data }, { on := 10, ground := Ground.chain }, { on := 10, ground := Ground.guard }], guard := some (10, true) }) rfl (fun K hK => ?_) AllReadyH.nil)
    go_simp
    (refine (CF1.out _).mono ?_; rintro e x2 ⟨rfl, g2⟩)
    go_wp2_with fail
    refine hK.out _ _ ?_ (fun hHeld => ?_)
    · ((try dsimp only); exact ⟨(cell_then g2 (Nat.le_refl _) (cell_then g1 (Nat.le_refl _) (past_drew c0))), (cell_then g2 (Nat.le_refl _) (cell_then g1 (Nat.le_refl _) (past_drew c1))), (cell_then g2 (Nat.le_refl _) (cell_then g1 (Nat.le_refl _) (past_drew c2))), (cell_then g2 (Nat.le_refl _) (cell_then g1 (Nat.le_refl _) (past_drew c3)))⟩)
    clear hK K
    try simp only [Act.put, List.setIfInBounds_toArray, List.set_cons_zero, List.set_cons_succ]
    refine wpAnyH_ready (rs := [14]) (by kernel_rfl) (by simp) ?_
    refine (AllReadyH.cons (o := { dst := some 144, op := Op.call { callee := Callee.value (Operand.func 29), args := #[Operand.tmp 143], argTypes := #[26] }, type := 23, pos := _, after := #[{ on := 13, ground := Ground.data }, { on := 12, ground := Ground.chain }, { on := 10, ground := Ground.guard }], guard := some (10, true) }) rfl (fun K hK => ?_) AllReadyH.nil)
    go_simp
    (refine (CF2.out _).mono ?_; rintro e x3 ⟨rfl, g3⟩)
    go_wp2_with fail
    refine hK.out _ _ ?_ (fun hHeld => ?_)
    · ((try dsimp only); exact ⟨(cell_then g3 (Nat.le_refl _) (cell_then g2 (Nat.le_refl _) (cell_then g1 (Nat.le_refl _) (past_drew c0)))), (cell_then g3 (Nat.le_refl _) (cell_then g2 (Nat.le_refl _) (cell_then g1 (Nat.le_refl _) (past_drew c1)))), (cell_then g3 (Nat.le_refl _) (cell_then g2 (Nat.le_refl _) (cell_then g1 (Nat.le_refl _) (past_drew c2)))), (cell_then g3 (Nat.le_refl _) (cell_then g2 (Nat.le_refl _) (cell_then g1 (Nat.le_refl _) (past_drew c3))))⟩)
    clear hK K
    try simp only [Act.put, List.setIfInBounds_toArray, List.set_cons_zero, List.set_cons_succ]
    refine wpAnyH_ready (rs := [15]) (by kernel_rfl) (by simp) ?_
    refine (AllReadyH.cons (o := { dst := some 145, op := Op.call { callee := Callee.value (Operand.func 23), args := #[Operand.tmp 142, Operand.tmp 144], argTypes := #[23, 23] }, type := 3, pos := _, after := #[{ on := 12, ground := Ground.data }, { on := 14, ground := Ground.data }, { on := 14, ground := Ground.chain }, { on := 10, ground := Ground.guard }], guard := some (10, true) }) rfl (fun K hK => ?_) AllReadyH.nil)
    go_simp
    (refine (CX.out _).mono ?_; rintro e xx ⟨rfl, rfl⟩)
    go_wp2_with fail
    refine hK.out _ _ ?_ (fun hHeld => ?_)
    · ((try dsimp only); exact ⟨(cell_then g3 (Nat.le_refl _) (cell_then g2 (Nat.le_refl _) (cell_then g1 (Nat.le_refl _) (past_drew c0)))), (cell_then g3 (Nat.le_refl _) (cell_then g2 (Nat.le_refl _) (cell_then g1 (Nat.le_refl _) (past_drew c1)))), (cell_then g3 (Nat.le_refl _) (cell_then g2 (Nat.le_refl _) (cell_then g1 (Nat.le_refl _) (past_drew c2)))), (cell_then g3 (Nat.le_refl _) (cell_then g2 (Nat.le_refl _) (cell_then g1 (Nat.le_refl _) (past_drew c3))))⟩)
    clear hK K
    try simp only [Act.put, List.setIfInBounds_toArray, List.set_cons_zero, List.set_cons_succ]
    refine wpAnyH_take (i := 16) (oi := { dst := some 146, op := Op.binOp BinOp.eql 3 (Operand.tmp 145) (Operand.const (Value.int IntKind.i64 1)) 3, type := 4, pos := _, after := #[{ on := 15, ground := Ground.data }, { on := 10, ground := Ground.guard }], guard := some (10, true) }) (v := ?_) rfl (by kernel_rfl) (by kernel_rfl) (by kernel_rfl) (fun _ _ _ h => h) (Or.inl ⟨by rfl, ?_⟩) (by assumption) ?_
    rotate_left
    · ((intro w hSw); (try dsimp only at hSw); go_simp; (try with_reducible rfl))
    try simp only [Act.put, List.setIfInBounds_toArray, List.set_cons_zero, List.set_cons_succ]
    refine wpAnyH_take (i := 18) (oi := { dst := some 148, op := Op.binOp BinOp.eql 4 (Operand.tmp 146) (Operand.tmp 147) 4, type := 4, pos := _, after := #[{ on := 16, ground := Ground.data }, { on := 17, ground := Ground.data }, { on := 10, ground := Ground.guard }], guard := some (10, true) }) (v := ?_) rfl (by kernel_rfl) (by kernel_rfl) (by kernel_rfl) (fun _ _ _ h => h) (Or.inl ⟨by rfl, ?_⟩) (by assumption) ?_
    rotate_left
    · ((intro w hSw); (try dsimp only at hSw); go_simp; (try with_reducible rfl))
    try simp only [Act.put, List.setIfInBounds_toArray, List.set_cons_zero, List.set_cons_succ]
    refine wpAnyH_take (i := 19) (oi := { dst := some 149, op := Op.pick (Operand.tmp 140) (Operand.tmp 148) (Operand.const (Value.bool false)), type := 4, pos := _, after := #[{ on := 10, ground := Ground.data }, { on := 18, ground := Ground.data }], guard := none }) (v := ?_) rfl (by kernel_rfl) (by kernel_rfl) (by kernel_rfl) (fun _ _ _ h => h) (Or.inl ⟨by rfl, ?_⟩) (by assumption) ?_
    rotate_left
    · ((intro w hSw); (try dsimp only at hSw); go_simp; (try with_reducible rfl))
    try simp only [Act.put, List.setIfInBounds_toArray, List.set_cons_zero, List.set_cons_succ]
    refine wpAnyH_take (i := 20) (oi := { dst := some 8, op := Op.assign (Operand.tmp 149), type := 4, pos := _, after := #[{ on := 19, ground := Ground.data }, { on := 15, ground := Ground.chain }, { on := 0, ground := Ground.phase }, { on := 1, ground := Ground.phase }, { on := 2, ground := Ground.phase }, { on := 3, ground := Ground.phase }, { on := 4, ground := Ground.phase }, { on := 5, ground := Ground.phase }, { on := 6, ground := Ground.phase }, { on := 7, ground := Ground.phase }, { on := 8, ground := Ground.phase }, { on := 9, ground := Ground.phase }, { on := 10, ground := Ground.phase }, { on := 11, ground := Ground.phase }, { on := 12, ground := Ground.phase }, { on := 13, ground := Ground.phase }, { on := 14, ground := Ground.phase }, { on := 15, ground := Ground.phase }, { on := 16, ground := Ground.phase }, { on := 17, ground := Ground.phase }, { on := 18, ground := Ground.phase }, { on := 19, ground := Ground.phase }], guard := none }) (v := ?_) rfl (by kernel_rfl) (by kernel_rfl) (by kernel_rfl) (fun _ _ _ h => h) (Or.inl ⟨by rfl, ?_⟩) (by assumption) ?_
    rotate_left
    · ((intro w hSw); (try dsimp only at hSw); go_simp; (try with_reducible rfl))
    try simp only [Act.put, List.setIfInBounds_toArray, List.set_cons_zero, List.set_cons_succ]
    refine wpAnyH_done (by kernel_rfl) ?_ _
    go_wp2
    go_ret
    exact ⟨rfl, below_next hB0 (below_next (below_next (below_next (Below.refl _ _).drew g1) g2) g3)⟩
set_option maxRecDepth 100000 in
set_option maxHeartbeats 4000000 in
theorem out (n d m g a b : Nat) (w : World) (hT58 : w.cell? ⟨4, 58, none⟩ = some (.int .u8 19)) (hn : n < 18446744073709551616) (hd : d < 18446744073709551616) (hm : m < 18446744073709551616) (hg : g < 18446744073709551616)
    (b1 b2 b3 b4 : Bool) (h1 : mayN n d = b1) (h2 : mayN m g = b2) (h3 : decide ((1073741824 : Int) < (a : Int)) = b3) (h4 : decide ((1073741824 : Int) < (b : Int)) = b4) (hc : (b1 && b2 && !b3 && !b4) = false) :
    Calls Tryd.prog 6 #[.agg #[.int .u64 (n : Int), .int .u64 (d : Int)], .agg #[.int .u64 (m : Int), .int .u64 (g : Int)], .int .u64 (a : Int), .int .u64 (b : Int)] w fun e w' => e = .returned (.bool true) ∧ Below w.heap.size w w' := by
  have CM1 := Lib.hid (fun w => mayC n d w hn hd)
  rw [h1] at CM1
  have CM2 := Lib.hid (fun w => mayC m g w hm hg)
  rw [h2] at CM2
  have HT1 := Lib.hid (past_alloc (o := .cells #[.int .u64 (m : Int), .int .u64 (g : Int)] 26) (past_alloc (o := .cells #[.int .u64 (n : Int), .int .u64 (d : Int)] 26) hT58))
  have hB0 := ((Below.refl w.heap.size w).alloc (Nat.le_refl _) (.cells #[.int .u64 (n : Int), .int .u64 (d : Int)] 26)).alloc (by simp) (.cells #[.int .u64 (m : Int), .int .u64 (g : Int)] 26)
  obtain ⟨c0, c1⟩ := EdgesW.new_cells (w := w) (a := n) (b := d) (T := 26)
  obtain ⟨c2, c3⟩ := EdgesW.new_cells (w := w.alloc (.cells #[.int .u64 (n : Int), .int .u64 (d : Int)] 26)) (a := m) (b := g) (T := 26)
  replace c0 := past_alloc (o := .cells #[.int .u64 (m : Int), .int .u64 (g : Int)] 26) c0
  replace c1 := past_alloc (o := .cells #[.int .u64 (m : Int), .int .u64 (g : Int)] 26) c1
  rw [show (w.alloc (.cells #[.int .u64 (n : Int), .int .u64 (d : Int)] 26)).heap.size = w.heap.size + 1 from by simp] at c2 c3
  have HF := Lib.hid (fun w h => first w h)
  clear hT58 h1 h2 hn hd hm hg
  generalize hw0 : (w.alloc (.cells #[.int .u64 (n : Int), .int .u64 (d : Int)] 26)).alloc (.cells #[.int .u64 (m : Int), .int .u64 (g : Int)] 26) = W0 at *
  have hcs : b1 = false ∨ (b1 = true ∧ b2 = false) ∨ (b1 = true ∧ b2 = true ∧ b3 = true) ∨ (b1 = true ∧ b2 = true ∧ b3 = false ∧ b4 = true) := by
    revert hc; cases b1 <;> cases b2 <;> cases b3 <;> cases b4 <;> decide
  clear hc
  rcases hcs with rfl | ⟨rfl, rfl⟩ | ⟨rfl, rfl, rfl⟩ | ⟨rfl, rfl, rfl, rfl⟩
  · go_enter Tryd.func6, Tryd.ntmps6
    go_wp2_with fail
    refine (HF.out _ HT1.out).mono ?_
    rintro e v1 ⟨rfl, hb⟩
    clear hw0
    replace c0 := cell_then hb (Nat.le_refl _) c0
    replace c1 := cell_then hb (Nat.le_refl _) c1
    replace c2 := cell_then hb (Nat.le_refl _) c2
    replace c3 := cell_then hb (Nat.le_refl _) c3
    replace hB0 := below_next hB0 hb
    replace HT1 := Lib.hid (cell_then hb (Nat.le_refl _) HT1.out)
    clear hb
    go_wp2_with fail
    refine (CM1.out _).mono ?_
    rintro e v2 ⟨rfl, hw⟩
    have hb := (Below.refl v1.heap.size v1).alloc (Nat.le_refl _) (.cells #[.int .u64 (n : Int), .int .u64 (d : Int)] 26)
    rw [hw] at hb
    clear hw
    replace c0 := cell_then hb (Nat.le_refl _) c0
    replace c1 := cell_then hb (Nat.le_refl _) c1
    replace c2 := cell_then hb (Nat.le_refl _) c2
    replace c3 := cell_then hb (Nat.le_refl _) c3
    replace hB0 := below_next hB0 hb
    replace HT1 := Lib.hid (cell_then hb (Nat.le_refl _) HT1.out)
    clear hb
    go_wp2_with fail
    refine (HF.out _ HT1.out).mono ?_
    rintro e v9 ⟨rfl, hb⟩
    go_wp2
    go_ret
    exact ⟨rfl, below_next hB0 hb⟩
  · go_enter Tryd.func6, Tryd.ntmps6
    go_wp2_with fail
    refine (HF.out _ HT1.out).mono ?_
    rintro e v1 ⟨rfl, hb⟩
    clear hw0
    replace c0 := cell_then hb (Nat.le_refl _) c0
    replace c1 := cell_then hb (Nat.le_refl _) c1
    replace c2 := cell_then hb (Nat.le_refl _) c2
    replace c3 := cell_then hb (Nat.le_refl _) c3
    replace hB0 := below_next hB0 hb
    replace HT1 := Lib.hid (cell_then hb (Nat.le_refl _) HT1.out)
    clear hb
    go_wp2_with fail
    refine (CM1.out _).mono ?_
    rintro e v2 ⟨rfl, hw⟩
    have hb := (Below.refl v1.heap.size v1).alloc (Nat.le_refl _) (.cells #[.int .u64 (n : Int), .int .u64 (d : Int)] 26)
    rw [hw] at hb
    clear hw
    replace c0 := cell_then hb (Nat.le_refl _) c0
    replace c1 := cell_then hb (Nat.le_refl _) c1
    replace c2 := cell_then hb (Nat.le_refl _) c2
    replace c3 := cell_then hb (Nat.le_refl _) c3
    replace hB0 := below_next hB0 hb
    replace HT1 := Lib.hid (cell_then hb (Nat.le_refl _) HT1.out)
    clear hb
    go_wp2_with fail
    refine (CM2.out _).mono ?_
    rintro e v3 ⟨rfl, hw⟩
    have hb := (Below.refl v2.heap.size v2).alloc (Nat.le_refl _) (.cells #[.int .u64 (m : Int), .int .u64 (g : Int)] 26)
    rw [hw] at hb
    clear hw
    replace c0 := cell_then hb (Nat.le_refl _) c0
    replace c1 := cell_then hb (Nat.le_refl _) c1
    replace c2 := cell_then hb (Nat.le_refl _) c2
    replace c3 := cell_then hb (Nat.le_refl _) c3
    replace hB0 := below_next hB0 hb
    replace HT1 := Lib.hid (cell_then hb (Nat.le_refl _) HT1.out)
    clear hb
    go_wp2_with fail
    refine (HF.out _ HT1.out).mono ?_
    rintro e v9 ⟨rfl, hb⟩
    go_wp2
    go_ret
    exact ⟨rfl, below_next hB0 hb⟩
  · go_enter Tryd.func6, Tryd.ntmps6
    go_wp2_with fail
    refine (HF.out _ HT1.out).mono ?_
    rintro e v1 ⟨rfl, hb⟩
    clear hw0
    replace c0 := cell_then hb (Nat.le_refl _) c0
    replace c1 := cell_then hb (Nat.le_refl _) c1
    replace c2 := cell_then hb (Nat.le_refl _) c2
    replace c3 := cell_then hb (Nat.le_refl _) c3
    replace hB0 := below_next hB0 hb
    replace HT1 := Lib.hid (cell_then hb (Nat.le_refl _) HT1.out)
    clear hb
    go_wp2_with fail
    refine (CM1.out _).mono ?_
    rintro e v2 ⟨rfl, hw⟩
    have hb := (Below.refl v1.heap.size v1).alloc (Nat.le_refl _) (.cells #[.int .u64 (n : Int), .int .u64 (d : Int)] 26)
    rw [hw] at hb
    clear hw
    replace c0 := cell_then hb (Nat.le_refl _) c0
    replace c1 := cell_then hb (Nat.le_refl _) c1
    replace c2 := cell_then hb (Nat.le_refl _) c2
    replace c3 := cell_then hb (Nat.le_refl _) c3
    replace hB0 := below_next hB0 hb
    replace HT1 := Lib.hid (cell_then hb (Nat.le_refl _) HT1.out)
    clear hb
    go_wp2_with fail
    refine (CM2.out _).mono ?_
    rintro e v3 ⟨rfl, hw⟩
    have hb := (Below.refl v2.heap.size v2).alloc (Nat.le_refl _) (.cells #[.int .u64 (m : Int), .int .u64 (g : Int)] 26)
    rw [hw] at hb
    clear hw
    replace c0 := cell_then hb (Nat.le_refl _) c0
    replace c1 := cell_then hb (Nat.le_refl _) c1
    replace c2 := cell_then hb (Nat.le_refl _) c2
    replace c3 := cell_then hb (Nat.le_refl _) c3
    replace hB0 := below_next hB0 hb
    replace HT1 := Lib.hid (cell_then hb (Nat.le_refl _) HT1.out)
    clear hb
    go_wp2_with fail
    refine (HF.out _ HT1.out).mono ?_
    rintro e v9 ⟨rfl, hb⟩
    go_wp2
    go_ret
    exact ⟨rfl, below_next hB0 hb⟩
  · go_enter Tryd.func6, Tryd.ntmps6
    go_wp2_with fail
    refine (HF.out _ HT1.out).mono ?_
    rintro e v1 ⟨rfl, hb⟩
    clear hw0
    replace c0 := cell_then hb (Nat.le_refl _) c0
    replace c1 := cell_then hb (Nat.le_refl _) c1
    replace c2 := cell_then hb (Nat.le_refl _) c2
    replace c3 := cell_then hb (Nat.le_refl _) c3
    replace hB0 := below_next hB0 hb
    replace HT1 := Lib.hid (cell_then hb (Nat.le_refl _) HT1.out)
    clear hb
    go_wp2_with fail
    refine (CM1.out _).mono ?_
    rintro e v2 ⟨rfl, hw⟩
    have hb := (Below.refl v1.heap.size v1).alloc (Nat.le_refl _) (.cells #[.int .u64 (n : Int), .int .u64 (d : Int)] 26)
    rw [hw] at hb
    clear hw
    replace c0 := cell_then hb (Nat.le_refl _) c0
    replace c1 := cell_then hb (Nat.le_refl _) c1
    replace c2 := cell_then hb (Nat.le_refl _) c2
    replace c3 := cell_then hb (Nat.le_refl _) c3
    replace hB0 := below_next hB0 hb
    replace HT1 := Lib.hid (cell_then hb (Nat.le_refl _) HT1.out)
    clear hb
    go_wp2_with fail
    refine (CM2.out _).mono ?_
    rintro e v3 ⟨rfl, hw⟩
    have hb := (Below.refl v2.heap.size v2).alloc (Nat.le_refl _) (.cells #[.int .u64 (m : Int), .int .u64 (g : Int)] 26)
    rw [hw] at hb
    clear hw
    replace c0 := cell_then hb (Nat.le_refl _) c0
    replace c1 := cell_then hb (Nat.le_refl _) c1
    replace c2 := cell_then hb (Nat.le_refl _) c2
    replace c3 := cell_then hb (Nat.le_refl _) c3
    replace hB0 := below_next hB0 hb
    replace HT1 := Lib.hid (cell_then hb (Nat.le_refl _) HT1.out)
    clear hb
    go_wp2_with fail
    refine (HF.out _ HT1.out).mono ?_
    rintro e v9 ⟨rfl, hb⟩
    go_wp2
    go_ret
    exact ⟨rfl, below_next hB0 hb⟩
theorem walkT (n d m g a b : Int) (W : World) (w0 : (Lit.int .u64 n).wf = true) (w1 : (Lit.int .u64 d).wf = true) (w2 : (Lit.int .u64 m).wf = true) (w3 : (Lit.int .u64 g).wf = true) (w4 : (Lit.int .u64 a).wf = true) (w5 : (Lit.int .u64 b).wf = true)
    (hT : Lib.TabIs Tryd.prog W "math/bits.deBruijn64tab" .u8 [0, 1, 56, 2, 57, 49, 28, 3, 61, 58, 42, 50, 38, 29, 17, 4, 62, 47, 59, 36, 45, 43, 51, 22, 53, 39, 33, 30, 24, 18, 12, 5, 63, 55, 48, 27, 60, 41, 37, 16, 46, 35, 44, 21, 52, 32, 23, 11, 54, 26, 40, 15, 34, 20, 31, 10, 25, 14, 19, 9, 13, 8, 7, 6]) :
    Calls Tryd.prog 6 #[.agg #[.int .u64 n, .int .u64 d], .agg #[.int .u64 m, .int .u64 g], .int .u64 a, .int .u64 b] W fun e w' => e = .returned (.bool true) ∧ Below W.heap.size W w' := by
  have i0 := in64 w0
  have i1 := in64 w1
  have i2 := in64 w2
  have i3 := in64 w3
  have i4 := in64 w4
  have i5 := in64 w5
  obtain ⟨n, rfl⟩ := Int.eq_ofNat_of_zero_le i0.1
  obtain ⟨d, rfl⟩ := Int.eq_ofNat_of_zero_le i1.1
  obtain ⟨m, rfl⟩ := Int.eq_ofNat_of_zero_le i2.1
  obtain ⟨g, rfl⟩ := Int.eq_ofNat_of_zero_le i3.1
  obtain ⟨a, rfl⟩ := Int.eq_ofNat_of_zero_le i4.1
  obtain ⟨b, rfl⟩ := Int.eq_ofNat_of_zero_le i5.1
  have l0 := i0.2
  have l1 := i1.2
  have l2 := i2.2
  have l3 := i3.2
  clear w0 w1 w2 w3 w4 w5 i0 i1 i2 i3 i4 i5
  by_cases h : mayN n d = true ∧ mayN m g = true ∧ a ≤ 1073741824 ∧ b ≤ 1073741824
  · exact main n d m g a b W (OfTab.tabZ hT) (tz58 hT) (by omega) (by omega) (by omega) (by omega) h.1 h.2.1 h.2.2.1 h.2.2.2
  · refine out n d m g a b W (tz58 hT) (by omega) (by omega) (by omega) (by omega) _ _ _ _ rfl rfl rfl rfl ?_
    rw [Bool.eq_false_iff]
    intro hh
    simp only [Bool.and_eq_true, Bool.not_eq_true', decide_eq_false_iff_not] at hh
    exact h ⟨hh.1.1.1, hh.1.1.2, by have := hh.1.2; omega, by have := hh.2; omega⟩
end Go.Proofs.YtlhapnnepcnfbaaDoor.BackW
