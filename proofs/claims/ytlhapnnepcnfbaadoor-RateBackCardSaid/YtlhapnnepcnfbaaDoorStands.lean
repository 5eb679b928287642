/- RateStands: the walk of the law. -/
import Derived.Test.YtlhapnnepcnfbaaDoorScale2
import Derived.Lib.LaidTab
import Derived.Test.YtlhapnnepcnfbaaDoorSeconds
set_option linter.unusedVariables false
namespace Go.Proofs.YtlhapnnepcnfbaaDoor.Stands
open Go Go.RowKit Kit Nums Rate0 Rate1 RateFirst Scale Scale2

theorem sc_small {t n d : Nat} (h : mayN n d = true) (ht : t ≤ 2199023255552) : scaleN t 0 n d = (t * n / d, t * n % d, 0) := by
  obtain ⟨k, hk, rfl, hn, _⟩ := may_pow h
  have hp := Nat.two_pow_pos k
  have : t * n / 2 ^ k ≤ t * 1024 := by
    apply Nat.div_le_of_le_mul
    have h1 : t * n ≤ t * (1024 * 2 ^ k) := Nat.mul_le_mul_left _ hn
    have e : 2 ^ k * (t * 1024) = t * (1024 * 2 ^ k) := by rw [Nat.mul_comm, Nat.mul_assoc]
    omega
  rw [sc_ok h hp (by rw [Nat.add_zero]; omega), Nat.add_zero]
theorem sc_zero (t : Nat) : scaleN t 0 0 1 = (0, 0, 0) := by
  rw [sc_ok (by decide) (by decide) (by simp)]; simp
theorem sc_one {t : Nat} (ht : t ≤ 2199023255552) : scaleN t 0 1 1 = (t, 0, 0) := by
  rw [sc_small (by decide) ht]; simp; omega
theorem twice (t n d : Nat) (hd : 0 < d) : 2 * (t * n / d) ≤ 2 * t * n / d ∧ 2 * t * n / d ≤ 2 * (t * n / d) + 1 := by
  rw [Nat.mul_assoc]
  generalize t * n = v
  constructor
  · rw [Nat.le_div_iff_mul_le hd, Nat.mul_assoc]
    have := Nat.div_mul_le_self v d
    omega
  · have h1 : v < (v / d + 1) * d := by rw [Nat.mul_comm]; exact Nat.lt_mul_div_succ v hd
    have : 2 * v / d < 2 * (v / d) + 2 := by
      rw [Nat.div_lt_iff_lt_mul hd]
      have e : (2 * (v / d) + 2) * d = 2 * ((v / d + 1) * d) := by rw [← Nat.mul_assoc]; congr 1
      omega
    omega
set_option maxRecDepth 100000 in
set_option maxHeartbeats 1000000 in
theorem walkOut (t n d : Nat) (w : World) (hT : w.cell? ⟨4, 58, none⟩ = some (.int .u8 19)) (hn : n < 18446744073709551616) (hd : d < 18446744073709551616) (h : 1099511627776 < t ∨ (t ≤ 1099511627776 ∧ mayN n d = false)) :
    Calls Tryd.prog 9 #[.int .u64 t, .agg #[.int .u64 n, .int .u64 d]] w fun e w' => e = .returned (.bool true) ∧ Below w.heap.size w w' := by
  have hm := fun w => mayC n d w hn hd
  clear hn hd
  have h4 := World.block_lt_of_cell? w _ hT
  simp only at h4
  have hT' := past_alloc (o := .cells #[.int .u64 n, .int .u64 d] 26) hT
  rcases h with h | ⟨h, hB⟩
  · have h' : (1099511627776 : Int) < t := by omega
    have HM := Lib.hid hm
    clear hm
    go_enter Tryd.func9, Tryd.ntmps9
    go_wp2_with fail
    refine (first _ hT').mono ?_
    rintro e w1 ⟨rfl, hb1⟩
    have hT1 := cell_then hb1 (Nat.le_refl _) hT'
    go_wp2_with fail
    refine (first _ hT1).mono ?_
    rintro e w2 ⟨rfl, hb2⟩
    go_wp2
    go_ret
    have h1 : Below w.heap.size w w1 := below_then ((Below.refl _ _).alloc (Nat.le_refl _) _) hb1 (by simp)
    exact ⟨rfl, below_then h1 hb2 h1.size⟩
  · have h' : (t : Int) ≤ 1099511627776 := by omega
    rw [hB] at hm
    have HM := Lib.hid hm
    clear hm hB
    go_enter Tryd.func9, Tryd.ntmps9
    go_wp2_with fail
    refine (first _ hT').mono ?_
    rintro e w1 ⟨rfl, hb1⟩
    have hT1 := cell_then hb1 (Nat.le_refl _) hT'
    have c0 : w1.cell? ⟨w.heap.size, 0, none⟩ = some (.int .u64 n) := cell_then hb1 (Nat.le_refl _) (by simp)
    have c1 : w1.cell? ⟨w.heap.size, 1, none⟩ = some (.int .u64 d) := cell_then hb1 (Nat.le_refl _) (by simp)
    go_wp2_with fail
    refine (HM.out _).mono ?_
    rintro e w' ⟨rfl, rfl⟩
    go_wp2_with fail
    refine (first _ (past_alloc hT1)).mono ?_
    rintro e w2 ⟨rfl, hb2⟩
    go_wp2
    go_ret
    have h1 : Below w.heap.size w w1 := below_then ((Below.refl _ _).alloc (Nat.le_refl _) _) hb1 (by simp)
    exact ⟨rfl, below_then (h1.alloc h1.size _) hb2 (by have := h1.size; simp; omega)⟩
set_option maxRecDepth 100000 in
set_option maxHeartbeats 2000000 in
theorem walkIn (t n d : Nat) (w : World) (hT : w.cell? ⟨4, 58, none⟩ = some (.int .u8 19)) (hn : n < 18446744073709551616) (hd : d < 18446744073709551616) (h : t ≤ 1099511627776) (hB : mayN n d = true) :
    Calls Tryd.prog 9 #[.int .u64 t, .agg #[.int .u64 n, .int .u64 d]] w fun e w' => e = .returned (.bool true) ∧ Below w.heap.size w w' := by
  have hm := fun w => mayC n d w hn hd
  have s0 := fun w => scaleC t 0 0 1 w (by omega) (by decide) (by decide) (by decide)
  have s1 := fun w => scaleC t 0 1 1 w (by omega) (by decide) (by decide) (by decide)
  have s2 := fun w => scaleC t 0 n d w (by omega) (by decide) hn hd
  obtain ⟨D, hD⟩ : ∃ D, D = 2 * t := ⟨_, rfl⟩
  have s3 := fun w => scaleC D 0 n d w (by omega) (by decide) hn hd
  rw [sc_zero] at s0
  rw [sc_one (by omega)] at s1
  rw [sc_small hB (by omega)] at s2 s3
  rw [hB] at hm
  have hdp : 0 < d := by obtain ⟨k, _, rfl, _⟩ := may_pow hB; exact Nat.two_pow_pos k
  obtain ⟨q1, q2⟩ := twice t n d hdp
  rw [← hD] at q1 q2
  have q3 : t * n / d < 4611686018427387904 := by
    have := sc_small hB (t := t) (by omega)
    obtain ⟨k, hk, rfl, hnk, _⟩ := may_pow hB
    have h1 : t * n / 2 ^ k ≤ t * 1024 := by
      apply Nat.div_le_of_le_mul
      have h1 : t * n ≤ t * (1024 * 2 ^ k) := Nat.mul_le_mul_left _ hnk
      have e : 2 ^ k * (t * 1024) = t * (1024 * 2 ^ k) := by rw [Nat.mul_comm, Nat.mul_assoc]
      omega
    omega
  generalize t * n / d = G at *
  generalize D * n / d = I at *
  generalize t * n % d = J at *
  generalize D * n % d = K at *
  have HM := Lib.hid hm
  have S0 := Lib.hid s0
  have S1 := Lib.hid s1
  have S2 := Lib.hid s2
  have S3 := Lib.hid s3
  have h' : (t : Int) ≤ 1099511627776 := by omega
  have e2t : (2 : Int) * (t : Int) = (D : Int) := by omega
  clear hm s0 s1 s2 s3 hB hn hd hdp hD
  have hT' := past_alloc (o := .cells #[.int .u64 n, .int .u64 d] 26) hT
  go_enter Tryd.func9, Tryd.ntmps9
  go_wp2_with fail
  refine (first _ hT').mono ?_
  rintro e w1 ⟨rfl, hb1⟩
  have h1 : Below w.heap.size w w1 := below_then ((Below.refl _ _).alloc (Nat.le_refl _) _) hb1 (by simp)
  have hT1 := cell_then hb1 (Nat.le_refl _) hT'
  have c0 : w1.cell? ⟨w.heap.size, 0, none⟩ = some (.int .u64 n) := cell_then hb1 (Nat.le_refl _) (by simp)
  have c1 : w1.cell? ⟨w.heap.size, 1, none⟩ = some (.int .u64 d) := cell_then hb1 (Nat.le_refl _) (by simp)
  clear hb1
  go_wp2_with fail
  refine (HM.out _).mono ?_
  rintro e w' ⟨rfl, rfl⟩
  replace h1 := h1.alloc h1.size (.cells #[.int .u64 n, .int .u64 d] 26)
  replace hT1 := past_alloc (o := .cells #[.int .u64 n, .int .u64 d] 26) hT1
  replace c0 := past_alloc (o := .cells #[.int .u64 n, .int .u64 d] 26) c0
  replace c1 := past_alloc (o := .cells #[.int .u64 n, .int .u64 d] 26) c1
  generalize w1.alloc (.cells #[.int .u64 n, .int .u64 d] 26) = w2 at *
  go_wp2_with fail
  refine (S0.out _).mono ?_
  rintro e w3 ⟨rfl, hb3⟩
  replace h1 := below_then h1 hb3 h1.size
  replace hT1 := cell_then hb3 (Nat.le_refl _) hT1
  replace c0 := cell_then hb3 (Nat.le_refl _) c0
  replace c1 := cell_then hb3 (Nat.le_refl _) c1
  clear hb3
  go_wp2_with fail
  refine (S1.out _).mono ?_
  rintro e w4 ⟨rfl, hb3⟩
  replace h1 := below_then h1 hb3 h1.size
  replace hT1 := cell_then hb3 (Nat.le_refl _) hT1
  replace c0 := cell_then hb3 (Nat.le_refl _) c0
  replace c1 := cell_then hb3 (Nat.le_refl _) c1
  clear hb3
  go_wp2_with fail
  refine (S2.out _).mono ?_
  rintro e w5 ⟨rfl, hb3⟩
  replace h1 := below_then h1 hb3 h1.size
  replace hT1 := cell_then hb3 (Nat.le_refl _) hT1
  replace c0 := cell_then hb3 (Nat.le_refl _) c0
  replace c1 := cell_then hb3 (Nat.le_refl _) c1
  clear hb3
  go_wp2_with fail
  refine (S3.out _).mono ?_
  rintro e w6 ⟨rfl, hb3⟩
  replace h1 := below_then h1 hb3 h1.size
  replace hT1 := cell_then hb3 (Nat.le_refl _) hT1
  clear hb3 c0 c1
  go_wp2_with fail
  refine (first _ hT1).mono ?_
  rintro e w7 ⟨rfl, hb3⟩
  go_wp2_with fail
  all_goals go_ret
  all_goals exact ⟨ret_bool (decide_eq_true (by omega)), below_then h1 hb3 h1.size⟩
theorem walk (t n d : Int) (W : World) (w0 : (Lit.int .u64 t).wf = true) (w1 : (Lit.int .u64 n).wf = true) (w2 : (Lit.int .u64 d).wf = true)
    (hL : Lib.TabIs Tryd.prog W "math/bits.deBruijn64tab" .u8 [0, 1, 56, 2, 57, 49, 28, 3, 61, 58, 42, 50, 38, 29, 17, 4, 62, 47, 59, 36, 45, 43, 51, 22, 53, 39, 33, 30, 24, 18, 12, 5, 63, 55, 48, 27, 60, 41, 37, 16, 46, 35, 44, 21, 52, 32, 23, 11, 54, 26, 40, 15, 34, 20, 31, 10, 25, 14, 19, 9, 13, 8, 7, 6]) :
    Calls Tryd.prog 9 #[.int .u64 t, .agg #[.int .u64 n, .int .u64 d]] W fun e w' => e = .returned (.bool true) ∧ Below W.heap.size W w' := by
  have hT := Seconds.tz58 hL
  obtain ⟨a0, a1⟩ := Seconds.in64 w0
  obtain ⟨b0, b1⟩ := Seconds.in64 w1
  obtain ⟨c0, c1⟩ := Seconds.in64 w2
  obtain ⟨t, rfl⟩ := Int.eq_ofNat_of_zero_le a0
  obtain ⟨n, rfl⟩ := Int.eq_ofNat_of_zero_le b0
  obtain ⟨d, rfl⟩ := Int.eq_ofNat_of_zero_le c0
  by_cases h : t ≤ 1099511627776
  · cases hB : mayN n d
    · exact walkOut t n d W hT (by omega) (by omega) (.inr ⟨h, hB⟩)
    · exact walkIn t n d W hT (by omega) (by omega) h hB
  · exact walkOut t n d W hT (by omega) (by omega) (.inl (by omega))
end Go.Proofs.YtlhapnnepcnfbaaDoor.Stands
