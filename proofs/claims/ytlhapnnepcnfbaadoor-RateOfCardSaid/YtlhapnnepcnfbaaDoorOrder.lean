/- RateOrder: the walk of the law, by the contracts of Order, Bits and From, and the order of floats by their words. -/
import Derived.Test.YtlhapnnepcnfbaaDoorSeconds
import Derived.Test.YtlhapnnepcnfbaaDoorFord
namespace Go.Proofs.YtlhapnnepcnfbaaDoor.Order
open Go Go.RowKit Kit Nums Rate0 Rate1 RateFirst Flt Ford Seconds

theorem rank_inj {a b : Int} (ha : In64 a) (hb : In64 b) : (rankZ a = rankZ b) ↔ oneN a = oneN b := by
  constructor
  · intro h
    obtain ⟨a0, a1⟩ := oneN_in ha
    obtain ⟨b0, b1⟩ := oneN_in hb
    unfold rankZ at h
    cases h1 : negB (oneN a) <;> cases h2 : negB (oneN b) <;> simp [h1, h2] at h
    · omega
    · simp [negB] at h1 h2; omega
    · simp [negB] at h1 h2; omega
    · omega
  · intro h; unfold rankZ; rw [h]
theorem rank_le_nan {a : Int} (ha : In64 a) : rankZ a ≤ 18444492273895866368 := by
  obtain ⟨a0, a1⟩ := ha
  unfold rankZ oneN
  by_cases hn : nanB a = true
  · simp [hn, negB]
  · have hm : ¬ 9218868437227405312 < a % 9223372036854775808 := by simpa [nanB] using hn
    simp only [hn]
    by_cases hg : 9223372036854775808 ≤ a
    · simp [negB, hg]; omega
    · simp [negB, hg]; omega
theorem ord_neg {x y : Int} (h : x < y) : ordZ x y = -1 := by rw [ordZ, if_pos h]
theorem ord_zero {x y : Int} (h : x = y) : ordZ x y = 0 := by rw [ordZ, if_neg (by omega), if_neg (by omega)]
theorem ord_pos {x y : Int} (h : y < x) : ordZ x y = 1 := by rw [ordZ, if_neg (by omega), if_pos h]
theorem ord_le {x y : Int} (h : x ≤ y) : ordZ x y ≤ 0 := by unfold ordZ; split <;> (try split) <;> omega
theorem ord_gt {x y : Int} (h : y < x) : 0 < ordZ x y := by rw [ord_pos h]; decide
/-- two floats of one place: nought with nought. -/
theorem zero_too {a b : Nat} (ha : In64 a) (hb : In64 b) (h : rankZ a = rankZ b) (hz : (FloatKind.f64.format.order a 0 != some .eq) = false) : (FloatKind.f64.format.order b 0 == some .eq) = true := by
  have e : FloatKind.f64.format.order a 0 = some .eq := by simpa using hz
  have na : nanB a = false := by
    cases hn : nanB a with
    | false => rfl
    | true =>
      exfalso
      have : (9218868437227405312 : Int) < (a : Int) % 9223372036854775808 := by simpa [nanB] using hn
      obtain ⟨_, a1⟩ := ha
      revert e
      rw [fmt]
      unfold Ieee.Format.order
      rw [show Ieee.double.read a = .nan (a / 9223372036854775808 % 2 == 1) (a % 9223372036854775808 - 9218868437227405312) from by
        unfold Ieee.Format.read; simp only [binade_d, inf_d, sign_d]
        rw [if_neg (by omega), if_neg (by omega), if_neg (by omega)]]
      simp [Ieee.Datum.order]
  have h1 := (rank_inj ha hb).1 h
  have ea : oneN (a : Int) = a := by simp [oneN, na]
  have nb : nanB b = false := by
    cases hn : nanB b with
    | false => rfl
    | true =>
      exfalso
      rw [ea] at h1
      rw [show oneN (b : Int) = 9221120237041090560 by simp [oneN, hn]] at h1
      rw [h1] at na
      revert na; decide
  have eb : oneN (b : Int) = b := by simp [oneN, nb]
  rw [ea, eb] at h1
  have : a = b := by omega
  subst this
  simpa using hz
set_option maxRecDepth 100000 in
set_option maxHeartbeats 4000000 in
theorem walk (a b c : Nat) (w : World) (ha : In64 a) (hb : In64 b) (hc : In64 c) (hT : w.cell? ⟨4, 58, none⟩ = some (.int .u8 19)) :
    Calls Tryd.prog 7 #[.float .f64 a, .float .f64 b, .float .f64 c] w fun e w' => e = .returned (.bool true) ∧ Below w.heap.size w w' := by
  have n1 : (oneN 9218868437227405313).toNat = 9221120237041090560 := by decide
  have n2 : (oneN 18442240474082181125).toNat = 9221120237041090560 := by decide
  have i1 : In64 9218868437227405313 := ⟨by decide, by decide⟩
  have i2 : In64 18442240474082181125 := ⟨by decide, by decide⟩
  have i3 : In64 ((9221120237041090560 : Nat) : Int) := ⟨by decide, by decide⟩
  have e0 : ordZ (rankZ a) (rankZ a) = 0 := ord_zero rfl
  have eN : ordZ (rankZ 9221120237041090560) (rankZ 9221120237041090560) = 0 := ord_zero rfl
  have hN : ordZ (rankZ a) (rankZ 9221120237041090560) ≤ 0 := ord_le (by rw [show rankZ 9221120237041090560 = 18444492273895866368 by decide]; exact rank_le_nan ha)
  have ways : (ordZ (rankZ a) (rankZ b) = 1 ∧ ordZ (rankZ b) (rankZ a) = -1 ∧ (oneN a == oneN b) = false ∧ (FloatKind.f64.format.order a b == some .lt) = false) ∨
      (rankZ a = rankZ b ∧ ordZ (rankZ a) (rankZ b) = 0 ∧ ordZ (rankZ b) (rankZ a) = 0 ∧ (oneN a == oneN b) = true ∧ (FloatKind.f64.format.order a b == some .lt) = false ∧ (0 < ordZ (rankZ b) (rankZ c) ∨ (ordZ (rankZ b) (rankZ c) ≤ 0 ∧ ordZ (rankZ a) (rankZ c) ≤ 0))) ∨
      (ordZ (rankZ a) (rankZ b) = -1 ∧ ordZ (rankZ b) (rankZ a) = 1 ∧ (oneN a == oneN b) = false ∧ (0 < ordZ (rankZ b) (rankZ c) ∨ (ordZ (rankZ b) (rankZ c) ≤ 0 ∧ ordZ (rankZ a) (rankZ c) ≤ 0))) := by
    have tri : ∀ p q r : Int, p ≤ q → (0 < ordZ q r ∨ (ordZ q r ≤ 0 ∧ ordZ p r ≤ 0)) := by
      intro p q r h
      by_cases hr : r < q
      · exact .inl (ord_gt hr)
      · exact .inr ⟨ord_le (by omega), ord_le (by omega)⟩
    have inj := rank_inj ha hb
    by_cases h1 : rankZ b < rankZ a
    · refine .inl ⟨ord_pos h1, ord_neg h1, ?_, ?_⟩
      · simp only [beq_eq_false_iff_ne]; intro h; have := inj.2 h; omega
      · cases h : (FloatKind.f64.format.order a b == some .lt) with
        | false => rfl
        | true => exfalso; have := lt_rank ha hb h; omega
    · by_cases h2 : rankZ a = rankZ b
      · refine .inr (.inl ⟨h2, ord_zero h2, ord_zero h2.symm, ?_, ?_, tri _ _ _ (by omega)⟩)
        · simp only [beq_iff_eq]; exact inj.1 h2
        · cases h : (FloatKind.f64.format.order a b == some .lt) with
          | false => rfl
          | true => exfalso; have := lt_rank ha hb h; omega
      · refine .inr (.inr ⟨ord_neg (by omega), ord_pos (by omega), ?_, tri _ _ _ (by omega)⟩)
        simp only [beq_eq_false_iff_ne]; intro h; exact h2 (inj.2 h)
  rcases ways with ⟨x1, x2, x3, xC⟩ | ⟨hr, x1, x2, x3, xC, hy⟩ | ⟨x1, x2, x3, hy⟩
  · rcases Bool.eq_false_or_eq_true (FloatKind.f64.format.order a 0 != some .eq) with hA | hA
    all_goals
      go_enter Tryd.func7, Tryd.ntmps7
      go_wp2_with fail
      refine (first _ hT).mono ?_
      rintro e w1 ⟨rfl, hb1⟩
      have hT1 := cell_then hb1 (Nat.le_refl _) hT
      go_wp2_with (first | (go_at_call 23; refine (orderC _ _ _ (by assumption) (by assumption)).mono ?_; rintro e w' ⟨rfl, rfl⟩) | (go_at_call 21; refine (bitsC _ _ (by assumption)).mono ?_; rintro e w' ⟨rfl, rfl⟩) | (go_at_call 17; refine (fromC _ _ (by assumption)).mono ?_; rintro e w' ⟨rfl, rfl⟩))
      refine (first _ hT1).mono ?_
      rintro e w2 ⟨rfl, hb2⟩
      go_wp2_with (first | (go_at_call 23; refine (orderC _ _ _ (by assumption) (by assumption)).mono ?_; rintro e w' ⟨rfl, rfl⟩) | (go_at_call 21; refine (bitsC _ _ (by assumption)).mono ?_; rintro e w' ⟨rfl, rfl⟩) | (go_at_call 17; refine (fromC _ _ (by assumption)).mono ?_; rintro e w' ⟨rfl, rfl⟩))
      go_ret
      exact ⟨rfl, below_then hb1 hb2 hb1.size⟩
  · rcases Bool.eq_false_or_eq_true (FloatKind.f64.format.order a 0 != some .eq) with hA | hA
    · clear hr
      rcases hy with hy | ⟨hy, hz⟩
      all_goals
        go_enter Tryd.func7, Tryd.ntmps7
        go_wp2_with fail
        refine (first _ hT).mono ?_
        rintro e w1 ⟨rfl, hb1⟩
        have hT1 := cell_then hb1 (Nat.le_refl _) hT
        go_wp2_with (first | (go_at_call 23; refine (orderC _ _ _ (by assumption) (by assumption)).mono ?_; rintro e w' ⟨rfl, rfl⟩) | (go_at_call 21; refine (bitsC _ _ (by assumption)).mono ?_; rintro e w' ⟨rfl, rfl⟩) | (go_at_call 17; refine (fromC _ _ (by assumption)).mono ?_; rintro e w' ⟨rfl, rfl⟩))
        refine (first _ hT1).mono ?_
        rintro e w2 ⟨rfl, hb2⟩
        go_wp2_with (first | (go_at_call 23; refine (orderC _ _ _ (by assumption) (by assumption)).mono ?_; rintro e w' ⟨rfl, rfl⟩) | (go_at_call 21; refine (bitsC _ _ (by assumption)).mono ?_; rintro e w' ⟨rfl, rfl⟩) | (go_at_call 17; refine (fromC _ _ (by assumption)).mono ?_; rintro e w' ⟨rfl, rfl⟩))
        go_ret
        exact ⟨rfl, below_then hb1 hb2 hb1.size⟩
    · have hB := zero_too ha hb hr hA
      clear hr
      rcases hy with hy | ⟨hy, hz⟩
      all_goals
        go_enter Tryd.func7, Tryd.ntmps7
        go_wp2_with fail
        refine (first _ hT).mono ?_
        rintro e w1 ⟨rfl, hb1⟩
        have hT1 := cell_then hb1 (Nat.le_refl _) hT
        go_wp2_with (first | (go_at_call 23; refine (orderC _ _ _ (by assumption) (by assumption)).mono ?_; rintro e w' ⟨rfl, rfl⟩) | (go_at_call 21; refine (bitsC _ _ (by assumption)).mono ?_; rintro e w' ⟨rfl, rfl⟩) | (go_at_call 17; refine (fromC _ _ (by assumption)).mono ?_; rintro e w' ⟨rfl, rfl⟩))
        refine (first _ hT1).mono ?_
        rintro e w2 ⟨rfl, hb2⟩
        go_wp2_with (first | (go_at_call 23; refine (orderC _ _ _ (by assumption) (by assumption)).mono ?_; rintro e w' ⟨rfl, rfl⟩) | (go_at_call 21; refine (bitsC _ _ (by assumption)).mono ?_; rintro e w' ⟨rfl, rfl⟩) | (go_at_call 17; refine (fromC _ _ (by assumption)).mono ?_; rintro e w' ⟨rfl, rfl⟩))
        go_ret
        exact ⟨rfl, below_then hb1 hb2 hb1.size⟩
  · rcases Bool.eq_false_or_eq_true (FloatKind.f64.format.order a 0 != some .eq) with hA | hA
    all_goals
      rcases Bool.eq_false_or_eq_true (FloatKind.f64.format.order a b == some .lt) with hC | hC
      all_goals
        rcases hy with hy | ⟨hy, hz⟩
        all_goals
          go_enter Tryd.func7, Tryd.ntmps7
          go_wp2_with fail
          refine (first _ hT).mono ?_
          rintro e w1 ⟨rfl, hb1⟩
          have hT1 := cell_then hb1 (Nat.le_refl _) hT
          go_wp2_with (first | (go_at_call 23; refine (orderC _ _ _ (by assumption) (by assumption)).mono ?_; rintro e w' ⟨rfl, rfl⟩) | (go_at_call 21; refine (bitsC _ _ (by assumption)).mono ?_; rintro e w' ⟨rfl, rfl⟩) | (go_at_call 17; refine (fromC _ _ (by assumption)).mono ?_; rintro e w' ⟨rfl, rfl⟩))
          refine (first _ hT1).mono ?_
          rintro e w2 ⟨rfl, hb2⟩
          go_wp2_with (first | (go_at_call 23; refine (orderC _ _ _ (by assumption) (by assumption)).mono ?_; rintro e w' ⟨rfl, rfl⟩) | (go_at_call 21; refine (bitsC _ _ (by assumption)).mono ?_; rintro e w' ⟨rfl, rfl⟩) | (go_at_call 17; refine (fromC _ _ (by assumption)).mono ?_; rintro e w' ⟨rfl, rfl⟩))
          go_ret
          exact ⟨rfl, below_then hb1 hb2 hb1.size⟩
theorem walkT (a b c : Nat) (w : World) (wa : (Lit.float .f64 a).wf = true) (wb : (Lit.float .f64 b).wf = true) (wc : (Lit.float .f64 c).wf = true) (hT : Lib.TabIs Tryd.prog w "math/bits.deBruijn64tab" .u8 [0, 1, 56, 2, 57, 49, 28, 3, 61, 58, 42, 50, 38, 29, 17, 4, 62, 47, 59, 36, 45, 43, 51, 22, 53, 39, 33, 30, 24, 18, 12, 5, 63, 55, 48, 27, 60, 41, 37, 16, 46, 35, 44, 21, 52, 32, 23, 11, 54, 26, 40, 15, 34, 20, 31, 10, 25, 14, 19, 9, 13, 8, 7, 6]) :
    Calls Tryd.prog 7 #[.float .f64 a, .float .f64 b, .float .f64 c] w fun e w' => e = .returned (.bool true) ∧ Below w.heap.size w w' :=
  walk a b c w (inF wa) (inF wb) (inF wc) (tz58 hT)
end Go.Proofs.YtlhapnnepcnfbaaDoor.Order
