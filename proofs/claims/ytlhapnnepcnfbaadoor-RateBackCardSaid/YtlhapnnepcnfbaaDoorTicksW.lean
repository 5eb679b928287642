/- RateTicks: the walk. -/
import Derived.Test.YtlhapnnepcnfbaaDoorFy
import Derived.Test.YtlhapnnepcnfbaaDoorSeconds
set_option linter.unusedVariables false
namespace Go.Proofs.YtlhapnnepcnfbaaDoor.TicksW
open Go Go.RowKit Kit Nums Flt Rate0 Rate1 RateFirst Seconds Fy

theorem self_order (b : Nat) (h : In64 b) (hn : nanB b = false) : Ieee.double.order b b = some .eq := by
  rcases read_ok b h hn with ⟨m, i, e⟩ | e
  · unfold Ieee.Format.order; rw [e]; simp [Ieee.Datum.order]
  · unfold Ieee.Format.order; rw [e]; simp [Ieee.Datum.order]
theorem nan_read (b : Nat) (hn : nanB b = true) : ∃ s t, Ieee.double.read b = .nan s t := by
  have : (9218868437227405312 : Int) < (b : Int) % 9223372036854775808 := by simpa [nanB] using hn
  unfold Ieee.Format.read; simp only [binade_d, inf_d, sign_d]
  rw [if_neg (by omega), if_neg (by omega), if_neg (by omega)]
  exact ⟨_, _, rfl⟩
theorem nan_order (b : Nat) (hn : nanB b = true) : Ieee.double.order b b = none := by
  obtain ⟨s, t, e⟩ := nan_read b hn
  unfold Ieee.Format.order; rw [e]; rfl
theorem parts (x : Nat) (hx : In64 x) :
    (tickE x = 10 ∧ tickN x = 0 ∧ Ieee.double.order x x = none ∧ errU (x : Int) ≠ 0) ∨
    (tickE x = 11 ∧ tickN x = 0 ∧ Ieee.double.order x x = some .eq ∧ oneN (x : Int) / 9223372036854775808 = 1) ∨
    (errU (x : Int) = 0 ∧ Ieee.double.order x x = some .eq ∧ oneN (x : Int) / 9223372036854775808 = 0 ∧ ((tickE x = 1 ∧ tickN x = 0) ∨ tickE x = 0)) := by
  cases hn : nanB (x : Int)
  · have ho := self_order x hx hn
    have e1 : oneN (x : Int) = x := by unfold oneN; rw [hn]; rfl
    obtain ⟨h0, h1⟩ := hx
    cases hs : negB (x : Int)
    · right; right
      have he : errU (x : Int) = 0 := by unfold errU; rw [hn, hs]; rfl
      have hlt : (x : Int) < 9223372036854775808 := by simpa [negB] using hs
      refine ⟨he, ho, by rw [e1]; omega, ?_⟩
      unfold tickE tickN
      rw [if_pos he, if_pos he]
      cases gtB x
      · right; rfl
      · left; exact ⟨rfl, rfl⟩
    · right; left
      have he : errU (x : Int) = 11 := by unfold errU; rw [hn, hs]; rfl
      have hlt : 9223372036854775808 ≤ (x : Int) := by simpa [negB] using hs
      refine ⟨?_, ?_, ho, by rw [e1]; omega⟩
      · unfold tickE; rw [he]; rfl
      · unfold tickN; rw [he]; rfl
  · left
    have he : errU (x : Int) = 10 := by unfold errU; rw [hn]; rfl
    refine ⟨?_, ?_, nan_order x hn, by rw [he]; decide⟩
    · unfold tickE; rw [he]; rfl
    · unfold tickN; rw [he]; rfl
theorem pos_of {x : Nat} (hx : In64 x) (h : errU (x : Int) = 0) : nanB (x : Int) = false ∧ negB (x : Int) = false ∧ x ≤ 9218868437227405312 := by
  obtain ⟨h1, h2⟩ := errU_zero h
  refine ⟨h1, h2, ?_⟩
  have h3 : ¬ (9218868437227405312 : Int) < (x : Int) % 9223372036854775808 := by simpa [nanB] using h1
  have h4 : (x : Int) < 9223372036854775808 := by simpa [negB] using h2
  omega
theorem tick_le (x y : Nat) (hx : In64 x) (hy : In64 y) (h1 : errU (x : Int) = 0) (h2 : tickE y = 0) (h3 : Ieee.double.order x y = some .lt ∨ Ieee.double.order x y = some .eq) : tickN x ≤ tickN y := by
  have h4 : errU (y : Int) = 0 := by
    unfold tickE at h2
    by_cases h : errU (y : Int) = 0
    · exact h
    · rw [if_neg h] at h2; exact absurd h2 h
  obtain ⟨a1, a2, a3⟩ := pos_of hx h1
  obtain ⟨c1, c2, c3⟩ := pos_of hy h4
  refine tick_mono ?_ c3 h2
  by_cases h5 : y < 9218868437227405312
  · rw [OfA.order_pos hx hy a1 c1 a2 c2 h5] at h3
    rcases h3 with h | h
    · have := Nat.compare_eq_lt.1 (Option.some.inj h); omega
    · have := Nat.compare_eq_eq.1 (Option.some.inj h); omega
  · omega
set_option maxRecDepth 100000 in
set_option maxHeartbeats 4000000 in
theorem walkIn (n x y : Nat) (w : World) (hx : In64 x) (hy : In64 y) (hT : w.cell? ⟨4, 58, none⟩ = some (.int .u8 19)) (hn : n ≤ 1099511627776) :
    Calls Tryd.prog 10 #[.int .u64 (n : Int), .float .f64 x, .float .f64 y] w fun e w' => e = .returned (.bool true) ∧ Below w.heap.size w w' := by
  have b0 : decide ((1099511627776 : Int) < (n : Int)) = false := decide_eq_false (by omega)
  obtain ⟨t1, t2⟩ := whole n hn
  have hfi := ofInt_facts (n : Int) (by omega)
  have C1 := Lib.hid (fun w => ticksC (floatOfInt .f64 (n : Int)) w hfi.2.2)
  rw [t1, t2] at C1
  have C2 := Lib.hid (fun w => secondsC (1000 * (n : Int)) w ⟨by omega, by omega⟩)
  rw [sec_whole n hn] at C2
  have hw : IntKind.u64.wrap (1000 * (n : Int)) = 1000 * (n : Int) := by rw [IntKind.wrap_u64]; omega
  have ho := self_order _ hfi.2.2 hfi.1
  have o1 : (FloatKind.f64.format.order (floatOfInt .f64 (n : Int)) (floatOfInt .f64 (n : Int)) != some .eq) = false := by
    rw [show FloatKind.f64.format.order (floatOfInt .f64 (n : Int)) (floatOfInt .f64 (n : Int)) = some .eq from ho]; rfl
  have C3 := Lib.hid (fun w => ticksC x w hx)
  have C4 := Lib.hid (fun w => ticksC y w hy)
  have C5 := Lib.hid (fun w => bitsC x w hx)
  have hp := parts x hx
  have HM : Hid (errU (x : Int) = 0 → tickE y = 0 → (FloatKind.f64.format.order x y = some .lt ∨ FloatKind.f64.format.order x y = some .eq) → tickN x ≤ tickN y) := Lib.hid (fun h1 h2 h3 => tick_le x y hx hy h1 h2 h3)
  generalize errU (x : Int) = U at *
  generalize tickE x = E1 at *
  generalize tickN x = N1 at *
  generalize tickE y = E2 at *
  generalize tickN y = N2 at *
  generalize oneN (x : Int) = O at *
  generalize hf : floatOfInt .f64 (n : Int) = f at *
  clear ho hfi t1 t2
  have HF := Lib.hid (fun w h => first w h)
  have HT := Lib.hid hT
  clear hT
  rcases hp with ⟨rfl, rfl, ho, hu⟩ | ⟨rfl, rfl, ho, hd⟩ | ⟨rfl, ho, hd, ⟨rfl, rfl⟩ | rfl⟩
  · have q1 : (FloatKind.f64.format.order x x != some .eq) = true := by rw [show FloatKind.f64.format.order x x = none from ho]; rfl
    have q2 : (FloatKind.f64.format.order x x == some .eq) = false := by rw [show FloatKind.f64.format.order x x = none from ho]; rfl
    clear ho hu
    go_enter Tryd.func10, Tryd.ntmps10
    go_wp2_with fail
    refine (HF.out _ HT.out).mono ?_
    rintro e w1 ⟨rfl, hb1⟩
    have HT1 := Lib.hid (cell_then hb1 (Nat.le_refl _) HT.out)
    go_wp2_with fail
    refine (C1.out _).mono ?_
    rintro e w' ⟨rfl, rfl⟩
    go_wp2_with fail
    refine (C2.out _).mono ?_
    rintro e w' ⟨rfl, rfl⟩
    go_wp2_with fail
    refine (C3.out _).mono ?_
    rintro e w' ⟨rfl, rfl⟩
    go_wp2_with fail
    refine (C4.out _).mono ?_
    rintro e w' ⟨rfl, rfl⟩
    go_wp2_with fail
    refine (HF.out _ HT1.out).mono ?_
    rintro e w2 ⟨rfl, hb2⟩
    go_wp2
    go_ret
    exact ⟨rfl, below_then hb1 hb2 hb1.size⟩
  · have q1 : (FloatKind.f64.format.order x x != some .eq) = false := by rw [show FloatKind.f64.format.order x x = some .eq from ho]; rfl
    have q2 : (FloatKind.f64.format.order x x == some .eq) = true := by rw [show FloatKind.f64.format.order x x = some .eq from ho]; rfl
    have q3 : (O / 9223372036854775808 == 1) = true := by rw [hd]; rfl
    clear ho hd
    go_enter Tryd.func10, Tryd.ntmps10
    go_wp2_with fail
    refine (HF.out _ HT.out).mono ?_
    rintro e w1 ⟨rfl, hb1⟩
    have HT1 := Lib.hid (cell_then hb1 (Nat.le_refl _) HT.out)
    go_wp2_with fail
    refine (C1.out _).mono ?_
    rintro e w' ⟨rfl, rfl⟩
    go_wp2_with fail
    refine (C2.out _).mono ?_
    rintro e w' ⟨rfl, rfl⟩
    go_wp2_with fail
    refine (C3.out _).mono ?_
    rintro e w' ⟨rfl, rfl⟩
    go_wp2_with fail
    refine (C4.out _).mono ?_
    rintro e w' ⟨rfl, rfl⟩
    go_wp2_with fail
    refine (C5.out _).mono ?_
    rintro e w' ⟨rfl, rfl⟩
    go_wp2_with fail
    refine (HF.out _ HT1.out).mono ?_
    rintro e w2 ⟨rfl, hb2⟩
    go_wp2
    go_ret
    exact ⟨rfl, below_then hb1 hb2 hb1.size⟩
  · have q1 : (FloatKind.f64.format.order x x != some .eq) = false := by rw [show FloatKind.f64.format.order x x = some .eq from ho]; rfl
    have q2 : (FloatKind.f64.format.order x x == some .eq) = true := by rw [show FloatKind.f64.format.order x x = some .eq from ho]; rfl
    have q3 : (O / 9223372036854775808 == 1) = false := by rw [hd]; rfl
    clear ho hd
    go_enter Tryd.func10, Tryd.ntmps10
    go_wp2_with fail
    refine (HF.out _ HT.out).mono ?_
    rintro e w1 ⟨rfl, hb1⟩
    have HT1 := Lib.hid (cell_then hb1 (Nat.le_refl _) HT.out)
    go_wp2_with fail
    refine (C1.out _).mono ?_
    rintro e w' ⟨rfl, rfl⟩
    go_wp2_with fail
    refine (C2.out _).mono ?_
    rintro e w' ⟨rfl, rfl⟩
    go_wp2_with fail
    refine (C3.out _).mono ?_
    rintro e w' ⟨rfl, rfl⟩
    go_wp2_with fail
    refine (C4.out _).mono ?_
    rintro e w' ⟨rfl, rfl⟩
    go_wp2_with fail
    refine (C5.out _).mono ?_
    rintro e w' ⟨rfl, rfl⟩
    go_wp2_with fail
    refine (HF.out _ HT1.out).mono ?_
    rintro e w2 ⟨rfl, hb2⟩
    go_wp2
    go_ret
    exact ⟨rfl, below_then hb1 hb2 hb1.size⟩
  · have q1 : (FloatKind.f64.format.order x x != some .eq) = false := by rw [show FloatKind.f64.format.order x x = some .eq from ho]; rfl
    have q2 : (FloatKind.f64.format.order x x == some .eq) = true := by rw [show FloatKind.f64.format.order x x = some .eq from ho]; rfl
    have q3 : (O / 9223372036854775808 == 1) = false := by rw [hd]; rfl
    clear ho hd
    have hq : (E2 != 0) = true ∨ (E2 = 0 ∧ decide (N1 ≤ N2) = true ∧ (FloatKind.f64.format.order x y == some .lt) = true ∧ (FloatKind.f64.format.order x y == some .eq) = false) ∨
        (E2 = 0 ∧ decide (N1 ≤ N2) = true ∧ (FloatKind.f64.format.order x y == some .lt) = false ∧ (FloatKind.f64.format.order x y == some .eq) = true) ∨ (E2 = 0 ∧ decide (N1 ≤ N2) = decide (N1 ≤ N2) ∧ (FloatKind.f64.format.order x y == some .lt) = false ∧ (FloatKind.f64.format.order x y == some .eq) = false) := by
      by_cases h : E2 = 0
      · right
        by_cases h1 : FloatKind.f64.format.order x y = some .lt
        · exact .inl ⟨h, decide_eq_true (HM.out rfl h (.inl h1)), by rw [h1]; rfl, by rw [h1]; rfl⟩
        · by_cases h2 : FloatKind.f64.format.order x y = some .eq
          · exact .inr (.inl ⟨h, decide_eq_true (HM.out rfl h (.inr h2)), by rw [h2]; rfl, by rw [h2]; rfl⟩)
          · exact .inr (.inr ⟨h, rfl, by simpa using h1, by simpa using h2⟩)
      · left; simpa using h
    clear HM
    rcases hq with hq | ⟨rfl, hq, hq1, hq2⟩ | ⟨rfl, hq, hq1, hq2⟩ | ⟨rfl, _, hq1, hq2⟩
    all_goals
      go_enter Tryd.func10, Tryd.ntmps10
      go_wp2_with fail
      refine (HF.out _ HT.out).mono ?_
      rintro e w1 ⟨rfl, hb1⟩
      have HT1 := Lib.hid (cell_then hb1 (Nat.le_refl _) HT.out)
      go_wp2_with fail
      refine (C1.out _).mono ?_
      rintro e w' ⟨rfl, rfl⟩
      go_wp2_with fail
      refine (C2.out _).mono ?_
      rintro e w' ⟨rfl, rfl⟩
      go_wp2_with fail
      refine (C3.out _).mono ?_
      rintro e w' ⟨rfl, rfl⟩
      go_wp2_with fail
      refine (C4.out _).mono ?_
      rintro e w' ⟨rfl, rfl⟩
      go_wp2_with fail
      refine (C5.out _).mono ?_
      rintro e w' ⟨rfl, rfl⟩
      go_wp2_with fail
      refine (HF.out _ HT1.out).mono ?_
      rintro e w2 ⟨rfl, hb2⟩
      go_wp2
      all_goals go_ret
      all_goals exact ⟨rfl, below_then hb1 hb2 hb1.size⟩
/-- more than 2^40: nothing is asked. -/
theorem walkOut (n x y : Nat) (w : World) (hT : w.cell? ⟨4, 58, none⟩ = some (.int .u8 19)) (hn : 1099511627776 < n) :
    Calls Tryd.prog 10 #[.int .u64 (n : Int), .float .f64 x, .float .f64 y] w fun e w' => e = .returned (.bool true) ∧ Below w.heap.size w w' := by
  have b0 : decide ((1099511627776 : Int) < (n : Int)) = true := decide_eq_true (by omega)
  have HF := Lib.hid (fun w h => first w h)
  have HT := Lib.hid hT
  clear hT
  go_enter Tryd.func10, Tryd.ntmps10
  go_wp2_with fail
  refine (HF.out _ HT.out).mono ?_
  rintro e w1 ⟨rfl, hb1⟩
  have HT1 := Lib.hid (cell_then hb1 (Nat.le_refl _) HT.out)
  go_wp2_with fail
  refine (HF.out _ HT1.out).mono ?_
  rintro e w2 ⟨rfl, hb2⟩
  go_wp2
  go_ret
  exact ⟨rfl, below_then hb1 hb2 hb1.size⟩
theorem walkT (n : Int) (x y : Nat) (w : World) (wn : (Lit.int .u64 n).wf = true) (wx : (Lit.float .f64 x).wf = true) (wy : (Lit.float .f64 y).wf = true) (hT : Lib.TabIs Tryd.prog w "math/bits.deBruijn64tab" .u8 [0, 1, 56, 2, 57, 49, 28, 3, 61, 58, 42, 50, 38, 29, 17, 4, 62, 47, 59, 36, 45, 43, 51, 22, 53, 39, 33, 30, 24, 18, 12, 5, 63, 55, 48, 27, 60, 41, 37, 16, 46, 35, 44, 21, 52, 32, 23, 11, 54, 26, 40, 15, 34, 20, 31, 10, 25, 14, 19, 9, 13, 8, 7, 6]) :
    Calls Tryd.prog 10 #[.int .u64 n, .float .f64 x, .float .f64 y] w fun e w' => e = .returned (.bool true) ∧ Below w.heap.size w w' := by
  obtain ⟨n, rfl⟩ := Int.eq_ofNat_of_zero_le (in64 wn).1
  by_cases h : n ≤ 1099511627776
  · exact walkIn n x y w (inF wx) (inF wy) (tz58 hT) h
  · exact walkOut n x y w (tz58 hT) (by omega)
end Go.Proofs.YtlhapnnepcnfbaaDoor.TicksW
