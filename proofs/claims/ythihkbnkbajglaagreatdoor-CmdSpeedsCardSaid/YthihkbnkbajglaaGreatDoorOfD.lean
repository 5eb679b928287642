/- The document's Of: its contract. -/
import Derived.Test.YthihkbnkbajglaaGreatDoorOfR
set_option linter.unusedVariables false
namespace Go.Proofs.YthihkbnkbajglaaGreatDoor.OfD
open Go Go.RowKit Kit Nums Rate0 Rate1 Scale Steps Tz OfA OfB OfR

theorem rIsNaN (b : Int) (w : World) (h : In64 b) : Calls Tryz.prog 84 #[.int .u64 b] w fun e w' => e = .returned (.bool (nanB b)) ∧ w = w' := by
  go_enter Tryz.func84, Tryz.ntmps84
  go_wp2
  go_ret
  exact ⟨ret_bool (rnan_dec b h), rfl⟩

set_option maxRecDepth 100000 in
set_option maxHeartbeats 4000000 in
theorem ofBig (b D : Nat) (w : World) (F : Int) (hD1 : 22 ≤ D) (hD2 : D ≤ 60) (n1 : ∀ w, Calls Tryz.prog 84 #[.int .u64 (b : Int)] w fun e w' => e = .returned (.bool false) ∧ w = w') (n2 : ((b : Int) / 9223372036854775808 == 1) = false) (n3 : ((b : Int) == 0) = false)
    (n4 : ¬ (4652218415073722368 : Int) < (b : Int)) (m1 : bits .and .u64 (b : Int) 4503599627370495 = F) (m2 : (b : Int) / 4503599627370496 = 1055 - (D : Int)) (M : Nat) (m3 : bits .or .u64 F 4503599627370496 = (M : Int))
    (H : Int) (L W Q : Nat) (e1 : IntKind.u64.wrap (2 ^ D) = H) (e2 : IntKind.u64.wrap (H - 1) = H - 1) (e3 : bits .and .u64 (M : Int) (H - 1) = (L : Int)) (e4 : IntKind.u64.wrap (2 ^ (D - 1)) = (W : Int)) (e5 : (M : Int) / 2 ^ D = (Q : Int)) (hQ : Q < 9223372036854775807)
    (R : Nat) (hR : Hid (R = if W < L ∨ (L = W ∧ Q % 2 = 1) then Q + 1 else Q)) (O : Nat × Nat × Int)
    (hO : (R = 0 ∧ Hid (O = (0, 0, 1))) ∨ (0 < R ∧ Hid (O = ((leastN R).1, (leastN R).2, 0)))) (hR30 : R ≤ 1073741824) :
    Calls Tryz.prog 61 #[.float .f64 b] w fun e w' => e = .returned (.tuple #[.agg #[.int .u64 (O.1 : Int), .int .u64 (O.2.1 : Int)], .int .i64 O.2.2]) ∧ Below w.heap.size w w' := by
  have r := run60
  have e0 : (1075 : Int) - (1055 - (D : Int)) - 20 = (D : Int) := by omega
  have hpos : (0 : Int) < 1055 - (D : Int) := by omega
  have hn60 : ¬ (60 : Int) < (D : Int) := by omega
  have N1 := Lib.hid n1
  have hcases : (W < L ∧ Hid (R = Q + 1)) ∨ (¬ W < L ∧ L = W ∧ Q % 2 = 1 ∧ Hid (R = Q + 1)) ∨ (¬ W < L ∧ ((L : Int) == (W : Int)) = false ∧ Hid (R = Q)) ∨ (¬ W < L ∧ L = W ∧ ((Q : Int) % 2 == 1) = false ∧ Hid (R = Q)) := by
    have h := hR.out
    by_cases h1 : W < L
    · exact .inl ⟨h1, Lib.hid (by rw [h, if_pos (.inl h1)])⟩
    · by_cases h2 : L = W
      · by_cases h3 : Q % 2 = 1
        · exact .inr (.inl ⟨h1, h2, h3, Lib.hid (by rw [h, if_pos (.inr ⟨h2, h3⟩)])⟩)
        · exact .inr (.inr (.inr ⟨h1, h2, by rw [beq_eq_false_iff_ne]; omega, Lib.hid (by rw [h, if_neg (by omega)])⟩))
      · exact .inr (.inr (.inl ⟨h1, by rw [beq_eq_false_iff_ne]; omega, Lib.hid (by rw [h, if_neg (by omega)])⟩))
  have HLL : Hid (∀ K, K ≤ 1073741824 → ∀ W', Calls Tryz.prog 86 #[.int .u64 (K : Nat)] W' fun e w' => e = .returned (.agg #[.int .u64 ((leastN K).1 : Int), .int .u64 ((leastN K).2 : Int)]) ∧ Below W'.heap.size W' w') := Lib.hid (fun K hK W' => leastR K W' hK)
  clear n1 hR
  rcases hcases with ⟨h1, hr⟩ | ⟨h1, h2, h3, hr⟩ | ⟨h1, h2, hr⟩ | ⟨h1, h2, h3, hr⟩
  ·
    have hr := hr.out
    subst hr
    rcases hO with ⟨h9, _⟩ | ⟨_, HO⟩
    · omega
    obtain ⟨K, hK⟩ : ∃ K, K = Q + 1 := ⟨_, rfl⟩
    have hw : IntKind.u64.wrap ((Q : Int) + 1) = (K : Int) := by rw [wu]; omega
    have hne : ((K : Int) == 0) = false := by rw [beq_eq_false_iff_ne]; omega
    have HL := Lib.hid (HLL.out K (by omega))
    rw [← hK] at HO
    generalize leastN K = X at *
    clear hK hR30 HLL
    go_enter Tryz.func61, Tryz.ntmps61
    go_wp2_with (first | (go_at_call 84; refine (N1.out _).mono ?_; rintro e w' ⟨rfl, rfl⟩))
    refine (HL.out _).mono ?_
    rintro e w1 ⟨rfl, hb⟩
    have q0 : w1.cell? ⟨w.heap.size, 0, none⟩ = some (.int .u64 0) := cell_then hb (Nat.le_refl _) (by simp)
    have q1 : w1.cell? ⟨w.heap.size, 1, none⟩ = some (.int .u64 0) := cell_then hb (Nat.le_refl _) (by simp)
    have f0 : w1.frozen? ⟨w.heap.size, 0, none⟩ = false := by rw [hb.frozen (p := ⟨w.heap.size, 0, none⟩) (by simp)]; simp
    have f1 : w1.frozen? ⟨w.heap.size, 1, none⟩ = false := by rw [hb.frozen (p := ⟨w.heap.size, 1, none⟩) (by simp)]; simp
    have hz : w.heap.size < w1.heap.size := by have := hb.size; simp at this; omega
    go_wp2
    refine bodyPost_ret (v := .tuple #[.agg #[.int .u64 (X.1 : Int), .int .u64 (X.2 : Int)], .int .i64 0]) (by simp [results, Tryz.results61, go_sem, q0, q1]) rfl ⟨by rw [HO.out], ?_⟩
    refine ((?_ : Below w.heap.size w w1).setCell (by simp) _).setCell (by simp) _
    exact below_then ((Below.refl _ _).alloc (Nat.le_refl _) _) hb (by simp)
  ·
    subst h2
    have h3' : ((Q : Int) % 2 == 1) = true := by rw [beq_iff_eq]; omega
    clear h3
    have hr := hr.out
    subst hr
    rcases hO with ⟨h9, _⟩ | ⟨_, HO⟩
    · omega
    obtain ⟨K, hK⟩ : ∃ K, K = Q + 1 := ⟨_, rfl⟩
    have hw : IntKind.u64.wrap ((Q : Int) + 1) = (K : Int) := by rw [wu]; omega
    have hne : ((K : Int) == 0) = false := by rw [beq_eq_false_iff_ne]; omega
    have HL := Lib.hid (HLL.out K (by omega))
    rw [← hK] at HO
    generalize leastN K = X at *
    clear hK hR30 HLL
    go_enter Tryz.func61, Tryz.ntmps61
    go_wp2_with (first | (go_at_call 84; refine (N1.out _).mono ?_; rintro e w' ⟨rfl, rfl⟩))
    refine (HL.out _).mono ?_
    rintro e w1 ⟨rfl, hb⟩
    have q0 : w1.cell? ⟨w.heap.size, 0, none⟩ = some (.int .u64 0) := cell_then hb (Nat.le_refl _) (by simp)
    have q1 : w1.cell? ⟨w.heap.size, 1, none⟩ = some (.int .u64 0) := cell_then hb (Nat.le_refl _) (by simp)
    have f0 : w1.frozen? ⟨w.heap.size, 0, none⟩ = false := by rw [hb.frozen (p := ⟨w.heap.size, 0, none⟩) (by simp)]; simp
    have f1 : w1.frozen? ⟨w.heap.size, 1, none⟩ = false := by rw [hb.frozen (p := ⟨w.heap.size, 1, none⟩) (by simp)]; simp
    have hz : w.heap.size < w1.heap.size := by have := hb.size; simp at this; omega
    go_wp2
    refine bodyPost_ret (v := .tuple #[.agg #[.int .u64 (X.1 : Int), .int .u64 (X.2 : Int)], .int .i64 0]) (by simp [results, Tryz.results61, go_sem, q0, q1]) rfl ⟨by rw [HO.out], ?_⟩
    refine ((?_ : Below w.heap.size w w1).setCell (by simp) _).setCell (by simp) _
    exact below_then ((Below.refl _ _).alloc (Nat.le_refl _) _) hb (by simp)
  ·
    have hr := hr.out
    subst hr
    rcases hO with ⟨h9, HO⟩ | ⟨h9, HO⟩
    ·
      subst h9
      clear HLL
      go_enter Tryz.func61, Tryz.ntmps61
      go_wp2_with (first | (go_at_call 84; refine (N1.out _).mono ?_; rintro e w' ⟨rfl, rfl⟩))
      go_returns
      exact ⟨by rw [HO.out]; rfl, (Below.refl _ _).alloc (Nat.le_refl _) _⟩
    ·
      have hne : ((R : Int) == 0) = false := by rw [beq_eq_false_iff_ne]; omega
      have HL := Lib.hid (HLL.out R hR30)
      generalize leastN R = X at *
      clear h9 HLL
      go_enter Tryz.func61, Tryz.ntmps61
      go_wp2_with (first | (go_at_call 84; refine (N1.out _).mono ?_; rintro e w' ⟨rfl, rfl⟩))
      refine (HL.out _).mono ?_
      rintro e w1 ⟨rfl, hb⟩
      have q0 : w1.cell? ⟨w.heap.size, 0, none⟩ = some (.int .u64 0) := cell_then hb (Nat.le_refl _) (by simp)
      have q1 : w1.cell? ⟨w.heap.size, 1, none⟩ = some (.int .u64 0) := cell_then hb (Nat.le_refl _) (by simp)
      have f0 : w1.frozen? ⟨w.heap.size, 0, none⟩ = false := by rw [hb.frozen (p := ⟨w.heap.size, 0, none⟩) (by simp)]; simp
      have f1 : w1.frozen? ⟨w.heap.size, 1, none⟩ = false := by rw [hb.frozen (p := ⟨w.heap.size, 1, none⟩) (by simp)]; simp
      have hz : w.heap.size < w1.heap.size := by have := hb.size; simp at this; omega
      go_wp2
      refine bodyPost_ret (v := .tuple #[.agg #[.int .u64 (X.1 : Int), .int .u64 (X.2 : Int)], .int .i64 0]) (by simp [results, Tryz.results61, go_sem, q0, q1]) rfl ⟨by rw [HO.out], ?_⟩
      refine ((?_ : Below w.heap.size w w1).setCell (by simp) _).setCell (by simp) _
      exact below_then ((Below.refl _ _).alloc (Nat.le_refl _) _) hb (by simp)
  ·
    subst h2
    have hr := hr.out
    subst hr
    rcases hO with ⟨h9, HO⟩ | ⟨h9, HO⟩
    ·
      subst h9
      clear HLL
      go_enter Tryz.func61, Tryz.ntmps61
      go_wp2_with (first | (go_at_call 84; refine (N1.out _).mono ?_; rintro e w' ⟨rfl, rfl⟩))
      go_returns
      exact ⟨by rw [HO.out]; rfl, (Below.refl _ _).alloc (Nat.le_refl _) _⟩
    ·
      have hne : ((R : Int) == 0) = false := by rw [beq_eq_false_iff_ne]; omega
      have HL := Lib.hid (HLL.out R hR30)
      generalize leastN R = X at *
      clear h9 HLL
      go_enter Tryz.func61, Tryz.ntmps61
      go_wp2_with (first | (go_at_call 84; refine (N1.out _).mono ?_; rintro e w' ⟨rfl, rfl⟩))
      refine (HL.out _).mono ?_
      rintro e w1 ⟨rfl, hb⟩
      have q0 : w1.cell? ⟨w.heap.size, 0, none⟩ = some (.int .u64 0) := cell_then hb (Nat.le_refl _) (by simp)
      have q1 : w1.cell? ⟨w.heap.size, 1, none⟩ = some (.int .u64 0) := cell_then hb (Nat.le_refl _) (by simp)
      have f0 : w1.frozen? ⟨w.heap.size, 0, none⟩ = false := by rw [hb.frozen (p := ⟨w.heap.size, 0, none⟩) (by simp)]; simp
      have f1 : w1.frozen? ⟨w.heap.size, 1, none⟩ = false := by rw [hb.frozen (p := ⟨w.heap.size, 1, none⟩) (by simp)]; simp
      have hz : w.heap.size < w1.heap.size := by have := hb.size; simp at this; omega
      go_wp2
      refine bodyPost_ret (v := .tuple #[.agg #[.int .u64 (X.1 : Int), .int .u64 (X.2 : Int)], .int .i64 0]) (by simp [results, Tryz.results61, go_sem, q0, q1]) rfl ⟨by rw [HO.out], ?_⟩
      refine ((?_ : Below w.heap.size w w1).setCell (by simp) _).setCell (by simp) _
      exact below_then ((Below.refl _ _).alloc (Nat.le_refl _) _) hb (by simp)
set_option maxRecDepth 100000 in
set_option maxHeartbeats 4000000 in
theorem ofR (b : Nat) (w : World) (hb : In64 b) : Calls Tryz.prog 61 #[.float .f64 b] w (OfP b w) := by
  have n1 := fun w => rIsNaN b w hb
  have hb64 : b < 18446744073709551616 := by obtain ⟨_, h⟩ := hb; omega
  have n2 := neg_div hb
  have r := run60
  unfold OfP
  cases hn : nanB (b : Int)
  · rw [hn] at n1
    cases hs : negB (b : Int)
    · rw [hs] at n2
      have he : errU (b : Int) = 0 := by unfold errU; rw [hn, hs]; rfl
      by_cases h0 : b = 0
      · subst h0
        have HO := Lib.hid (show ofN 0 = (0, 1, 0) from by decide)
        generalize ofN 0 = O at *
        have N1 := Lib.hid n1
        clear n1
        go_enter Tryz.func61, Tryz.ntmps61
        go_wp2_with (first | (go_at_call 84; refine (N1.out _).mono ?_; rintro e w' ⟨rfl, rfl⟩))
        go_returns
        exact ⟨by rw [HO.out]; rfl, (Below.refl _ _).alloc (Nat.le_refl _) _⟩
      · have n3 : ((b : Int) == 0) = false := by rw [beq_eq_false_iff_ne]; omega
        by_cases h1 : 4652218415073722368 < b
        · have HO := Lib.hid (show ofN b = (0, 0, 1) by unfold ofN; rw [if_neg (by simp [he]), if_pos h1])
          have n4 : decide ((4652218415073722368 : Int) < (b : Int)) = true := decide_eq_true (by omega)
          generalize ofN b = O at *
          have N1 := Lib.hid n1
          clear n1 hb hb64 hn hs he h0 h1
          go_enter Tryz.func61, Tryz.ntmps61
          go_wp2_with (first | (go_at_call 84; refine (N1.out _).mono ?_; rintro e w' ⟨rfl, rfl⟩))
          go_returns
          exact ⟨by rw [HO.out]; rfl, (Below.refl _ _).alloc (Nat.le_refl _) _⟩
        · have m1 : bits .and .u64 (b : Int) 4503599627370495 = ((b % 4503599627370496 : Nat) : Int) := by
            have := u64_and_nat b 4503599627370495 hb64 (by decide)
            rw [show ((4503599627370495 : Nat) : Int) = 4503599627370495 from rfl] at this
            rw [this, show (4503599627370495 : Nat) = 2 ^ 52 - 1 from rfl, Nat.and_two_pow_sub_one_eq_mod]
          have m3 : bits .or .u64 ((b % 4503599627370496 : Nat) : Int) 4503599627370496 = ((b % 4503599627370496 + 4503599627370496 : Nat) : Int) := by
            have := u64_or_nat (b % 4503599627370496) 4503599627370496 (by omega) (by decide)
            rw [show ((4503599627370496 : Nat) : Int) = 4503599627370496 from rfl] at this
            rw [this, Nat.or_comm, nat_join 52 4503599627370496 (b % 4503599627370496) (by decide) (by omega), Nat.add_comm]
          by_cases h2 : b / 4503599627370496 ≤ 994
          · have HO := Lib.hid (show ofN b = (0, 0, 1) by unfold ofN; rw [if_neg (by simp [he]), if_neg h1, if_pos ⟨small_zero h2, h0⟩])
            have n4 : decide ((4652218415073722368 : Int) < (b : Int)) = false := decide_eq_false (by omega)
            obtain ⟨E, hE⟩ : ∃ E, E = b / 4503599627370496 := ⟨_, rfl⟩
            have m2 : (b : Int) / 4503599627370496 = (E : Int) := by omega
            have hE2 : E ≤ 994 := by omega
            generalize b % 4503599627370496 + 4503599627370496 = M at *
            generalize b % 4503599627370496 = F at *
            generalize ofN b = O at *
            have N1 := Lib.hid n1
            clear n1 hb hb64 hn hs he h0 h1 h2 hE
            by_cases hE0 : E = 0
            · subst hE0
              have m2 : (b : Int) / 4503599627370496 = 0 := m2
              go_enter Tryz.func61, Tryz.ntmps61
              go_wp2_with (first | (go_at_call 84; refine (N1.out _).mono ?_; rintro e w' ⟨rfl, rfl⟩))
              go_returns
              exact ⟨by rw [HO.out]; rfl, (Below.refl _ _).alloc (Nat.le_refl _) _⟩
            · have hpos : (0 : Int) < (E : Int) := by omega
              have h60 : (60 : Int) < 1075 - (E : Int) - 20 := by omega
              go_enter Tryz.func61, Tryz.ntmps61
              go_wp2_with (first | (go_at_call 84; refine (N1.out _).mono ?_; rintro e w' ⟨rfl, rfl⟩))
              go_returns
              exact ⟨by rw [HO.out]; rfl, (Below.refl _ _).alloc (Nat.le_refl _) _⟩
          · obtain ⟨D, hD⟩ : ∃ D, D = 1055 - b / 4503599627370496 := ⟨_, rfl⟩
            have hst : stepsN b = roundN (b % 4503599627370496 + 4503599627370496) D := by rw [stepsN, if_neg (by omega), hD]
            have hle := steps_le (b := b) (by omega)
            have hO : (stepsN b = 0 ∧ Hid (ofN b = (0, 0, 1))) ∨ (0 < stepsN b ∧ Hid (ofN b = ((leastN (stepsN b)).1, (leastN (stepsN b)).2, 0))) := by
              by_cases h3 : stepsN b = 0
              · exact .inl ⟨h3, Lib.hid (by unfold ofN; rw [if_neg (by simp [he]), if_neg h1, if_pos ⟨h3, h0⟩])⟩
              · exact .inr ⟨by omega, Lib.hid (by unfold ofN; rw [if_neg (by simp [he]), if_neg h1, if_neg (fun h => h3 h.1)])⟩
            have hM : b % 4503599627370496 + 4503599627370496 < 9007199254740992 := by omega
            generalize hMM : b % 4503599627370496 + 4503599627370496 = M at *
            have p1 : 2 ^ D ≤ 2 ^ 60 := Nat.pow_le_pow_right (by decide) (by omega)
            have p2 : 2 ^ (D - 1) ≤ 2 ^ 60 := Nat.pow_le_pow_right (by decide) (by omega)
            have p0 := Nat.two_pow_pos D
            have q1 : (2 : Nat) ^ 60 = 1152921504606846976 := by decide
            have c1 : ((2 : Int) ^ D) = ((2 ^ D : Nat) : Int) := by rw [Int.natCast_pow]; rfl
            have c2 : ((2 : Int) ^ (D - 1)) = ((2 ^ (D - 1) : Nat) : Int) := by rw [Int.natCast_pow]; rfl
            have c3 : (M : Int) / 2 ^ D = ((M / 2 ^ D : Nat) : Int) := by rw [Int.natCast_ediv, Int.natCast_pow]; rfl
            have c4 : ((2 ^ D : Nat) : Int) - 1 = ((2 ^ D - 1 : Nat) : Int) := by omega
            have small : ∀ A : Nat, A < 18446744073709551616 → IntKind.u64.wrap (A : Int) = (A : Int) := fun A h => by rw [wu]; omega
            have hq : M / 2 ^ D ≤ M := Nat.div_le_self _ _
            refine ofBig b D w _ (by omega) (by omega) n1 n2 n3 (by omega) m1 (by omega) M m3 ((2 ^ D : Nat) : Int) (M % 2 ^ D) (2 ^ (D - 1)) (M / 2 ^ D) (by rw [c1]; exact small _ (by omega)) (by rw [c4]; exact small _ (by omega)) ?_ (by rw [c2]; exact small _ (by omega)) c3 (by omega) (stepsN b) (Lib.hid (by rw [hst]; rfl)) (ofN b) hO hle
            rw [c4, u64_and_nat M (2 ^ D - 1) (by omega) (by omega), Nat.and_two_pow_sub_one_eq_mod]
    · rw [hs] at n2
      have he : errU (b : Int) = 11 := by unfold errU; rw [hn, hs]; rfl
      have HO := Lib.hid (show ofN b = (0, 0, 11) by unfold ofN; rw [he]; rfl)
      generalize ofN b = O at *
      have N1 := Lib.hid n1
      clear n1 hb hb64 hn hs he
      go_enter Tryz.func61, Tryz.ntmps61
      go_wp2_with (first | (go_at_call 84; refine (N1.out _).mono ?_; rintro e w' ⟨rfl, rfl⟩))
      go_returns
      exact ⟨by rw [HO.out]; rfl, (Below.refl _ _).alloc (Nat.le_refl _) _⟩
  · rw [hn] at n1
    have he : errU (b : Int) = 10 := by unfold errU; rw [hn]; rfl
    have HO := Lib.hid (show ofN b = (0, 0, 10) by unfold ofN; rw [he]; rfl)
    generalize ofN b = O at *
    have N1 := Lib.hid n1
    clear n1 n2 hb hb64 hn he
    go_enter Tryz.func61, Tryz.ntmps61
    go_wp2_with (first | (go_at_call 84; refine (N1.out _).mono ?_; rintro e w' ⟨rfl, rfl⟩))
    go_returns
    exact ⟨by rw [HO.out]; rfl, (Below.refl _ _).alloc (Nat.le_refl _) _⟩
end Go.Proofs.YthihkbnkbajglaaGreatDoor.OfD
