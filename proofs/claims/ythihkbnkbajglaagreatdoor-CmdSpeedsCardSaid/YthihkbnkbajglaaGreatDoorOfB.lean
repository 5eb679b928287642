/- rate.leastTerms, rate.Of: contracts of the code; the document's least. -/
import Derived.Test.YthihkbnkbajglaaGreatDoorOfA
import Derived.LoopTactic
set_option linter.unusedVariables false
namespace Go.Proofs.YthihkbnkbajglaaGreatDoor.OfB
open Go Go.RowKit Kit Nums Rate0 Rate1 Scale Steps Tz OfA

/-- the table of places, as far as it is wanted. -/
def TabZ (w : World) : Prop := ∀ c, c ≤ 40 → w.cell? ⟨1, placeN c, none⟩ = some (.int .u8 (c : Int))
theorem TabZ.then_ {w w' : World} (h : TabZ w) (hb : Below w.heap.size w w') : TabZ w' := fun c hc => cell_then hb (Nat.le_refl _) (h c hc)
theorem TabZ.alloc {w : World} (h : TabZ w) (o : Obj) : TabZ (w.alloc o) := h.then_ ((Below.refl _ _).alloc (Nat.le_refl _) _)
theorem tz0 (w : World) : Calls Tryz.prog 74 #[.int .u64 0] w fun e w' => e = .returned (.int .i64 ((64 : Nat) : Int)) ∧ w = w' := by
  go_enter Tryz.func74, Tryz.ntmps74
  go_wp2
  go_ret
  exact ⟨rfl, rfl⟩
theorem leastC (n : Nat) (w : World) (hn : n ≤ 1073741824) (hT : TabZ w) :
    Calls Tryz.prog 51 #[.int .u64 (n : Int)] w fun e w' => e = .returned (.agg #[.int .u64 ((leastN n).1 : Int), .int .u64 ((leastN n).2 : Int)]) ∧ Below w.heap.size w w' := by
  rcases Nat.eq_zero_or_pos n with h0 | h0
  · subst h0
    rw [leastN, leastF_zero]
    exact leastBig 0 64 w (Nat.le_refl _) (Lib.hid (fun o => tz0 _)) 20 rfl _ _ (by decide) (by decide)
  · obtain ⟨m, c, hm, hc⟩ := odd_part n h0
    have hc40 : c ≤ 40 := by
      rcases Nat.lt_or_ge 40 c with h | h
      · exfalso
        have h1 : 2 ^ 41 ≤ 2 ^ c := Nat.pow_le_pow_right (by decide) h
        have h2 : 1 * 2 ^ c ≤ m * 2 ^ c := Nat.mul_le_mul_right _ (by omega)
        have e : (2 : Nat) ^ 41 = 2199023255552 := by decide
        omega
      · exact h
    have hl : leastN n = (n / 2 ^ min c 20, 1048576 / 2 ^ min c 20) := by rw [hc, leastN, leastF_pow 20 m c hm]
    rw [hl]
    refine leastBig n c w (by omega) (Lib.hid (fun o => ?_)) (min c 20) rfl _ _ ?_ ?_
    · have := tzC m c (w.alloc o) hm hc40 (by rw [← hc]; omega) (hT.alloc o c hc40)
      rw [← hc] at this
      exact this
    · rw [Int.natCast_ediv, Int.natCast_pow]; rfl
    · rw [Int.natCast_ediv, Int.natCast_pow]; rfl
/-- what Of answers. -/
def OfP (b : Nat) (w : World) (e : Ending) (w' : World) : Prop := e = .returned (.tuple #[.agg #[.int .u64 ((ofN b).1 : Int), .int .u64 ((ofN b).2.1 : Int)], .int .i64 (ofN b).2.2]) ∧ Below w.heap.size w w'
set_option maxRecDepth 100000 in
set_option maxHeartbeats 2000000 in
theorem ofC (b : Nat) (w : World) (hb : In64 b) (hT : TabZ w) : Calls Tryz.prog 19 #[.float .f64 b] w (OfP b w) := by
  have cu := fun w => unsigned b w hb
  have r := run60
  unfold OfP
  by_cases he : errU b = 0
  · obtain ⟨nb, sb⟩ := errU_zero he
    have hg : (FloatKind.f64.format.order b 4652218415073722368 == some .gt) = decide (4652218415073722368 < b) := gt1024 hb nb sb
    have hz : (FloatKind.f64.format.order b 0 != some .eq) = decide (b ≠ 0) := ne_zero hb nb sb
    rw [he] at cu
    have CU := Lib.hid cu
    by_cases h1 : 4652218415073722368 < b
    · have HE := Lib.hid (show ofN b = (0, 0, 1) by unfold ofN; rw [if_neg (by simp [he]), if_pos h1])
      rw [decide_eq_true h1] at hg
      generalize ofN b = O at *
      clear hz cu he nb sb h1
      go_enter Tryz.func19, Tryz.ntmps19
      go_wp2_with (first | (go_at_call 49; refine (CU.out _).mono ?_; rintro e w' ⟨rfl, rfl⟩))
      go_returns
      exact ⟨by rw [HE.out]; rfl, (Below.refl _ _).alloc (Nat.le_refl _) _⟩
    · rw [decide_eq_false h1] at hg
      have hs := fun w => stepsC b w (by omega)
      by_cases h2 : stepsN b = 0 ∧ b ≠ 0
      · have HE := Lib.hid (show ofN b = (0, 0, 1) by unfold ofN; rw [if_neg (by simp [he]), if_neg h1, if_pos h2])
        rw [decide_eq_true h2.2] at hz
        rw [h2.1] at hs
        have HS := Lib.hid hs
        generalize ofN b = O at *
        clear cu he nb sb h1 h2 hs
        go_enter Tryz.func19, Tryz.ntmps19
        go_wp2_with (first | (go_at_call 49; refine (CU.out _).mono ?_; rintro e w' ⟨rfl, rfl⟩) | (go_at_call 50; refine (HS.out _).mono ?_; rintro e w' ⟨rfl, n, rfl⟩))
        go_returns
        exact ⟨by rw [HE.out]; rfl, ((below_drewN ((Below.refl _ _).alloc (Nat.le_refl _) _) _).setCell (by simp) _).setCell (by simp) _⟩
      · have hle := steps_le (b := b) (by omega)
        have HE := Lib.hid (show ofN b = ((leastN (stepsN b)).1, (leastN (stepsN b)).2, 0) by unfold ofN; rw [if_neg (by simp [he]), if_neg h1, if_neg h2])
        have HL : Hid (∀ n o, Calls Tryz.prog 51 #[.int .u64 (stepsN b : Int)] ((w.alloc o).drewN n) fun e w' => e = .returned (.agg #[.int .u64 ((leastN (stepsN b)).1 : Int), .int .u64 ((leastN (stepsN b)).2 : Int)]) ∧ Below ((w.alloc o).drewN n).heap.size ((w.alloc o).drewN n) w') := Lib.hid (fun n o => leastC (stepsN b) _ hle ((hT.alloc o).then_ (below_drewN (Below.refl _ _) n)))
        have HS := Lib.hid hs
        have hk : ((stepsN b : Int) == 0) = false ∨ (((stepsN b : Int) == 0) = true ∧ (FloatKind.f64.format.order b 0 != some .eq) = false) := by
          by_cases h3 : stepsN b = 0
          · right
            have h4 : b = 0 := by omega
            rw [h3]
            refine ⟨rfl, ?_⟩
            rw [hz, h4]; rfl
          · left
            rw [beq_eq_false_iff_ne]; omega
        clear cu he nb sb h1 h2 hs hz hle
        generalize leastN (stepsN b) = L at *
        generalize stepsN b = K at *
        generalize ofN b = O at *
        rcases hk with hk | ⟨hk, hk2⟩
        all_goals
          go_enter Tryz.func19, Tryz.ntmps19
          go_wp2_with (first | (go_at_call 49; refine (CU.out _).mono ?_; rintro e w' ⟨rfl, rfl⟩) | (go_at_call 50; refine (HS.out _).mono ?_; rintro e w' ⟨rfl, n, rfl⟩))
          refine (HL.out _ _).mono ?_
          rintro e w1 ⟨rfl, hb⟩
          have q0 : w1.cell? ⟨w.heap.size, 0, none⟩ = some (.int .u64 0) := cell_then hb (Nat.le_refl _) (by simp)
          have q1 : w1.cell? ⟨w.heap.size, 1, none⟩ = some (.int .u64 0) := cell_then hb (Nat.le_refl _) (by simp)
          have f0 : w1.frozen? ⟨w.heap.size, 0, none⟩ = false := by rw [hb.frozen (p := ⟨w.heap.size, 0, none⟩) (by simp)]; simp
          have f1 : w1.frozen? ⟨w.heap.size, 1, none⟩ = false := by rw [hb.frozen (p := ⟨w.heap.size, 1, none⟩) (by simp)]; simp
          have hz : w.heap.size < w1.heap.size := by have := hb.size; simp at this; omega
          go_wp2
          refine bodyPost_ret (v := .tuple #[.agg #[.int .u64 (L.1 : Int), .int .u64 (L.2 : Int)], .int .i64 0]) (by simp [results, Tryz.results19, go_sem, q0, q1]) rfl ⟨by rw [HE.out], ?_⟩
          refine ((?_ : Below w.heap.size w w1).setCell (by simp) _).setCell (by simp) _
          exact below_then (below_drewN ((Below.refl _ _).alloc (Nat.le_refl _) _) _) hb (by simp)
  · have HE := Lib.hid (show ofN b = (0, 0, errU b) by unfold ofN; rw [if_pos he])
    have CU := Lib.hid cu
    have hne : (errU b != 0) = true := by simpa using he
    generalize errU b = E at *
    generalize ofN b = O at *
    clear cu he
    go_enter Tryz.func19, Tryz.ntmps19
    go_wp2_with (first | (go_at_call 49; refine (CU.out _).mono ?_; rintro e w' ⟨rfl, rfl⟩))
    go_returns
    exact ⟨by rw [HE.out]; rfl, (Below.refl _ _).alloc (Nat.le_refl _) _⟩
end Go.Proofs.YthihkbnkbajglaaGreatDoor.OfB
