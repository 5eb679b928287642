/- ScreenOwn: every argument. -/
import Derived.Test.YtjfeejoplchmpaaDoorSq
set_option linter.unusedVariables false
namespace Go.Proofs.YtjfeejoplchmpaaDoor.Sr
open Go Go.RowKit Kit Gm Gv Sa Sb Sd Se Sf Sg Sh Si Sj Sk Sl Sm Sn Sq

set_option maxRecDepth 100000 in
set_option maxHeartbeats 4000000 in
/-- what is let go. -/
theorem small (s : Scr) (a : Option Addr) (n cap : Nat) (i : Int) (W : World) (h : ¬ (n ≤ 3000 ∧ s.ti.size ≤ 3000) ∨ i < 0 ∨ n = 0 ∨ 1099511627776 < s.row) :
    Calls Tryd.prog 3 #[svA s a n cap, .int .i64 i] W fun e w' => e = .returned (.bool true) ∧ Below W.heap.size W w' := by
  obtain ⟨R, C, row, col, hid, ti⟩ := s
  dsimp only at h
  have hx1 := heap_alloc_last W (svO ⟨R, C, row, col, hid, ti⟩ a n cap)
  have hb1 := below_one W (svO ⟨R, C, row, col, hid, ti⟩ a n cap)
  dsimp only [svO] at hx1 hb1
  generalize hw1 : W.alloc (.cells #[.int .i64 R, .int .i64 C, .slice a n cap, .int .i64 row, .int .i64 col, .bool hid, .string ti] 24) = w1 at *
  obtain ⟨k0, k1, k2, k3, k4, k5, k6⟩ := seven (s := ⟨R, C, row, col, hid, ti⟩) hx1
  dsimp only at k0 k1 k2 k3 k4 k5 k6
  have HB1 := Lib.hid hb1
  have HFW := Lib.hid (fun w => fewC ⟨R, C, row, col, hid, ti⟩ a n cap w)
  obtain ⟨q, hq⟩ : ∃ q, decide (n ≤ 3000 ∧ ti.size ≤ 3000) = q := ⟨_, rfl⟩
  rw [hq] at HFW
  clear hx1 hb1
  have hcase : q = false ∨ (q = true ∧ i < 0) ∨ (q = true ∧ ¬ i < 0 ∧ n = 0) ∨ (q = true ∧ ¬ i < 0 ∧ ((n : Int) == 0) = false ∧ 1099511627776 < row) := by
    cases q with
    | false => exact .inl rfl
    | true =>
      rcases h with h | h | h | h
      · exact absurd (of_decide_eq_true hq) h
      · exact .inr (.inl ⟨rfl, h⟩)
      · by_cases hi : i < 0
        · exact .inr (.inl ⟨rfl, hi⟩)
        · exact .inr (.inr (.inl ⟨rfl, hi, h⟩))
      · by_cases hi : i < 0
        · exact .inr (.inl ⟨rfl, hi⟩)
        · by_cases hn : n = 0
          · exact .inr (.inr (.inl ⟨rfl, hi, hn⟩))
          · exact .inr (.inr (.inr ⟨rfl, hi, by rw [beq_eq_false_iff_ne]; omega, h⟩))
  clear h hq
  rcases hcase with rfl | ⟨rfl, hi⟩ | ⟨rfl, hi, rfl⟩ | ⟨rfl, hi, hn, hr⟩
  all_goals go_enter Tryd.func3, Tryd.ntmps3
  all_goals go_wp2_with (first
    | (go_at_call 7; (with_reducible refine (HFW.out _).mono ?_); rintro e w3 ⟨rfl, hb⟩; have HB3 := Lib.hid (below_then HB2.out hb HB2.out.size); replace k0 := cell_then hb (Nat.le_refl _) k0; replace k1 := cell_then hb (Nat.le_refl _) k1; replace k2 := cell_then hb (Nat.le_refl _) k2; replace k3 := cell_then hb (Nat.le_refl _) k3; replace k4 := cell_then hb (Nat.le_refl _) k4; replace k5 := cell_then hb (Nat.le_refl _) k5; replace k6 := cell_then hb (Nat.le_refl _) k6; clear hb)
    | (go_at_call 6; (with_reducible refine (firstC w1).mono ?_); rintro e w2 ⟨rfl, hb⟩; have HB2 := Lib.hid (below_then HB1.out hb HB1.out.size); replace k0 := cell_then hb (Nat.le_refl _) k0; replace k1 := cell_then hb (Nat.le_refl _) k1; replace k2 := cell_then hb (Nat.le_refl _) k2; replace k3 := cell_then hb (Nat.le_refl _) k3; replace k4 := cell_then hb (Nat.le_refl _) k4; replace k5 := cell_then hb (Nat.le_refl _) k5; replace k6 := cell_then hb (Nat.le_refl _) k6; clear hb)
    | (go_at_call 6; (with_reducible refine (firstC w3).mono ?_); rintro e w4 ⟨rfl, hb⟩; have HB4 := Lib.hid (below_then HB3.out hb HB3.out.size); clear hb))
  all_goals go_ret
  all_goals exact ⟨rfl, HB4.out⟩
theorem lo_of {z : Int} (h : (Lit.int .i64 z).wf = true) : -9223372036854775808 ≤ z := by
  simp only [Lit.wf, Bool.and_eq_true, decide_eq_true_eq] at h
  have h2 : IntKind.i64.min = -9223372036854775808 := by decide
  omega
/-- ScreenOwn. -/
theorem walk (s : Scr) (a : Option Addr) (n cap : Nat) (L : List Ce) (i : Int) (W : World) (hw : Sp.IsCells W a n cap L ∧ (Lit.int .i64 s.R).wf = true ∧ (Lit.int .i64 s.C).wf = true ∧ (Lit.int .i64 s.row).wf = true ∧ (Lit.int .i64 s.col).wf = true) (ht : (Lit.int .i64 i).wf = true) :
    Calls Tryd.prog 3 #[svA s a n cap, .int .i64 i] W fun e w' => e = .returned (.bool true) ∧ Below W.heap.size W w' := by
  obtain ⟨⟨_, _, hl, hc, _⟩, _, _, hrow, _⟩ := hw
  by_cases h : ¬ (n ≤ 3000 ∧ s.ti.size ≤ 3000) ∨ i < 0 ∨ n = 0 ∨ 1099511627776 < s.row
  · exact small s a n cap i W h
  · obtain ⟨h1, h2, h3, h4⟩ : (n ≤ 3000 ∧ s.ti.size ≤ 3000) ∧ ¬ i < 0 ∧ n ≠ 0 ∧ ¬ 1099511627776 < s.row := by
      refine ⟨Classical.not_not.1 fun x => h (.inl x), fun x => h (.inr (.inl x)), fun x => h (.inr (.inr (.inl x))), fun x => h (.inr (.inr (.inr x)))⟩
    rcases hc with h0 | ⟨b, off, rfl, hs⟩
    · exact absurd h0 h3
    · obtain ⟨j, rfl⟩ := Int.eq_ofNat_of_zero_le (show 0 ≤ i by omega)
      exact mainA s b off n cap L j W hl (by omega) h1.1 h1.2 (by omega) (lo_of hrow) hs
end Go.Proofs.YtjfeejoplchmpaaDoor.Sr
