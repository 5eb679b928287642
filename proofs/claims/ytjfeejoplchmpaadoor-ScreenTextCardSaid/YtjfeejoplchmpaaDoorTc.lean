/- ScreenText: every argument. -/
import Derived.Test.YtjfeejoplchmpaaDoorTb
set_option linter.unusedVariables false
namespace Go.Proofs.YtjfeejoplchmpaaDoor.Tc
open Go Go.RowKit Kit Gm Gv Sa Sb Sd Sf Sg Sh Si Sj Sk Sl Sm Sn Ta Tb

set_option maxRecDepth 100000 in
set_option maxHeartbeats 4000000 in
/-- a size that may not be. -/
theorem badT (R C : Int) (a : Option Addr) (n cap : Nat) (W : World) (h : ¬ (1 ≤ R ∧ R ≤ 60 ∧ 1 ≤ C ∧ C ≤ 200)) :
    Calls Tryd.prog 4 #[.int .i64 R, .int .i64 C, .slice a n cap] W fun e w' => e = .returned (.bool true) ∧ Below W.heap.size W w' := by
  have H10 := Lib.hid (fun w => blankNo R C w h)
  have hcase : R < 1 ∨ (¬ R < 1 ∧ 60 < R) ∨ (¬ R < 1 ∧ ¬ 60 < R ∧ C < 1) ∨ (¬ R < 1 ∧ ¬ 60 < R ∧ ¬ C < 1 ∧ 200 < C) := by omega
  clear h
  rcases hcase with h1 | ⟨h1, h2⟩ | ⟨h1, h2, h3⟩ | ⟨h1, h2, h3, h4⟩
  all_goals go_enter Tryd.func4, Tryd.ntmps4
  all_goals go_wp2_with (first
    | (go_at_call 6; (with_reducible refine (firstC W).mono ?_); rintro e w1 ⟨rfl, hb⟩; have HB1 := Lib.hid hb; clear hb)
    | (go_at_call 10; (with_reducible refine (H10.out _).mono ?_); rintro e w2 ⟨⟨n0, hn0, rfl⟩, hb2⟩; have HB2 := Lib.hid (below_then (below_then HB1.out hb2 HB1.out.size) (below_one w2 (svO ⟨0, 0, 0, 0, false, ⟨#[]⟩⟩ none 0 0)) (Nat.le_trans HB1.out.size hb2.size)); have hn1 : (n0 != 0) = true := (by rw [bne_iff_ne]; exact hn0); clear hb2 hn0)
    | (go_at_call 6; (with_reducible refine (firstC _).mono ?_); rintro e w3 ⟨rfl, hb⟩; have HB3 := Lib.hid (below_then HB2.out hb HB2.out.size); clear hb))
  all_goals go_ret
  all_goals exact ⟨rfl, HB3.out⟩
set_option maxRecDepth 100000 in
set_option maxHeartbeats 4000000 in
/-- too many signs. -/
theorem longT (R C : Nat) (a : Option Addr) (n cap : Nat) (W : World) (hR : 1 ≤ R) (hR2 : R ≤ 60) (hC : 1 ≤ C) (hC2 : C ≤ 200) (hn : 200 < n) :
    Calls Tryd.prog 4 #[.int .i64 (R : Int), .int .i64 (C : Int), .slice a n cap] W fun e w' => e = .returned (.bool true) ∧ Below W.heap.size W w' := by
  have hq2 : R * C ≤ 12000 := Nat.mul_le_mul hR2 hC2
  have H10 := Lib.hid (fun w => blankYes R C w ⟨hR, hR2, hC, hC2⟩)
  obtain ⟨q, hq⟩ : ∃ q, R * C = q := ⟨_, rfl⟩
  rw [hq] at H10
  have h1 : ¬ (R : Int) < 1 := by omega
  have h2 : ¬ 60 < (R : Int) := by omega
  have h3 : ¬ (C : Int) < 1 := by omega
  have h4 : ¬ 200 < (C : Int) := by omega
  have hnI : 200 < (n : Int) := by omega
  have d1 : decide ((R : Int) < 1) = false := decide_eq_false h1
  have d2 : decide (60 < (R : Int)) = false := decide_eq_false h2
  have d3 : decide ((C : Int) < 1) = false := decide_eq_false h3
  have d4 : decide (200 < (C : Int)) = false := decide_eq_false h4
  clear hR hR2 hC hC2 hq hq2
  go_enter Tryd.func4, Tryd.ntmps4
  go_wp2_with (first
    | (go_at_call 6; (with_reducible refine (firstC W).mono ?_); rintro e w1 ⟨rfl, hb⟩; have HB1 := Lib.hid hb; clear hb)
    | (go_at_call 10; (with_reducible refine (H10.out _).mono ?_); rintro e w2 ⟨rfl, hr2, hb2⟩; have HB2 := Lib.hid (below_then (below_then HB1.out hb2 HB1.out.size) (below_one w2 (svO ⟨R, C, 0, 0, false, ⟨#[]⟩⟩ (some ⟨w1.heap.size + 1, 0, none⟩) q q)) (Nat.le_trans HB1.out.size hb2.size)); clear hr2 hb2)
    | (go_at_call 6; (with_reducible refine (firstC _).mono ?_); rintro e w3 ⟨rfl, hb⟩; have HB3 := Lib.hid (below_then HB2.out hb HB2.out.size); clear hb))
  go_ret
  exact ⟨rfl, HB3.out⟩
/-- ScreenText. -/
theorem walk (R C : Int) (a : Option Addr) (n cap : Nat) (zs : List Int) (W : World) (hr : (Lit.int .i64 R).wf = true) (hc : (Lit.int .i64 C).wf = true) (h : IsRow .i32 W a n cap zs) :
    Calls Tryd.prog 4 #[.int .i64 R, .int .i64 C, .slice a n cap] W fun e w' => e = .returned (.bool true) ∧ Below W.heap.size W w' := by
  by_cases hs : 1 ≤ R ∧ R ≤ 60 ∧ 1 ≤ C ∧ C ≤ 200
  · obtain ⟨r, rfl⟩ := Int.eq_ofNat_of_zero_le (show 0 ≤ R by omega)
    obtain ⟨c, rfl⟩ := Int.eq_ofNat_of_zero_le (show 0 ≤ C by omega)
    by_cases hn : n ≤ 200
    · exact mainT r c a n cap zs W (by omega) (by omega) (by omega) (by omega) h hn
    · exact longT r c a n cap W (by omega) (by omega) (by omega) (by omega) (by omega)
  · exact badT R C a n cap W hs
end Go.Proofs.YtjfeejoplchmpaaDoor.Tc
