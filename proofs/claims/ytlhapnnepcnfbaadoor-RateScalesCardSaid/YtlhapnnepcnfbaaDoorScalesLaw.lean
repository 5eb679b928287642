/- RateScales: the walk of the law. -/
import Derived.Test.YtlhapnnepcnfbaaDoorScales
import Derived.Test.YtlhapnnepcnfbaaDoorSeconds
set_option linter.unusedVariables false
namespace Go.Proofs.YtlhapnnepcnfbaaDoor.ScalesLaw
open Go Go.RowKit Kit Nums Rate0 Rate1 RateFirst Scale Scale2 Scales

theorem below_next {w W W1 : World} (h : Below w.heap.size w W) (k : Below W.heap.size W W1) : Below w.heap.size w W1 := below_then h k h.size
theorem below_al {w W : World} {o : Obj} (h : Below w.heap.size w W) : Below w.heap.size w (W.alloc o) := h.alloc h.size _
set_option maxRecDepth 100000 in
set_option maxHeartbeats 4000000 in
theorem walkN (t r n d : Nat) (w : World) (hT : w.cell? ⟨4, 58, none⟩ = some (.int .u8 19)) (ht : t < 18446744073709551616) (hr : r < 18446744073709551616) (hn : n < 18446744073709551616) (hd : d < 18446744073709551616) :
    Calls Tryd.prog 4 #[.int .u64 t, .int .u64 r, .agg #[.int .u64 n, .int .u64 d]] w fun e w' => e = .returned (.bool true) ∧ Below w.heap.size w w' := by
  have S1 := Lib.hid fun w => scaleC t r n d w ht hr hn hd
  have S2 := Lib.hid fun w => rScale t r n d w ht hr hn hd
  have HN := Lib.hid hn
  have HD := Lib.hid hd
  clear ht hr hn hd
  generalize scaleN t r n d = S at S1 S2
  have hT' := past_alloc (o := .cells #[.int .u64 n, .int .u64 d] 26) hT
  go_enter Tryd.func4, Tryd.ntmps4
  go_wp2_with fail
  refine (first _ hT').mono ?_
  rintro e w1 ⟨rfl, hb1⟩
  have h1 : Below w.heap.size w w1 := below_then ((Below.refl _ _).alloc (Nat.le_refl _) _) hb1 (by simp)
  have hT1 := cell_then hb1 (Nat.le_refl _) hT'
  have c0 : w1.cell? ⟨w.heap.size, 0, none⟩ = some (.int .u64 n) := cell_then hb1 (Nat.le_refl _) (by simp)
  have c1 : w1.cell? ⟨w.heap.size, 1, none⟩ = some (.int .u64 d) := cell_then hb1 (Nat.le_refl _) (by simp)
  clear hb1
  go_wp2_with fail
  refine (S1.out _).mono ?_
  rintro e w2 ⟨rfl, hb3⟩
  replace h1 := below_next h1 hb3
  replace hT1 := cell_then hb3 (Nat.le_refl _) hT1
  replace c0 := cell_then hb3 (Nat.le_refl _) c0
  replace c1 := cell_then hb3 (Nat.le_refl _) c1
  clear hb3
  go_wp2_with fail
  refine (plainC _ _ _).mono ?_
  rintro e w3 ⟨rfl, hb3⟩
  replace h1 := below_next h1 hb3
  replace hT1 := cell_then hb3 (Nat.le_refl _) hT1
  replace c0 := cell_then hb3 (Nat.le_refl _) c0
  replace c1 := cell_then hb3 (Nat.le_refl _) c1
  clear hb3
  go_wp2_with fail
  refine (S2.out _).mono ?_
  rintro e w4 ⟨rfl, hb3⟩
  replace h1 := below_next h1 hb3
  replace hT1 := cell_then hb3 (Nat.le_refl _) hT1
  replace c0 := cell_then hb3 (Nat.le_refl _) c0
  replace c1 := cell_then hb3 (Nat.le_refl _) c1
  clear hb3 hT hT' S1 S2
  generalize hB : w.heap.size = B at c0 c1
  go_wp2_with fail
  go_region_held3 (fun W => W.cell? ⟨B, 0, none⟩ = some (.int .u64 n) ∧ W.cell? ⟨B, 1, none⟩ = some (.int .u64 d) ∧ W.cell? ⟨4, 58, none⟩ = some (.int .u8 19) ∧ Below w.heap.size w W) (first | (go_split_ands; exact ⟨cell_then hb3 (Nat.le_refl _) (by assumption), cell_then hb3 (Nat.le_refl _) (by assumption), cell_then hb3 (Nat.le_refl _) (by assumption), below_next (by assumption) hb3⟩) | (go_split_ands; refine ⟨?_, ?_, ?_, ?_⟩ <;> (repeat (first | with_reducible assumption | (with_reducible refine past_drew ?_) | (with_reducible refine past_alloc ?_) | (with_reducible refine Below.drew ?_) | (with_reducible refine below_al ?_))))) (first | (go_at_call 15; refine (first _ (by go_split_ands; repeat (first | with_reducible assumption | (with_reducible refine past_drew ?_) | (with_reducible refine past_alloc ?_)))).mono ?_; rintro e w3 ⟨rfl, hb3⟩) | (go_at_call 27; refine (mayC n d _ HN.out HD.out).mono ?_; rintro e w3 ⟨rfl, rfl⟩) | (go_at_call 28; refine (rMay n d _ HN.out HD.out).mono ?_; rintro e w3 ⟨rfl, rfl⟩) | (go_at_call 20; refine (plainC _ _ _).mono ?_; rintro e w3 ⟨rfl, hb3⟩) | (go_at_call 29; refine (floatC n d _ HN.out HD.out).mono ?_; rintro e w3 ⟨rfl, hb3⟩) | (go_at_call 30; refine (rFloat n d _ HN.out HD.out).mono ?_; rintro e w3 ⟨rfl, hb3⟩) | (go_at_call 21; refine (bitsC _ _ (floA_in n d)).mono ?_; rintro e w3 ⟨rfl, rfl⟩) | (go_at_call 22; refine (rBits _ _ (floA_in n d)).mono ?_; rintro e w3 ⟨rfl, rfl⟩))
  all_goals go_wp2
  all_goals go_ret
  all_goals exact ⟨rfl, by go_split_ands; assumption⟩
theorem walk (t r n d : Int) (W : World) (w0 : (Lit.int .u64 t).wf = true) (w1 : (Lit.int .u64 r).wf = true) (w2 : (Lit.int .u64 n).wf = true) (w3 : (Lit.int .u64 d).wf = true)
    (hL : Lib.TabIs Tryd.prog W "math/bits.deBruijn64tab" .u8 [0, 1, 56, 2, 57, 49, 28, 3, 61, 58, 42, 50, 38, 29, 17, 4, 62, 47, 59, 36, 45, 43, 51, 22, 53, 39, 33, 30, 24, 18, 12, 5, 63, 55, 48, 27, 60, 41, 37, 16, 46, 35, 44, 21, 52, 32, 23, 11, 54, 26, 40, 15, 34, 20, 31, 10, 25, 14, 19, 9, 13, 8, 7, 6]) :
    Calls Tryd.prog 4 #[.int .u64 t, .int .u64 r, .agg #[.int .u64 n, .int .u64 d]] W fun e w' => e = .returned (.bool true) ∧ Below W.heap.size W w' := by
  have hT := Seconds.tz58 hL
  obtain ⟨a0, a1⟩ := Seconds.in64 w0
  obtain ⟨b0, b1⟩ := Seconds.in64 w1
  obtain ⟨c0, c1⟩ := Seconds.in64 w2
  obtain ⟨d0, d1⟩ := Seconds.in64 w3
  obtain ⟨t, rfl⟩ := Int.eq_ofNat_of_zero_le a0
  obtain ⟨r, rfl⟩ := Int.eq_ofNat_of_zero_le b0
  obtain ⟨n, rfl⟩ := Int.eq_ofNat_of_zero_le c0
  obtain ⟨d, rfl⟩ := Int.eq_ofNat_of_zero_le d0
  exact walkN t r n d W hT (by omega) (by omega) (by omega) (by omega)
end Go.Proofs.YtlhapnnepcnfbaaDoor.ScalesLaw
