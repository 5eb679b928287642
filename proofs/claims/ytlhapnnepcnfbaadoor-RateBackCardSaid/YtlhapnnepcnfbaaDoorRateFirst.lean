/- tiklaw1.first: what the examples of chapter 1 fix: closed calls over this seat's translation. -/
import Derived.Test.YtlhapnnepcnfbaaDoorRate1
import Derived.Handy
import Derived.Deep.QuietTactic
import Derived.BigQuiet
import Derived.Deep.RegionHeld3
namespace Go.Proofs.YtlhapnnepcnfbaaDoor.RateFirst
open Go Go.RowKit Kit Nums Rate0 Rate1
theorem tz (w : World) (hT : w.cell? ⟨4, 58, none⟩ = some (.int .u8 19)) : Calls Tryd.prog 80 #[.int .u64 1572864] w fun e w' => e = .returned (.int .i64 19) ∧ w = w' := by
  have e1 : bits .and .u64 1572864 (IntKind.u64.wrap (-1572864)) = 524288 := by decide
  have e2 : IntKind.u64.wrap 149878322260268215173120 = 16973405451817844736 := by decide
  go_enter Tryd.func80, Tryd.ntmps80
  go_wp2
  go_ret
  exact ⟨rfl, rfl⟩
theorem steps (w : World) : Calls Tryd.prog 59 #[.int .u64 4609434218613702656] w fun e w' => e = .returned (.int .u64 1572864) ∧ ∃ n, w.drewN n = w' := by
  have e1 : bits BinOp.and IntKind.u64 4609434218613702656 4503599627370495 = 2251799813685248 := by decide
  have e2 : bits BinOp.and IntKind.u64 1023 2047 = 1023 := by decide
  have e3 : bits BinOp.or IntKind.u64 2251799813685248 4503599627370496 = 6755399441055744 := by decide
  have e4 : bits BinOp.and IntKind.u64 6755399441055744 4294967295 = 0 := by decide
  go_enter Tryd.func59, Tryd.ntmps59
  go_wp2
  go_quiet (fail)
  go_wp2
  go_ret
  exact ⟨rfl, _, rfl⟩
set_option maxRecDepth 100000 in
theorem div (w : World) : Calls Tryd.prog 71 #[.int .u64 0, .int .u64 16, .int .u64 2] w fun e w' => e = .returned (.tuple #[.int .u64 8, .int .u64 0]) ∧ ∃ n, w.drewN n = w' := by
  go_enter Tryd.func71, Tryd.ntmps71
  go_wp2
  go_quiet (fail)
  go_wp2
  go_ret2
  exact ⟨rfl, _, rfl⟩
theorem mul (w : World) : Calls Tryd.prog 69 #[.int .u64 5, .int .u64 3] w fun e w' => e = .returned (.tuple #[.int .u64 0, .int .u64 15]) ∧ w = w' := by
  go_enter Tryd.func69, Tryd.ntmps69
  go_wp2
  go_ret2
  exact ⟨rfl, rfl⟩
theorem least (w : World) (hT : w.cell? ⟨4, 58, none⟩ = some (.int .u8 19)) : Calls Tryd.prog 61 #[.int .u64 1572864] w fun e w' => e = .returned (.agg #[.int .u64 3, .int .u64 2]) ∧ Below w.heap.size w w' := by
  have hT' : ∀ o, (w.alloc o).cell? ⟨4, 58, none⟩ = some (.int .u8 19) := fun o => past_alloc hT
  have H := Lib.hid hT'
  clear hT'
  go_enter Tryd.func61, Tryd.ntmps61
  go_wp2_with (go_at_call 80; refine (tz _ (H.out _)).mono ?_; rintro e w' ⟨rfl, rfl⟩)
  go_region_held3 (fun _ => True) (trivial) (fail)
  go_wp2
  go_returns
  exact ⟨rfl, ((Below.refl _ _).alloc (Nat.le_refl _) _).drew⟩
theorem scale (w : World) : Calls Tryd.prog 25 #[.int .u64 5, .int .u64 1, .agg #[.int .u64 3, .int .u64 2]] w fun e w' => e = .returned (.tuple #[.int .u64 8, .int .u64 0, .int .i64 0]) ∧ Below w.heap.size w w' := by
  have e1 : bits BinOp.and IntKind.u64 2 1 = 0 := by decide
  have e2 : ∀ w, (callFunc 70 #[.int .u64 15, .int .u64 1, .int .u64 0]).run Tryd.prog w = .ok (.value (.tuple #[.int .u64 16, .int .u64 0])) w := fun w => by kernel_rfl
  go_enter Tryd.func25, Tryd.ntmps25
  go_wp2_with (first | (go_at_call 71; refine (div _).mono ?_; rintro e w' ⟨rfl, n, rfl⟩) | (go_at_call 69; refine (mul _).mono ?_; rintro e w' ⟨rfl, rfl⟩) | go_in)
  go_ret3
  exact ⟨rfl, below_drewN (((Below.refl _ _).alloc (Nat.le_refl _) _).alloc (by simp) _) _⟩
set_option maxRecDepth 100000 in
theorem of1 (w : World) (hT : w.cell? ⟨4, 58, none⟩ = some (.int .u8 19)) : Calls Tryd.prog 16 #[.float .f64 4609434218613702656] w fun e w' => e = .returned (.tuple #[.agg #[.int .u64 3, .int .u64 2], .int .i64 0]) ∧ Below w.heap.size w w' := by
  have eU : errU ((4609434218613702656 : Nat) : Int) = 0 := by decide
  have cu : ∀ w, Calls Tryd.prog 58 #[.float .f64 4609434218613702656] w fun e w' => e = .returned (.int .i64 0) ∧ w = w' := fun w => by
    have := unsigned 4609434218613702656 w ⟨by decide, by decide⟩
    rw [eU] at this; exact this
  have CU := Lib.hid cu
  have e1 : (FloatKind.f64.format.order 4609434218613702656 4652218415073722368 == some .gt) = false := by decide
  have r := run60
  have hT' : ∀ n o, ((w.alloc o).drewN n).cell? ⟨4, 58, none⟩ = some (.int .u8 19) := fun n o => past_drewN n (past_alloc hT)
  have H := Lib.hid hT'
  clear hT' cu eU
  go_enter Tryd.func16, Tryd.ntmps16
  go_wp2_with (first | (go_at_call 58; refine (CU.out _).mono ?_; rintro e w' ⟨rfl, rfl⟩) | (go_at_call 59; refine (steps _).mono ?_; rintro e w' ⟨rfl, n, rfl⟩))
  refine (least _ (H.out _ _)).mono ?_
  rintro e w1 ⟨rfl, hb⟩
  have q0 : w1.cell? ⟨w.heap.size, 0, none⟩ = some (.int .u64 0) := cell_then hb (Nat.le_refl _) (by simp)
  have q1 : w1.cell? ⟨w.heap.size, 1, none⟩ = some (.int .u64 0) := cell_then hb (Nat.le_refl _) (by simp)
  have f0 : w1.frozen? ⟨w.heap.size, 0, none⟩ = false := by rw [hb.frozen (p := ⟨w.heap.size, 0, none⟩) (by simp)]; simp
  have f1 : w1.frozen? ⟨w.heap.size, 1, none⟩ = false := by rw [hb.frozen (p := ⟨w.heap.size, 1, none⟩) (by simp)]; simp
  have hz : w.heap.size < w1.heap.size := by have := hb.size; simp at this; omega
  go_wp2
  refine bodyPost_ret (v := .tuple #[.agg #[.int .u64 3, .int .u64 2], .int .i64 0]) (by simp [results, Tryd.results16, go_sem, q0, q1]) rfl ⟨rfl, ?_⟩
  refine ((?_ : Below w.heap.size w w1).setCell (by simp) _).setCell (by simp) _
  exact below_then (below_drewN ((Below.refl _ _).alloc (Nat.le_refl _) _) n) hb (by simp)
theorem of2 (w : World) : Calls Tryd.prog 16 #[.float .f64 9223372036854775808] w fun e w' => e = .returned (.tuple #[.agg #[.int .u64 0, .int .u64 0], .int .i64 11]) ∧ Below w.heap.size w w' := by
  have eU : errU ((9223372036854775808 : Nat) : Int) = 11 := by decide
  have cu : ∀ w, Calls Tryd.prog 58 #[.float .f64 9223372036854775808] w fun e w' => e = .returned (.int .i64 11) ∧ w = w' := fun w => by
    have := unsigned 9223372036854775808 w ⟨by decide, by decide⟩
    rw [eU] at this; exact this
  have CU := Lib.hid cu
  clear cu eU
  go_enter Tryd.func16, Tryd.ntmps16
  go_wp2_with (first | (go_at_call 58; refine (CU.out _).mono ?_; rintro e w' ⟨rfl, rfl⟩))
  go_returns
  exact ⟨rfl, (Below.refl _ _).alloc (Nat.le_refl _) _⟩
set_option maxRecDepth 100000 in
theorem first (w : World) (hT : w.cell? ⟨4, 58, none⟩ = some (.int .u8 19)) : Calls Tryd.prog 15 #[] w fun e w' => e = .returned (.bool true) ∧ Below w.heap.size w w' := by
  have fr : ∀ w, Calls Tryd.prog 17 #[.int .u64 9223372036854775808] w fun e w' => e = .returned (.float .f64 9223372036854775808) ∧ w = w' := fun w => by
    have := fromC 9223372036854775808 w ⟨by decide, by decide⟩
    rw [show (oneN 9223372036854775808).toNat = 9223372036854775808 from by decide] at this; exact this
  have orr : ∀ w, Calls Tryd.prog 23 #[.float .f64 9223372036854775808, .float .f64 0] w fun e w' => e = .returned (.int .i64 (-1)) ∧ w = w' := fun w => by
    have := orderC 9223372036854775808 0 w ⟨by decide, by decide⟩ ⟨by decide, by decide⟩
    rw [show ordZ (rankZ ((9223372036854775808 : Nat) : Int)) (rankZ ((0 : Nat) : Int)) = -1 from by decide] at this; exact this
  have FR := Lib.hid fr
  have OR := Lib.hid orr
  clear fr orr
  go_enter Tryd.func15, Tryd.ntmps15
  go_wp2_with fail
  refine (of1 _ hT).mono ?_
  rintro e w1 ⟨rfl, hb1⟩
  go_wp2_with (first | (go_at_call 17; refine (FR.out _).mono ?_; rintro e w' ⟨rfl, rfl⟩) | (go_at_call 23; refine (OR.out _).mono ?_; rintro e w' ⟨rfl, rfl⟩))
  refine (of2 _).mono ?_
  rintro e w2 ⟨rfl, hb2⟩
  go_wp2_with fail
  refine (scale _).mono ?_
  rintro e w3 ⟨rfl, hb3⟩
  have q0 : w3.cell? ⟨w1.heap.size, 0, none⟩ = some (.int .u64 3) := cell_then hb3 (Nat.le_refl _) (past_alloc (cell_then hb2 (Nat.le_refl _) (by simp)))
  have q1 : w3.cell? ⟨w1.heap.size, 1, none⟩ = some (.int .u64 2) := cell_then hb3 (Nat.le_refl _) (past_alloc (cell_then hb2 (Nat.le_refl _) (by simp)))
  go_wp2_with (first | (go_at_call 17; refine (FR.out _).mono ?_; rintro e w' ⟨rfl, rfl⟩) | (go_at_call 23; refine (OR.out _).mono ?_; rintro e w' ⟨rfl, rfl⟩))
  go_ret
  refine ⟨rfl, ?_⟩
  have z1 := hb1.size
  have z2 := hb2.size
  simp only [World.size_alloc] at z2
  exact below_then ((below_then (hb1.alloc z1 _) hb2 (by simp only [World.size_alloc]; omega)).alloc (by omega) _) hb3 (by simp only [World.size_alloc]; omega)
end Go.Proofs.YtlhapnnepcnfbaaDoor.RateFirst
