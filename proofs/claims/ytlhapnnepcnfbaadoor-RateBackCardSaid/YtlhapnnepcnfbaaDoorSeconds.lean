/- RateSeconds: the walk of the law, by the contracts of Seconds, Ticks and Bits. -/
import Derived.Test.YtlhapnnepcnfbaaDoorRateFirst
import Derived.Lib.LaidTab
namespace Go.Proofs.YtlhapnnepcnfbaaDoor.Seconds
open Go Go.RowKit Kit Nums Rate0 Rate1 RateFirst
set_option maxRecDepth 100000 in
theorem walk (n : Int) (b : Nat) (w : World) (hn : In64 n) (hb : In64 b) (hT : w.cell? ⟨4, 58, none⟩ = some (.int .u8 19)) :
    Calls Tryd.prog 5 #[.int .u64 n, .float .f64 b] w fun e w' => e = .returned (.bool true) ∧ Below w.heap.size w w' := by
  have hs := sec_in n hn
  go_enter Tryd.func5, Tryd.ntmps5
  go_wp2_with fail
  refine (first _ hT).mono ?_
  rintro e w1 ⟨rfl, hb1⟩
  have hT1 := cell_then hb1 (Nat.le_refl _) hT
  go_wp2_with (first | (go_at_call 31; refine (ticksC _ _ hb).mono ?_; rintro e w' ⟨rfl, rfl⟩) | (go_at_call 32; refine (rTicks _ _ hb).mono ?_; rintro e w' ⟨rfl, rfl⟩))
  refine (first _ hT1).mono ?_
  rintro e w2 ⟨rfl, hb2⟩
  go_wp2_with (first | (go_at_call 33; refine (secondsC _ _ hn).mono ?_; rintro e w' ⟨rfl, rfl⟩) | (go_at_call 34; refine (rSeconds _ _ hn).mono ?_; rintro e w' ⟨rfl, rfl⟩) | (go_at_call 21; refine (bitsC _ _ hs).mono ?_; rintro e w' ⟨rfl, rfl⟩) | (go_at_call 22; refine (rBits _ _ hs).mono ?_; rintro e w' ⟨rfl, rfl⟩))
  go_ret
  exact ⟨rfl, below_then hb1 hb2 hb1.size⟩
theorem tz58 {W : World} (h : Lib.TabIs Tryd.prog W "math/bits.deBruijn64tab" .u8 [0, 1, 56, 2, 57, 49, 28, 3, 61, 58, 42, 50, 38, 29, 17, 4, 62, 47, 59, 36, 45, 43, 51, 22, 53, 39, 33, 30, 24, 18, 12, 5, 63, 55, 48, 27, 60, 41, 37, 16, 46, 35, 44, 21, 52, 32, 23, 11, 54, 26, 40, 15, 34, 20, 31, 10, 25, 14, 19, 9, 13, 8, 7, 6]) : W.cell? ⟨4, 58, none⟩ = some (.int .u8 19) :=
  h.cell (show Tryd.prog.globalNamed "math/bits.deBruijn64tab" = some 4 by kernel_rfl) 58 (by decide)
theorem in64 {n : Int} (h : (Lit.int .u64 n).wf = true) : In64 n := by
  simp [Lit.wf] at h
  rw [show IntKind.u64.min = 0 from by decide, show IntKind.u64.max = 18446744073709551615 from by decide] at h
  exact ⟨h.1, by omega⟩
theorem inF {b : Nat} (h : (Lit.float .f64 b).wf = true) : In64 b := by
  simp [Lit.wf] at h
  exact ⟨by omega, by omega⟩
theorem walkT (n : Int) (b : Nat) (w : World) (wn : (Lit.int .u64 n).wf = true) (wb : (Lit.float .f64 b).wf = true) (hT : Lib.TabIs Tryd.prog w "math/bits.deBruijn64tab" .u8 [0, 1, 56, 2, 57, 49, 28, 3, 61, 58, 42, 50, 38, 29, 17, 4, 62, 47, 59, 36, 45, 43, 51, 22, 53, 39, 33, 30, 24, 18, 12, 5, 63, 55, 48, 27, 60, 41, 37, 16, 46, 35, 44, 21, 52, 32, 23, 11, 54, 26, 40, 15, 34, 20, 31, 10, 25, 14, 19, 9, 13, 8, 7, 6]) :
    Calls Tryd.prog 5 #[.int .u64 n, .float .f64 b] w fun e w' => e = .returned (.bool true) ∧ Below w.heap.size w w' :=
  walk n b w (in64 wn) (inF wb) (tz58 hT)
end Go.Proofs.YtlhapnnepcnfbaaDoor.Seconds
