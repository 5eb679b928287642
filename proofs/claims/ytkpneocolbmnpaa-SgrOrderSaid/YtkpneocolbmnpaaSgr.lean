/- Package sgr: what a param that stands alone does. -/
import Derived.Test.YtkpneocolbmnpaaKit
import Derived.Deep.RegionHeld3
import Derived.RegionTactic
import Derived.Deep.RegionWith
import Derived.IntWalk
import Derived.Handy
namespace Go.Proofs.Ytkpneocolbmnpaa.Sgr
open Go Go.RowKit Kit

def setZ (n : Int) : Int := if n = 1 then 1 else if n = 2 then 2 else if n = 3 then 4 else if n = 4 then 8 else if n = 5 then 16 else if n = 7 then 32 else if n = 8 then 64 else if n = 9 then 128 else 0
def clearedZ (n : Int) : Int := if n = 22 then 3 else if n = 23 then 4 else if n = 24 then 8 else if n = 25 then 16 else if n = 27 then 32 else if n = 28 then 64 else if n = 29 then 128 else 0
theorem setC (n : Int) (w : World) : Calls Try.prog 49 #[.int .i64 n] w fun e w' => e = .returned (.int .i64 (setZ n)) ∧ w = w' := by
  go_enter Try.func49, Try.ntmps49
  go_wp2_with fail
  all_goals (go_ret; refine ⟨?_, rfl⟩; refine ret_int ?_; unfold setZ; simp_all)
theorem clearedC (n : Int) (w : World) : Calls Try.prog 55 #[.int .i64 n] w fun e w' => e = .returned (.int .i64 (clearedZ n)) ∧ w = w' := by
  go_enter Try.func55, Try.ntmps55
  go_wp2_with fail
  all_goals (go_ret; refine ⟨?_, rfl⟩; refine ret_int ?_; unfold clearedZ; simp_all)
/-- which param takes everything away, sets the letters' colour, the ground's. -/
def isNil (n : Int) : Bool := n == -1 || n == 0
def oneFg (fg n : Int) : Int := if n = -1 ∨ n = 0 then 0 else if 30 ≤ n ∧ n ≤ 37 then n - 29 else if n = 39 then 0 else if 90 ≤ n ∧ n ≤ 97 then n - 81 else fg
def oneBg (bg n : Int) : Int := if n = -1 ∨ n = 0 then 0 else if 40 ≤ n ∧ n ≤ 47 then n - 39 else if n = 49 then 0 else if 100 ≤ n ∧ n ≤ 107 then n - 91 else bg
def isColour (n : Int) : Prop := (30 ≤ n ∧ n ≤ 37) ∨ n = 39 ∨ (40 ≤ n ∧ n ≤ 47) ∨ n = 49 ∨ (90 ≤ n ∧ n ≤ 97) ∨ (100 ≤ n ∧ n ≤ 107)
instance (n : Int) : Decidable (isColour n) := by unfold isColour; infer_instance
def oneF (f n : Int) : Int := if n = -1 ∨ n = 0 then 0 else if isColour n then f else bits .or .i64 (bits .andNot .i64 f (clearedZ n)) (setZ n)
set_option maxRecDepth 100000 in
set_option maxHeartbeats 4000000 in
theorem oneC (f fg bg n : Int) (w : World) : Calls Try.prog 52 #[.agg #[.int .i64 f, .int .i64 fg, .int .i64 bg], .int .i64 n] w fun e w' => e = .returned (.agg #[.int .i64 (oneF f n), .int .i64 (oneFg fg n), .int .i64 (oneBg bg n)]) ∧ Below w.heap.size w w' := by
  go_enter Try.func52, Try.ntmps52
  go_wp2_with (first | (refine (clearedC _ _).mono ?_; rintro e w' ⟨rfl, rfl⟩) | (refine (setC _ _).mono ?_; rintro e w' ⟨rfl, rfl⟩))
  all_goals try (go_region_with (first | (refine (clearedC _ _).mono ?_; rintro e w' ⟨rfl, rfl⟩) | (refine (setC _ _).mono ?_; rintro e w' ⟨rfl, rfl⟩)))
  all_goals try (go_wp2_with fail)
  all_goals try go_returns
  all_goals try refine ⟨?_, ?_⟩
  all_goals first
    | (with_reducible exact ((Below.refl _ _).alloc (Nat.le_refl _) _).alloc (by simp) _)
    | (with_reducible exact (((Below.refl _ _).alloc (Nat.le_refl _) _).alloc (by simp) _).drew)
    | (simp_all [oneF, oneFg, oneBg, isColour]; done)
    | (simp_all [oneF, oneFg, oneBg, isColour]; omega)
end Go.Proofs.Ytkpneocolbmnpaa.Sgr
