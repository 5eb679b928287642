/- CellTells: the walk of the law, by the contracts of package cell and of the reference. -/
import Derived.Test.YtkpneocolbmnpaaTells0
import Derived.Deep.RegionHeld3
import Derived.Test.YtkpneocolbmnpaaOpen
namespace Go.Proofs.Ytkpneocolbmnpaa.Tells
open Go Go.RowKit Kit Cell

/-- the five cells of a box, in whatever later world. -/
theorem cell_then {W w1 : World} (hb : Below W.heap.size W w1) {b o : Nat} {v : Value} (h : W.cell? ⟨b, o, none⟩ = some v) : w1.cell? ⟨b, o, none⟩ = some v := by
  have hlt := World.block_lt_of_cell? W _ h
  rw [hb.cell (p := ⟨b, o, none⟩) hlt]; exact h

set_option maxRecDepth 100000 in
set_option maxHeartbeats 4000000 in
theorem walk (a0 : Int) (r f fg bg wd : Int) (w : World) (_ : (Lit.int .i32 a0).wf = true) (_ : (Lit.int .i32 r).wf = true) (_ : (Lit.int .i64 f).wf = true) (_ : (Lit.int .i64 fg).wf = true) (_ : (Lit.int .i64 bg).wf = true) (_ : (Lit.int .i64 wd).wf = true) :
    Calls Try.prog 3 #[.int .i32 a0, .agg #[.int .i32 r, .int .i64 f, .int .i64 fg, .int .i64 bg, .int .i64 wd]] w fun e w' => e = .returned (.bool true) ∧ Below w.heap.size w w' := by
  go_enter Try.func3, Try.ntmps3
  go_wp2_with fail
  refine (first _).mono ?_
  rintro e w1 ⟨rfl, hb1⟩
  have c0 : w1.cell? ⟨w.heap.size, 0, none⟩ = some (.int .i32 r) := cell_then hb1 (by simp)
  have c1 : w1.cell? ⟨w.heap.size, 1, none⟩ = some (.int .i64 f) := cell_then hb1 (by simp)
  have c2 : w1.cell? ⟨w.heap.size, 2, none⟩ = some (.int .i64 fg) := cell_then hb1 (by simp)
  have c3 : w1.cell? ⟨w.heap.size, 3, none⟩ = some (.int .i64 bg) := cell_then hb1 (by simp)
  have c4 : w1.cell? ⟨w.heap.size, 4, none⟩ = some (.int .i64 wd) := cell_then hb1 (by simp)
  have hw : Below w.heap.size w w1 := below_then ((Below.refl _ _).alloc (Nat.le_refl _) _) hb1 (by simp)
  clear hb1
  go_wp2_with fail
  go_region_held3 (fun W => W.cell? ⟨w.heap.size, 0, none⟩ = some (.int .i32 r) ∧ W.cell? ⟨w.heap.size, 1, none⟩ = some (.int .i64 f) ∧ W.cell? ⟨w.heap.size, 2, none⟩ = some (.int .i64 fg) ∧ W.cell? ⟨w.heap.size, 3, none⟩ = some (.int .i64 bg) ∧ W.cell? ⟨w.heap.size, 4, none⟩ = some (.int .i64 wd))
    (first | (go_split_ands; exact ⟨cell_then hb2 (by assumption), cell_then hb2 (by assumption), cell_then hb2 (by assumption), cell_then hb2 (by assumption), cell_then hb2 (by assumption)⟩) | go_keep)
    (first | (go_at_call 12; refine (first _).mono ?_; rintro e w2 ⟨rfl, hb2⟩) | (go_at_call 13; refine (width _ _).mono ?_; rintro e w' ⟨rfl, rfl⟩) | (go_at_call 14; refine (width' _ _).mono ?_; rintro e w' ⟨rfl, rfl⟩) | (go_at_call 15; refine (cBlank _ _ _ _).mono ?_; rintro e w' ⟨rfl, rfl⟩) | (go_at_call 16; refine (rBlank _ _ _ _).mono ?_; rintro e w' ⟨rfl, rfl⟩) | (go_at_call 17; refine (mayAttr _ _ _ _).mono ?_; rintro e w' ⟨rfl, rfl⟩) | (go_at_call 18; refine (rMayAttr _ _ _ _).mono ?_; rintro e w' ⟨rfl, rfl⟩) | (go_at_call 19; refine (may _ _ _ _ _ _).mono ?_; rintro e w' ⟨rfl, rfl⟩) | (go_at_call 20; refine (rMay _ _ _ _ _ _).mono ?_; rintro e w' ⟨rfl, rfl⟩))
  all_goals go_wp2
  all_goals go_ret
  all_goals refine ⟨rfl, ?_⟩
  all_goals have hB1 := hw.size
  all_goals have hB2 := hb2.size
  all_goals simp only [World.size_drew] at hB2
  all_goals repeat (first | exact hw | exact hw.drew | exact Below.refl _ _ | refine Below.alloc ?_ (by first | omega | (simp only [World.size_alloc]; omega)) _ | refine below_then ?_ hb2 (by first | omega | (simp only [World.size_alloc, World.size_drew]; omega)) | refine Below.drew ?_)
end Go.Proofs.Ytkpneocolbmnpaa.Tells
