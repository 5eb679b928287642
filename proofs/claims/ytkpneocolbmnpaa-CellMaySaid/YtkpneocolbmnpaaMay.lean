/- CellMay: the walk of the law, by the contracts of package cell. -/
import Derived.Test.YtkpneocolbmnpaaCell
import Derived.Deep.RegionHeld3
import Derived.BigRegion
import Derived.RegionTactic
import Derived.ChangeAlike
import Derived.Deep.DeepCutAuto
namespace Go.Proofs.Ytkpneocolbmnpaa.May
open Go Go.RowKit Kit Cell

theorem cell_then {W w1 : World} (hb : Below W.heap.size W w1) {b o : Nat} {v : Value} (h : W.cell? ⟨b, o, none⟩ = some v) : w1.cell? ⟨b, o, none⟩ = some v := by
  have hlt := World.block_lt_of_cell? W _ h
  rw [hb.cell (p := ⟨b, o, none⟩) hlt]; exact h

theorem past_alloc {w : World} {a : Addr} {v : Value} {o : Obj} (h : w.cell? a = some v) : (w.alloc o).cell? a = some v := by
  rw [World.cell?_alloc_lt _ _ _ (World.block_lt_of_cell? w a h)]; exact h
theorem past_drew {w : World} {a : Addr} {v : Value} (h : w.cell? a = some v) : w.drew.cell? a = some v := h
theorem past_set {w : World} {a p : Addr} {v u : Value} (h : w.cell? a = some v) (hp : a.block ≠ p.block) : (w.setCell p u).cell? a = some v := by
  rw [World.cell?_of_block (Below.heap_setCell w p u a.block hp)]; exact h
/-- a cell's five integers at the head of a block. -/
def Has (w : World) (p : Nat) (r f fg bg wd : Int) : Prop :=
  w.cell? ⟨p, 0, none⟩ = some (.int .i32 r) ∧ w.cell? ⟨p, 1, none⟩ = some (.int .i64 f) ∧ w.cell? ⟨p, 2, none⟩ = some (.int .i64 fg) ∧ w.cell? ⟨p, 3, none⟩ = some (.int .i64 bg) ∧ w.cell? ⟨p, 4, none⟩ = some (.int .i64 wd)
/-- what the three literals leave, in whatever order they were made. -/
def Three (w : World) (a0 f fg bg : Int) (s5 s6 s7 : Value) (wx : World) : Prop :=
  ∃ p q s : Nat, s5 = .pointer (some ⟨p, 0, none⟩) ∧ s6 = .pointer (some ⟨q, 0, none⟩) ∧ s7 = .pointer (some ⟨s, 0, none⟩) ∧
    Has wx p a0 f fg bg 0 ∧ Has wx q a0 f fg bg 1 ∧ Has wx s 0 f fg bg 2 ∧
    (wx.cell? ⟨w.heap.size, 0, none⟩ = some (.int .i64 f) ∧ wx.cell? ⟨w.heap.size, 1, none⟩ = some (.int .i64 fg) ∧ wx.cell? ⟨w.heap.size, 2, none⟩ = some (.int .i64 bg)) ∧ Below w.heap.size w wx
/-- what stands when the last line begins. -/
def Four (w : World) (a0 f fg bg : Int) (p q s : Nat) (s8 s9 : Value) (wx : World) : Prop :=
  ∃ b : Nat, s8 = .pointer (some ⟨b, 0, none⟩) ∧ s9 = .int .i64 (widthZ a0) ∧
    (wx.cell? ⟨p, 0, none⟩ = some (.int .i32 a0) ∧ wx.cell? ⟨p, 1, none⟩ = some (.int .i64 f) ∧ wx.cell? ⟨p, 2, none⟩ = some (.int .i64 fg) ∧ wx.cell? ⟨p, 3, none⟩ = some (.int .i64 bg) ∧ wx.cell? ⟨p, 4, none⟩ = some (.int .i64 0) ∧ wx.cell? ⟨q, 0, none⟩ = some (.int .i32 a0) ∧ wx.cell? ⟨q, 1, none⟩ = some (.int .i64 f) ∧ wx.cell? ⟨q, 2, none⟩ = some (.int .i64 fg) ∧ wx.cell? ⟨q, 3, none⟩ = some (.int .i64 bg) ∧ wx.cell? ⟨q, 4, none⟩ = some (.int .i64 1) ∧ wx.cell? ⟨s, 0, none⟩ = some (.int .i32 0) ∧ wx.cell? ⟨s, 1, none⟩ = some (.int .i64 f) ∧ wx.cell? ⟨s, 2, none⟩ = some (.int .i64 fg) ∧ wx.cell? ⟨s, 3, none⟩ = some (.int .i64 bg) ∧ wx.cell? ⟨s, 4, none⟩ = some (.int .i64 2) ∧ wx.cell? ⟨b, 0, none⟩ = some (.int .i32 32) ∧ wx.cell? ⟨b, 1, none⟩ = some (.int .i64 0) ∧ wx.cell? ⟨b, 2, none⟩ = some (.int .i64 0) ∧ wx.cell? ⟨b, 3, none⟩ = some (.int .i64 bg) ∧ wx.cell? ⟨b, 4, none⟩ = some (.int .i64 0) ∧ wx.cell? ⟨w.heap.size, 2, none⟩ = some (.int .i64 bg)) ∧ Below w.heap.size w wx
set_option maxRecDepth 100000 in
set_option maxHeartbeats 4000000 in
theorem walk (a0 : Int) (f fg bg : Int) (w : World) (_ : (Lit.int .i32 a0).wf = true) (_ : (Lit.int .i64 f).wf = true) (_ : (Lit.int .i64 fg).wf = true) (_ : (Lit.int .i64 bg).wf = true) :
    Calls Try.prog 4 #[.int .i32 a0, .agg #[.int .i64 f, .int .i64 fg, .int .i64 bg]] w fun e w' => e = .returned (.bool true) ∧ Below w.heap.size w w' := by
  go_enter Try.func4, Try.ntmps4
  go_wp2_with fail
  refine (first _).mono ?_
  rintro e w1 ⟨rfl, hb1⟩
  have c0 : w1.cell? ⟨w.heap.size, 0, none⟩ = some (.int .i64 f) := cell_then hb1 (by simp)
  have c1 : w1.cell? ⟨w.heap.size, 1, none⟩ = some (.int .i64 fg) := cell_then hb1 (by simp)
  have c2 : w1.cell? ⟨w.heap.size, 2, none⟩ = some (.int .i64 bg) := cell_then hb1 (by simp)
  have hw : Below w.heap.size w w1 := below_then ((Below.refl _ _).alloc (Nat.le_refl _) _) hb1 (by simp)
  clear hb1
  go_upto_region 3 with fail
  go_cut [5, 6, 7] (fun s5 s6 s7 wx => Three w a0 f fg bg s5 s6 s7 wx)
  case first =>
    have z0 : w.heap.size < w1.heap.size := by have := World.block_lt_of_cell? w1 _ c0; simpa using this
    go_region_held3 (fun W => W.cell? ⟨w.heap.size, 0, none⟩ = some (.int .i64 f) ∧ W.cell? ⟨w.heap.size, 1, none⟩ = some (.int .i64 fg) ∧ W.cell? ⟨w.heap.size, 2, none⟩ = some (.int .i64 bg)) (first | (go_split_ands; refine ⟨?_, ?_, ?_⟩ <;> (repeat (first | assumption | refine past_alloc ?_ | refine past_drew ?_ | refine past_set ?_ (by simp; omega))))) (fail)
    all_goals (go_wp2_with fail; go_meet; refine ⟨_, _, _, rfl, rfl, rfl, ?_⟩)
    all_goals refine ⟨?_, ?_, ?_, ⟨?_, ?_, ?_⟩, ?_⟩
    all_goals first
      | (simp [Has, go_sem]; done)
      | (with_reducible refine past_drew (past_alloc (past_alloc (past_alloc ?_))); assumption)
      | (exact (((hw.alloc (by omega) _).alloc (by simp only [World.size_alloc]; omega) _).alloc (by simp only [World.size_alloc]; omega) _).drew)
  case rest =>
    obtain ⟨p, q, s, rfl, rfl, rfl, ⟨p0, p1, p2, p3, p4⟩, ⟨q0, q1, q2, q3, q4⟩, ⟨s0, s1, s2, s3, s4⟩, ⟨b0, b1, b2⟩, hwx⟩ := hcut
    clear c0 c1 c2 hw
    have zp := World.block_lt_of_cell? wc _ p0
    have zq := World.block_lt_of_cell? wc _ q0
    have zs := World.block_lt_of_cell? wc _ s0
    have zb := World.block_lt_of_cell? wc _ b0
    simp only at zp zq zs zb
    have zb1 : w.heap.size < wc.heap.size + 1 := by omega
    have zb2 : w.heap.size < wc.heap.size + 1 + 1 := by omega
    have zp1 : p < wc.heap.size + 1 := by omega
    have zp2 : p < wc.heap.size + 1 + 1 := by omega
    have zp3 : p < wc.heap.size + 1 + 1 + 1 := by omega
    have zq1 : q < wc.heap.size + 1 := by omega
    have zq2 : q < wc.heap.size + 1 + 1 := by omega
    have zq3 : q < wc.heap.size + 1 + 1 + 1 := by omega
    have zs1 : s < wc.heap.size + 1 := by omega
    have zs2 : s < wc.heap.size + 1 + 1 := by omega
    have zs3 : s < wc.heap.size + 1 + 1 + 1 := by omega
    have wB : widthZ 32 = 1 := by decide
    have z0 : colB 0 = true := by decide
    have hway : (attrB f fg bg = false) ∨ (attrB f fg bg = true) := by cases attrB f fg bg <;> simp
    rcases hway with ha | ha
    · have e5 : mayB a0 f fg bg 0 = false := by simp [mayB, ha]
      have e6 : mayB a0 f fg bg 1 = false := by simp [mayB, ha]
      have e7 : mayB 0 f fg bg 2 = false := by simp [mayB, ha]
      clear wB z0
      go_wp2_with (first | (go_at_call 15; refine (cBlank _ _ _ _).mono ?_; rintro e w' ⟨rfl, rfl⟩) | (go_at_call 17; refine (mayAttr _ _ _ _).mono ?_; rintro e w' ⟨rfl, rfl⟩) | (go_at_call 13; refine (width _ _).mono ?_; rintro e w' ⟨rfl, rfl⟩))
      refine (first _).mono ?_
      rintro e w2 ⟨rfl, hb2⟩
      have P0 : w2.cell? ⟨p, 0, none⟩ = some (.int .i32 a0) := cell_then hb2 (by repeat (first | assumption | (with_reducible refine past_alloc ?_)))
      have P1 : w2.cell? ⟨p, 1, none⟩ = some (.int .i64 f) := cell_then hb2 (by repeat (first | assumption | (with_reducible refine past_alloc ?_)))
      have P2 : w2.cell? ⟨p, 2, none⟩ = some (.int .i64 fg) := cell_then hb2 (by repeat (first | assumption | (with_reducible refine past_alloc ?_)))
      have P3 : w2.cell? ⟨p, 3, none⟩ = some (.int .i64 bg) := cell_then hb2 (by repeat (first | assumption | (with_reducible refine past_alloc ?_)))
      have P4 : w2.cell? ⟨p, 4, none⟩ = some (.int .i64 0) := cell_then hb2 (by repeat (first | assumption | (with_reducible refine past_alloc ?_)))
      have Q0 : w2.cell? ⟨q, 0, none⟩ = some (.int .i32 a0) := cell_then hb2 (by repeat (first | assumption | (with_reducible refine past_alloc ?_)))
      have Q1 : w2.cell? ⟨q, 1, none⟩ = some (.int .i64 f) := cell_then hb2 (by repeat (first | assumption | (with_reducible refine past_alloc ?_)))
      have Q2 : w2.cell? ⟨q, 2, none⟩ = some (.int .i64 fg) := cell_then hb2 (by repeat (first | assumption | (with_reducible refine past_alloc ?_)))
      have Q3 : w2.cell? ⟨q, 3, none⟩ = some (.int .i64 bg) := cell_then hb2 (by repeat (first | assumption | (with_reducible refine past_alloc ?_)))
      have Q4 : w2.cell? ⟨q, 4, none⟩ = some (.int .i64 1) := cell_then hb2 (by repeat (first | assumption | (with_reducible refine past_alloc ?_)))
      have S0 : w2.cell? ⟨s, 0, none⟩ = some (.int .i32 0) := cell_then hb2 (by repeat (first | assumption | (with_reducible refine past_alloc ?_)))
      have S1 : w2.cell? ⟨s, 1, none⟩ = some (.int .i64 f) := cell_then hb2 (by repeat (first | assumption | (with_reducible refine past_alloc ?_)))
      have S2 : w2.cell? ⟨s, 2, none⟩ = some (.int .i64 fg) := cell_then hb2 (by repeat (first | assumption | (with_reducible refine past_alloc ?_)))
      have S3 : w2.cell? ⟨s, 3, none⟩ = some (.int .i64 bg) := cell_then hb2 (by repeat (first | assumption | (with_reducible refine past_alloc ?_)))
      have S4 : w2.cell? ⟨s, 4, none⟩ = some (.int .i64 2) := cell_then hb2 (by repeat (first | assumption | (with_reducible refine past_alloc ?_)))
      have hB2 := hb2.size
      simp only [World.size_alloc] at hB2
      have Yp0 : p < w2.heap.size := by omega
      have Yq0 : q < w2.heap.size := by omega
      have Ys0 : s < w2.heap.size := by omega
      have Yq1 : q < w2.heap.size + 1 := by omega
      have Yq2 : q < w2.heap.size + 1 + 1 := by omega
      have Yq3 : q < w2.heap.size + 1 + 1 + 1 := by omega
      have Yq4 : q < w2.heap.size + 1 + 1 + 1 + 1 := by omega
      have Ys1 : s < w2.heap.size + 1 := by omega
      have Ys2 : s < w2.heap.size + 1 + 1 := by omega
      have Ys3 : s < w2.heap.size + 1 + 1 + 1 := by omega
      have Ys4 : s < w2.heap.size + 1 + 1 + 1 + 1 := by omega
      clear p0 p1 p2 p3 p4 q0 q1 q2 q3 q4 s0 s1 s2 s3 s4
      go_wp2_with (go_at_call 19; refine (may _ _ _ _ _ _).mono ?_; rintro e w' ⟨rfl, rfl⟩)
      go_ret
      refine ⟨rfl, ?_⟩
      have hB1 := hwx.size
      repeat (first | exact hwx | refine Below.alloc ?_ (by first | omega | (simp only [World.size_alloc]; omega)) _ | refine below_then ?_ hb2 (by first | omega | (simp only [World.size_alloc]; omega)))
    · have hbg : colB bg = true := by revert ha; simp [attrB]
      have e7 : mayB 0 f fg bg 2 = true := by simp [mayB, ha]
      have e8 : mayB 32 0 0 bg 0 = true := by simp [mayB, attrB, z0, hbg, wB]
      have hk : widthZ a0 = 0 ∨ widthZ a0 = 1 ∨ widthZ a0 = 2 := by unfold widthZ; split <;> (try split) <;> simp
      have e5 : mayB a0 f fg bg 0 = (widthZ a0 == 1) := by simp [mayB, ha]
      have e6 : mayB a0 f fg bg 1 = (widthZ a0 == 2) := by simp [mayB, ha]
      clear wB z0 hbg
      go_upto_region 7 with (first | (go_at_call 15; refine (cBlank _ _ _ _).mono ?_; rintro e w' ⟨rfl, rfl⟩) | (go_at_call 17; refine (mayAttr _ _ _ _).mono ?_; rintro e w' ⟨rfl, rfl⟩) | (go_at_call 13; refine (width _ _).mono ?_; rintro e w' ⟨rfl, rfl⟩))
      go_cut [8, 9] (fun s8 s9 wx => Four w a0 f fg bg p q s s8 s9 wx)
      case first =>
        go_wp2_with (first | (go_at_call 15; refine (cBlank _ _ _ _).mono ?_; rintro e w' ⟨rfl, rfl⟩) | (go_at_call 17; refine (mayAttr _ _ _ _).mono ?_; rintro e w' ⟨rfl, rfl⟩) | (go_at_call 13; refine (width _ _).mono ?_; rintro e w' ⟨rfl, rfl⟩))
        go_meet
        refine ⟨wc.heap.size + 1 + 1, rfl, rfl, ⟨?_, ?_, ?_, ?_, ?_, ?_, ?_, ?_, ?_, ?_, ?_, ?_, ?_, ?_, ?_, ?_, ?_, ?_, ?_, ?_, ?_⟩, ?_⟩
        all_goals first
          | (with_reducible refine past_alloc (past_alloc (past_alloc (past_alloc ?_))); with_reducible assumption)
          | (simp [go_sem]; done)
          | skip
        have hB1 := hwx.size
        exact (((hwx.alloc (by omega) _).alloc (by simp only [World.size_alloc]; omega) _).alloc (by simp only [World.size_alloc]; omega) _).alloc (by simp only [World.size_alloc]; omega) _
      case rest =>
        clear p0 p1 p2 p3 p4 q0 q1 q2 q3 q4 s0 s1 s2 s3 s4 b0 b1 b2 zp zq zs zb zb1 zb2 zp1 zp2 zp3 zq1 zq2 zq3 zs1 zs2 zs3 hwx
        rename_i wd
        obtain ⟨b, rfl, rfl, ⟨l0, l1, l2, l3, l4, l5, l6, l7, l8, l9, l10, l11, l12, l13, l14, l15, l16, l17, l18, l19, l20⟩, hwd⟩ := hcut
        rcases hk with hk | hk | hk
        all_goals
          rw [hk] at e5 e6
          simp only [show ((0 : Int) == 1) = false from rfl, show ((0 : Int) == 2) = false from rfl, show ((1 : Int) == 1) = true from rfl, show ((1 : Int) == 2) = false from rfl, show ((2 : Int) == 1) = false from rfl, show ((2 : Int) == 2) = true from rfl] at e5 e6
          go_wp2_with fail
          go_region_held3 (fun W => W.cell? ⟨p, 0, none⟩ = some (.int .i32 a0) ∧ W.cell? ⟨p, 1, none⟩ = some (.int .i64 f) ∧ W.cell? ⟨p, 2, none⟩ = some (.int .i64 fg) ∧ W.cell? ⟨p, 3, none⟩ = some (.int .i64 bg) ∧ W.cell? ⟨p, 4, none⟩ = some (.int .i64 0) ∧ W.cell? ⟨q, 0, none⟩ = some (.int .i32 a0) ∧ W.cell? ⟨q, 1, none⟩ = some (.int .i64 f) ∧ W.cell? ⟨q, 2, none⟩ = some (.int .i64 fg) ∧ W.cell? ⟨q, 3, none⟩ = some (.int .i64 bg) ∧ W.cell? ⟨q, 4, none⟩ = some (.int .i64 1) ∧ W.cell? ⟨s, 0, none⟩ = some (.int .i32 0) ∧ W.cell? ⟨s, 1, none⟩ = some (.int .i64 f) ∧ W.cell? ⟨s, 2, none⟩ = some (.int .i64 fg) ∧ W.cell? ⟨s, 3, none⟩ = some (.int .i64 bg) ∧ W.cell? ⟨s, 4, none⟩ = some (.int .i64 2) ∧ W.cell? ⟨b, 0, none⟩ = some (.int .i32 32) ∧ W.cell? ⟨b, 1, none⟩ = some (.int .i64 0) ∧ W.cell? ⟨b, 2, none⟩ = some (.int .i64 0) ∧ W.cell? ⟨b, 3, none⟩ = some (.int .i64 bg) ∧ W.cell? ⟨b, 4, none⟩ = some (.int .i64 0) ∧ W.cell? ⟨w.heap.size, 2, none⟩ = some (.int .i64 bg))
            (first | go_keep | (go_split_ands; exact ⟨cell_then hb2 (by assumption), cell_then hb2 (by assumption), cell_then hb2 (by assumption), cell_then hb2 (by assumption), cell_then hb2 (by assumption), cell_then hb2 (by assumption), cell_then hb2 (by assumption), cell_then hb2 (by assumption), cell_then hb2 (by assumption), cell_then hb2 (by assumption), cell_then hb2 (by assumption), cell_then hb2 (by assumption), cell_then hb2 (by assumption), cell_then hb2 (by assumption), cell_then hb2 (by assumption), cell_then hb2 (by assumption), cell_then hb2 (by assumption), cell_then hb2 (by assumption), cell_then hb2 (by assumption), cell_then hb2 (by assumption), cell_then hb2 (by assumption)⟩) | (go_split_ands; refine ⟨?_, ?_, ?_, ?_, ?_, ?_, ?_, ?_, ?_, ?_, ?_, ?_, ?_, ?_, ?_, ?_, ?_, ?_, ?_, ?_, ?_⟩ <;> (repeat (first | (with_reducible assumption) | (with_reducible refine past_drew ?_) | (with_reducible refine past_alloc ?_)))))
            (first | (go_at_call 12; refine (first _).mono ?_; rintro e w2 ⟨rfl, hb2⟩) | (go_at_call 15; refine (cBlank _ _ _ _).mono ?_; rintro e w' ⟨rfl, rfl⟩) | (go_at_call 19; refine (may _ _ _ _ _ _).mono ?_; rintro e w' ⟨rfl, rfl⟩))
        all_goals go_wp2
        all_goals go_ret
        all_goals refine ⟨rfl, ?_⟩
        all_goals have hB2 := hb2.size
        all_goals simp only [World.size_alloc, World.size_drew] at hB2
        all_goals have hB1 := hwd.size
        all_goals repeat (first | exact hwd | (with_reducible refine Below.drew ?_) | (with_reducible refine Below.alloc ?_ (by first | omega | (simp only [World.size_alloc, World.size_drew]; omega)) _) | (with_reducible refine below_then ?_ hb2 (by first | omega | (simp only [World.size_alloc, World.size_drew]; omega))))
end Go.Proofs.Ytkpneocolbmnpaa.May
