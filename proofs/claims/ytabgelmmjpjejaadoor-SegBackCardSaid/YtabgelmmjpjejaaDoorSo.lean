/- What may stand behind what is there. -/
import Derived.Test.YtabgelmmjpjejaaDoorSf
import Derived.BigQuiet
set_option linter.unusedVariables false
namespace Go.Proofs.YtabgelmmjpjejaaDoor.So
open Go Go.RowKit Kit Crc Var Get Ref3 Copy Bytes Bx Py Py2 Ry Rz Dn Df Dd Da Dc Rs Rf Rg Ar Bg Hd Sn Rh Sr


theorem bdN {B : Nat} {a w : World} (h : Below B a w) (n : Nat) : Below B a (w.drewN n) := ⟨h.os, h.tape, h.output, h.size, h.block⟩
theorem scan_at {w : World} {g6 : Nat} {N F : Nat} {v : Value} {q : Int} (h : w.heap[g6]? = some (.cells #[.int .i64 (N : Int), .int .u64 (F : Int), v, .int .i64 q] 56 (0, 0))) (o : Obj) : (w.alloc o).cell? ⟨g6, 1, none⟩ = some (.int .u64 (F : Int)) ∧ (w.alloc o).cell? ⟨g6, 2, none⟩ = some v := by
  have h2 := alloc_row h o
  exact ⟨(four_cells h2).2.1, (four_cells h2).2.2.1⟩
theorem box_at (w : World) (k : Int) (s t : Nat) (a : Option Addr) (m c : Nat) : (w.alloc (.cells #[.int .i64 k, .int .u64 (s : Int), .int .u64 (t : Int), .slice a m c] 25)).cell? ⟨w.heap.size, 0, none⟩ = some (.int .i64 k) ∧ (w.alloc (.cells #[.int .i64 k, .int .u64 (s : Int), .int .u64 (t : Int), .slice a m c] 25)).cell? ⟨w.heap.size, 1, none⟩ = some (.int .u64 (s : Int)) ∧ (w.alloc (.cells #[.int .i64 k, .int .u64 (s : Int), .int .u64 (t : Int), .slice a m c] 25)).cell? ⟨w.heap.size, 2, none⟩ = some (.int .u64 (t : Int)) := by
  refine ⟨?_, ?_, ?_⟩ <;> (rw [cell_of_row _ w.heap.size _ _ 25 (0, 0) (heap_alloc_last w _)]; rfl)

set_option maxRecDepth 100000 in
set_option maxHeartbeats 2000000 in
theorem folNone (g6 N F : Nat) (a0 : Option Addr) (c0 : Nat) (q k : Int) (s t : Nat) (a : Option Addr) (m c : Nat) (w : World) (h : w.heap[g6]? = some (.cells #[.int .i64 (N : Int), .int .u64 (F : Int), .slice a0 0 c0, .int .i64 q] 56 (0, 0))) (r : Bool) (hr : r = (decide (k = 1) && decide (s = F))) :
    Calls Tryd.prog 49 #[.pointer (some ⟨g6, 0, none⟩), .agg #[.int .i64 k, .int .u64 (s : Int), .int .u64 (t : Int), .slice a m c]] w fun e w' => e = .returned (.bool r) ∧ Below w.heap.size w w' := by
  obtain ⟨p1, p2⟩ := scan_at h (.cells #[.int .i64 k, .int .u64 (s : Int), .int .u64 (t : Int), .slice a m c] 25)
  obtain ⟨q0, q1, q2⟩ := box_at w k s t a m c
  have HB0 := Lib.hid ((Below.refl w.heap.size w).alloc (Nat.le_refl _) (.cells #[.int .i64 k, .int .u64 (s : Int), .int .u64 (t : Int), .slice a m c] 25))
  clear h
  by_cases h0 : k = 1
  · have j0 : (k == 1) = true := by rw [beq_iff_eq]; exact h0
    have i0 : decide (k = 1) = true := decide_eq_true h0
    by_cases h1 : s = F
    · have j1 : ((s : Int) == (F : Int)) = true := by rw [beq_iff_eq]; omega
      have i1 : decide ((s : Int) = (F : Int)) = true := decide_eq_true (by omega)
      have hq : r = true := by rw [hr]; simp [h0, h1]
      subst hq
      clear hr h0 h1
      go_enter Tryd.func49, Tryd.ntmps49
      go_wp2
      go_quiet (fail)
      go_wp2
      go_ret
      exact ⟨rfl, bdN HB0.out _⟩
    · have j1 : ((s : Int) == (F : Int)) = false := by rw [beq_eq_false_iff_ne]; omega
      have i1 : decide ((s : Int) = (F : Int)) = false := decide_eq_false (by omega)
      have hq : r = false := by rw [hr]; simp [h1]
      subst hq
      clear hr h0 h1
      go_enter Tryd.func49, Tryd.ntmps49
      go_wp2
      go_quiet (fail)
      go_wp2
      go_ret
      exact ⟨rfl, bdN HB0.out _⟩
  · have j0 : (k == 1) = false := by rw [beq_eq_false_iff_ne]; exact h0
    have i0 : decide (k = 1) = false := decide_eq_false h0
    have hq : r = false := by rw [hr]; simp [h0]
    subst hq
    clear hr h0
    go_enter Tryd.func49, Tryd.ntmps49
    go_wp2
    go_quiet (fail)
    go_wp2
    go_ret
    exact ⟨rfl, bdN HB0.out _⟩

theorem part_at (w : World) (S T : Nat) (K : Int) (pa : Option Addr) (pm pc : Nat) (p1 p2 : Int) : (w.alloc (.cells #[.int .i64 K, .int .u64 (S : Int), .int .u64 (T : Int), .slice pa pm pc, .int .i64 p1, .int .i64 p2] 72)).cell? ⟨w.heap.size, 1, none⟩ = some (.int .u64 (S : Int)) ∧ (w.alloc (.cells #[.int .i64 K, .int .u64 (S : Int), .int .u64 (T : Int), .slice pa pm pc, .int .i64 p1, .int .i64 p2] 72)).cell? ⟨w.heap.size, 2, none⟩ = some (.int .u64 (T : Int)) := by
  refine ⟨?_, ?_⟩ <;> (rw [cell_of_row _ w.heap.size _ _ 72 (0, 0) (heap_alloc_last w _)]; rfl)
set_option maxRecDepth 100000 in
set_option maxHeartbeats 2000000 in
theorem folSome (g6 N F g j pcap : Nat) (S T : Nat) (K p1 p2 q k : Int) (pa : Option Addr) (pm pc : Nat) (s t : Nat) (a : Option Addr) (m c : Nat) (w : World) (h : w.heap[g6]? = some (.cells #[.int .i64 (N : Int), .int .u64 (F : Int), .slice (some ⟨g, 0, none⟩) (j + 1) pcap, .int .i64 q] 56 (0, 0))) (d0x : w.cell? ⟨g, j * 6, none⟩ = some (.int .i64 K)) (d1x : w.cell? ⟨g, j * 6 + 1, none⟩ = some (.int .u64 (S : Int))) (d2x : w.cell? ⟨g, j * 6 + 2, none⟩ = some (.int .u64 (T : Int))) (d3x : w.cell? ⟨g, j * 6 + 3, none⟩ = some (.slice pa pm pc)) (d4x : w.cell? ⟨g, j * 6 + 4, none⟩ = some (.int .i64 p1)) (d5x : w.cell? ⟨g, j * 6 + 5, none⟩ = some (.int .i64 p2)) (hj : j ≤ 1000000) (hS : S + 1 < 18446744073709551616) (r : Bool) (hr : r = (decide (s = S + 1) && decide (T ≤ t))) :
    Calls Tryd.prog 49 #[.pointer (some ⟨g6, 0, none⟩), .agg #[.int .i64 k, .int .u64 (s : Int), .int .u64 (t : Int), .slice a m c]] w fun e w' => e = .returned (.bool r) ∧ Below w.heap.size w w' := by
  obtain ⟨x1, x2⟩ := scan_at h (.cells #[.int .i64 k, .int .u64 (s : Int), .int .u64 (t : Int), .slice a m c] 25)
  obtain ⟨q0, q1, q2⟩ := box_at w k s t a m c
  have d0 := past_alloc (o := .cells #[.int .i64 k, .int .u64 (s : Int), .int .u64 (t : Int), .slice a m c] 25) d0x
  have d1 := past_alloc (o := .cells #[.int .i64 k, .int .u64 (s : Int), .int .u64 (t : Int), .slice a m c] 25) d1x
  have d2 := past_alloc (o := .cells #[.int .i64 k, .int .u64 (s : Int), .int .u64 (t : Int), .slice a m c] 25) d2x
  have d3 := past_alloc (o := .cells #[.int .i64 k, .int .u64 (s : Int), .int .u64 (t : Int), .slice a m c] 25) d3x
  have d4 := past_alloc (o := .cells #[.int .i64 k, .int .u64 (s : Int), .int .u64 (t : Int), .slice a m c] 25) d4x
  have d5 := past_alloc (o := .cells #[.int .i64 k, .int .u64 (s : Int), .int .u64 (t : Int), .slice a m c] 25) d5x
  have HB0 := Lib.hid ((Below.refl w.heap.size w).alloc (Nat.le_refl _) (.cells #[.int .i64 k, .int .u64 (s : Int), .int .u64 (t : Int), .slice a m c] 25))
  have wS : IntKind.u64.wrap ((S : Int) + 1) = (S : Int) + 1 := by rw [IntKind.wrap_u64]; omega
  clear h d0x d1x d2x d3x d4x d5x
  obtain ⟨z1, z2⟩ := part_at (w.alloc (.cells #[.int .i64 k, .int .u64 (s : Int), .int .u64 (t : Int), .slice a m c] 25)) S T K pa pm pc p1 p2
  have z0 : ((j : Int) + 1 == 0) = false := by rw [beq_eq_false_iff_ne]; omega
  have HB1 := Lib.hid (HB0.out.alloc HB0.out.size (.cells #[.int .i64 K, .int .u64 (S : Int), .int .u64 (T : Int), .slice pa pm pc, .int .i64 p1, .int .i64 p2] 72))
  by_cases h0 : s = S + 1
  · have j0 : ((s : Int) == ((S : Int) + 1)) = true := by rw [beq_iff_eq]; omega
    have i0 : decide ((s : Int) = ((S : Int) + 1)) = true := decide_eq_true (by omega)
    by_cases h1 : T ≤ t
    · have i1 : decide ((T : Int) ≤ (t : Int)) = true := decide_eq_true (by omega)
      have i2 : decide (T ≤ t) = true := decide_eq_true h1
      have hq : r = true := by rw [hr]; simp [h0, h1]
      subst hq
      clear hr h0 h1
      go_enter Tryd.func49, Tryd.ntmps49
      go_wp2
      go_ret
      exact ⟨rfl, HB1.out⟩
    · have i1 : decide ((T : Int) ≤ (t : Int)) = false := decide_eq_false (by omega)
      have i2 : decide (T ≤ t) = false := decide_eq_false h1
      have hq : r = false := by rw [hr]; simp [h1]
      subst hq
      clear hr h0 h1
      go_enter Tryd.func49, Tryd.ntmps49
      go_wp2
      go_ret
      exact ⟨rfl, HB1.out⟩
  · have j0 : ((s : Int) == ((S : Int) + 1)) = false := by rw [beq_eq_false_iff_ne]; omega
    have i0 : decide ((s : Int) = ((S : Int) + 1)) = false := decide_eq_false (by omega)
    have hq : r = false := by rw [hr]; simp [h0]
    subst hq
    clear hr h0
    go_enter Tryd.func49, Tryd.ntmps49
    go_wp2
    go_ret
    exact ⟨rfl, HB1.out⟩

end Go.Proofs.YtabgelmmjpjejaaDoor.So
