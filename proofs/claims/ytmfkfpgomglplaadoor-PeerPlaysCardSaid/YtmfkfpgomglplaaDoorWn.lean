/- Windows. -/
import Derived.Test.YtmfkfpgomglplaaDoorPk
import Derived.Deep.WholeRow
set_option linter.unusedVariables false
namespace Go.Proofs.YtmfkfpgomglplaaDoor.Wn
open Go Go.RowKit Kit Mb Pk


/-- a window: its block holds the last number. -/
def Wn (w : World) (g : Nat) (n : Nat) : Prop := w.heap[g]? = some (.cells #[.int .u64 (n : Int)] 91 (0, 0))
theorem Wn.cell {w : World} {g n : Nat} (h : Wn w g n) : w.cell? ⟨g, 0, none⟩ = some (.int .u64 (n : Int)) := by rw [cell_of_row w g 0 _ 91 _ h]; rfl
theorem Wn.free {w : World} {g n : Nat} (h : Wn w g n) : w.frozen? ⟨g, 0, none⟩ = false := frozen_of_row w g 0 _ 91 h
theorem Wn.set {w : World} {g n : Nat} (h : Wn w g n) (m : Nat) : Wn (w.setCell ⟨g, 0, none⟩ (.int .u64 (m : Int))) g m := by
  unfold Wn; rw [heap_setCell_same w g 0 _ 91 _ h]; rfl
theorem Wn.then {w w1 : World} {g n B : Nat} (h : Wn w g n) (hb : Below B w w1) (hB : w.heap.size ≤ B) : Wn w1 g n := by
  unfold Wn; rw [hb.block g (Nat.lt_of_lt_of_le (Array.getElem?_eq_some_iff.1 h).1 hB)]; exact h
theorem Wn.lt {w : World} {g n : Nat} (h : Wn w g n) : g < w.heap.size := (Array.getElem?_eq_some_iff.1 h).1
theorem newWindowC (n : Nat) (w : World) : Calls Tryd.prog 33 #[.int .u64 (n : Int)] w fun e w' => e = .returned (.pointer (some ⟨w.heap.size, 0, none⟩)) ∧ Wn w' w.heap.size n ∧ Below w.heap.size w w' := by
  go_enter Tryd.func33, Tryd.ntmps33
  go_wp2
  go_ret
  exact ⟨rfl, heap_alloc_last w _, (Below.refl _ _).alloc (Nat.le_refl _) _⟩
theorem freshC (g n m : Nat) (w : World) (r : Bool) (hr : r = decide (n < m)) (h : Wn w g n) : Calls Tryd.prog 34 #[.pointer (some ⟨g, 0, none⟩), .int .u64 (m : Int)] w fun e w' => e = .returned (.bool r) ∧ w = w' := by
  have c0 := h.cell
  subst hr
  clear h
  by_cases hn : n < m
  · have hd : decide (n < m) = true := decide_eq_true hn
    rw [hd]
    go_enter Tryd.func34, Tryd.ntmps34
    go_wp2
    go_ret
    exact ⟨rfl, rfl⟩
  · have hd : decide (n < m) = false := decide_eq_false hn
    rw [hd]
    go_enter Tryd.func34, Tryd.ntmps34
    go_wp2
    go_ret
    exact ⟨rfl, rfl⟩
theorem takeNew (g n m : Nat) (w : World) (hn : n < m) (h : Wn w g n) : Calls Tryd.prog 35 #[.pointer (some ⟨g, 0, none⟩), .int .u64 (m : Int)] w fun e w' => e = .returned (.int .i64 0) ∧ Wn w' g m ∧ w' = w.setCell ⟨g, 0, none⟩ (.int .u64 (m : Int)) := by
  have c0 := h.cell
  have f0 := h.free
  have HW := Lib.hid (h.set m)
  have K := fun w1 h1 => freshC g n m w1 true (decide_eq_true hn).symm h1
  have H := Lib.hid h
  clear h hn
  go_enter Tryd.func35, Tryd.ntmps35
  go_wp2_with (go_at_call 34; refine (K _ H.out).mono ?_; rintro e w' ⟨rfl, rfl⟩)
  go_ret
  exact ⟨rfl, HW.out, rfl⟩
theorem takeOld (g n m : Nat) (w : World) (hn : ¬ n < m) (h : Wn w g n) : Calls Tryd.prog 35 #[.pointer (some ⟨g, 0, none⟩), .int .u64 (m : Int)] w fun e w' => e = .returned (.int .i64 14) ∧ w = w' := by
  have K := fun w1 h1 => freshC g n m w1 false (decide_eq_false hn).symm h1
  have H := Lib.hid h
  clear h hn
  go_enter Tryd.func35, Tryd.ntmps35
  go_wp2_with (go_at_call 34; refine (K _ H.out).mono ?_; rintro e w' ⟨rfl, rfl⟩)
  go_ret
  exact ⟨rfl, rfl⟩
theorem lastC (g n : Nat) (w : World) (h : Wn w g n) : Calls Tryd.prog 36 #[.pointer (some ⟨g, 0, none⟩)] w fun e w' => e = .returned (.int .u64 (n : Int)) ∧ w = w' := by
  have c0 := h.cell
  clear h
  go_enter Tryd.func36, Tryd.ntmps36
  go_wp2
  go_ret
  exact ⟨rfl, rfl⟩

end Go.Proofs.YtmfkfpgomglplaaDoor.Wn
