/- The chapter's examples: tiklaw24.first. -/
import Derived.Test.YthihkbnkbajglaaGreatDoorCm
set_option linter.unusedVariables false
namespace Go.Proofs.YthihkbnkbajglaaGreatDoor.Fo
open Go Go.RowKit Kit Nums Rate0 CkMath Ly Fi Cm

def l12 : ByteArray := ⟨#[49, 50]⟩
def s12 : ByteArray := ⟨#[115, 101, 101, 107, 32, 49, 50]⟩
theorem small12 (w : World) : Calls Tryz.prog 95 #[.int .i64 12] w fun e w' => e = .returned (.string l12) ∧ w' = w := by
  have h := smallC 12 (by decide) w
  rwa [show (⟨(Lib.decDigits (12 : Nat)).toArray⟩ : ByteArray) = l12 from by kernel_rfl] at h
theorem fmt12i (w : World) : Calls Tryz.prog 76 #[.int .u64 12, .int .i64 10] w fun e w' => e = .returned (.string l12) ∧ w' = w := by
  have HS := Lib.hid small12
  go_enter Tryz.func76, Tryz.ntmps76
  go_wp2_with (first | (go_at_call 95; refine (HS.out _).mono ?_; rintro e w2 ⟨rfl, rfl⟩))
  all_goals go_ret
  all_goals exact ⟨rfl, rfl⟩
theorem fmt12 (w : World) : Calls Tryz.prog 54 #[.int .u64 12, .int .i64 10] w fun e w' => e = .returned (.string l12) ∧ w' = w := by
  have HS := Lib.hid fmt12i
  go_enter Tryz.func54, Tryz.ntmps54
  go_wp2_with (first | (go_at_call 76; refine (HS.out _).mono ?_; rintro e w2 ⟨rfl, rfl⟩))
  all_goals go_ret
  all_goals exact ⟨rfl, rfl⟩
theorem may12 : mayB 4 12 0 = true := by decide
theorem may0 : mayB 0 0 0 = false := by decide
theorem add12 (w : World) : (binOp .add 9 (.string ⟨#[115, 101, 101, 107, 32]⟩) (.string l12)).run Tryz.prog w = .ok (.string s12) w := by kernel_rfl
set_option maxRecDepth 100000 in
theorem print12 (w : World) : Calls Tryz.prog 24 #[.agg #[.int .i64 4, .int .u64 12, .float .f64 0]] w fun e w' => e = .returned (.string s12) ∧ Below w.heap.size w w' := by
  have hb := heap_alloc_new w (.cells #[.int .i64 4, .int .u64 12, .float .f64 0] 33)
  have hb0 := (Below.refl w.heap.size w).alloc (Nat.le_refl _) (.cells #[.int .i64 4, .int .u64 12, .float .f64 0] 33)
  have HM := Lib.hid (show Calls Tryz.prog 21 #[.agg #[.int .i64 4, .int .u64 12, .float .f64 0]] (w.alloc (.cells #[.int .i64 4, .int .u64 12, .float .f64 0] 33)) fun e w' => e = .returned (.bool true) ∧ Below (w.alloc (.cells #[.int .i64 4, .int .u64 12, .float .f64 0] 33)).heap.size (w.alloc (.cells #[.int .i64 4, .int .u64 12, .float .f64 0] 33)) w' from may12 ▸ mayC 4 12 0 ⟨by decide, by decide⟩ _)
  have z1 : w.heap.size < (w.alloc (.cells #[.int .i64 4, .int .u64 12, .float .f64 0] 33)).heap.size := by simp
  have HH : Hid (∀ w2, Below (w.alloc (.cells #[.int .i64 4, .int .u64 12, .float .f64 0] 33)).heap.size (w.alloc (.cells #[.int .i64 4, .int .u64 12, .float .f64 0] 33)) w2 → Below w.heap.size w w2 ∧ w2.heap[w.heap.size]? = some (.cells #[.int .i64 4, .int .u64 12, .float .f64 0] 33 (0, 0))) := Lib.hid (fun w2 hb2 => ⟨nextB hb0 hb2, (hb2.block _ z1).trans hb⟩)
  have HF := Lib.hid fmt12
  clear hb hb0 z1
  go_enter Tryz.func24, Tryz.ntmps24
  go_wp2_with fail
  refine HM.out.mono ?_
  rintro e w2 ⟨rfl, hb2⟩
  obtain ⟨hW, hB⟩ := HH.out _ hb2
  have HW := Lib.hid hW
  have x0 : w2.cell? ⟨w.heap.size, 0, none⟩ = some (.int .i64 4) := by simp [World.cell?, hB]
  have x1 : w2.cell? ⟨w.heap.size, 1, none⟩ = some (.int .u64 12) := by simp [World.cell?, hB]
  clear hB hb2 hW
  have ha := add12 w2
  go_wp2_with fail
  refine (HF.out _).mono ?_
  rintro e w3 ⟨rfl, rfl⟩
  go_wp2
  go_ret
  exact ⟨rfl, HW.out⟩
set_option maxRecDepth 100000 in
theorem firstC (w : World) : Calls Tryz.prog 6 #[] w fun e w' => e = .returned (.bool true) ∧ Below w.heap.size w w' := by
  have P2 := Lib.hid parse32
  have P0 := Lib.hid parse30
  have HB : Hid (∀ w : World, Calls Tryz.prog 18 #[.float .f64 4609434218613702656] w fun e w' => e = .returned (.int .u64 4609434218613702656) ∧ w = w') := Lib.hid (fun w => bitsC 4609434218613702656 w ⟨by decide, by decide⟩)
  have HP := Lib.hid print12
  have HM : Hid (∀ w : World, Calls Tryz.prog 21 #[.agg #[.int .i64 0, .int .u64 0, .float .f64 0]] w fun e w' => e = .returned (.bool false) ∧ Below w.heap.size w w') := Lib.hid (fun w => may0 ▸ mayC 0 0 0 ⟨by decide, by decide⟩ w)
  have e1 : (s12.toList == [115, 101, 101, 107, 32, 49, 50]) = true := by decide +kernel
  have hsf := stF
  go_enter Tryz.func6, Tryz.ntmps6
  go_wp2_with fail
  refine (P2.out _).mono ?_
  rintro e w1 ⟨rfl, hb1⟩
  have HW1 := Lib.hid hb1
  clear hb1
  go_wp2_with fail
  refine (P0.out _).mono ?_
  rintro e w2 ⟨rfl, hb2⟩
  have hB : w2.heap[w1.heap.size]? = some (.cells #[.int .i64 5, .int .u64 0, .float .f64 4609434218613702656] 33 (0, 0)) := (hb2.block _ (by simp)).trans (heap_alloc_new w1 _)
  have z2 : w1.heap.size < w2.heap.size := by have := hb2.size; simp at this; omega
  have HW2 := Lib.hid (nextB HW1.out (nextB ((Below.refl w1.heap.size w1).alloc (Nat.le_refl _) (.cells #[.int .i64 5, .int .u64 0, .float .f64 4609434218613702656] 33)) hb2))
  have x0 : w2.cell? ⟨w1.heap.size, 0, none⟩ = some (.int .i64 5) := by simp [World.cell?, hB]
  have x2 : w2.cell? ⟨w1.heap.size, 2, none⟩ = some (.float .f64 4609434218613702656) := by simp [World.cell?, hB]
  clear hb2 hB
  have HW3 := Lib.hid (nextB HW2.out ((Below.refl w2.heap.size w2).alloc (Nat.le_refl _) (.cells #[.int .i64 0, .int .u64 0, .float .f64 0] 33)))
  go_wp2_with (first
    | (go_at_call 18; refine (HB.out _).mono ?_; rintro e w3 ⟨rfl, rfl⟩)
    | (go_at_call 24; refine (HP.out _).mono ?_; rintro e w4 ⟨rfl, hb4⟩; have HW4 := Lib.hid (nextB HW3.out hb4); clear hb4)
    | (go_at_call 21; refine (HM.out _).mono ?_; rintro e w5 ⟨rfl, hb5⟩; have HW5 := Lib.hid (nextB HW4.out hb5); clear hb5))
  all_goals go_ret
  all_goals exact ⟨rfl, HW5.out⟩
end Go.Proofs.YthihkbnkbajglaaGreatDoor.Fo
