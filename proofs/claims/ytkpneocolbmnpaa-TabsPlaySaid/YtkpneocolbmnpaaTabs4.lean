/- Package tabs: New; the examples of chapter 10. -/
import Derived.Test.YtkpneocolbmnpaaTabs3
set_option linter.unusedVariables false
namespace Go.Proofs.Ytkpneocolbmnpaa.Tabs
open Go Go.RowKit Kit Ints TabsMath

/-- what New answers. -/
def NewP (w : World) (n : Nat) (e : Ending) (w' : World) : Prop :=
  ∃ b, e = .returned (.tuple #[.pointer (some ⟨w.heap.size, 0, none⟩), .int .i64 0]) ∧ St w' w.heap.size b (resL [] n) ∧ Below w.heap.size w w' ∧ w.heap.size < b
def NewNo (w : World) (e : Ending) (w' : World) : Prop := e = .returned (.tuple #[.pointer none, .int .i64 1]) ∧ Below w.heap.size w w'
theorem below_of_grown {w w' : World} {B p : Nat} (h : w.grownBy w' (some p)) (hB : B ≤ p) (hs : B ≤ w.heap.size) : Below B w w' :=
  ⟨h.os, h.tape, h.output, h.size, fun k hk => h.block k (by omega) (fun e => by injection e; omega)⟩
set_option maxRecDepth 100000 in
theorem newC (n : Nat) (w : World) (h1 : 1 ≤ n) (h2 : n ≤ 200) : Calls Try.prog 27 #[.int .i64 (n : Int)] w (NewP w n) := by
  go_enter Try.func27, Try.ntmps27
  go_wp2_with fail
  refine (resizeC w.heap.size none [] n _ ⟨Array.getElem?_push_size, .inl ⟨rfl, rfl⟩⟩ (by simp) h1 h2).mono ?_
  rintro e w1 ⟨rfl, hst, hg⟩
  rw [Int.toNat_natCast] at hst
  go_wp2
  go_ret2
  refine ⟨_, rfl, hst, ?_, by simp⟩
  exact ((Below.refl _ _).alloc (Nat.le_refl _) _).trans (below_of_grown hg (Nat.le_refl _) (by simp))
set_option maxRecDepth 100000 in
theorem newNo (cols : Int) (w : World) (hc : cols < 1 ∨ 200 < cols) : Calls Try.prog 27 #[.int .i64 cols] w (NewNo w) := by
  go_enter Try.func27, Try.ntmps27
  go_wp2_with fail
  refine (resizeNo w.heap.size cols _ hc).mono ?_
  rintro e w1 ⟨rfl, rfl⟩
  go_wp2
  go_ret2
  exact ⟨rfl, (Below.refl _ _).alloc (Nat.le_refl _) _⟩
theorem n1 : nextZ (resL [] 20) 0 1 = 8 := by decide
theorem n2 : nextZ (resL [] 20) 16 1 = 19 := by decide
theorem p1 : prevZ (resL [] 20) 9 1 = 8 := by decide
theorem p2 : prevZ (resL [] 20) 3 1 = 0 := by decide
theorem l1 : stops (resL [] 20) = [8, 16] := by decide
set_option maxRecDepth 100000 in
set_option maxHeartbeats 1000000 in
theorem first (w : World) : Calls Try.prog 26 #[] w fun e w' => e = .returned (.bool true) ∧ Below w.heap.size w w' := by
  have N1 := Lib.hid n1
  have N2 := Lib.hid n2
  have P1 := Lib.hid p1
  have P2 := Lib.hid p2
  have L1 := Lib.hid l1
  have HL := Lib.hid (resL_len [] 20)
  go_enter Try.func26, Try.ntmps26
  go_wp2_with fail
  refine (newC 20 w (by omega) (by omega)).mono ?_
  rintro e w1 ⟨b, rfl, hst, hb, _⟩
  generalize resL [] 20 = l at *
  go_wp2_with fail
  refine (nextC w.heap.size b l 0 1 w1 hst (by rw [HL.out]; omega) (by rw [HL.out]; omega) (by omega)).mono ?_
  rw [N1.out]
  rintro e w2 ⟨rfl, rfl⟩
  go_wp2_with fail
  refine (nextC w.heap.size b l 16 1 w1 hst (by rw [HL.out]; omega) (by rw [HL.out]; omega) (by omega)).mono ?_
  rw [N2.out]
  rintro e w2 ⟨rfl, rfl⟩
  go_wp2_with fail
  refine (prevC w.heap.size b l 9 1 w1 hst (by rw [HL.out]; omega) (by rw [HL.out]; omega) (by omega)).mono ?_
  rw [P1.out]
  rintro e w2 ⟨rfl, rfl⟩
  go_wp2_with fail
  refine (prevC w.heap.size b l 3 1 w1 hst (by rw [HL.out]; omega) (by rw [HL.out]; omega) (by omega)).mono ?_
  rw [P2.out]
  rintro e w2 ⟨rfl, rfl⟩
  go_wp2_with fail
  refine (listC w.heap.size b l w1 hst (by rw [HL.out]; omega)).mono ?_
  rw [L1.out]
  rintro e w2 ⟨a, cap, rfl, hcap, hI, hb2⟩
  go_wp2_with fail
  refine (intsC a (some ⟨w2.heap.size, 0, none⟩) cap 2 [8, 16] [8, 16] _ (by decide) (ints_alloc hI) (ints_new rfl rfl 3)).mono ?_
  rintro e w3 ⟨rfl, k, rfl⟩
  go_wp2
  go_ret
  exact ⟨rfl, below_drewN (below_al (below_next hb hb2)) _⟩
end Go.Proofs.Ytkpneocolbmnpaa.Tabs
