/- Contracts of Seconds and Ticks, the code's and the document's, over this seat's translation. -/
import Derived.Test.YthihkbnkbajglaaGreatDoorRate0
import Derived.Test.YthihkbnkbajglaaGreatDoorFlt
namespace Go.Proofs.YthihkbnkbajglaaGreatDoor.Rate1
open Go Go.RowKit Kit Nums Rate0 Flt

theorem ret_float {a b : Nat} (h : a = b) : Ending.returned (.float .f64 a) = .returned (.float .f64 b) := by rw [h]
theorem errU_zero {b : Nat} (h : errU b = 0) : nanB b = false ∧ negB b = false := by
  unfold errU at h
  cases h1 : nanB b <;> cases h2 : negB b <;> simp_all
theorem two (a b : Int) (k l : IntKind) {c d : Int} (h : a = c) (g : b = d) : Ending.returned (.tuple #[.int k a, .int l b]) = .returned (.tuple #[.int k c, .int l d]) := by rw [h, g]
end Go.Proofs.YthihkbnkbajglaaGreatDoor.Rate1
