/- Numbers and floats that came in. -/
import Derived.Test.YthihkbnkbajglaaGreatDoorKit
import Derived.Test.YthihkbnkbajglaaGreatDoorNums
import Derived.Deep.SlicePairs
import Derived.Laws.Cover2
set_option linter.unusedVariables false
namespace Go.Proofs.YthihkbnkbajglaaGreatDoor.DkOps
open Go Go.RowKit Go.ChangeShapes Go.WideShapes Go.Deep Kit Nums
theorem in64 {n : Int} (h : (Lit.int .u64 n).wf = true) : 0 ≤ n ∧ n < 18446744073709551616 := by
  simp only [Lit.wf, Bool.and_eq_true, decide_eq_true_eq] at h
  have h1 : IntKind.u64.min = 0 := by decide
  have h2 : IntKind.u64.max = 18446744073709551615 := by decide
  omega
theorem inF {b : Nat} (h : (Lit.float .f64 b).wf = true) : In64 b := by
  simp [Lit.wf] at h
  exact ⟨by omega, by omega⟩
section
variable {H : Type} {enc : TypeId × Value → H} {P : Program} {w : World} {base : Nat} {spare : Nat → Bool} {held : Bool}
theorem nat_of {n : Nat} {t : TypeId} {c : Value} {y : DataW H × List MemPlace} (ht : P.underlying t = some (.int .u64)) (h : DataW.trod enc P w base spare held n t [c] = some y) :
    ∃ a : Nat, c = .int .u64 (a : Int) ∧ a < 18446744073709551616 := by
  obtain ⟨z, rfl, hw⟩ := int_of ht h
  obtain ⟨h0, h1⟩ := in64 hw
  obtain ⟨a, rfl⟩ := Int.eq_ofNat_of_zero_le h0
  exact ⟨a, rfl, by omega⟩
theorem flt_of {n : Nat} {t : TypeId} {c : Value} {y : DataW H × List MemPlace} (ht : P.underlying t = some (.float .f64)) (h : DataW.trod enc P w base spare held n t [c] = some y) :
    ∃ a : Nat, c = .float .f64 a ∧ (Lit.float .f64 a).wf = true := by
  cases n with
  | zero => simp [DataW.trod] at h
  | succ n =>
    cases c <;> simp [DataW.trod, ht] at h
    obtain ⟨⟨rfl, hw⟩, _⟩ := h
    exact ⟨_, rfl, hw⟩
end
end Go.Proofs.YthihkbnkbajglaaGreatDoor.DkOps
