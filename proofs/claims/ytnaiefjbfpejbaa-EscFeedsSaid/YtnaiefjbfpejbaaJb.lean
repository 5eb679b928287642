/- A part of a slice of signs. -/
import Derived.Test.YtnaiefjbfpejbaaJa
import Derived.Laws.Slices
set_option linter.unusedVariables false
namespace Go.Proofs.Ytnaiefjbfpejbaa.Jb
open Go Go.RowKit Kit Ep Eb Er Ea Es Et Eu Ev Ek Ew Ex Ey Ez Fa Ja


theorem elem22 : Try.prog.underlying 22 = some (.slice (Try.prog.elem 22)) := by kernel_rfl
theorem sizeE22 (w : World) : ((sizeOf (Try.prog.elem 22)).run Try.prog w) = .ok 1 w := by kernel_rfl
def LoIs (v : Option Value) (i : Nat) : Prop := (v = none ∧ i = 0) ∨ ∃ k, v = some (.int k (i : Int))
def HiIs (v : Option Value) (j n : Nat) : Prop := (v = none ∧ j = n) ∨ ∃ k, v = some (.int k (j : Int))
theorem lo_none : LoIs none 0 := .inl ⟨rfl, rfl⟩
theorem hi_none (n : Nat) : HiIs none n n := .inl ⟨rfl, rfl⟩
theorem lo_some {k : IntKind} {x : Int} {i : Nat} (h : x = (i : Int)) : LoIs (some (.int k x)) i := .inr ⟨k, by rw [h]⟩
theorem hi_some {k : IntKind} {x : Int} {j n : Nat} (h : x = (j : Int)) : HiIs (some (.int k x)) j n := .inr ⟨k, by rw [h]⟩
theorem run_sub (a : Option Addr) (n cap : Nat) (lo hi : Option Value) (i j : Nat) (w : World) (hl : LoIs lo i) (hh : HiIs hi j n) (hij : i ≤ j) (hj : j ≤ n) (hc : n ≤ cap) :
    (Instr.sliceAt 22 (.slice a n cap) lo hi none).run Try.prog w = .ok (sliced a i j cap 1) w := by
  rw [run_sliceAt_slice w 22 _ _ _ _ elem22]
  rcases hl with ⟨rfl, rfl⟩ | ⟨k, rfl⟩ <;> rcases hh with ⟨rfl, rfl⟩ | ⟨k2, rfl⟩
  · rw [run_slice_all w 22 a j cap elem22, sizeE22]; rfl
  · rw [run_slice_h w 22 a n cap elem22 k2 j (by omega) (by omega), sizeE22]; simp [Result.andThen]
  · rw [run_slice_l w 22 a j cap elem22 k i (by omega) (by omega), sizeE22]; simp [Result.andThen]
  · rw [run_slice_lh w 22 a n cap elem22 k k2 i j (by omega) (by omega) (by omega), sizeE22]; simp [Result.andThen]

/-- a part of a slice of signs. -/
theorem sub_val {a : Option Addr} {l : List Int} {cap : Nat} {w : World} (h : Rs w a cap l) (i j : Nat) (hij : i ≤ j) (hj : j ≤ l.length) :
    ∃ a' c', sliced a i j cap 1 = .slice a' (j - i) c' ∧ Rs w a' c' ((l.drop i).take (j - i)) := by
  obtain ⟨hs, h0, hcap⟩ := h
  unfold sliced
  by_cases hc : cap = i
  · have : j - i = 0 := by omega
    rw [if_pos hc, this]
    exact ⟨_, _, rfl, .inl (by simp), fun _ => by omega, by simp⟩
  · rw [if_neg hc]
    cases a with
    | none => exact absurd (h0 rfl) (by omega)
    | some x =>
      refine ⟨_, _, rfl, ?_, (fun h => by cases h), by simp; omega⟩
      rcases hs with rfl | ⟨b, off, e, h⟩
      · exact .inl (by simp)
      · injection e with e; subst e
        refine .inr ⟨b, off + i, ?_, ?_⟩
        · show some ((⟨b, off, none⟩ : Addr).add (i * 1)) = _
          rw [Nat.mul_one]; unfold Addr.add; split <;> simp_all
        · intro k hk
          have hk2 : k < j - i ∧ k < l.length - i := by simp at hk; omega
          have := h (i + k) (by omega)
          rw [show off + i + k = off + (i + k) by omega, this]
          simp
theorem part_next {w : World} {ra : Option Addr} {rc : Nat} {R : List Int} (h : Rs w ra rc R) (N : Nat) (hN : N ≤ R.length) :
    ∃ x1 y1 x2 y2, (∀ w1 : World, (Instr.sliceAt 22 (.slice ra R.length rc) none (some (.int .i64 (N : Int))) none).run Try.prog w1 = .ok (.slice x1 N y1) w1) ∧
      (∀ w1 : World, (Instr.sliceAt 22 (.slice ra R.length rc) (some (.int .i64 (N : Int))) none none).run Try.prog w1 = .ok (.slice x2 (R.length - N) y2) w1) ∧ Rs w x1 y1 (R.take N) ∧ Rs w x2 y2 (R.drop N) := by
  obtain ⟨x1, y1, e1, r1⟩ := sub_val h 0 N (Nat.zero_le _) hN
  obtain ⟨x2, y2, e2, r2⟩ := sub_val h N R.length hN (Nat.le_refl _)
  refine ⟨x1, y1, x2, y2, fun w1 => ?_, fun w1 => ?_, by simpa using r1, ?_⟩
  · rw [run_sub ra R.length rc none (some (.int .i64 (N : Int))) 0 N w1 lo_none (hi_some rfl) (Nat.zero_le _) hN h.cap, e1]; rfl
  · rw [run_sub ra R.length rc (some (.int .i64 (N : Int))) none N R.length w1 (lo_some rfl) (hi_none _) hN (Nat.le_refl _) h.cap, e2]
  · rwa [List.take_of_length_le (by simp)] at r2

end Go.Proofs.Ytnaiefjbfpejbaa.Jb
