/- A quotient of two small whole numbers is a float. -/
import Derived.Test.YthihkbnkbajglaaGreatDoorScale2
set_option linter.unusedVariables false
namespace Go.Proofs.YthihkbnkbajglaaGreatDoor.Fl
open Go Go.RowKit Ieee Kit Nums Flt Rate1 Scale Scale2

def quoV (n d : Nat) : Nat := (floatBits .quo .f64 (floatOfInt .f64 (n : Int)) (floatOfInt .f64 (d : Int))).getD 0
def okB (b : Nat) : Bool := match Ieee.double.read (floatOfInt .f64 (b : Int)) with | .number false m _ => m != 0 | _ => false
def upTo : Nat → Bool
  | 0 => true
  | n + 1 => okB (n + 1) && upTo n
theorem upTo_all : upTo 9999 = true := by decide +kernel
theorem upTo_at {n : Nat} (h : upTo n = true) : ∀ b, 1 ≤ b → b ≤ n → okB b = true := by
  induction n with
  | zero => intro b h1 h2; omega
  | succ n ih =>
    intro b h1 h2
    simp only [upTo, Bool.and_eq_true] at h
    by_cases hb : b = n + 1
    · subst hb; exact h.1
    · exact ih h.2 b h1 (by omega)
theorem den_small (b : Nat) (h1 : 1 ≤ b) (h2 : b ≤ 9999) : ∃ m j, m ≠ 0 ∧ Ieee.double.read (floatOfInt .f64 (b : Int)) = .number false m j := by
  have h := upTo_at upTo_all b h1 h2
  unfold okB at h
  split at h
  · rename_i m j hr
    exact ⟨m, j, by simpa using h, hr⟩
  · simp at h
theorem quo_some (n b : Nat) (h1 : 1 ≤ b) (h2 : b ≤ 9999) : ∃ r, floatBits .quo .f64 (floatOfInt .f64 (n : Int)) (floatOfInt .f64 (b : Int)) = some r ∧ In64 r := by
  obtain ⟨m, j, hm, hr⟩ := den_small b h1 h2
  obtain ⟨h1, h2, h3⟩ := ofInt_facts (n : Int) (by omega)
  rcases read_ok _ h3 h1 with ⟨a, i, e⟩ | e
  · rw [h2] at e
    obtain ⟨M, I, hq⟩ : ∃ M I, Ieee.Datum.quotient (Ieee.double.fractionBits + 2) (.number false a i) (.number false m j) = some (.number false M I) := by
      unfold Ieee.Datum.quotient
      simp only [if_neg hm]
      exact ⟨_, _, rfl⟩
    refine ⟨Ieee.double.write (.number false M I), ?_, (write_facts (.number false M I) rfl).2.2⟩
    simp only [floatBits, Ieee.Format.div, fmt, e, hr, hq, Option.map]
  · rw [h2] at e
    refine ⟨Ieee.double.write (.infinity false), ?_, (write_facts (.infinity false) rfl).2.2⟩
    simp only [floatBits, Ieee.Format.div, fmt, e, hr, Ieee.Datum.quotient, Option.map]
    rfl
theorem quo_run (n b : Nat) (h1 : 1 ≤ b) (h2 : b ≤ 9999) (w : World) : (binOp .quo 31 (.float .f64 (floatOfInt .f64 (n : Int))) (.float .f64 (floatOfInt .f64 (b : Int)))).run Tryz.prog w = .ok (.float .f64 (quoV n b)) w := by
  obtain ⟨r, hr, _⟩ := quo_some n b h1 h2
  rw [quoV, hr]
  exact run_float_arith (P := Tryz.prog) w .quo 31 .f64 _ _ r hr
theorem quo_in (n b : Nat) (h1 : 1 ≤ b) (h2 : b ≤ 9999) : In64 (quoV n b) := by
  obtain ⟨r, hr, h⟩ := quo_some n b h1 h2
  rw [quoV, hr]; exact h
end Go.Proofs.YthihkbnkbajglaaGreatDoor.Fl
