/- Signs in pieces: every argument. -/
import Derived.Test.YtnaiefjbfpejbaaGd
set_option linter.unusedVariables false
namespace Go.Proofs.Ytnaiefjbfpejbaa.Ge
open Go Go.RowKit Kit Ep Eb Er Ea Es Et Eu Ev Ek Ew Ex Ey Ez Fa Fb Fc Fd Ga Gb Gc Gd


set_option maxRecDepth 100000 in
theorem many (a : Option Addr) (n cap : Nat) (w : World) (h : 2000 < n) : Calls Try.prog 4 #[.slice a n cap] w (OutP w) := by
  have d0 : decide ((2000 : Int) < (n : Int)) = true := decide_eq_true (by omega)
  have HBW := Lib.hid (Below.refl w.heap.size w)
  clear h
  go_enter Try.func4, Try.ntmps4
  go_wp2_with (first
    | (go_at_call 7; (with_reducible refine (first8 w).mono ?_); rintro e w1 ⟨rfl, bq⟩; have HB1 := Lib.hid (below_then HBW.out bq HBW.out.size); clear bq)
    | (go_at_call 7; (with_reducible refine (first8 w1).mono ?_); rintro e w2 ⟨rfl, bq⟩; have HB2 := Lib.hid (below_then HB1.out bq HB1.out.size); clear bq))
  go_ret
  exact ⟨rfl, HB2.out⟩
/-- signs in pieces: every argument. -/
theorem walk (a : Option Addr) (n cap : Nat) (zs : List Int) (W : World) (h1 : IsRow .i32 W a n cap zs) :
    Calls Try.prog 4 #[.slice a n cap] W fun e W' => e = .returned (.bool true) ∧ Below W.heap.size W W' := by
  obtain ⟨l, rfl, _, _, _, hL⟩ := row_r h1
  by_cases hl : l.length ≤ 2000
  · exact Gd.main a cap l W hl hL
  · exact many a l.length cap W (by omega)

end Go.Proofs.Ytnaiefjbfpejbaa.Ge
