/- Plain signs, a text: every argument. -/
import Derived.Test.YtnaiefjbfpejbaaFd
set_option linter.unusedVariables false
namespace Go.Proofs.Ytnaiefjbfpejbaa.Fe
open Go Go.RowKit Kit Ep Eb Er Ea Es Et Eu Ev Ek Ew Ex Ey Ez Fa Fb Fc Fd


set_option maxRecDepth 100000 in
theorem many1 (a ta : Option Addr) (n cap m tc : Nat) (bell : Bool) (w : World) (h : 500 < n) : Calls Try.prog 6 #[.slice a n cap, .slice ta m tc, .bool bell] w (OutP w) := by
  have d0 : decide ((500 : Int) < (n : Int)) = true := decide_eq_true (by omega)
  have HBW := Lib.hid (Below.refl w.heap.size w)
  clear h
  go_enter Try.func6, Try.ntmps6
  go_wp2_with (first
    | (go_at_call 7; (with_reducible refine (first8 w).mono ?_); rintro e w1 ⟨rfl, bq⟩; have HB1 := Lib.hid (below_then HBW.out bq HBW.out.size); clear bq)
    | (go_at_call 7; (with_reducible refine (first8 w1).mono ?_); rintro e w2 ⟨rfl, bq⟩; have HB2 := Lib.hid (below_then HB1.out bq HB1.out.size); clear bq))
  go_ret
  exact ⟨rfl, HB2.out⟩
set_option maxRecDepth 100000 in
theorem many2 (a ta : Option Addr) (n cap m tc : Nat) (bell : Bool) (w : World) (h0 : n ≤ 500) (h : 120 < m) : Calls Try.prog 6 #[.slice a n cap, .slice ta m tc, .bool bell] w (OutP w) := by
  have d0 : decide ((500 : Int) < (n : Int)) = false := decide_eq_false (by omega)
  have d1 : decide ((120 : Int) < (m : Int)) = true := decide_eq_true (by omega)
  have HBW := Lib.hid (Below.refl w.heap.size w)
  clear h h0
  go_enter Try.func6, Try.ntmps6
  go_wp2_with (first
    | (go_at_call 7; (with_reducible refine (first8 w).mono ?_); rintro e w1 ⟨rfl, bq⟩; have HB1 := Lib.hid (below_then HBW.out bq HBW.out.size); clear bq)
    | (go_at_call 7; (with_reducible refine (first8 w1).mono ?_); rintro e w2 ⟨rfl, bq⟩; have HB2 := Lib.hid (below_then HB1.out bq HB1.out.size); clear bq))
  go_ret
  exact ⟨rfl, HB2.out⟩
/-- plain signs, a text: every argument. -/
theorem walk (a : Option Addr) (n cap : Nat) (zs : List Int) (ta : Option Addr) (m tc : Nat) (zt : List Int) (bell : Bool) (W : World) (h1 : IsRow .i32 W a n cap zs) (h2 : IsRow .i32 W ta m tc zt) :
    Calls Try.prog 6 #[.slice a n cap, .slice ta m tc, .bool bell] W fun e W' => e = .returned (.bool true) ∧ Below W.heap.size W W' := by
  obtain ⟨l, rfl, _, _, _, hL⟩ := row_r h1
  obtain ⟨t, rfl, _, _, htc, hT⟩ := row_r h2
  by_cases hl : l.length ≤ 500
  · by_cases ht : t.length ≤ 120
    · exact main bell a ta cap tc l t W hl ht hL hT htc
    · exact many2 a ta l.length cap t.length tc bell W hl (by omega)
  · exact many1 a ta l.length cap t.length tc bell W (by omega)

end Go.Proofs.Ytnaiefjbfpejbaa.Fe
