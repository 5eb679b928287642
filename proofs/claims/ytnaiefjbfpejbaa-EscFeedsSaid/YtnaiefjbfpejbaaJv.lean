/- EscFeeds: every argument. -/
import Derived.Test.YtnaiefjbfpejbaaJw
set_option linter.unusedVariables false
namespace Go.Proofs.Ytnaiefjbfpejbaa.Jv
open Go Go.RowKit Kit Ep Eb Er Ea Es Et Eu Ev Ek Ew Ex Ey Ez Fa Fb Fc Fd Ga Gb Gc Gd Jw


set_option maxRecDepth 100000 in
theorem many1 (a : Option Addr) (n cap : Nat) (ca : Option Addr) (m cc : Nat) (w : World) (h : 2000 < n) : Calls Try.prog 3 #[.slice a n cap, .slice ca m cc] w (OutP w) := by
  have d0 : decide ((2000 : Int) < (n : Int)) = true := decide_eq_true (by omega)
  have g0 : (2000 : Int) < (n : Int) := by omega
  clear h
  have HBW := Lib.hid (Below.refl w.heap.size w)
  go_enter Try.func3, Try.ntmps3
  go_wp2_with (first
    | (go_at_call 7; (with_reducible refine (first8 w).mono ?_); rintro e w1 ⟨rfl, bq⟩; have HB1 := Lib.hid (below_then HBW.out bq HBW.out.size); clear bq)
    | (go_at_call 7; (with_reducible refine (first8 w1).mono ?_); rintro e w2 ⟨rfl, bq⟩; have HB2 := Lib.hid (below_then HB1.out bq HB1.out.size); clear bq))
  go_ret
  exact ⟨rfl, HB2.out⟩
set_option maxRecDepth 100000 in
theorem many2 (a : Option Addr) (n cap : Nat) (ca : Option Addr) (m cc : Nat) (w : World) (h : ¬ 2000 < n) (h2 : 200 < m) : Calls Try.prog 3 #[.slice a n cap, .slice ca m cc] w (OutP w) := by
  have d0 : decide ((2000 : Int) < (n : Int)) = false := decide_eq_false (by omega)
  have g0 : ¬ (2000 : Int) < (n : Int) := by omega
  have d1 : decide ((200 : Int) < (m : Int)) = true := decide_eq_true (by omega)
  have g1 : (200 : Int) < (m : Int) := by omega
  clear h h2
  have HBW := Lib.hid (Below.refl w.heap.size w)
  go_enter Try.func3, Try.ntmps3
  go_wp2_with (first
    | (go_at_call 7; (with_reducible refine (first8 w).mono ?_); rintro e w1 ⟨rfl, bq⟩; have HB1 := Lib.hid (below_then HBW.out bq HBW.out.size); clear bq)
    | (go_at_call 7; (with_reducible refine (first8 w1).mono ?_); rintro e w2 ⟨rfl, bq⟩; have HB2 := Lib.hid (below_then HB1.out bq HB1.out.size); clear bq))
  go_ret
  exact ⟨rfl, HB2.out⟩
/-- signs, and the document's parser: every argument. -/
theorem walk (a : Option Addr) (n cap : Nat) (zs : List Int) (ca : Option Addr) (m cc : Nat) (zc : List Int) (W : World) (h1 : IsRow .i32 W a n cap zs) (h2 : IsRow .i64 W ca m cc zc) :
    Calls Try.prog 3 #[.slice a n cap, .slice ca m cc] W fun e W' => e = .returned (.bool true) ∧ Below W.heap.size W W' := by
  obtain ⟨l, rfl, hcap, _, h0, hL⟩ := row_r h1
  obtain ⟨cs, rfl, _, _, _, hC⟩ := Ints.row_l h2
  by_cases hl : l.length ≤ 2000
  · by_cases hc : cs.length ≤ 200
    · exact Jw.main a cap l ca cc cs W hl hc ⟨hL, h0, hcap⟩ hC
    · exact many2 a _ cap ca _ cc W (by omega) (by omega)
  · exact many1 a _ cap ca _ cc W (by omega)

end Go.Proofs.Ytnaiefjbfpejbaa.Jv
