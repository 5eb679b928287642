/- Packets: what may be. -/
import Derived.Test.YtmfkfpgomglplaaDoorMb
set_option linter.unusedVariables false
namespace Go.Proofs.YtmfkfpgomglplaaDoor.Pk
open Go Go.RowKit Kit Mb


def mayB (d v : Int) (n len : Nat) : Bool := decide (1 ≤ d) && decide (d ≤ 2) && decide (0 ≤ v) && decide (v < 8) && decide (1 ≤ n) && decide (n ≤ 4611686018427387904) && decide (len ≤ 1200)
def pkV (d v : Int) (n : Nat) (a : Option Addr) (cap : Nat) (l : List Nat) : Value := .agg #[.int .i64 d, .int .i64 v, .int .u64 (n : Int), .slice a l.length cap]
set_option maxRecDepth 100000 in
theorem mayC (d v : Int) (n : Nat) (a : Option Addr) (cap : Nat) (l : List Nat) (w : World) :
    Calls Tryd.prog 30 #[.agg #[.int .i64 d, .int .i64 v, .int .u64 (n : Int), .slice a l.length cap]] w fun e w' => e = .returned (.bool (mayB d v n l.length)) ∧ Below w.heap.size w w' := by
  by_cases h0 : 1 ≤ d
  · have k0 : decide (1 ≤ d) = true := decide_eq_true (by omega)
    by_cases h1 : d ≤ 2
    · have k1 : decide (d ≤ 2) = true := decide_eq_true (by omega)
      by_cases h2 : 0 ≤ v
      · have k2 : decide (0 ≤ v) = true := decide_eq_true (by omega)
        by_cases h3 : v < 8
        · have k3 : decide (v < 8) = true := decide_eq_true (by omega)
          by_cases h4 : 1 ≤ n
          · have k4 : decide (1 ≤ (n : Int)) = true := decide_eq_true (by omega)
            by_cases h5 : n ≤ 4611686018427387904
            · have k5 : decide ((n : Int) ≤ 4611686018427387904) = true := decide_eq_true (by omega)
              by_cases h6 : l.length ≤ 1200
              · have k6 : decide ((l.length : Int) ≤ 1200) = true := decide_eq_true (by omega)
                have HM := Lib.hid (show mayB d v n l.length = true by simp [mayB]; omega)
                go_enter Tryd.func30, Tryd.ntmps30
                go_wp2
                go_ret
                exact ⟨ret_bool (by rw [HM.out]), (Below.refl _ _).alloc (Nat.le_refl _) _⟩
              · have k6 : decide ((l.length : Int) ≤ 1200) = false := decide_eq_false (by omega)
                have HM := Lib.hid (show mayB d v n l.length = false by simp [mayB]; omega)
                go_enter Tryd.func30, Tryd.ntmps30
                go_wp2
                go_ret
                exact ⟨ret_bool (by rw [HM.out]), (Below.refl _ _).alloc (Nat.le_refl _) _⟩
            · have k5 : decide ((n : Int) ≤ 4611686018427387904) = false := decide_eq_false (by omega)
              have HM := Lib.hid (show mayB d v n l.length = false by simp [mayB]; omega)
              go_enter Tryd.func30, Tryd.ntmps30
              go_wp2
              go_ret
              exact ⟨ret_bool (by rw [HM.out]), (Below.refl _ _).alloc (Nat.le_refl _) _⟩
          · have k4 : decide (1 ≤ (n : Int)) = false := decide_eq_false (by omega)
            have HM := Lib.hid (show mayB d v n l.length = false by simp [mayB]; omega)
            go_enter Tryd.func30, Tryd.ntmps30
            go_wp2
            go_ret
            exact ⟨ret_bool (by rw [HM.out]), (Below.refl _ _).alloc (Nat.le_refl _) _⟩
        · have k3 : decide (v < 8) = false := decide_eq_false (by omega)
          have HM := Lib.hid (show mayB d v n l.length = false by simp [mayB]; omega)
          go_enter Tryd.func30, Tryd.ntmps30
          go_wp2
          go_ret
          exact ⟨ret_bool (by rw [HM.out]), (Below.refl _ _).alloc (Nat.le_refl _) _⟩
      · have k2 : decide (0 ≤ v) = false := decide_eq_false (by omega)
        have HM := Lib.hid (show mayB d v n l.length = false by simp [mayB]; omega)
        go_enter Tryd.func30, Tryd.ntmps30
        go_wp2
        go_ret
        exact ⟨ret_bool (by rw [HM.out]), (Below.refl _ _).alloc (Nat.le_refl _) _⟩
    · have k1 : decide (d ≤ 2) = false := decide_eq_false (by omega)
      have HM := Lib.hid (show mayB d v n l.length = false by simp [mayB]; omega)
      go_enter Tryd.func30, Tryd.ntmps30
      go_wp2
      go_ret
      exact ⟨ret_bool (by rw [HM.out]), (Below.refl _ _).alloc (Nat.le_refl _) _⟩
  · have k0 : decide (1 ≤ d) = false := decide_eq_false (by omega)
    have HM := Lib.hid (show mayB d v n l.length = false by simp [mayB]; omega)
    go_enter Tryd.func30, Tryd.ntmps30
    go_wp2
    go_ret
    exact ⟨ret_bool (by rw [HM.out]), (Below.refl _ _).alloc (Nat.le_refl _) _⟩

end Go.Proofs.YtmfkfpgomglplaaDoor.Pk
