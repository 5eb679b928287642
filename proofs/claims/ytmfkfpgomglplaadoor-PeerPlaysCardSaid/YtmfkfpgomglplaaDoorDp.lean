/- The document's packet: may it be; refused. -/
import Derived.Test.YtmfkfpgomglplaaDoorPz
set_option linter.unusedVariables false
namespace Go.Proofs.YtmfkfpgomglplaaDoor.Dp
open Go Go.RowKit Kit Mb Sha Ap Mc1 Sc Mx Sb Pd Su Pa Hm Mm Tg Mf Pk Se Op Pe Ps Pt Oq Pg Ar Dq Db Ds Dh Dk Ms Pz


set_option maxRecDepth 100000 in
theorem dmayE (d v : Int) (n : Nat) (a : Option Addr) (m cap : Nat) (l : List Nat) (w : World) (r : Bool) (hm : m = l.length) (hr : mayB d v n l.length = r) :
    Calls Tryd.prog 31 #[.agg #[.int .i64 d, .int .i64 v, .int .u64 (n : Int), .slice a m cap]] w fun e w' => e = .returned (.bool r) ∧ Below w.heap.size w w' := by
  subst hm hr
  by_cases g1 : d = 1
  · have j1 : (d == 1) = true := by rw [beq_iff_eq]; exact g1
    have j2 : decide (d = 1) = true := decide_eq_true g1
    have g2 : 1 ≤ d ∧ d ≤ 2 := by omega
    clear g1
    by_cases h0 : 0 ≤ v
    · have k0 : decide (0 ≤ v) = true := decide_eq_true (by omega)
      by_cases h1 : v < 8
      · have k1 : decide (v < 8) = true := decide_eq_true (by omega)
        by_cases h2 : 1 ≤ n
        · have k2 : decide (1 ≤ (n : Int)) = true := decide_eq_true (by omega)
          by_cases h3 : n ≤ 4611686018427387904
          · have k3 : decide ((n : Int) ≤ 4611686018427387904) = true := decide_eq_true (by omega)
            by_cases h4 : l.length ≤ 1200
            · have k4 : decide ((l.length : Int) ≤ 1200) = true := decide_eq_true (by omega)
              have HM := Lib.hid (show mayB d v n l.length = true by simp [mayB]; omega)
              go_enter Tryd.func31, Tryd.ntmps31
              go_wp2
              go_ret
              exact ⟨ret_bool (by rw [HM.out]), (Below.refl _ _).alloc (Nat.le_refl _) _⟩
            · have k4 : decide ((l.length : Int) ≤ 1200) = false := decide_eq_false (by omega)
              have HM := Lib.hid (show mayB d v n l.length = false by simp [mayB]; omega)
              go_enter Tryd.func31, Tryd.ntmps31
              go_wp2
              go_ret
              exact ⟨ret_bool (by rw [HM.out]), (Below.refl _ _).alloc (Nat.le_refl _) _⟩
          · have k3 : decide ((n : Int) ≤ 4611686018427387904) = false := decide_eq_false (by omega)
            have HM := Lib.hid (show mayB d v n l.length = false by simp [mayB]; omega)
            go_enter Tryd.func31, Tryd.ntmps31
            go_wp2
            go_ret
            exact ⟨ret_bool (by rw [HM.out]), (Below.refl _ _).alloc (Nat.le_refl _) _⟩
        · have k2 : decide (1 ≤ (n : Int)) = false := decide_eq_false (by omega)
          have HM := Lib.hid (show mayB d v n l.length = false by simp [mayB]; omega)
          go_enter Tryd.func31, Tryd.ntmps31
          go_wp2
          go_ret
          exact ⟨ret_bool (by rw [HM.out]), (Below.refl _ _).alloc (Nat.le_refl _) _⟩
      · have k1 : decide (v < 8) = false := decide_eq_false (by omega)
        have HM := Lib.hid (show mayB d v n l.length = false by simp [mayB]; omega)
        go_enter Tryd.func31, Tryd.ntmps31
        go_wp2
        go_ret
        exact ⟨ret_bool (by rw [HM.out]), (Below.refl _ _).alloc (Nat.le_refl _) _⟩
    · have k0 : decide (0 ≤ v) = false := decide_eq_false (by omega)
      have HM := Lib.hid (show mayB d v n l.length = false by simp [mayB]; omega)
      go_enter Tryd.func31, Tryd.ntmps31
      go_wp2
      go_ret
      exact ⟨ret_bool (by rw [HM.out]), (Below.refl _ _).alloc (Nat.le_refl _) _⟩
  · have j1 : (d == 1) = false := by rw [beq_eq_false_iff_ne]; exact g1
    have j2 : decide (d = 1) = false := decide_eq_false g1
    by_cases g2 : d = 2
    · have j3 : (d == 2) = true := by rw [beq_iff_eq]; exact g2
      have j4 : decide (d = 2) = true := decide_eq_true g2
      have g3 : 1 ≤ d ∧ d ≤ 2 := by omega
      clear g1 g2
      by_cases h0 : 0 ≤ v
      · have k0 : decide (0 ≤ v) = true := decide_eq_true (by omega)
        by_cases h1 : v < 8
        · have k1 : decide (v < 8) = true := decide_eq_true (by omega)
          by_cases h2 : 1 ≤ n
          · have k2 : decide (1 ≤ (n : Int)) = true := decide_eq_true (by omega)
            by_cases h3 : n ≤ 4611686018427387904
            · have k3 : decide ((n : Int) ≤ 4611686018427387904) = true := decide_eq_true (by omega)
              by_cases h4 : l.length ≤ 1200
              · have k4 : decide ((l.length : Int) ≤ 1200) = true := decide_eq_true (by omega)
                have HM := Lib.hid (show mayB d v n l.length = true by simp [mayB]; omega)
                go_enter Tryd.func31, Tryd.ntmps31
                go_wp2
                go_ret
                exact ⟨ret_bool (by rw [HM.out]), (Below.refl _ _).alloc (Nat.le_refl _) _⟩
              · have k4 : decide ((l.length : Int) ≤ 1200) = false := decide_eq_false (by omega)
                have HM := Lib.hid (show mayB d v n l.length = false by simp [mayB]; omega)
                go_enter Tryd.func31, Tryd.ntmps31
                go_wp2
                go_ret
                exact ⟨ret_bool (by rw [HM.out]), (Below.refl _ _).alloc (Nat.le_refl _) _⟩
            · have k3 : decide ((n : Int) ≤ 4611686018427387904) = false := decide_eq_false (by omega)
              have HM := Lib.hid (show mayB d v n l.length = false by simp [mayB]; omega)
              go_enter Tryd.func31, Tryd.ntmps31
              go_wp2
              go_ret
              exact ⟨ret_bool (by rw [HM.out]), (Below.refl _ _).alloc (Nat.le_refl _) _⟩
          · have k2 : decide (1 ≤ (n : Int)) = false := decide_eq_false (by omega)
            have HM := Lib.hid (show mayB d v n l.length = false by simp [mayB]; omega)
            go_enter Tryd.func31, Tryd.ntmps31
            go_wp2
            go_ret
            exact ⟨ret_bool (by rw [HM.out]), (Below.refl _ _).alloc (Nat.le_refl _) _⟩
        · have k1 : decide (v < 8) = false := decide_eq_false (by omega)
          have HM := Lib.hid (show mayB d v n l.length = false by simp [mayB]; omega)
          go_enter Tryd.func31, Tryd.ntmps31
          go_wp2
          go_ret
          exact ⟨ret_bool (by rw [HM.out]), (Below.refl _ _).alloc (Nat.le_refl _) _⟩
      · have k0 : decide (0 ≤ v) = false := decide_eq_false (by omega)
        have HM := Lib.hid (show mayB d v n l.length = false by simp [mayB]; omega)
        go_enter Tryd.func31, Tryd.ntmps31
        go_wp2
        go_ret
        exact ⟨ret_bool (by rw [HM.out]), (Below.refl _ _).alloc (Nat.le_refl _) _⟩
    · have j3 : (d == 2) = false := by rw [beq_eq_false_iff_ne]; exact g2
      have j4 : decide (d = 2) = false := decide_eq_false g2
      have HM := Lib.hid (show mayB d v n l.length = false by simp [mayB]; omega)
      go_enter Tryd.func31, Tryd.ntmps31
      go_wp2
      go_ret
      exact ⟨ret_bool (by rw [HM.out]), (Below.refl _ _).alloc (Nat.le_refl _) _⟩

set_option maxRecDepth 100000 in
theorem dsealN (d v : Int) (n : Nat) (a : Option Addr) (m cap : Nat) (l : List Nat) (ka : Option Addr) (kc kn : Nat) (w : World) (e : m = l.length) (hm : mayB d v n l.length = false) :
    Calls Tryd.prog 25 #[.slice ka kn kc, .agg #[.int .i64 d, .int .i64 v, .int .u64 (n : Int), .slice a m cap]] w fun e w' => e = .returned (.tuple #[.slice none 0 0, .int .i64 1]) ∧ Below w.heap.size w w' := by
  have K := Lib.hid (fun w1 => dmayE d v n a m cap l w1 false e hm)
  have HB0 := Lib.hid ((Below.refl w.heap.size w).alloc (Nat.le_refl _) (.cells #[.int .i64 d, .int .i64 v, .int .u64 (n : Int), .slice a m cap] 40))
  clear e hm
  go_enter Tryd.func25, Tryd.ntmps25
  go_wp2_with (go_at_call 31; (with_reducible refine (K.out _).mono ?_); rintro e w1 ⟨rfl, b1⟩; have HB1 := Lib.hid (below_then HB0.out b1 HB0.out.size); clear b1)
  go_ret2
  exact ⟨rfl, HB1.out⟩

end Go.Proofs.YtmfkfpgomglplaaDoor.Dp
