/- Records: what may be. -/
import Derived.Test.YtabgelmmjpjejaaDoorPy2
set_option linter.unusedVariables false
namespace Go.Proofs.YtabgelmmjpjejaaDoor.Ry
open Go Go.RowKit Kit Crc Var Get Ref3 Copy Bytes Bx Py Py2 


set_option maxRecDepth 100000 in
theorem mayE (k : Int) (s t : Nat) (a : Option Addr) (m cap : Nat) (l : List Nat) (w : World) (r : Bool) (hm : m = l.length) (hr : mayR k s t l.length = r) :
    Calls Tryd.prog 18 #[.agg #[.int .i64 k, .int .u64 (s : Int), .int .u64 (t : Int), .slice a m cap]] w fun e w' => e = .returned (.bool r) ∧ Below w.heap.size w w' := by
  subst hm hr
  by_cases g1 : k = 1
  · have j1 : (k == 1) = true := by rw [beq_iff_eq]; exact g1
    have j2 : decide (k = 1) = true := decide_eq_true g1
    have g2 : k = 1 ∨ k = 2 := by omega
    clear g1
    by_cases h0 : 1 ≤ s
    · have k0 : decide (1 ≤ (s : Int)) = true := decide_eq_true (by omega)
      by_cases h1 : s ≤ 4611686018427387904
      · have k1 : decide ((s : Int) ≤ 4611686018427387904) = true := decide_eq_true (by omega)
        by_cases h2 : t ≤ 4611686018427387904
        · have k2 : decide ((t : Int) ≤ 4611686018427387904) = true := decide_eq_true (by omega)
          by_cases h3 : l.length ≤ 1048576
          · have k3 : decide ((l.length : Int) ≤ 1048576) = true := decide_eq_true (by omega)
            have HM := Lib.hid (show mayR k s t l.length = true by simp [mayR]; omega)
            go_enter Tryd.func18, Tryd.ntmps18
            go_wp2
            go_ret
            exact ⟨ret_bool (by rw [HM.out]), (Below.refl _ _).alloc (Nat.le_refl _) _⟩
          · have k3 : decide ((l.length : Int) ≤ 1048576) = false := decide_eq_false (by omega)
            have HM := Lib.hid (show mayR k s t l.length = false by simp [mayR]; omega)
            go_enter Tryd.func18, Tryd.ntmps18
            go_wp2
            go_ret
            exact ⟨ret_bool (by rw [HM.out]), (Below.refl _ _).alloc (Nat.le_refl _) _⟩
        · have k2 : decide ((t : Int) ≤ 4611686018427387904) = false := decide_eq_false (by omega)
          have HM := Lib.hid (show mayR k s t l.length = false by simp [mayR]; omega)
          go_enter Tryd.func18, Tryd.ntmps18
          go_wp2
          go_ret
          exact ⟨ret_bool (by rw [HM.out]), (Below.refl _ _).alloc (Nat.le_refl _) _⟩
      · have k1 : decide ((s : Int) ≤ 4611686018427387904) = false := decide_eq_false (by omega)
        have HM := Lib.hid (show mayR k s t l.length = false by simp [mayR]; omega)
        go_enter Tryd.func18, Tryd.ntmps18
        go_wp2
        go_ret
        exact ⟨ret_bool (by rw [HM.out]), (Below.refl _ _).alloc (Nat.le_refl _) _⟩
    · have k0 : decide (1 ≤ (s : Int)) = false := decide_eq_false (by omega)
      have HM := Lib.hid (show mayR k s t l.length = false by simp [mayR]; omega)
      go_enter Tryd.func18, Tryd.ntmps18
      go_wp2
      go_ret
      exact ⟨ret_bool (by rw [HM.out]), (Below.refl _ _).alloc (Nat.le_refl _) _⟩
  · have j1 : (k == 1) = false := by rw [beq_eq_false_iff_ne]; exact g1
    have j2 : decide (k = 1) = false := decide_eq_false g1
    by_cases g2 : k = 2
    · have j3 : (k == 2) = true := by rw [beq_iff_eq]; exact g2
      have j4 : decide (k = 2) = true := decide_eq_true g2
      have g3 : k = 1 ∨ k = 2 := by omega
      clear g1 g2
      by_cases h0 : 1 ≤ s
      · have k0 : decide (1 ≤ (s : Int)) = true := decide_eq_true (by omega)
        by_cases h1 : s ≤ 4611686018427387904
        · have k1 : decide ((s : Int) ≤ 4611686018427387904) = true := decide_eq_true (by omega)
          by_cases h2 : t ≤ 4611686018427387904
          · have k2 : decide ((t : Int) ≤ 4611686018427387904) = true := decide_eq_true (by omega)
            by_cases h3 : l.length ≤ 1048576
            · have k3 : decide ((l.length : Int) ≤ 1048576) = true := decide_eq_true (by omega)
              have HM := Lib.hid (show mayR k s t l.length = true by simp [mayR]; omega)
              go_enter Tryd.func18, Tryd.ntmps18
              go_wp2
              go_ret
              exact ⟨ret_bool (by rw [HM.out]), (Below.refl _ _).alloc (Nat.le_refl _) _⟩
            · have k3 : decide ((l.length : Int) ≤ 1048576) = false := decide_eq_false (by omega)
              have HM := Lib.hid (show mayR k s t l.length = false by simp [mayR]; omega)
              go_enter Tryd.func18, Tryd.ntmps18
              go_wp2
              go_ret
              exact ⟨ret_bool (by rw [HM.out]), (Below.refl _ _).alloc (Nat.le_refl _) _⟩
          · have k2 : decide ((t : Int) ≤ 4611686018427387904) = false := decide_eq_false (by omega)
            have HM := Lib.hid (show mayR k s t l.length = false by simp [mayR]; omega)
            go_enter Tryd.func18, Tryd.ntmps18
            go_wp2
            go_ret
            exact ⟨ret_bool (by rw [HM.out]), (Below.refl _ _).alloc (Nat.le_refl _) _⟩
        · have k1 : decide ((s : Int) ≤ 4611686018427387904) = false := decide_eq_false (by omega)
          have HM := Lib.hid (show mayR k s t l.length = false by simp [mayR]; omega)
          go_enter Tryd.func18, Tryd.ntmps18
          go_wp2
          go_ret
          exact ⟨ret_bool (by rw [HM.out]), (Below.refl _ _).alloc (Nat.le_refl _) _⟩
      · have k0 : decide (1 ≤ (s : Int)) = false := decide_eq_false (by omega)
        have HM := Lib.hid (show mayR k s t l.length = false by simp [mayR]; omega)
        go_enter Tryd.func18, Tryd.ntmps18
        go_wp2
        go_ret
        exact ⟨ret_bool (by rw [HM.out]), (Below.refl _ _).alloc (Nat.le_refl _) _⟩
    · have j3 : (k == 2) = false := by rw [beq_eq_false_iff_ne]; exact g2
      have j4 : decide (k = 2) = false := decide_eq_false g2
      have HM := Lib.hid (show mayR k s t l.length = false by simp [mayR]; omega)
      go_enter Tryd.func18, Tryd.ntmps18
      go_wp2
      go_ret
      exact ⟨ret_bool (by rw [HM.out]), (Below.refl _ _).alloc (Nat.le_refl _) _⟩

set_option maxRecDepth 100000 in
theorem dmayE (k : Int) (s t : Nat) (a : Option Addr) (m cap : Nat) (l : List Nat) (w : World) (r : Bool) (hm : m = l.length) (hr : mayR k s t l.length = r) :
    Calls Tryd.prog 19 #[.agg #[.int .i64 k, .int .u64 (s : Int), .int .u64 (t : Int), .slice a m cap]] w fun e w' => e = .returned (.bool r) ∧ Below w.heap.size w w' := by
  subst hm hr
  by_cases g1 : k = 1
  · have j1 : (k == 1) = true := by rw [beq_iff_eq]; exact g1
    have j2 : decide (k = 1) = true := decide_eq_true g1
    have g2 : k = 1 ∨ k = 2 := by omega
    clear g1
    by_cases h0 : 1 ≤ s
    · have k0 : decide (1 ≤ (s : Int)) = true := decide_eq_true (by omega)
      by_cases h1 : s ≤ 4611686018427387904
      · have k1 : decide ((s : Int) ≤ 4611686018427387904) = true := decide_eq_true (by omega)
        by_cases h2 : t ≤ 4611686018427387904
        · have k2 : decide ((t : Int) ≤ 4611686018427387904) = true := decide_eq_true (by omega)
          by_cases h3 : l.length ≤ 1048576
          · have k3 : decide ((l.length : Int) ≤ 1048576) = true := decide_eq_true (by omega)
            have HM := Lib.hid (show mayR k s t l.length = true by simp [mayR]; omega)
            go_enter Tryd.func19, Tryd.ntmps19
            go_wp2
            go_ret
            exact ⟨ret_bool (by rw [HM.out]), (Below.refl _ _).alloc (Nat.le_refl _) _⟩
          · have k3 : decide ((l.length : Int) ≤ 1048576) = false := decide_eq_false (by omega)
            have HM := Lib.hid (show mayR k s t l.length = false by simp [mayR]; omega)
            go_enter Tryd.func19, Tryd.ntmps19
            go_wp2
            go_ret
            exact ⟨ret_bool (by rw [HM.out]), (Below.refl _ _).alloc (Nat.le_refl _) _⟩
        · have k2 : decide ((t : Int) ≤ 4611686018427387904) = false := decide_eq_false (by omega)
          have HM := Lib.hid (show mayR k s t l.length = false by simp [mayR]; omega)
          go_enter Tryd.func19, Tryd.ntmps19
          go_wp2
          go_ret
          exact ⟨ret_bool (by rw [HM.out]), (Below.refl _ _).alloc (Nat.le_refl _) _⟩
      · have k1 : decide ((s : Int) ≤ 4611686018427387904) = false := decide_eq_false (by omega)
        have HM := Lib.hid (show mayR k s t l.length = false by simp [mayR]; omega)
        go_enter Tryd.func19, Tryd.ntmps19
        go_wp2
        go_ret
        exact ⟨ret_bool (by rw [HM.out]), (Below.refl _ _).alloc (Nat.le_refl _) _⟩
    · have k0 : decide (1 ≤ (s : Int)) = false := decide_eq_false (by omega)
      have HM := Lib.hid (show mayR k s t l.length = false by simp [mayR]; omega)
      go_enter Tryd.func19, Tryd.ntmps19
      go_wp2
      go_ret
      exact ⟨ret_bool (by rw [HM.out]), (Below.refl _ _).alloc (Nat.le_refl _) _⟩
  · have j1 : (k == 1) = false := by rw [beq_eq_false_iff_ne]; exact g1
    have j2 : decide (k = 1) = false := decide_eq_false g1
    by_cases g2 : k = 2
    · have j3 : (k == 2) = true := by rw [beq_iff_eq]; exact g2
      have j4 : decide (k = 2) = true := decide_eq_true g2
      have g3 : k = 1 ∨ k = 2 := by omega
      clear g1 g2
      by_cases h0 : 1 ≤ s
      · have k0 : decide (1 ≤ (s : Int)) = true := decide_eq_true (by omega)
        by_cases h1 : s ≤ 4611686018427387904
        · have k1 : decide ((s : Int) ≤ 4611686018427387904) = true := decide_eq_true (by omega)
          by_cases h2 : t ≤ 4611686018427387904
          · have k2 : decide ((t : Int) ≤ 4611686018427387904) = true := decide_eq_true (by omega)
            by_cases h3 : l.length ≤ 1048576
            · have k3 : decide ((l.length : Int) ≤ 1048576) = true := decide_eq_true (by omega)
              have HM := Lib.hid (show mayR k s t l.length = true by simp [mayR]; omega)
              go_enter Tryd.func19, Tryd.ntmps19
              go_wp2
              go_ret
              exact ⟨ret_bool (by rw [HM.out]), (Below.refl _ _).alloc (Nat.le_refl _) _⟩
            · have k3 : decide ((l.length : Int) ≤ 1048576) = false := decide_eq_false (by omega)
              have HM := Lib.hid (show mayR k s t l.length = false by simp [mayR]; omega)
              go_enter Tryd.func19, Tryd.ntmps19
              go_wp2
              go_ret
              exact ⟨ret_bool (by rw [HM.out]), (Below.refl _ _).alloc (Nat.le_refl _) _⟩
          · have k2 : decide ((t : Int) ≤ 4611686018427387904) = false := decide_eq_false (by omega)
            have HM := Lib.hid (show mayR k s t l.length = false by simp [mayR]; omega)
            go_enter Tryd.func19, Tryd.ntmps19
            go_wp2
            go_ret
            exact ⟨ret_bool (by rw [HM.out]), (Below.refl _ _).alloc (Nat.le_refl _) _⟩
        · have k1 : decide ((s : Int) ≤ 4611686018427387904) = false := decide_eq_false (by omega)
          have HM := Lib.hid (show mayR k s t l.length = false by simp [mayR]; omega)
          go_enter Tryd.func19, Tryd.ntmps19
          go_wp2
          go_ret
          exact ⟨ret_bool (by rw [HM.out]), (Below.refl _ _).alloc (Nat.le_refl _) _⟩
      · have k0 : decide (1 ≤ (s : Int)) = false := decide_eq_false (by omega)
        have HM := Lib.hid (show mayR k s t l.length = false by simp [mayR]; omega)
        go_enter Tryd.func19, Tryd.ntmps19
        go_wp2
        go_ret
        exact ⟨ret_bool (by rw [HM.out]), (Below.refl _ _).alloc (Nat.le_refl _) _⟩
    · have j3 : (k == 2) = false := by rw [beq_eq_false_iff_ne]; exact g2
      have j4 : decide (k = 2) = false := decide_eq_false g2
      have HM := Lib.hid (show mayR k s t l.length = false by simp [mayR]; omega)
      go_enter Tryd.func19, Tryd.ntmps19
      go_wp2
      go_ret
      exact ⟨ret_bool (by rw [HM.out]), (Below.refl _ _).alloc (Nat.le_refl _) _⟩

/-- a slice of bytes, new. -/
def SlQ (X : List Nat) (w : World) (e : Ending) (w' : World) : Prop := ∃ a c, e = .returned (.slice a X.length c) ∧ Sl w' a X ∧ (a = none → c = 0) ∧ X.length ≤ c ∧ (∀ x, a = some x → w.heap.size ≤ x.block) ∧ Below w.heap.size w w'
theorem slQ_of {X : List Nat} {w w' : World} {v : Value} (h : Rb w' w.heap.size v X) (b : Below w.heap.size w w') : SlQ X w (.returned v) w' := by
  obtain ⟨a, c, rfl, h1, h2, h3, h4⟩ := rb_sl h
  exact ⟨a, c, rfl, h2, h3, h1, fun x hx => (h4 x hx).1, b⟩
theorem varK (n : Nat) (X : List Nat) (w : World) (hX : X = varL n) (hn : n < 18446744073709551616) : Calls Tryd.prog 36 #[.int .u64 (n : Int)] w (SlQ X w) := by
  subst hX
  refine (varC n w hn).mono ?_
  rintro e w' ⟨v, rfl, o, b⟩
  exact slQ_of o b
theorem tabC_then {B : Nat} {W w1 : World} (hb : Below B W w1) (hB : W.heap.size ≤ B) (h : TabC W) : TabC w1 := fun i hi => cell_then hb hB (h i hi)
theorem crcK (a : Option Addr) (m cap : Nat) (l : List Nat) (r : Nat) (w : World) (hm : m = l.length) (hr : r = crc l) (hl : ∀ c ∈ l, c < 256) (hn : l.length ≤ 9223372036854775807) (hc : Sl w a l) (hT : TabC w) :
    Calls Tryd.prog 38 #[.slice a m cap] w fun e w' => e = .returned (.int .u32 (r : Int)) ∧ w = w' := by
  subst hm hr; exact crcC a cap l w hl hn hc hT
theorem fourQ {n : Int} {w w' : World} {e : Ending} (h : FourP n w e w') : SlQ (fourL n) w e w' := by
  obtain ⟨rfl, rfl⟩ := h
  exact ⟨_, 4, rfl, sl_new w _ 5, (fun h => by cases h), Nat.le_refl _, (fun x hx => by cases hx; exact Nat.le_refl _), (Below.refl _ _).alloc (Nat.le_refl _) _⟩
theorem crc_lt (l : List Nat) (h : ∀ c ∈ l, c < 256) : crc l < 4294967296 := Nat.xor_lt_two_pow (n := 32) (by decide) (run_lt h (by decide))
theorem fourK (n : Nat) (X : List Nat) (w : World) (hX : X = fourL (n : Int)) (h : n < 4294967296) : Calls Tryd.prog 37 #[.int .u32 (n : Int)] w (SlQ X w) := by
  subst hX
  exact (four43 n w (by omega) (by omega)).mono fun _ _ h => fourQ h
theorem dfourK (n : Nat) (X : List Nat) (w : World) (hX : X = fourL (n : Int)) (h : n < 4294967296) : Calls Tryd.prog 40 #[.int .u32 (n : Int)] w (SlQ X w) := by
  subst hX
  exact (four44 n w (by omega) (by omega)).mono fun _ _ h => fourQ h
/-- what Encode answers. -/
def EnP (X : List Nat) (E : Nat) (w : World) (e : Ending) (w' : World) : Prop := ∃ a c, e = .returned (.tuple #[.slice a X.length c, .int .i64 (E : Int)]) ∧ Sl w' a X ∧ (a = none → c = 0) ∧ X.length ≤ c ∧ (∀ x, a = some x → w.heap.size ≤ x.block) ∧ Below w.heap.size w w'
theorem enP_of {X : List Nat} {w w' : World} {v : Value} {B : Nat} (h : Rb w' B v X) (hB : w.heap.size ≤ B) (b : Below w.heap.size w w') : EnP X 0 w (.returned (.tuple #[v, .int .i64 0])) w' := by
  obtain ⟨a, c, rfl, h1, h2, h3, h4⟩ := rb_sl h
  exact ⟨a, c, rfl, h2, h3, h1, fun x hx => Nat.le_trans hB (h4 x hx).1, b⟩
def encL (k : Int) (s t : Nat) (l : List Nat) : List Nat := if mayR k s t l.length = true then recL k.toNat s t l else []
def encE (k : Int) (s t : Nat) (l : List Nat) : Nat := if mayR k s t l.length = true then 0 else 1

end Go.Proofs.YtabgelmmjpjejaaDoor.Ry
