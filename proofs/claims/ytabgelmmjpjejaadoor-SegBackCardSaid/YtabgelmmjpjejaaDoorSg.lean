/- Names of segments. -/
import Derived.Test.YtabgelmmjpjejaaDoorSf
set_option linter.unusedVariables false
namespace Go.Proofs.YtabgelmmjpjejaaDoor.Sg
open Go Go.RowKit Kit Crc Var Get Ref3 Copy Bytes Bx Py Py2 Ry Rz Dn Df Dd Da Dc Rs Rf Rg Ar Bg Np Go.Proofs.YtabgelmmjpjejaaDoor.Nm Hd Sn Rh Sr Sf


theorem less_cons (a b : UInt8) (x y : List UInt8) : Op.bytesLess (a :: x) (b :: y) = decide (a.toNat < b.toNat ∨ (a.toNat = b.toNat ∧ Op.bytesLess x y = true)) := by
  rw [Op.bytesLess]
  have e1 : (a < b) = (a.toNat < b.toNat) := rfl
  have e2 : (a == b) = decide (a.toNat = b.toNat) := by
    by_cases h : a = b
    · subst h; simp
    · rw [beq_eq_false_iff_ne.2 h, decide_eq_false (fun h2 => h (UInt8.toNat.inj h2))]
  rw [e2]
  simp only [e1]
  cases hL : Op.bytesLess x y <;> simp
theorem less_same (a : UInt8) (x y : List UInt8) : Op.bytesLess (a :: x) (a :: y) = Op.bytesLess x y := by
  rw [less_cons]
  cases hL : Op.bytesLess x y <;> simp
theorem dig_split {m : Nat} (h : m ≤ 999999) : ∃ a b c d e f : Nat, a ≤ 9 ∧ b ≤ 9 ∧ c ≤ 9 ∧ d ≤ 9 ∧ e ≤ 9 ∧ f ≤ 9 ∧ m / 10 ^ 5 % 10 = a ∧ m / 10 ^ 4 % 10 = b ∧ m / 10 ^ 3 % 10 = c ∧ m / 10 ^ 2 % 10 = d ∧ m / 10 ^ 1 % 10 = e ∧ m / 10 ^ 0 % 10 = f ∧ m = 100000 * a + 10000 * b + 1000 * c + 100 * d + 10 * e + f :=
  ⟨_, _, _, _, _, _, by omega, by omega, by omega, by omega, by omega, by omega, rfl, rfl, rfl, rfl, rfl, rfl, by simp only [Nat.reducePow]; omega⟩
theorem step_digit (B a a' r r' : Nat) (h : r < B) (h' : r' < B) : (48 + a < 48 + a' ∨ (48 + a = 48 + a' ∧ r < r')) ↔ B * a + r < B * a' + r' := by
  rcases Nat.lt_trichotomy a a' with hl | rfl | hl
  · have : B * (a + 1) ≤ B * a' := Nat.mul_le_mul_left B hl
    rw [Nat.mul_add] at this
    constructor
    · intro _; omega
    · intro _; exact .inl (by omega)
  · constructor
    · rintro (h1 | ⟨_, h1⟩) <;> omega
    · intro h1; exact .inr ⟨rfl, by omega⟩
  · have : B * (a' + 1) ≤ B * a := Nat.mul_le_mul_left B hl
    rw [Nat.mul_add] at this
    constructor
    · rintro (h1 | ⟨h1, _⟩) <;> omega
    · intro _; omega
theorem six_less (a b c d e f a' b' c' d' e' f' : Nat) (h1 : b ≤ 9) (h2 : c ≤ 9) (h3 : d ≤ 9) (h4 : e ≤ 9) (h5 : f ≤ 9) (k1 : b' ≤ 9) (k2 : c' ≤ 9) (k3 : d' ≤ 9) (k4 : e' ≤ 9) (k5 : f' ≤ 9) :
    (48 + a < 48 + a' ∨ (48 + a = 48 + a' ∧ (48 + b < 48 + b' ∨ (48 + b = 48 + b' ∧ (48 + c < 48 + c' ∨ (48 + c = 48 + c' ∧ (48 + d < 48 + d' ∨ (48 + d = 48 + d' ∧ (48 + e < 48 + e' ∨ (48 + e = 48 + e' ∧ 48 + f < 48 + f')))))))))) ↔
    100000 * a + (10000 * b + (1000 * c + (100 * d + (10 * e + f)))) < 100000 * a' + (10000 * b' + (1000 * c' + (100 * d' + (10 * e' + f')))) := by
  have t0 : 48 + f < 48 + f' ↔ f < f' := by omega
  have t1 := (or_congr Iff.rfl (and_congr Iff.rfl t0)).trans (step_digit 10 e e' f f' (by omega) (by omega))
  have t2 := (or_congr Iff.rfl (and_congr Iff.rfl t1)).trans (step_digit 100 d d' _ _ (by omega) (by omega))
  have t3 := (or_congr Iff.rfl (and_congr Iff.rfl t2)).trans (step_digit 1000 c c' _ _ (by omega) (by omega))
  have t4 := (or_congr Iff.rfl (and_congr Iff.rfl t3)).trans (step_digit 10000 b b' _ _ (by omega) (by omega))
  exact (or_congr Iff.rfl (and_congr Iff.rfl t4)).trans (step_digit 100000 a a' _ _ (by omega) (by omega))
/-- names stand as their numbers do. -/
theorem name_less {m n : Nat} (hm : m ≤ 999999) (hn : n ≤ 999999) : Op.bytesLess (nameB m).toList (nameB n).toList = decide (m < n) := by
  rw [ByteArray.toList_eq, ByteArray.toList_eq, nameB_list, nameB_list, less_same]
  obtain ⟨a, b, c, d, e, f, _, _, _, _, _, _, ha, hb, hc, hd, he, hf, hM⟩ := dig_split hm
  obtain ⟨a', b', c', d', e', f', _, _, _, _, _, _, ha', hb', hc', hd', he', hf', hN⟩ := dig_split hn
  unfold six
  rw [less_cons, less_cons, less_cons, less_cons, less_cons, less_cons]
  simp only [dg_nat, ha, hb, hc, hd, he, hf, ha', hb', hc', hd', he', hf', Op.bytesLess, decide_eq_true_eq, Bool.false_eq_true, and_false, or_false]
  apply decide_eq_decide.2
  refine (six_less a b c d e f a' b' c' d' e' f' (by assumption) (by assumption) (by assumption) (by assumption) (by assumption) (by assumption) (by assumption) (by assumption) (by assumption) (by assumption)).trans ?_
  rw [hM, hN]
  constructor <;> (intro h; omega)
theorem name_some (m : Nat) : (nameB m).toList.isEmpty = false := by
  rw [ByteArray.toList_eq, nameB_list]; rfl
theorem no_name : ∀ v : Nat, 1 ≤ v → v ≤ 999999 → (⟨#[]⟩ : ByteArray) ≠ nameB v := by
  intro v _ _ h
  have := congrArg (fun b => b.data.toList) h
  simp [nameB] at this
abbrev CallT (w : World) (f : Nat) (args : Array Value) (v : Value) : Prop := ∀ w1, Below w.heap.size w w1 → Calls Tryd.prog f args w1 fun e w' => e = .returned v ∧ Below w1.heap.size w1 w'

set_option maxRecDepth 100000 in
set_option maxHeartbeats 2000000 in
theorem walk111 (q : Nat) (m : Nat) (X : ByteArray) (a1m : 1 ≤ m) (a2m : m ≤ 999999) (gX : X.toList.isEmpty = false) (k : Nat) (Y : ByteArray) (gY : Y.toList.isEmpty = false) (r : Bool) (gL : Op.bytesLess X.toList Y.toList = r) (gI : decide ((m : Int) < (k : Int)) = r) (gN : decide (m < k) = r) (s : ByteArray) (w : World) (hs : ¬ (100 : Int) < (s.size : Int)) (gS : (s.toList == s.toList) = true) (HF : Hid (CallT w 24 #[] (.bool true))) (HA : Hid (CallT w 31 #[.int .i64 (m : Int)] (.string X))) (HBN : Hid (CallT w 31 #[.int .i64 (k : Int)] (.string Y))) (HX : Hid (CallT w 25 #[.string X] (.tuple #[.int .i64 (m : Int), .bool true]))) (HS : Hid (CallT w 25 #[.string s] (.tuple #[.int .i64 (q : Int), .bool true]))) (HV : Hid (CallT w 31 #[.int .i64 (q : Int)] (.string s))) :
    Calls Tryd.prog 9 #[.int .i64 (m : Int), .int .i64 (k : Int), .string s] w fun e w' => e = .returned (.bool true) ∧ Below w.heap.size w w' := by
  have hs2 : ¬ 100 < s.size := by omega
  have f1 : ¬ (m : Int) < 1 := by omega
  have f2 : (1 : Int) ≤ (m : Int) := by omega
  have f3 : (m : Int) ≤ 999999 := by omega
  have f4 : 1 ≤ m := a1m
  have f5 : m ≤ 999999 := a2m
  clear a1m a2m
  cases r
  · skip
    go_enter Tryd.func9, Tryd.ntmps9
    go_wp2_with (first
        | (go_at_call 24; (with_reducible refine (HF.out w (Below.refl _ _)).mono ?_); rintro e w1 ⟨rfl, b1⟩; have HB1 := Lib.hid b1; clear b1)
        | (go_at_call 31; (with_reducible refine (HA.out w1 HB1.out).mono ?_); rintro e w2 ⟨rfl, b2⟩; have HB2 := Lib.hid (below_then HB1.out b2 HB1.out.size); clear b2)
        | (go_at_call 31; (with_reducible refine (HBN.out w2 HB2.out).mono ?_); rintro e w3 ⟨rfl, b3⟩; have HB3 := Lib.hid (below_then HB2.out b3 HB2.out.size); clear b3)
        | (go_at_call 25; (with_reducible refine (HX.out w3 HB3.out).mono ?_); rintro e w4 ⟨rfl, b4⟩; have HB4 := Lib.hid (below_then HB3.out b4 HB3.out.size); clear b4)
        | (go_at_call 25; (with_reducible refine (HS.out w4 HB4.out).mono ?_); rintro e w5 ⟨rfl, b5⟩; have HB5 := Lib.hid (below_then HB4.out b5 HB4.out.size); clear b5)
        | (go_at_call 24; (with_reducible refine (HF.out w5 HB5.out).mono ?_); rintro e w6 ⟨rfl, b6⟩; have HB6 := Lib.hid (below_then HB5.out b6 HB5.out.size); clear b6)
        | (go_at_call 31; (with_reducible refine (HV.out w6 HB6.out).mono ?_); rintro e w7 ⟨rfl, b7⟩; have HB7 := Lib.hid (below_then HB6.out b7 HB6.out.size); clear b7))
    go_ret
    exact ⟨rfl, HB7.out⟩
  · skip
    go_enter Tryd.func9, Tryd.ntmps9
    go_wp2_with (first
        | (go_at_call 24; (with_reducible refine (HF.out w (Below.refl _ _)).mono ?_); rintro e w1 ⟨rfl, b1⟩; have HB1 := Lib.hid b1; clear b1)
        | (go_at_call 31; (with_reducible refine (HA.out w1 HB1.out).mono ?_); rintro e w2 ⟨rfl, b2⟩; have HB2 := Lib.hid (below_then HB1.out b2 HB1.out.size); clear b2)
        | (go_at_call 31; (with_reducible refine (HBN.out w2 HB2.out).mono ?_); rintro e w3 ⟨rfl, b3⟩; have HB3 := Lib.hid (below_then HB2.out b3 HB2.out.size); clear b3)
        | (go_at_call 25; (with_reducible refine (HX.out w3 HB3.out).mono ?_); rintro e w4 ⟨rfl, b4⟩; have HB4 := Lib.hid (below_then HB3.out b4 HB3.out.size); clear b4)
        | (go_at_call 25; (with_reducible refine (HS.out w4 HB4.out).mono ?_); rintro e w5 ⟨rfl, b5⟩; have HB5 := Lib.hid (below_then HB4.out b5 HB4.out.size); clear b5)
        | (go_at_call 24; (with_reducible refine (HF.out w5 HB5.out).mono ?_); rintro e w6 ⟨rfl, b6⟩; have HB6 := Lib.hid (below_then HB5.out b6 HB5.out.size); clear b6)
        | (go_at_call 31; (with_reducible refine (HV.out w6 HB6.out).mono ?_); rintro e w7 ⟨rfl, b7⟩; have HB7 := Lib.hid (below_then HB6.out b7 HB6.out.size); clear b7))
    go_ret
    exact ⟨rfl, HB7.out⟩

set_option maxRecDepth 100000 in
set_option maxHeartbeats 2000000 in
theorem walk110  (m : Nat) (X : ByteArray) (a1m : 1 ≤ m) (a2m : m ≤ 999999) (gX : X.toList.isEmpty = false) (k : Nat) (Y : ByteArray) (gY : Y.toList.isEmpty = false) (r : Bool) (gL : Op.bytesLess X.toList Y.toList = r) (gI : decide ((m : Int) < (k : Int)) = r) (gN : decide (m < k) = r) (s : ByteArray) (w : World) (hs : ¬ (100 : Int) < (s.size : Int)) (gS : (s.toList == s.toList) = true) (HF : Hid (CallT w 24 #[] (.bool true))) (HA : Hid (CallT w 31 #[.int .i64 (m : Int)] (.string X))) (HBN : Hid (CallT w 31 #[.int .i64 (k : Int)] (.string Y))) (HX : Hid (CallT w 25 #[.string X] (.tuple #[.int .i64 (m : Int), .bool true]))) (HS : Hid (CallT w 25 #[.string s] (.tuple #[.int .i64 0, .bool false])))  :
    Calls Tryd.prog 9 #[.int .i64 (m : Int), .int .i64 (k : Int), .string s] w fun e w' => e = .returned (.bool true) ∧ Below w.heap.size w w' := by
  have hs2 : ¬ 100 < s.size := by omega
  have f1 : ¬ (m : Int) < 1 := by omega
  have f2 : (1 : Int) ≤ (m : Int) := by omega
  have f3 : (m : Int) ≤ 999999 := by omega
  have f4 : 1 ≤ m := a1m
  have f5 : m ≤ 999999 := a2m
  clear a1m a2m
  cases r
  · skip
    go_enter Tryd.func9, Tryd.ntmps9
    go_wp2_with (first
        | (go_at_call 24; (with_reducible refine (HF.out w (Below.refl _ _)).mono ?_); rintro e w1 ⟨rfl, b1⟩; have HB1 := Lib.hid b1; clear b1)
        | (go_at_call 31; (with_reducible refine (HA.out w1 HB1.out).mono ?_); rintro e w2 ⟨rfl, b2⟩; have HB2 := Lib.hid (below_then HB1.out b2 HB1.out.size); clear b2)
        | (go_at_call 31; (with_reducible refine (HBN.out w2 HB2.out).mono ?_); rintro e w3 ⟨rfl, b3⟩; have HB3 := Lib.hid (below_then HB2.out b3 HB2.out.size); clear b3)
        | (go_at_call 25; (with_reducible refine (HX.out w3 HB3.out).mono ?_); rintro e w4 ⟨rfl, b4⟩; have HB4 := Lib.hid (below_then HB3.out b4 HB3.out.size); clear b4)
        | (go_at_call 25; (with_reducible refine (HS.out w4 HB4.out).mono ?_); rintro e w5 ⟨rfl, b5⟩; have HB5 := Lib.hid (below_then HB4.out b5 HB4.out.size); clear b5)
        | (go_at_call 24; (with_reducible refine (HF.out w5 HB5.out).mono ?_); rintro e w6 ⟨rfl, b6⟩; have HB6 := Lib.hid (below_then HB5.out b6 HB5.out.size); clear b6))
    go_ret
    exact ⟨rfl, HB6.out⟩
  · skip
    go_enter Tryd.func9, Tryd.ntmps9
    go_wp2_with (first
        | (go_at_call 24; (with_reducible refine (HF.out w (Below.refl _ _)).mono ?_); rintro e w1 ⟨rfl, b1⟩; have HB1 := Lib.hid b1; clear b1)
        | (go_at_call 31; (with_reducible refine (HA.out w1 HB1.out).mono ?_); rintro e w2 ⟨rfl, b2⟩; have HB2 := Lib.hid (below_then HB1.out b2 HB1.out.size); clear b2)
        | (go_at_call 31; (with_reducible refine (HBN.out w2 HB2.out).mono ?_); rintro e w3 ⟨rfl, b3⟩; have HB3 := Lib.hid (below_then HB2.out b3 HB2.out.size); clear b3)
        | (go_at_call 25; (with_reducible refine (HX.out w3 HB3.out).mono ?_); rintro e w4 ⟨rfl, b4⟩; have HB4 := Lib.hid (below_then HB3.out b4 HB3.out.size); clear b4)
        | (go_at_call 25; (with_reducible refine (HS.out w4 HB4.out).mono ?_); rintro e w5 ⟨rfl, b5⟩; have HB5 := Lib.hid (below_then HB4.out b5 HB4.out.size); clear b5)
        | (go_at_call 24; (with_reducible refine (HF.out w5 HB5.out).mono ?_); rintro e w6 ⟨rfl, b6⟩; have HB6 := Lib.hid (below_then HB5.out b6 HB5.out.size); clear b6))
    go_ret
    exact ⟨rfl, HB6.out⟩

set_option maxRecDepth 100000 in
set_option maxHeartbeats 2000000 in
theorem walk101 (q : Nat) (m : Nat) (X : ByteArray) (a1m : 1 ≤ m) (a2m : m ≤ 999999) (gX : X.toList.isEmpty = false) (a1 : Int)  (s : ByteArray) (w : World) (hs : ¬ (100 : Int) < (s.size : Int)) (gS : (s.toList == s.toList) = true) (HF : Hid (CallT w 24 #[] (.bool true))) (HA : Hid (CallT w 31 #[.int .i64 (m : Int)] (.string X))) (HBN : Hid (CallT w 31 #[.int .i64 a1] (.string ⟨#[]⟩))) (HX : Hid (CallT w 25 #[.string X] (.tuple #[.int .i64 (m : Int), .bool true]))) (HS : Hid (CallT w 25 #[.string s] (.tuple #[.int .i64 (q : Int), .bool true]))) (HV : Hid (CallT w 31 #[.int .i64 (q : Int)] (.string s))) :
    Calls Tryd.prog 9 #[.int .i64 (m : Int), .int .i64 a1, .string s] w fun e w' => e = .returned (.bool true) ∧ Below w.heap.size w w' := by
  have hs2 : ¬ 100 < s.size := by omega
  have f1 : ¬ (m : Int) < 1 := by omega
  have f2 : (1 : Int) ≤ (m : Int) := by omega
  have f3 : (m : Int) ≤ 999999 := by omega
  have f4 : 1 ≤ m := a1m
  have f5 : m ≤ 999999 := a2m
  clear a1m a2m
  go_enter Tryd.func9, Tryd.ntmps9
  go_wp2_with (first
        | (go_at_call 24; (with_reducible refine (HF.out w (Below.refl _ _)).mono ?_); rintro e w1 ⟨rfl, b1⟩; have HB1 := Lib.hid b1; clear b1)
        | (go_at_call 31; (with_reducible refine (HA.out w1 HB1.out).mono ?_); rintro e w2 ⟨rfl, b2⟩; have HB2 := Lib.hid (below_then HB1.out b2 HB1.out.size); clear b2)
        | (go_at_call 31; (with_reducible refine (HBN.out w2 HB2.out).mono ?_); rintro e w3 ⟨rfl, b3⟩; have HB3 := Lib.hid (below_then HB2.out b3 HB2.out.size); clear b3)
        | (go_at_call 25; (with_reducible refine (HX.out w3 HB3.out).mono ?_); rintro e w4 ⟨rfl, b4⟩; have HB4 := Lib.hid (below_then HB3.out b4 HB3.out.size); clear b4)
        | (go_at_call 25; (with_reducible refine (HS.out w4 HB4.out).mono ?_); rintro e w5 ⟨rfl, b5⟩; have HB5 := Lib.hid (below_then HB4.out b5 HB4.out.size); clear b5)
        | (go_at_call 24; (with_reducible refine (HF.out w5 HB5.out).mono ?_); rintro e w6 ⟨rfl, b6⟩; have HB6 := Lib.hid (below_then HB5.out b6 HB5.out.size); clear b6)
        | (go_at_call 31; (with_reducible refine (HV.out w6 HB6.out).mono ?_); rintro e w7 ⟨rfl, b7⟩; have HB7 := Lib.hid (below_then HB6.out b7 HB6.out.size); clear b7))
  go_ret
  exact ⟨rfl, HB7.out⟩

set_option maxRecDepth 100000 in
set_option maxHeartbeats 2000000 in
theorem walk100  (m : Nat) (X : ByteArray) (a1m : 1 ≤ m) (a2m : m ≤ 999999) (gX : X.toList.isEmpty = false) (a1 : Int)  (s : ByteArray) (w : World) (hs : ¬ (100 : Int) < (s.size : Int)) (gS : (s.toList == s.toList) = true) (HF : Hid (CallT w 24 #[] (.bool true))) (HA : Hid (CallT w 31 #[.int .i64 (m : Int)] (.string X))) (HBN : Hid (CallT w 31 #[.int .i64 a1] (.string ⟨#[]⟩))) (HX : Hid (CallT w 25 #[.string X] (.tuple #[.int .i64 (m : Int), .bool true]))) (HS : Hid (CallT w 25 #[.string s] (.tuple #[.int .i64 0, .bool false])))  :
    Calls Tryd.prog 9 #[.int .i64 (m : Int), .int .i64 a1, .string s] w fun e w' => e = .returned (.bool true) ∧ Below w.heap.size w w' := by
  have hs2 : ¬ 100 < s.size := by omega
  have f1 : ¬ (m : Int) < 1 := by omega
  have f2 : (1 : Int) ≤ (m : Int) := by omega
  have f3 : (m : Int) ≤ 999999 := by omega
  have f4 : 1 ≤ m := a1m
  have f5 : m ≤ 999999 := a2m
  clear a1m a2m
  go_enter Tryd.func9, Tryd.ntmps9
  go_wp2_with (first
        | (go_at_call 24; (with_reducible refine (HF.out w (Below.refl _ _)).mono ?_); rintro e w1 ⟨rfl, b1⟩; have HB1 := Lib.hid b1; clear b1)
        | (go_at_call 31; (with_reducible refine (HA.out w1 HB1.out).mono ?_); rintro e w2 ⟨rfl, b2⟩; have HB2 := Lib.hid (below_then HB1.out b2 HB1.out.size); clear b2)
        | (go_at_call 31; (with_reducible refine (HBN.out w2 HB2.out).mono ?_); rintro e w3 ⟨rfl, b3⟩; have HB3 := Lib.hid (below_then HB2.out b3 HB2.out.size); clear b3)
        | (go_at_call 25; (with_reducible refine (HX.out w3 HB3.out).mono ?_); rintro e w4 ⟨rfl, b4⟩; have HB4 := Lib.hid (below_then HB3.out b4 HB3.out.size); clear b4)
        | (go_at_call 25; (with_reducible refine (HS.out w4 HB4.out).mono ?_); rintro e w5 ⟨rfl, b5⟩; have HB5 := Lib.hid (below_then HB4.out b5 HB4.out.size); clear b5)
        | (go_at_call 24; (with_reducible refine (HF.out w5 HB5.out).mono ?_); rintro e w6 ⟨rfl, b6⟩; have HB6 := Lib.hid (below_then HB5.out b6 HB5.out.size); clear b6))
  go_ret
  exact ⟨rfl, HB6.out⟩

set_option maxRecDepth 100000 in
set_option maxHeartbeats 2000000 in
theorem walk011 (q : Nat) (a0 : Int) (ha : ¬ (1 ≤ a0 ∧ a0 ≤ 999999)) (k : Nat) (Y : ByteArray) (gY : Y.toList.isEmpty = false)  (s : ByteArray) (w : World) (hs : ¬ (100 : Int) < (s.size : Int)) (gS : (s.toList == s.toList) = true) (HF : Hid (CallT w 24 #[] (.bool true))) (HA : Hid (CallT w 31 #[.int .i64 a0] (.string ⟨#[]⟩))) (HBN : Hid (CallT w 31 #[.int .i64 (k : Int)] (.string Y))) (HX : Hid (CallT w 25 #[.string ⟨#[]⟩] (.tuple #[.int .i64 0, .bool false]))) (HS : Hid (CallT w 25 #[.string s] (.tuple #[.int .i64 (q : Int), .bool true]))) (HV : Hid (CallT w 31 #[.int .i64 (q : Int)] (.string s))) :
    Calls Tryd.prog 9 #[.int .i64 a0, .int .i64 (k : Int), .string s] w fun e w' => e = .returned (.bool true) ∧ Below w.heap.size w w' := by
  have hs2 : ¬ 100 < s.size := by omega
  by_cases h1 : 1 ≤ a0
  · have h2 : ¬ a0 ≤ 999999 := fun h => ha ⟨h1, h⟩
    clear ha
    go_enter Tryd.func9, Tryd.ntmps9
    go_wp2_with (first
        | (go_at_call 24; (with_reducible refine (HF.out w (Below.refl _ _)).mono ?_); rintro e w1 ⟨rfl, b1⟩; have HB1 := Lib.hid b1; clear b1)
        | (go_at_call 31; (with_reducible refine (HA.out w1 HB1.out).mono ?_); rintro e w2 ⟨rfl, b2⟩; have HB2 := Lib.hid (below_then HB1.out b2 HB1.out.size); clear b2)
        | (go_at_call 31; (with_reducible refine (HBN.out w2 HB2.out).mono ?_); rintro e w3 ⟨rfl, b3⟩; have HB3 := Lib.hid (below_then HB2.out b3 HB2.out.size); clear b3)
        | (go_at_call 25; (with_reducible refine (HX.out w3 HB3.out).mono ?_); rintro e w4 ⟨rfl, b4⟩; have HB4 := Lib.hid (below_then HB3.out b4 HB3.out.size); clear b4)
        | (go_at_call 25; (with_reducible refine (HS.out w4 HB4.out).mono ?_); rintro e w5 ⟨rfl, b5⟩; have HB5 := Lib.hid (below_then HB4.out b5 HB4.out.size); clear b5)
        | (go_at_call 24; (with_reducible refine (HF.out w5 HB5.out).mono ?_); rintro e w6 ⟨rfl, b6⟩; have HB6 := Lib.hid (below_then HB5.out b6 HB5.out.size); clear b6)
        | (go_at_call 31; (with_reducible refine (HV.out w6 HB6.out).mono ?_); rintro e w7 ⟨rfl, b7⟩; have HB7 := Lib.hid (below_then HB6.out b7 HB6.out.size); clear b7))
    go_ret
    exact ⟨rfl, HB7.out⟩
  · skip
    clear ha
    go_enter Tryd.func9, Tryd.ntmps9
    go_wp2_with (first
        | (go_at_call 24; (with_reducible refine (HF.out w (Below.refl _ _)).mono ?_); rintro e w1 ⟨rfl, b1⟩; have HB1 := Lib.hid b1; clear b1)
        | (go_at_call 31; (with_reducible refine (HA.out w1 HB1.out).mono ?_); rintro e w2 ⟨rfl, b2⟩; have HB2 := Lib.hid (below_then HB1.out b2 HB1.out.size); clear b2)
        | (go_at_call 31; (with_reducible refine (HBN.out w2 HB2.out).mono ?_); rintro e w3 ⟨rfl, b3⟩; have HB3 := Lib.hid (below_then HB2.out b3 HB2.out.size); clear b3)
        | (go_at_call 25; (with_reducible refine (HX.out w3 HB3.out).mono ?_); rintro e w4 ⟨rfl, b4⟩; have HB4 := Lib.hid (below_then HB3.out b4 HB3.out.size); clear b4)
        | (go_at_call 25; (with_reducible refine (HS.out w4 HB4.out).mono ?_); rintro e w5 ⟨rfl, b5⟩; have HB5 := Lib.hid (below_then HB4.out b5 HB4.out.size); clear b5)
        | (go_at_call 24; (with_reducible refine (HF.out w5 HB5.out).mono ?_); rintro e w6 ⟨rfl, b6⟩; have HB6 := Lib.hid (below_then HB5.out b6 HB5.out.size); clear b6)
        | (go_at_call 31; (with_reducible refine (HV.out w6 HB6.out).mono ?_); rintro e w7 ⟨rfl, b7⟩; have HB7 := Lib.hid (below_then HB6.out b7 HB6.out.size); clear b7))
    go_ret
    exact ⟨rfl, HB7.out⟩

set_option maxRecDepth 100000 in
set_option maxHeartbeats 2000000 in
theorem walk010  (a0 : Int) (ha : ¬ (1 ≤ a0 ∧ a0 ≤ 999999)) (k : Nat) (Y : ByteArray) (gY : Y.toList.isEmpty = false)  (s : ByteArray) (w : World) (hs : ¬ (100 : Int) < (s.size : Int)) (gS : (s.toList == s.toList) = true) (HF : Hid (CallT w 24 #[] (.bool true))) (HA : Hid (CallT w 31 #[.int .i64 a0] (.string ⟨#[]⟩))) (HBN : Hid (CallT w 31 #[.int .i64 (k : Int)] (.string Y))) (HX : Hid (CallT w 25 #[.string ⟨#[]⟩] (.tuple #[.int .i64 0, .bool false]))) (HS : Hid (CallT w 25 #[.string s] (.tuple #[.int .i64 0, .bool false])))  :
    Calls Tryd.prog 9 #[.int .i64 a0, .int .i64 (k : Int), .string s] w fun e w' => e = .returned (.bool true) ∧ Below w.heap.size w w' := by
  have hs2 : ¬ 100 < s.size := by omega
  by_cases h1 : 1 ≤ a0
  · have h2 : ¬ a0 ≤ 999999 := fun h => ha ⟨h1, h⟩
    clear ha
    go_enter Tryd.func9, Tryd.ntmps9
    go_wp2_with (first
        | (go_at_call 24; (with_reducible refine (HF.out w (Below.refl _ _)).mono ?_); rintro e w1 ⟨rfl, b1⟩; have HB1 := Lib.hid b1; clear b1)
        | (go_at_call 31; (with_reducible refine (HA.out w1 HB1.out).mono ?_); rintro e w2 ⟨rfl, b2⟩; have HB2 := Lib.hid (below_then HB1.out b2 HB1.out.size); clear b2)
        | (go_at_call 31; (with_reducible refine (HBN.out w2 HB2.out).mono ?_); rintro e w3 ⟨rfl, b3⟩; have HB3 := Lib.hid (below_then HB2.out b3 HB2.out.size); clear b3)
        | (go_at_call 25; (with_reducible refine (HX.out w3 HB3.out).mono ?_); rintro e w4 ⟨rfl, b4⟩; have HB4 := Lib.hid (below_then HB3.out b4 HB3.out.size); clear b4)
        | (go_at_call 25; (with_reducible refine (HS.out w4 HB4.out).mono ?_); rintro e w5 ⟨rfl, b5⟩; have HB5 := Lib.hid (below_then HB4.out b5 HB4.out.size); clear b5)
        | (go_at_call 24; (with_reducible refine (HF.out w5 HB5.out).mono ?_); rintro e w6 ⟨rfl, b6⟩; have HB6 := Lib.hid (below_then HB5.out b6 HB5.out.size); clear b6))
    go_ret
    exact ⟨rfl, HB6.out⟩
  · skip
    clear ha
    go_enter Tryd.func9, Tryd.ntmps9
    go_wp2_with (first
        | (go_at_call 24; (with_reducible refine (HF.out w (Below.refl _ _)).mono ?_); rintro e w1 ⟨rfl, b1⟩; have HB1 := Lib.hid b1; clear b1)
        | (go_at_call 31; (with_reducible refine (HA.out w1 HB1.out).mono ?_); rintro e w2 ⟨rfl, b2⟩; have HB2 := Lib.hid (below_then HB1.out b2 HB1.out.size); clear b2)
        | (go_at_call 31; (with_reducible refine (HBN.out w2 HB2.out).mono ?_); rintro e w3 ⟨rfl, b3⟩; have HB3 := Lib.hid (below_then HB2.out b3 HB2.out.size); clear b3)
        | (go_at_call 25; (with_reducible refine (HX.out w3 HB3.out).mono ?_); rintro e w4 ⟨rfl, b4⟩; have HB4 := Lib.hid (below_then HB3.out b4 HB3.out.size); clear b4)
        | (go_at_call 25; (with_reducible refine (HS.out w4 HB4.out).mono ?_); rintro e w5 ⟨rfl, b5⟩; have HB5 := Lib.hid (below_then HB4.out b5 HB4.out.size); clear b5)
        | (go_at_call 24; (with_reducible refine (HF.out w5 HB5.out).mono ?_); rintro e w6 ⟨rfl, b6⟩; have HB6 := Lib.hid (below_then HB5.out b6 HB5.out.size); clear b6))
    go_ret
    exact ⟨rfl, HB6.out⟩

set_option maxRecDepth 100000 in
set_option maxHeartbeats 2000000 in
theorem walk001 (q : Nat) (a0 : Int) (ha : ¬ (1 ≤ a0 ∧ a0 ≤ 999999)) (a1 : Int)  (s : ByteArray) (w : World) (hs : ¬ (100 : Int) < (s.size : Int)) (gS : (s.toList == s.toList) = true) (HF : Hid (CallT w 24 #[] (.bool true))) (HA : Hid (CallT w 31 #[.int .i64 a0] (.string ⟨#[]⟩))) (HBN : Hid (CallT w 31 #[.int .i64 a1] (.string ⟨#[]⟩))) (HX : Hid (CallT w 25 #[.string ⟨#[]⟩] (.tuple #[.int .i64 0, .bool false]))) (HS : Hid (CallT w 25 #[.string s] (.tuple #[.int .i64 (q : Int), .bool true]))) (HV : Hid (CallT w 31 #[.int .i64 (q : Int)] (.string s))) :
    Calls Tryd.prog 9 #[.int .i64 a0, .int .i64 a1, .string s] w fun e w' => e = .returned (.bool true) ∧ Below w.heap.size w w' := by
  have hs2 : ¬ 100 < s.size := by omega
  by_cases h1 : 1 ≤ a0
  · have h2 : ¬ a0 ≤ 999999 := fun h => ha ⟨h1, h⟩
    clear ha
    go_enter Tryd.func9, Tryd.ntmps9
    go_wp2_with (first
        | (go_at_call 24; (with_reducible refine (HF.out w (Below.refl _ _)).mono ?_); rintro e w1 ⟨rfl, b1⟩; have HB1 := Lib.hid b1; clear b1)
        | (go_at_call 31; (with_reducible refine (HA.out w1 HB1.out).mono ?_); rintro e w2 ⟨rfl, b2⟩; have HB2 := Lib.hid (below_then HB1.out b2 HB1.out.size); clear b2)
        | (go_at_call 31; (with_reducible refine (HBN.out w2 HB2.out).mono ?_); rintro e w3 ⟨rfl, b3⟩; have HB3 := Lib.hid (below_then HB2.out b3 HB2.out.size); clear b3)
        | (go_at_call 25; (with_reducible refine (HX.out w3 HB3.out).mono ?_); rintro e w4 ⟨rfl, b4⟩; have HB4 := Lib.hid (below_then HB3.out b4 HB3.out.size); clear b4)
        | (go_at_call 25; (with_reducible refine (HS.out w4 HB4.out).mono ?_); rintro e w5 ⟨rfl, b5⟩; have HB5 := Lib.hid (below_then HB4.out b5 HB4.out.size); clear b5)
        | (go_at_call 24; (with_reducible refine (HF.out w5 HB5.out).mono ?_); rintro e w6 ⟨rfl, b6⟩; have HB6 := Lib.hid (below_then HB5.out b6 HB5.out.size); clear b6)
        | (go_at_call 31; (with_reducible refine (HV.out w6 HB6.out).mono ?_); rintro e w7 ⟨rfl, b7⟩; have HB7 := Lib.hid (below_then HB6.out b7 HB6.out.size); clear b7))
    go_ret
    exact ⟨rfl, HB7.out⟩
  · skip
    clear ha
    go_enter Tryd.func9, Tryd.ntmps9
    go_wp2_with (first
        | (go_at_call 24; (with_reducible refine (HF.out w (Below.refl _ _)).mono ?_); rintro e w1 ⟨rfl, b1⟩; have HB1 := Lib.hid b1; clear b1)
        | (go_at_call 31; (with_reducible refine (HA.out w1 HB1.out).mono ?_); rintro e w2 ⟨rfl, b2⟩; have HB2 := Lib.hid (below_then HB1.out b2 HB1.out.size); clear b2)
        | (go_at_call 31; (with_reducible refine (HBN.out w2 HB2.out).mono ?_); rintro e w3 ⟨rfl, b3⟩; have HB3 := Lib.hid (below_then HB2.out b3 HB2.out.size); clear b3)
        | (go_at_call 25; (with_reducible refine (HX.out w3 HB3.out).mono ?_); rintro e w4 ⟨rfl, b4⟩; have HB4 := Lib.hid (below_then HB3.out b4 HB3.out.size); clear b4)
        | (go_at_call 25; (with_reducible refine (HS.out w4 HB4.out).mono ?_); rintro e w5 ⟨rfl, b5⟩; have HB5 := Lib.hid (below_then HB4.out b5 HB4.out.size); clear b5)
        | (go_at_call 24; (with_reducible refine (HF.out w5 HB5.out).mono ?_); rintro e w6 ⟨rfl, b6⟩; have HB6 := Lib.hid (below_then HB5.out b6 HB5.out.size); clear b6)
        | (go_at_call 31; (with_reducible refine (HV.out w6 HB6.out).mono ?_); rintro e w7 ⟨rfl, b7⟩; have HB7 := Lib.hid (below_then HB6.out b7 HB6.out.size); clear b7))
    go_ret
    exact ⟨rfl, HB7.out⟩

set_option maxRecDepth 100000 in
set_option maxHeartbeats 2000000 in
theorem walk000  (a0 : Int) (ha : ¬ (1 ≤ a0 ∧ a0 ≤ 999999)) (a1 : Int)  (s : ByteArray) (w : World) (hs : ¬ (100 : Int) < (s.size : Int)) (gS : (s.toList == s.toList) = true) (HF : Hid (CallT w 24 #[] (.bool true))) (HA : Hid (CallT w 31 #[.int .i64 a0] (.string ⟨#[]⟩))) (HBN : Hid (CallT w 31 #[.int .i64 a1] (.string ⟨#[]⟩))) (HX : Hid (CallT w 25 #[.string ⟨#[]⟩] (.tuple #[.int .i64 0, .bool false]))) (HS : Hid (CallT w 25 #[.string s] (.tuple #[.int .i64 0, .bool false])))  :
    Calls Tryd.prog 9 #[.int .i64 a0, .int .i64 a1, .string s] w fun e w' => e = .returned (.bool true) ∧ Below w.heap.size w w' := by
  have hs2 : ¬ 100 < s.size := by omega
  by_cases h1 : 1 ≤ a0
  · have h2 : ¬ a0 ≤ 999999 := fun h => ha ⟨h1, h⟩
    clear ha
    go_enter Tryd.func9, Tryd.ntmps9
    go_wp2_with (first
        | (go_at_call 24; (with_reducible refine (HF.out w (Below.refl _ _)).mono ?_); rintro e w1 ⟨rfl, b1⟩; have HB1 := Lib.hid b1; clear b1)
        | (go_at_call 31; (with_reducible refine (HA.out w1 HB1.out).mono ?_); rintro e w2 ⟨rfl, b2⟩; have HB2 := Lib.hid (below_then HB1.out b2 HB1.out.size); clear b2)
        | (go_at_call 31; (with_reducible refine (HBN.out w2 HB2.out).mono ?_); rintro e w3 ⟨rfl, b3⟩; have HB3 := Lib.hid (below_then HB2.out b3 HB2.out.size); clear b3)
        | (go_at_call 25; (with_reducible refine (HX.out w3 HB3.out).mono ?_); rintro e w4 ⟨rfl, b4⟩; have HB4 := Lib.hid (below_then HB3.out b4 HB3.out.size); clear b4)
        | (go_at_call 25; (with_reducible refine (HS.out w4 HB4.out).mono ?_); rintro e w5 ⟨rfl, b5⟩; have HB5 := Lib.hid (below_then HB4.out b5 HB4.out.size); clear b5)
        | (go_at_call 24; (with_reducible refine (HF.out w5 HB5.out).mono ?_); rintro e w6 ⟨rfl, b6⟩; have HB6 := Lib.hid (below_then HB5.out b6 HB5.out.size); clear b6))
    go_ret
    exact ⟨rfl, HB6.out⟩
  · skip
    clear ha
    go_enter Tryd.func9, Tryd.ntmps9
    go_wp2_with (first
        | (go_at_call 24; (with_reducible refine (HF.out w (Below.refl _ _)).mono ?_); rintro e w1 ⟨rfl, b1⟩; have HB1 := Lib.hid b1; clear b1)
        | (go_at_call 31; (with_reducible refine (HA.out w1 HB1.out).mono ?_); rintro e w2 ⟨rfl, b2⟩; have HB2 := Lib.hid (below_then HB1.out b2 HB1.out.size); clear b2)
        | (go_at_call 31; (with_reducible refine (HBN.out w2 HB2.out).mono ?_); rintro e w3 ⟨rfl, b3⟩; have HB3 := Lib.hid (below_then HB2.out b3 HB2.out.size); clear b3)
        | (go_at_call 25; (with_reducible refine (HX.out w3 HB3.out).mono ?_); rintro e w4 ⟨rfl, b4⟩; have HB4 := Lib.hid (below_then HB3.out b4 HB3.out.size); clear b4)
        | (go_at_call 25; (with_reducible refine (HS.out w4 HB4.out).mono ?_); rintro e w5 ⟨rfl, b5⟩; have HB5 := Lib.hid (below_then HB4.out b5 HB4.out.size); clear b5)
        | (go_at_call 24; (with_reducible refine (HF.out w5 HB5.out).mono ?_); rintro e w6 ⟨rfl, b6⟩; have HB6 := Lib.hid (below_then HB5.out b6 HB5.out.size); clear b6))
    go_ret
    exact ⟨rfl, HB6.out⟩

set_option maxRecDepth 100000 in
set_option maxHeartbeats 2000000 in
theorem walkLong (a0 a1 : Int) (s : ByteArray) (w : World) (hs : (100 : Int) < (s.size : Int)) (HF : Hid (CallT w 24 #[] (.bool true))) :
    Calls Tryd.prog 9 #[.int .i64 a0, .int .i64 a1, .string s] w fun e w' => e = .returned (.bool true) ∧ Below w.heap.size w w' := by
  have hs2 : 100 < s.size := by omega
  go_enter Tryd.func9, Tryd.ntmps9
  go_wp2_with (first
    | (go_at_call 24; (with_reducible refine (HF.out w (Below.refl _ _)).mono ?_); rintro e w1 ⟨rfl, b1⟩; have HB1 := Lib.hid b1; clear b1)
    | (go_at_call 24; (with_reducible refine (HF.out w1 HB1.out).mono ?_); rintro e w2 ⟨rfl, b2⟩; have HB2 := Lib.hid (below_then HB1.out b2 HB1.out.size); clear b2))
  go_ret
  exact ⟨rfl, HB2.out⟩
/-- names of segments. -/
theorem walkAll (a0 a1 : Int) (s : ByteArray) (w : World) (hC : TabC w) (hP : TabP w) (hE : ErrV w) :
    Calls Tryd.prog 9 #[.int .i64 a0, .int .i64 a1, .string s] w fun e w' => e = .returned (.bool true) ∧ Below w.heap.size w w' := by
  have HF : Hid (CallT w 24 #[] (.bool true)) := Lib.hid fun w1 b => first16 w1 (tabC_then b (Nat.le_refl _) hC) (tabP_then b hP)
  by_cases hl : (100 : Int) < (s.size : Int)
  · exact walkLong a0 a1 s w hl HF
  have hs : s.size ≤ 281474976710656 := by omega
  have N0 : ∀ n : Int, ¬ (1 ≤ n ∧ n ≤ 999999) → Hid (CallT w 31 #[.int .i64 n] (.string ⟨#[]⟩)) := fun n h => Lib.hid fun w1 b => nameOut n w1 h
  have N1 : ∀ n : Nat, 1 ≤ n → n ≤ 999999 → Hid (CallT w 31 #[.int .i64 (n : Int)] (.string (nameB n))) := fun n h1 h2 => Lib.hid fun w1 b => nameIn n w1 h1 h2 (tabP_then b hP)
  have M0 : Hid (CallT w 25 #[.string ⟨#[]⟩] (.tuple #[.int .i64 0, .bool false])) := Lib.hid fun w1 b => numNo ⟨#[]⟩ w1 (by decide) no_name (tabP_then b hP) (errV_then b hE)
  have M1 : ∀ n : Nat, 1 ≤ n → n ≤ 999999 → Hid (CallT w 25 #[.string (nameB n)] (.tuple #[.int .i64 (n : Int), .bool true])) := fun n h1 h2 => Lib.hid fun w1 b => numYes n w1 h1 h2 (tabP_then b hP)
  have gS : (s.toList == s.toList) = true := by simp
  by_cases hS : ∃ q : Nat, 1 ≤ q ∧ q ≤ 999999 ∧ s = nameB q
  · obtain ⟨q, q1, q2, hq⟩ := hS
    have HS : Hid (CallT w 25 #[.string s] (.tuple #[.int .i64 (q : Int), .bool true])) := by rw [hq]; exact M1 q q1 q2
    have HV : Hid (CallT w 31 #[.int .i64 (q : Int)] (.string s)) := by rw [hq]; exact N1 q q1 q2
    by_cases ha : 1 ≤ a0 ∧ a0 ≤ 999999
    · obtain ⟨m, rfl⟩ := Int.eq_ofNat_of_zero_le (a := a0) (by omega)
      by_cases hb : 1 ≤ a1 ∧ a1 ≤ 999999
      · obtain ⟨k, rfl⟩ := Int.eq_ofNat_of_zero_le (a := a1) (by omega)
        exact walk111 q m _ (by omega) (by omega) (name_some m) k _ (name_some k) (decide (m < k)) (name_less (by omega) (by omega)) (decide_eq_decide.2 (by omega)) rfl s w hl gS HF (N1 m (by omega) (by omega)) (N1 k (by omega) (by omega)) (M1 m (by omega) (by omega)) HS HV
      · exact walk101 q m _ (by omega) (by omega) (name_some m) a1 s w hl gS HF (N1 m (by omega) (by omega)) (N0 a1 hb) (M1 m (by omega) (by omega)) HS HV
    · by_cases hb : 1 ≤ a1 ∧ a1 ≤ 999999
      · obtain ⟨k, rfl⟩ := Int.eq_ofNat_of_zero_le (a := a1) (by omega)
        exact walk011 q a0 ha k _ (name_some k) s w hl gS HF (N0 a0 ha) (N1 k (by omega) (by omega)) M0 HS HV
      · exact walk001 q a0 ha a1 s w hl gS HF (N0 a0 ha) (N0 a1 hb) M0 HS HV
  · have HS : Hid (CallT w 25 #[.string s] (.tuple #[.int .i64 0, .bool false])) := Lib.hid fun w1 b => numNo s w1 hs (fun v h1 h2 h => hS ⟨v, h1, h2, h⟩) (tabP_then b hP) (errV_then b hE)
    by_cases ha : 1 ≤ a0 ∧ a0 ≤ 999999
    · obtain ⟨m, rfl⟩ := Int.eq_ofNat_of_zero_le (a := a0) (by omega)
      by_cases hb : 1 ≤ a1 ∧ a1 ≤ 999999
      · obtain ⟨k, rfl⟩ := Int.eq_ofNat_of_zero_le (a := a1) (by omega)
        exact walk110 m _ (by omega) (by omega) (name_some m) k _ (name_some k) (decide (m < k)) (name_less (by omega) (by omega)) (decide_eq_decide.2 (by omega)) rfl s w hl gS HF (N1 m (by omega) (by omega)) (N1 k (by omega) (by omega)) (M1 m (by omega) (by omega)) HS
      · exact walk100 m _ (by omega) (by omega) (name_some m) a1 s w hl gS HF (N1 m (by omega) (by omega)) (N0 a1 hb) (M1 m (by omega) (by omega)) HS
    · by_cases hb : 1 ≤ a1 ∧ a1 ≤ 999999
      · obtain ⟨k, rfl⟩ := Int.eq_ofNat_of_zero_le (a := a1) (by omega)
        exact walk010 a0 ha k _ (name_some k) s w hl gS HF (N0 a0 ha) (N1 k (by omega) (by omega)) M0 HS
      · exact walk000 a0 ha a1 s w hl gS HF (N0 a0 ha) (N0 a1 hb) M0 HS

end Go.Proofs.YtabgelmmjpjejaaDoor.Sg
