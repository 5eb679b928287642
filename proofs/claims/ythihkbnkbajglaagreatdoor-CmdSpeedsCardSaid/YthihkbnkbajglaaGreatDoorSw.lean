/- tiklaw24.CmdSpeeds: the walk. -/
import Derived.Test.YthihkbnkbajglaaGreatDoorPw
import Derived.Test.YthihkbnkbajglaaGreatDoorDw
set_option linter.unusedVariables false
namespace Go.Proofs.YthihkbnkbajglaaGreatDoor.Sw
open Go Go.RowKit Kit Nums Rate0 CkMath CkC CkD CkE CkN OfA OfB Dk Dk2 Dk3 Dk4 Cm Cd Co Fo Fi Wd Fl Pw

theorem doE5 (d : Dck) (x : Nat) : doE d 5 0 x 0 0 0 = (ofN x).2.2 := by
  have hm : mayB 5 0 x = true := rfl
  simp only [doE, hm]
  show speedE 0 x = _
  unfold speedE
  by_cases h : (ofN x).2.2 = 0
  · rw [if_neg (by simp [h]), if_pos (by rw [mx_eq]; omega), h]
  · rw [if_pos h]
theorem doD5 (d : Dck) (x : Nat) : doD d 5 0 x 0 0 0 = speedD d 0 x := by
  have hm : mayB 5 0 x = true := rfl
  simp only [doD, hm]
  rfl
theorem doD5_ok (d : Dck) {x : Nat} (h : (ofN x).2.2 = 0) : (doD d 5 0 x 0 0 0).c.num = (ofN x).1 ∧ (doD d 5 0 x 0 0 0).c.den = (ofN x).2.1 := by
  rw [doD5, speedD, if_neg (by simp [h]), if_pos (by rw [mx_eq]; omega)]
  exact ⟨rfl, rfl⟩
theorem doD5_no (d : Dck) {x : Nat} (h : (ofN x).2.2 ≠ 0) : doD d 5 0 x 0 0 0 = d := by
  rw [doD5, speedD, if_pos h]
theorem doD5_no0 {x : Nat} (h : (ofN x).2.2 ≠ 0) : (doD d0 5 0 x 0 0 0).c.num = 1 ∧ (doD d0 5 0 x 0 0 0).c.den = 1 := by rw [doD5_no d0 h]; exact ⟨rfl, rfl⟩
theorem doD5_nod (d : Dck) {x : Nat} (h : (ofN x).2.2 ≠ 0) : (doD d 5 0 x 0 0 0).c.num = d.c.num ∧ (doD d 5 0 x 0 0 0).c.den = d.c.den := by rw [doD5_no d h]; exact ⟨rfl, rfl⟩
set_option maxRecDepth 100000 in
set_option maxHeartbeats 8000000 in
theorem walkff (A B x : Nat) (hA : A ≤ 9999) (h1 : 1 ≤ B) (h2 : B ≤ 9999) (hx : In64 x) (w : World) (hT : TabZ w) (hP : TabP w) (hf : (ofN (quoV A B)).2.2 ≠ 0) (hg : (ofN x).2.2 ≠ 0) :
    Calls Tryz.prog 4 #[.int .i64 (A : Int), .int .i64 (B : Int), .float .f64 x] w fun e w' => e = .returned (.bool true) ∧ Below w.heap.size w w' := by
  have HF := Lib.hid firstC
  have HD1 := Lib.hid (fun w => Dc.decB A (by omega) w)
  have HD2 := Lib.hid (fun w => Dc.decB B (by omega) w)
  have l1 := dec_len hA
  have l2 := dec_len h2
  have zA : ((bs (Lib.decDigits A)).size : Int) ≤ 4 := by rw [bs_size]; omega
  have zB : ((bs (Lib.decDigits B)).size : Int) ≤ 4 := by rw [bs_size]; omega
  have hS : (⟨#[115, 112, 101, 101, 100, 32]⟩ : ByteArray) ++ bs (Lib.decDigits A) ++ ⟨#[47]⟩ ++ bs (Lib.decDigits B) = bs (sp A B) := by
    show bs [115, 112, 101, 101, 100, 32] ++ bs (Lib.decDigits A) ++ bs [47] ++ bs (Lib.decDigits B) = _
    rw [bs_app, bs_app, bs_app]
    simp [sp, fr]
  have HPa := Lib.hid (fun w h => parseG A B hA h1 h2 w h)
  have HQ := Lib.hid (fun w => quo_run A B h1 h2 w)
  have hQ := quo_in A B h1 h2
  have HB := Lib.hid (fun w => bitsC (quoV A B) w hQ)
  have HO1 := Lib.hid (fun w h => ofC (quoV A B) w hQ h)
  have HO2 := Lib.hid (fun w h => ofC x w hx h)
  have HX1 := Lib.hid (fun W p q (h : Dl W p q d0) (hT : TabZ W) => doC 5 0 (quoV A B) 0 0 0 hQ (by decide) h d0_ok hT)
  have hk1 : Dkk (doD d0 5 0 (quoV A B) 0 0 0) := doD_dkk d0_ok _ _ _ _ _ _
  have HX2 := Lib.hid (fun W p q (h : Dl W p q (doD d0 5 0 (quoV A B) 0 0 0)) (hT : TabZ W) => doC 5 0 x 0 0 0 hx (by decide) h hk1 hT)
  have HZ := Lib.hid (fun w2 (hb : Below w.heap.size w w2) => hT.then_ hb)
  have HY := Lib.hid (fun w2 (hb : Below w.heap.size w w2) => tabP_then hb hP)
  unfold OfP at HO1 HO2
  rw [doE5] at HX1 HX2
  obtain ⟨n1, n2⟩ := doD5_no0 hf
  obtain ⟨m1, m2⟩ := doD5_nod (doD d0 5 0 (quoV A B) 0 0 0) hg
  generalize doD (doD d0 5 0 (quoV A B) 0 0 0) 5 0 x 0 0 0 = d2 at *
  generalize doD d0 5 0 (quoV A B) 0 0 0 = d1 at *
  have f1 : ((ofN (quoV A B)).2.2 == 0) = false := by simpa using hf
  have f2 : ((ofN (quoV A B)).2.2 != 0) = true := by simpa using hf
  generalize (ofN (quoV A B)).2.2 = F at *
  have g1 : ((ofN x).2.2 == 0) = false := by simpa using hg
  have g2 : ((ofN x).2.2 != 0) = true := by simpa using hg
  generalize (ofN x).2.2 = G at *
  generalize (ofN (quoV A B)).1 = r1 at *
  generalize (ofN (quoV A B)).2.1 = r2 at *
  generalize (ofN x).1 = t1 at *
  generalize (ofN x).2.1 = t2 at *
  generalize bs (sp A B) = SS at *
  generalize bs (Lib.decDigits A) = SA at *
  generalize bs (Lib.decDigits B) = SB at *
  generalize quoV A B = Q at *
  have b1 : decide ((A : Int) < 0) = false := by simp
  have b2 : decide ((9999 : Int) < (A : Int)) = false := decide_eq_false (by omega)
  have b3 : decide ((B : Int) < 1) = false := decide_eq_false (by omega)
  have b4 : decide ((9999 : Int) < (B : Int)) = false := decide_eq_false (by omega)
  have z1 : IntKind.u64.wrap (A : Int) = (A : Int) := by rw [IntKind.wrap_u64]; omega
  have z2 : IntKind.u64.wrap (B : Int) = (B : Int) := by rw [IntKind.wrap_u64]; omega
  have hsf := stF
  clear hT hP hA h1 h2 l1 l2 hx hQ hk1 hf hg
  go_enter Tryz.func4, Tryz.ntmps4
  go_wp2_with fail
  refine (HF.out _).mono ?_
  rintro e w1 ⟨rfl, hb1⟩
  have HW1 := Lib.hid hb1
  clear hb1
  go_wp2_with fail
  refine (HD1.out _).mono ?_
  rintro e w2 ⟨rfl, hb2⟩
  have HW2 := Lib.hid (nextB HW1.out hb2)
  clear hb2
  go_wp2_with fail
  refine (HD2.out _).mono ?_
  rintro e w3 ⟨rfl, hb3⟩
  have HW3 := Lib.hid (nextB HW2.out hb3)
  clear hb3
  go_wp2_with fail
  clear zA zB hS
  refine (HPa.out _ (HY.out _ HW3.out)).mono ?_
  rintro e w4 ⟨rfl, hb4⟩
  have HW4 := Lib.hid (nextB HW3.out hb4)
  clear hb4
  go_wp2_with fail
  have hC := heap_alloc_new w4 (.cells #[.int .i64 5, .int .u64 0, .float .f64 Q] 33)
  have HW5 := Lib.hid (nextB HW4.out ((Below.refl w4.heap.size w4).alloc (Nat.le_refl _) (.cells #[.int .i64 5, .int .u64 0, .float .f64 Q] 33)))
  have k5 : w4.heap.size < (w4.alloc (.cells #[.int .i64 5, .int .u64 0, .float .f64 Q] 33)).heap.size := by simp
  generalize hw5 : w4.alloc (.cells #[.int .i64 5, .int .u64 0, .float .f64 Q] 33) = w5 at *
  generalize hc : w4.heap.size = C at *
  refine (newD w5).mono ?_
  rintro e w6 ⟨p, q, hp, hq, rfl, hD6, hb6⟩
  have hC6 := (hb6.block C k5).trans hC
  have HW6 := Lib.hid (nextB HW5.out hb6)
  have k6 := hb6.size
  have y0 := HW5.out.size
  have y1 : w.heap.size ≤ p := by omega
  have y2 : w.heap.size ≤ q := by omega
  have n3 : C ≠ p := by omega
  have n4 : C ≠ q := by omega
  clear hC hw5 hb6 hp hq y0
  have c0 : w6.cell? ⟨C, 0, none⟩ = some (.int .i64 5) := by simp [World.cell?, hC6]
  have c1 : w6.cell? ⟨C, 1, none⟩ = some (.int .u64 0) := by simp [World.cell?, hC6]
  have c2 : w6.cell? ⟨C, 2, none⟩ = some (.float .f64 Q) := by simp [World.cell?, hC6]
  have q4 := HQ.out w6
  have HC6 := Lib.hid hC6
  have HD6 := Lib.hid hD6
  clear hC6 hD6
  go_wp2_with (first
    | (go_at_call 18; refine (HB.out _).mono ?_; rintro e v ⟨rfl, rfl⟩))
  refine (HO1.out _ (HZ.out _ HW6.out)).mono ?_
  rintro e w7 ⟨rfl, hb7⟩
  clear c0 c1 c2 q4
  have hC7 := (hb7.block C (lt_of_block HC6.out)).trans HC6.out
  have HC7 := Lib.hid hC7
  have hD7 := HD6.out.then_ hb7
  have HW7 := Lib.hid (nextB HW6.out hb7)
  have hal := (Below.refl w7.heap.size w7).alloc (Nat.le_refl _) (.cells #[.int .u64 (r1 : Int), .int .u64 (r2 : Int)] 51)
  have HS8 := Lib.hid (heap_alloc_new w7 (.cells #[.int .u64 (r1 : Int), .int .u64 (r2 : Int)] 51))
  have HC8 := Lib.hid ((hal.block C (lt_of_block hC7)).trans hC7)
  have HD8 := Lib.hid (hD7.then_ hal)
  have HW8 := Lib.hid (nextB HW7.out hal)
  have s1 : w7.heap.size ≠ p := by have := hD7.lt; omega
  have s2 : w7.heap.size ≠ q := by have := hD7.2.lt; omega
  clear hb7 hC7 hD7 hal
  have c0 : (w7.alloc (.cells #[.int .u64 (r1 : Int), .int .u64 (r2 : Int)] 51)).cell? ⟨C, 0, none⟩ = some (.int .i64 5) := by simp [World.cell?, HC8.out]
  have c1 : (w7.alloc (.cells #[.int .u64 (r1 : Int), .int .u64 (r2 : Int)] 51)).cell? ⟨C, 1, none⟩ = some (.int .u64 0) := by simp [World.cell?, HC8.out]
  have c2 : (w7.alloc (.cells #[.int .u64 (r1 : Int), .int .u64 (r2 : Int)] 51)).cell? ⟨C, 2, none⟩ = some (.float .f64 Q) := by simp [World.cell?, HC8.out]
  generalize hw8 : w7.alloc (.cells #[.int .u64 (r1 : Int), .int .u64 (r2 : Int)] 51) = w8 at *
  generalize hsb : w7.heap.size = Sb at *
  go_wp2_with fail
  refine (HX1.out _ _ _ HD8.out (HZ.out _ HW8.out)).mono ?_
  rintro e w9 ⟨rfl, hD9, hf9⟩
  have HS9 := Lib.hid ((hf9.block Sb (lt_of_block HS8.out) s1 s2).trans HS8.out)
  have HW9 := Lib.hid (hf9.below HW8.out y1 y2)
  clear c0 c1 c2 hw8 hf9
  have HR1 : Hid (Calls Tryz.prog 20 #[.pointer (some ⟨p, 0, none⟩)] w9 fun e w' => e = .returned (.agg #[.int .u64 (1 : Int), .int .u64 (1 : Int)]) ∧ Below w9.heap.size w9 w') := Lib.hid (by
    have h := rateC hD9
    rw [n1, n2] at h
    exact h)
  have HD9 := Lib.hid hD9
  clear hD9
  go_wp2_with fail
  refine HR1.out.mono ?_
  rintro e w10 ⟨rfl, hb10⟩
  have hS10 := (hb10.block Sb (lt_of_block HS9.out)).trans HS9.out
  have hD10 := HD9.out.then_ hb10
  have HW10 := Lib.hid (nextB HW9.out hb10)
  have hal := (Below.refl w10.heap.size w10).alloc (Nat.le_refl _) (.cells #[.int .u64 (1 : Int), .int .u64 (1 : Int)] 51)
  have HV11 := Lib.hid (heap_alloc_new w10 (.cells #[.int .u64 (1 : Int), .int .u64 (1 : Int)] 51))
  have hS11 := (hal.block Sb (lt_of_block hS10)).trans hS10
  have HD11 := Lib.hid (hD10.then_ hal)
  have HW11 := Lib.hid (nextB HW10.out hal)
  have v1 : w10.heap.size ≠ p := by have := hD10.lt; omega
  have v2 : w10.heap.size ≠ q := by have := hD10.2.lt; omega
  clear hb10 hS10 hD10 hal
  generalize hw11 : w10.alloc (.cells #[.int .u64 (1 : Int), .int .u64 (1 : Int)] 51) = w11 at *
  generalize hvb : w10.heap.size = Vb at *
  have a0 : w11.cell? ⟨Sb, 0, none⟩ = some (.int .u64 (r1 : Int)) := by simp [World.cell?, hS11]
  have a1 : w11.cell? ⟨Sb, 1, none⟩ = some (.int .u64 (r2 : Int)) := by simp [World.cell?, hS11]
  have a2 : w11.cell? ⟨Vb, 0, none⟩ = some (.int .u64 (1 : Int)) := by simp [World.cell?, HV11.out]
  have a3 : w11.cell? ⟨Vb, 1, none⟩ = some (.int .u64 (1 : Int)) := by simp [World.cell?, HV11.out]
  clear hS11
  go_wp2_with fail
  refine (HO2.out _ (HZ.out _ HW11.out)).mono ?_
  rintro e w12 ⟨rfl, hb12⟩
  have hV12 := (hb12.block Vb (lt_of_block HV11.out)).trans HV11.out
  have hD12 := HD11.out.then_ hb12
  have HW12 := Lib.hid (nextB HW11.out hb12)
  have hal := (Below.refl w12.heap.size w12).alloc (Nat.le_refl _) (.cells #[.int .u64 (t1 : Int), .int .u64 (t2 : Int)] 51)
  have HT13 := Lib.hid (heap_alloc_new w12 (.cells #[.int .u64 (t1 : Int), .int .u64 (t2 : Int)] 51))
  have HV13 := Lib.hid ((hal.block Vb (lt_of_block hV12)).trans hV12)
  have HD13 := Lib.hid (hD12.then_ hal)
  have HW13 := Lib.hid (nextB HW12.out hal)
  have u1 : w12.heap.size ≠ p := by have := hD12.lt; omega
  have u2 : w12.heap.size ≠ q := by have := hD12.2.lt; omega
  clear hb12 hV12 hD12 hal a0 a1 a2 a3 hw11
  generalize hw13 : w12.alloc (.cells #[.int .u64 (t1 : Int), .int .u64 (t2 : Int)] 51) = w13 at *
  generalize htb : w12.heap.size = Tb at *
  go_wp2_with fail
  refine (HX2.out _ _ _ HD13.out (HZ.out _ HW13.out)).mono ?_
  rintro e w14 ⟨rfl, hD14, hf14⟩
  have hT14 := (hf14.block Tb (lt_of_block HT13.out) u1 u2).trans HT13.out
  have hV14 := (hf14.block Vb (lt_of_block HV13.out) v1 v2).trans HV13.out
  have HW14 := Lib.hid (hf14.below HW13.out y1 y2)
  clear hf14 hw13
  have HSS : Hid (∀ W, Below w14.heap.size w14 W → (W.cell? ⟨Tb, 0, none⟩ = some (.int .u64 (t1 : Int)) ∧ W.cell? ⟨Tb, 1, none⟩ = some (.int .u64 (t2 : Int)) ∧ W.cell? ⟨Vb, 0, none⟩ = some (.int .u64 (1 : Int)) ∧ W.cell? ⟨Vb, 1, none⟩ = some (.int .u64 (1 : Int)))) := Lib.hid (fun W hb => by
    have h1 := (hb.block Tb (lt_of_block hT14)).trans hT14
    have h2 := (hb.block Vb (lt_of_block hV14)).trans hV14
    exact ⟨by simp [World.cell?, h1], by simp [World.cell?, h1], by simp [World.cell?, h2], by simp [World.cell?, h2]⟩)
  have HR : Hid (∀ W, Below w14.heap.size w14 W → Calls Tryz.prog 20 #[.pointer (some ⟨p, 0, none⟩)] W fun e w' => e = .returned (.agg #[.int .u64 (1 : Int), .int .u64 (1 : Int)]) ∧ Below W.heap.size W w') := Lib.hid (fun W hb => by
    have h := rateC (hD14.then_ hb)
    rw [m1, m2, n1, n2] at h
    exact h)
  clear hD14 hT14 hV14
  go_wp2_with fail
  refine wp_region_held_drew (S := (fun W => (W.cell? ⟨Tb, 0, none⟩ = some (.int .u64 (t1 : Int)) ∧ W.cell? ⟨Tb, 1, none⟩ = some (.int .u64 (t2 : Int)) ∧ W.cell? ⟨Vb, 0, none⟩ = some (.int .u64 (1 : Int)) ∧ W.cell? ⟨Vb, 1, none⟩ = some (.int .u64 (1 : Int))))) (by kernel_rfl) ?_ (fun hHeld => ?_)
  · ((try dsimp only); exact HSS.out _ (Below.refl _ _).drew)
  refine wpAnyH_ready (rs := [0]) (by kernel_rfl) (by simp) ?_
  refine (AllReadyH.cons (o := { dst := some 112, op := Op.call { callee := Callee.value (Operand.func 6), args := #[], argTypes := #[] }, type := 4, pos := _, after := #[], guard := none }) rfl (fun K hK => ?_) AllReadyH.nil)
  go_simp
  (refine (HF.out _).mono ?_; rintro e w15 ⟨rfl, hb15⟩; have HB15 := Lib.hid (show Below w14.heap.size w14 w15 from below_then (Below.refl _ _).drew hb15 (Nat.le_refl _)); clear hb15)
  go_wp2_with fail
  refine hK.out _ _ ?_ (fun hHeld => ?_)
  · ((try dsimp only); exact HSS.out _ HB15.out)
  clear hK K
  try simp only [Act.put, List.setIfInBounds_toArray, List.set_cons_zero, List.set_cons_succ]
  refine wpAnyH_take (i := 1) (oi := { dst := some 113, op := Op.move (Operand.tmp 112), type := 4, pos := _, after := #[{ on := 0, ground := Ground.data }, { on := 0, ground := Ground.chain }], guard := none }) (v := ?_) rfl (by kernel_rfl) (by kernel_rfl) (by kernel_rfl) (fun _ _ _ h => h) (Or.inl ⟨by rfl, ?_⟩) (by assumption) ?_
  rotate_left
  · ((intro w hSw); (try dsimp only at hSw); go_simp; (try with_reducible rfl))
  try simp only [Act.put, List.setIfInBounds_toArray, List.set_cons_zero, List.set_cons_succ]
  refine wpAnyH_take (i := 2) (oi := { dst := some 114, op := Op.move (Operand.tmp 16), type := 29, pos := _, after := #[{ on := 1, ground := Ground.guard }], guard := some (1, true) }) (v := ?_) rfl (by kernel_rfl) (by kernel_rfl) (by kernel_rfl) (fun _ _ _ h => h) (Or.inl ⟨by rfl, ?_⟩) (by assumption) ?_
  rotate_left
  · ((intro w hSw); (try dsimp only at hSw); go_simp; (try with_reducible rfl))
  try simp only [Act.put, List.setIfInBounds_toArray, List.set_cons_zero, List.set_cons_succ]
  refine wpAnyH_take (i := 3) (oi := { dst := some 115, op := Op.move (Operand.tmp 15), type := 29, pos := _, after := #[{ on := 1, ground := Ground.guard }], guard := some (1, true) }) (v := ?_) rfl (by kernel_rfl) (by kernel_rfl) (by kernel_rfl) (fun _ _ _ h => h) (Or.inl ⟨by rfl, ?_⟩) (by assumption) ?_
  rotate_left
  · ((intro w hSw); (try dsimp only at hSw); go_simp; (try with_reducible rfl))
  try simp only [Act.put, List.setIfInBounds_toArray, List.set_cons_zero, List.set_cons_succ]
  refine wpAnyH_take (i := 4) (oi := { dst := some 116, op := Op.binOp BinOp.eql 29 (Operand.tmp 114) (Operand.tmp 115) 29, type := 4, pos := _, after := #[{ on := 2, ground := Ground.data }, { on := 3, ground := Ground.data }, { on := 1, ground := Ground.guard }], guard := some (1, true) }) (v := ?_) rfl (by kernel_rfl) (by kernel_rfl) (by kernel_rfl) (fun _ _ _ h => h) (Or.inl ⟨by rfl, ?_⟩) (by assumption) ?_
  rotate_left
  · ((intro w hSw); (try dsimp only at hSw); go_simp; (try with_reducible rfl))
  try simp only [Act.put, List.setIfInBounds_toArray, List.set_cons_zero, List.set_cons_succ]
  refine wpAnyH_take (i := 5) (oi := { dst := some 117, op := Op.pick (Operand.tmp 113) (Operand.tmp 116) (Operand.const (Value.bool false)), type := 4, pos := _, after := #[{ on := 1, ground := Ground.data }, { on := 4, ground := Ground.data }], guard := none }) (v := ?_) rfl (by kernel_rfl) (by kernel_rfl) (by kernel_rfl) (fun _ _ _ h => h) (Or.inl ⟨by rfl, ?_⟩) (by assumption) ?_
  rotate_left
  · ((intro w hSw); (try dsimp only at hSw); go_simp; (try with_reducible rfl))
  try simp only [Act.put, List.setIfInBounds_toArray, List.set_cons_zero, List.set_cons_succ]
  refine wpAnyH_take (i := 6) (oi := { dst := some 118, op := Op.move (Operand.tmp 117), type := 4, pos := _, after := #[{ on := 5, ground := Ground.data }, { on := 1, ground := Ground.chain }], guard := none }) (v := ?_) rfl (by kernel_rfl) (by kernel_rfl) (by kernel_rfl) (fun _ _ _ h => h) (Or.inl ⟨by rfl, ?_⟩) (by assumption) ?_
  rotate_left
  · ((intro w hSw); (try dsimp only at hSw); go_simp; (try with_reducible rfl))
  try simp only [Act.put, List.setIfInBounds_toArray, List.set_cons_zero, List.set_cons_succ]
  refine wpAnyH_take (i := 7) (oi := { dst := some 119, op := Op.move (Operand.tmp 15), type := 29, pos := _, after := #[{ on := 6, ground := Ground.guard }], guard := some (6, true) }) (v := ?_) rfl (by kernel_rfl) (by kernel_rfl) (by kernel_rfl) (fun _ _ _ h => h) (Or.inl ⟨by rfl, ?_⟩) (by assumption) ?_
  rotate_left
  · ((intro w hSw); (try dsimp only at hSw); go_simp; (try with_reducible rfl))
  try simp only [Act.put, List.setIfInBounds_toArray, List.set_cons_zero, List.set_cons_succ]
  refine wpAnyH_take (i := 8) (oi := { dst := some 120, op := Op.binOp BinOp.eql 29 (Operand.tmp 119) (Operand.const (Value.int IntKind.i64 0)) 29, type := 4, pos := _, after := #[{ on := 7, ground := Ground.data }, { on := 6, ground := Ground.guard }], guard := some (6, true) }) (v := ?_) rfl (by kernel_rfl) (by kernel_rfl) (by kernel_rfl) (fun _ _ _ h => h) (Or.inl ⟨by rfl, ?_⟩) (by assumption) ?_
  rotate_left
  · ((intro w hSw); (try dsimp only at hSw); go_simp; (try with_reducible rfl))
  try simp only [Act.put, List.setIfInBounds_toArray, List.set_cons_zero, List.set_cons_succ]
  refine wpAnyH_take (i := 9) (oi := { dst := some 121, op := Op.move (Operand.tmp 120), type := 4, pos := _, after := #[{ on := 8, ground := Ground.data }, { on := 6, ground := Ground.chain }, { on := 6, ground := Ground.guard }], guard := some (6, true) }) (v := ?_) rfl (by kernel_rfl) (by kernel_rfl) (by kernel_rfl) (fun _ _ _ h => h) (Or.inl ⟨by rfl, ?_⟩) (by assumption) ?_
  rotate_left
  · ((intro w hSw); (try dsimp only at hSw); go_simp; (try with_reducible rfl))
  try simp only [Act.put, List.setIfInBounds_toArray, List.set_cons_zero, List.set_cons_succ]
  refine wpAnyH_take (i := 10) (oi := { dst := some 122, op := Op.move (Operand.tmp 9), type := 25, pos := _, after := #[{ on := 9, ground := Ground.guard }], guard := some (9, true) }) (v := undef) rfl (by kernel_rfl) (by kernel_rfl) (by kernel_rfl) (fun _ _ _ h => h) (Or.inr ⟨by rfl, rfl⟩) (by assumption) ?_
  try simp only [Act.put, List.setIfInBounds_toArray, List.set_cons_zero, List.set_cons_succ]
  refine wpAnyH_take (i := 11) (oi := { dst := some 123, op := Op.call { callee := Callee.value (Operand.func 20), args := #[Operand.tmp 122], argTypes := #[25] }, type := 51, pos := _, after := #[{ on := 10, ground := Ground.data }, { on := 9, ground := Ground.chain }, { on := 9, ground := Ground.guard }], guard := some (9, true) }) (v := undef) rfl (by kernel_rfl) (by kernel_rfl) (by kernel_rfl) (fun _ _ _ h => h) (Or.inr ⟨by rfl, rfl⟩) (by assumption) ?_
  try simp only [Act.put, List.setIfInBounds_toArray, List.set_cons_zero, List.set_cons_succ]
  refine wpAnyH_take (i := 12) (oi := { dst := some 124, op := Op.load 51 (Operand.tmp 14), type := 51, pos := _, after := #[{ on := 9, ground := Ground.guard }], guard := some (9, true) }) (v := undef) rfl (by kernel_rfl) (by kernel_rfl) (by kernel_rfl) (fun _ _ _ h => h) (Or.inr ⟨by rfl, rfl⟩) (by assumption) ?_
  try simp only [Act.put, List.setIfInBounds_toArray, List.set_cons_zero, List.set_cons_succ]
  refine wpAnyH_take (i := 13) (oi := { dst := some 125, op := Op.binOp BinOp.eql 51 (Operand.tmp 123) (Operand.tmp 124) 51, type := 4, pos := _, after := #[{ on := 11, ground := Ground.data }, { on := 12, ground := Ground.data }, { on := 9, ground := Ground.guard }], guard := some (9, true) }) (v := undef) rfl (by kernel_rfl) (by kernel_rfl) (by kernel_rfl) (fun _ _ _ h => h) (Or.inr ⟨by rfl, rfl⟩) (by assumption) ?_
  try simp only [Act.put, List.setIfInBounds_toArray, List.set_cons_zero, List.set_cons_succ]
  refine wpAnyH_take (i := 14) (oi := { dst := some 126, op := Op.pick (Operand.tmp 121) (Operand.tmp 125) (Operand.const (Value.bool false)), type := 4, pos := _, after := #[{ on := 9, ground := Ground.data }, { on := 13, ground := Ground.data }, { on := 6, ground := Ground.guard }], guard := some (6, true) }) (v := ?_) rfl (by kernel_rfl) (by kernel_rfl) (by kernel_rfl) (fun _ _ _ h => h) (Or.inl ⟨by rfl, ?_⟩) (by assumption) ?_
  rotate_left
  · ((intro w hSw); (try dsimp only at hSw); go_simp; (try with_reducible rfl))
  try simp only [Act.put, List.setIfInBounds_toArray, List.set_cons_zero, List.set_cons_succ]
  refine wpAnyH_take (i := 15) (oi := { dst := some 127, op := Op.move (Operand.tmp 126), type := 4, pos := _, after := #[{ on := 14, ground := Ground.data }, { on := 11, ground := Ground.chain }, { on := 6, ground := Ground.guard }], guard := some (6, true) }) (v := ?_) rfl (by kernel_rfl) (by kernel_rfl) (by kernel_rfl) (fun _ _ _ h => h) (Or.inl ⟨by rfl, ?_⟩) (by assumption) ?_
  rotate_left
  · ((intro w hSw); (try dsimp only at hSw); go_simp; (try with_reducible rfl))
  try simp only [Act.put, List.setIfInBounds_toArray, List.set_cons_zero, List.set_cons_succ]
  refine wpAnyH_take (i := 16) (oi := { dst := some 128, op := Op.move (Operand.tmp 15), type := 29, pos := _, after := #[{ on := 15, ground := Ground.guard }], guard := some (15, false) }) (v := ?_) rfl (by kernel_rfl) (by kernel_rfl) (by kernel_rfl) (fun _ _ _ h => h) (Or.inl ⟨by rfl, ?_⟩) (by assumption) ?_
  rotate_left
  · ((intro w hSw); (try dsimp only at hSw); go_simp; (try with_reducible rfl))
  try simp only [Act.put, List.setIfInBounds_toArray, List.set_cons_zero, List.set_cons_succ]
  refine wpAnyH_take (i := 17) (oi := { dst := some 129, op := Op.binOp BinOp.neq 29 (Operand.tmp 128) (Operand.const (Value.int IntKind.i64 0)) 29, type := 4, pos := _, after := #[{ on := 16, ground := Ground.data }, { on := 15, ground := Ground.guard }], guard := some (15, false) }) (v := ?_) rfl (by kernel_rfl) (by kernel_rfl) (by kernel_rfl) (fun _ _ _ h => h) (Or.inl ⟨by rfl, ?_⟩) (by assumption) ?_
  rotate_left
  · ((intro w hSw); (try dsimp only at hSw); go_simp; (try with_reducible rfl))
  try simp only [Act.put, List.setIfInBounds_toArray, List.set_cons_zero, List.set_cons_succ]
  refine wpAnyH_take (i := 18) (oi := { dst := some 130, op := Op.move (Operand.tmp 129), type := 4, pos := _, after := #[{ on := 17, ground := Ground.data }, { on := 15, ground := Ground.chain }, { on := 15, ground := Ground.guard }], guard := some (15, false) }) (v := ?_) rfl (by kernel_rfl) (by kernel_rfl) (by kernel_rfl) (fun _ _ _ h => h) (Or.inl ⟨by rfl, ?_⟩) (by assumption) ?_
  rotate_left
  · ((intro w hSw); (try dsimp only at hSw); go_simp; (try with_reducible rfl))
  try simp only [Act.put, List.setIfInBounds_toArray, List.set_cons_zero, List.set_cons_succ]
  refine wpAnyH_take (i := 19) (oi := { dst := some 131, op := Op.move (Operand.tmp 9), type := 25, pos := _, after := #[{ on := 18, ground := Ground.guard }], guard := some (18, true) }) (v := ?_) rfl (by kernel_rfl) (by kernel_rfl) (by kernel_rfl) (fun _ _ _ h => h) (Or.inl ⟨by rfl, ?_⟩) (by assumption) ?_
  rotate_left
  · ((intro w hSw); (try dsimp only at hSw); go_simp; (try with_reducible rfl))
  try simp only [Act.put, List.setIfInBounds_toArray, List.set_cons_zero, List.set_cons_succ]
  refine wpAnyH_ready (rs := [20, 21]) (by kernel_rfl) (by simp) ?_
  refine (AllReadyH.cons (o := { dst := some 132, op := Op.call { callee := Callee.value (Operand.func 20), args := #[Operand.tmp 131], argTypes := #[25] }, type := 51, pos := _, after := #[{ on := 19, ground := Ground.data }, { on := 18, ground := Ground.chain }, { on := 18, ground := Ground.guard }], guard := some (18, true) }) rfl (fun K hK => ?_) (AllReadyH.cons (o := { dst := some 133, op := Op.load 51 (Operand.tmp 13), type := 51, pos := _, after := #[{ on := 18, ground := Ground.guard }], guard := some (18, true) }) rfl (fun K hK => ?_) AllReadyH.nil))
  · skip
    go_simp
    (refine (HR.out _ HB15.out).mono ?_; rintro e w16 ⟨rfl, hb16⟩; have HB16 := Lib.hid (nextB HB15.out hb16); clear hb16)
    go_wp2_with fail
    refine hK.out _ _ ?_ (fun hHeld => ?_)
    · ((try dsimp only); exact HSS.out _ HB16.out)
    clear hK K
    try simp only [Act.put, List.setIfInBounds_toArray, List.set_cons_zero, List.set_cons_succ]
    refine wpAnyH_ready (rs := [21]) (by kernel_rfl) (by simp) ?_
    refine (AllReadyH.cons (o := { dst := some 133, op := Op.load 51 (Operand.tmp 13), type := 51, pos := _, after := #[{ on := 18, ground := Ground.guard }], guard := some (18, true) }) rfl (fun K hK => ?_) AllReadyH.nil)
    go_simp
    refine hK.out _ _ ?_ (fun hHeld => ?_)
    · ((try dsimp only); exact HSS.out _ HB16.out)
    clear hK K
    try simp only [Act.put, List.setIfInBounds_toArray, List.set_cons_zero, List.set_cons_succ]
    refine wpAnyH_take (i := 22) (oi := { dst := some 134, op := Op.binOp BinOp.eql 51 (Operand.tmp 132) (Operand.tmp 133) 51, type := 4, pos := _, after := #[{ on := 20, ground := Ground.data }, { on := 21, ground := Ground.data }, { on := 18, ground := Ground.guard }], guard := some (18, true) }) (v := ?_) rfl (by kernel_rfl) (by kernel_rfl) (by kernel_rfl) (fun _ _ _ h => h) (Or.inl ⟨by rfl, ?_⟩) (by assumption) ?_
    rotate_left
    · ((intro w hSw); (try dsimp only at hSw); go_simp; (try with_reducible rfl))
    try simp only [Act.put, List.setIfInBounds_toArray, List.set_cons_zero, List.set_cons_succ]
    refine wpAnyH_take (i := 23) (oi := { dst := some 135, op := Op.pick (Operand.tmp 130) (Operand.tmp 134) (Operand.const (Value.bool false)), type := 4, pos := _, after := #[{ on := 18, ground := Ground.data }, { on := 22, ground := Ground.data }, { on := 15, ground := Ground.guard }], guard := some (15, false) }) (v := ?_) rfl (by kernel_rfl) (by kernel_rfl) (by kernel_rfl) (fun _ _ _ h => h) (Or.inl ⟨by rfl, ?_⟩) (by assumption) ?_
    rotate_left
    · ((intro w hSw); (try dsimp only at hSw); go_simp; (try with_reducible rfl))
    try simp only [Act.put, List.setIfInBounds_toArray, List.set_cons_zero, List.set_cons_succ]
    refine wpAnyH_take (i := 24) (oi := { dst := some 136, op := Op.pick (Operand.tmp 127) (Operand.const (Value.bool true)) (Operand.tmp 135), type := 4, pos := _, after := #[{ on := 15, ground := Ground.data }, { on := 23, ground := Ground.data }, { on := 6, ground := Ground.guard }], guard := some (6, true) }) (v := ?_) rfl (by kernel_rfl) (by kernel_rfl) (by kernel_rfl) (fun _ _ _ h => h) (Or.inl ⟨by rfl, ?_⟩) (by assumption) ?_
    rotate_left
    · ((intro w hSw); (try dsimp only at hSw); go_simp; (try with_reducible rfl))
    try simp only [Act.put, List.setIfInBounds_toArray, List.set_cons_zero, List.set_cons_succ]
    refine wpAnyH_take (i := 25) (oi := { dst := some 137, op := Op.pick (Operand.tmp 118) (Operand.tmp 136) (Operand.const (Value.bool false)), type := 4, pos := _, after := #[{ on := 6, ground := Ground.data }, { on := 24, ground := Ground.data }], guard := none }) (v := ?_) rfl (by kernel_rfl) (by kernel_rfl) (by kernel_rfl) (fun _ _ _ h => h) (Or.inl ⟨by rfl, ?_⟩) (by assumption) ?_
    rotate_left
    · ((intro w hSw); (try dsimp only at hSw); go_simp; (try with_reducible rfl))
    try simp only [Act.put, List.setIfInBounds_toArray, List.set_cons_zero, List.set_cons_succ]
    refine wpAnyH_take (i := 26) (oi := { dst := some 6, op := Op.assign (Operand.tmp 137), type := 4, pos := _, after := #[{ on := 25, ground := Ground.data }, { on := 20, ground := Ground.chain }, { on := 0, ground := Ground.phase }, { on := 1, ground := Ground.phase }, { on := 2, ground := Ground.phase }, { on := 3, ground := Ground.phase }, { on := 4, ground := Ground.phase }, { on := 5, ground := Ground.phase }, { on := 6, ground := Ground.phase }, { on := 7, ground := Ground.phase }, { on := 8, ground := Ground.phase }, { on := 9, ground := Ground.phase }, { on := 10, ground := Ground.phase }, { on := 11, ground := Ground.phase }, { on := 12, ground := Ground.phase }, { on := 13, ground := Ground.phase }, { on := 14, ground := Ground.phase }, { on := 15, ground := Ground.phase }, { on := 16, ground := Ground.phase }, { on := 17, ground := Ground.phase }, { on := 18, ground := Ground.phase }, { on := 19, ground := Ground.phase }, { on := 20, ground := Ground.phase }, { on := 21, ground := Ground.phase }, { on := 22, ground := Ground.phase }, { on := 23, ground := Ground.phase }, { on := 24, ground := Ground.phase }, { on := 25, ground := Ground.phase }], guard := none }) (v := ?_) rfl (by kernel_rfl) (by kernel_rfl) (by kernel_rfl) (fun _ _ _ h => h) (Or.inl ⟨by rfl, ?_⟩) (by assumption) ?_
    rotate_left
    · ((intro w hSw); (try dsimp only at hSw); go_simp; (try with_reducible rfl))
    try simp only [Act.put, List.setIfInBounds_toArray, List.set_cons_zero, List.set_cons_succ]
    refine wpAnyH_done (by kernel_rfl) ?_ _
    go_wp2
    go_ret
    exact ⟨rfl, nextB HW14.out HB16.out⟩
  · skip
    go_simp
    refine hK.out _ _ ?_ (fun hHeld => ?_)
    · ((try dsimp only); exact HSS.out _ HB15.out)
    clear hK K
    try simp only [Act.put, List.setIfInBounds_toArray, List.set_cons_zero, List.set_cons_succ]
    refine wpAnyH_ready (rs := [20]) (by kernel_rfl) (by simp) ?_
    refine (AllReadyH.cons (o := { dst := some 132, op := Op.call { callee := Callee.value (Operand.func 20), args := #[Operand.tmp 131], argTypes := #[25] }, type := 51, pos := _, after := #[{ on := 19, ground := Ground.data }, { on := 18, ground := Ground.chain }, { on := 18, ground := Ground.guard }], guard := some (18, true) }) rfl (fun K hK => ?_) AllReadyH.nil)
    go_simp
    (refine (HR.out _ HB15.out).mono ?_; rintro e w16 ⟨rfl, hb16⟩; have HB16 := Lib.hid (nextB HB15.out hb16); clear hb16)
    go_wp2_with fail
    refine hK.out _ _ ?_ (fun hHeld => ?_)
    · ((try dsimp only); exact HSS.out _ HB16.out)
    clear hK K
    try simp only [Act.put, List.setIfInBounds_toArray, List.set_cons_zero, List.set_cons_succ]
    refine wpAnyH_take (i := 22) (oi := { dst := some 134, op := Op.binOp BinOp.eql 51 (Operand.tmp 132) (Operand.tmp 133) 51, type := 4, pos := _, after := #[{ on := 20, ground := Ground.data }, { on := 21, ground := Ground.data }, { on := 18, ground := Ground.guard }], guard := some (18, true) }) (v := ?_) rfl (by kernel_rfl) (by kernel_rfl) (by kernel_rfl) (fun _ _ _ h => h) (Or.inl ⟨by rfl, ?_⟩) (by assumption) ?_
    rotate_left
    · ((intro w hSw); (try dsimp only at hSw); go_simp; (try with_reducible rfl))
    try simp only [Act.put, List.setIfInBounds_toArray, List.set_cons_zero, List.set_cons_succ]
    refine wpAnyH_take (i := 23) (oi := { dst := some 135, op := Op.pick (Operand.tmp 130) (Operand.tmp 134) (Operand.const (Value.bool false)), type := 4, pos := _, after := #[{ on := 18, ground := Ground.data }, { on := 22, ground := Ground.data }, { on := 15, ground := Ground.guard }], guard := some (15, false) }) (v := ?_) rfl (by kernel_rfl) (by kernel_rfl) (by kernel_rfl) (fun _ _ _ h => h) (Or.inl ⟨by rfl, ?_⟩) (by assumption) ?_
    rotate_left
    · ((intro w hSw); (try dsimp only at hSw); go_simp; (try with_reducible rfl))
    try simp only [Act.put, List.setIfInBounds_toArray, List.set_cons_zero, List.set_cons_succ]
    refine wpAnyH_take (i := 24) (oi := { dst := some 136, op := Op.pick (Operand.tmp 127) (Operand.const (Value.bool true)) (Operand.tmp 135), type := 4, pos := _, after := #[{ on := 15, ground := Ground.data }, { on := 23, ground := Ground.data }, { on := 6, ground := Ground.guard }], guard := some (6, true) }) (v := ?_) rfl (by kernel_rfl) (by kernel_rfl) (by kernel_rfl) (fun _ _ _ h => h) (Or.inl ⟨by rfl, ?_⟩) (by assumption) ?_
    rotate_left
    · ((intro w hSw); (try dsimp only at hSw); go_simp; (try with_reducible rfl))
    try simp only [Act.put, List.setIfInBounds_toArray, List.set_cons_zero, List.set_cons_succ]
    refine wpAnyH_take (i := 25) (oi := { dst := some 137, op := Op.pick (Operand.tmp 118) (Operand.tmp 136) (Operand.const (Value.bool false)), type := 4, pos := _, after := #[{ on := 6, ground := Ground.data }, { on := 24, ground := Ground.data }], guard := none }) (v := ?_) rfl (by kernel_rfl) (by kernel_rfl) (by kernel_rfl) (fun _ _ _ h => h) (Or.inl ⟨by rfl, ?_⟩) (by assumption) ?_
    rotate_left
    · ((intro w hSw); (try dsimp only at hSw); go_simp; (try with_reducible rfl))
    try simp only [Act.put, List.setIfInBounds_toArray, List.set_cons_zero, List.set_cons_succ]
    refine wpAnyH_take (i := 26) (oi := { dst := some 6, op := Op.assign (Operand.tmp 137), type := 4, pos := _, after := #[{ on := 25, ground := Ground.data }, { on := 20, ground := Ground.chain }, { on := 0, ground := Ground.phase }, { on := 1, ground := Ground.phase }, { on := 2, ground := Ground.phase }, { on := 3, ground := Ground.phase }, { on := 4, ground := Ground.phase }, { on := 5, ground := Ground.phase }, { on := 6, ground := Ground.phase }, { on := 7, ground := Ground.phase }, { on := 8, ground := Ground.phase }, { on := 9, ground := Ground.phase }, { on := 10, ground := Ground.phase }, { on := 11, ground := Ground.phase }, { on := 12, ground := Ground.phase }, { on := 13, ground := Ground.phase }, { on := 14, ground := Ground.phase }, { on := 15, ground := Ground.phase }, { on := 16, ground := Ground.phase }, { on := 17, ground := Ground.phase }, { on := 18, ground := Ground.phase }, { on := 19, ground := Ground.phase }, { on := 20, ground := Ground.phase }, { on := 21, ground := Ground.phase }, { on := 22, ground := Ground.phase }, { on := 23, ground := Ground.phase }, { on := 24, ground := Ground.phase }, { on := 25, ground := Ground.phase }], guard := none }) (v := ?_) rfl (by kernel_rfl) (by kernel_rfl) (by kernel_rfl) (fun _ _ _ h => h) (Or.inl ⟨by rfl, ?_⟩) (by assumption) ?_
    rotate_left
    · ((intro w hSw); (try dsimp only at hSw); go_simp; (try with_reducible rfl))
    try simp only [Act.put, List.setIfInBounds_toArray, List.set_cons_zero, List.set_cons_succ]
    refine wpAnyH_done (by kernel_rfl) ?_ _
    go_wp2
    go_ret
    exact ⟨rfl, nextB HW14.out HB16.out⟩
set_option maxRecDepth 100000 in
set_option maxHeartbeats 8000000 in
theorem walkft (A B x : Nat) (hA : A ≤ 9999) (h1 : 1 ≤ B) (h2 : B ≤ 9999) (hx : In64 x) (w : World) (hT : TabZ w) (hP : TabP w) (hf : (ofN (quoV A B)).2.2 ≠ 0) (hg : (ofN x).2.2 = 0) :
    Calls Tryz.prog 4 #[.int .i64 (A : Int), .int .i64 (B : Int), .float .f64 x] w fun e w' => e = .returned (.bool true) ∧ Below w.heap.size w w' := by
  have HF := Lib.hid firstC
  have HD1 := Lib.hid (fun w => Dc.decB A (by omega) w)
  have HD2 := Lib.hid (fun w => Dc.decB B (by omega) w)
  have l1 := dec_len hA
  have l2 := dec_len h2
  have zA : ((bs (Lib.decDigits A)).size : Int) ≤ 4 := by rw [bs_size]; omega
  have zB : ((bs (Lib.decDigits B)).size : Int) ≤ 4 := by rw [bs_size]; omega
  have hS : (⟨#[115, 112, 101, 101, 100, 32]⟩ : ByteArray) ++ bs (Lib.decDigits A) ++ ⟨#[47]⟩ ++ bs (Lib.decDigits B) = bs (sp A B) := by
    show bs [115, 112, 101, 101, 100, 32] ++ bs (Lib.decDigits A) ++ bs [47] ++ bs (Lib.decDigits B) = _
    rw [bs_app, bs_app, bs_app]
    simp [sp, fr]
  have HPa := Lib.hid (fun w h => parseG A B hA h1 h2 w h)
  have HQ := Lib.hid (fun w => quo_run A B h1 h2 w)
  have hQ := quo_in A B h1 h2
  have HB := Lib.hid (fun w => bitsC (quoV A B) w hQ)
  have HO1 := Lib.hid (fun w h => ofC (quoV A B) w hQ h)
  have HO2 := Lib.hid (fun w h => ofC x w hx h)
  have HX1 := Lib.hid (fun W p q (h : Dl W p q d0) (hT : TabZ W) => doC 5 0 (quoV A B) 0 0 0 hQ (by decide) h d0_ok hT)
  have hk1 : Dkk (doD d0 5 0 (quoV A B) 0 0 0) := doD_dkk d0_ok _ _ _ _ _ _
  have HX2 := Lib.hid (fun W p q (h : Dl W p q (doD d0 5 0 (quoV A B) 0 0 0)) (hT : TabZ W) => doC 5 0 x 0 0 0 hx (by decide) h hk1 hT)
  have HZ := Lib.hid (fun w2 (hb : Below w.heap.size w w2) => hT.then_ hb)
  have HY := Lib.hid (fun w2 (hb : Below w.heap.size w w2) => tabP_then hb hP)
  unfold OfP at HO1 HO2
  rw [doE5] at HX1 HX2
  obtain ⟨n1, n2⟩ := doD5_no0 hf
  obtain ⟨m1, m2⟩ := doD5_ok (doD d0 5 0 (quoV A B) 0 0 0) hg
  rw [hg] at HX2 HO2
  generalize doD (doD d0 5 0 (quoV A B) 0 0 0) 5 0 x 0 0 0 = d2 at *
  generalize doD d0 5 0 (quoV A B) 0 0 0 = d1 at *
  have f1 : ((ofN (quoV A B)).2.2 == 0) = false := by simpa using hf
  have f2 : ((ofN (quoV A B)).2.2 != 0) = true := by simpa using hf
  generalize (ofN (quoV A B)).2.2 = F at *
  generalize (ofN (quoV A B)).1 = r1 at *
  generalize (ofN (quoV A B)).2.1 = r2 at *
  generalize (ofN x).1 = t1 at *
  generalize (ofN x).2.1 = t2 at *
  generalize bs (sp A B) = SS at *
  generalize bs (Lib.decDigits A) = SA at *
  generalize bs (Lib.decDigits B) = SB at *
  generalize quoV A B = Q at *
  have b1 : decide ((A : Int) < 0) = false := by simp
  have b2 : decide ((9999 : Int) < (A : Int)) = false := decide_eq_false (by omega)
  have b3 : decide ((B : Int) < 1) = false := decide_eq_false (by omega)
  have b4 : decide ((9999 : Int) < (B : Int)) = false := decide_eq_false (by omega)
  have z1 : IntKind.u64.wrap (A : Int) = (A : Int) := by rw [IntKind.wrap_u64]; omega
  have z2 : IntKind.u64.wrap (B : Int) = (B : Int) := by rw [IntKind.wrap_u64]; omega
  have hsf := stF
  clear hT hP hA h1 h2 l1 l2 hx hQ hk1 hf hg
  go_enter Tryz.func4, Tryz.ntmps4
  go_wp2_with fail
  refine (HF.out _).mono ?_
  rintro e w1 ⟨rfl, hb1⟩
  have HW1 := Lib.hid hb1
  clear hb1
  go_wp2_with fail
  refine (HD1.out _).mono ?_
  rintro e w2 ⟨rfl, hb2⟩
  have HW2 := Lib.hid (nextB HW1.out hb2)
  clear hb2
  go_wp2_with fail
  refine (HD2.out _).mono ?_
  rintro e w3 ⟨rfl, hb3⟩
  have HW3 := Lib.hid (nextB HW2.out hb3)
  clear hb3
  go_wp2_with fail
  clear zA zB hS
  refine (HPa.out _ (HY.out _ HW3.out)).mono ?_
  rintro e w4 ⟨rfl, hb4⟩
  have HW4 := Lib.hid (nextB HW3.out hb4)
  clear hb4
  go_wp2_with fail
  have hC := heap_alloc_new w4 (.cells #[.int .i64 5, .int .u64 0, .float .f64 Q] 33)
  have HW5 := Lib.hid (nextB HW4.out ((Below.refl w4.heap.size w4).alloc (Nat.le_refl _) (.cells #[.int .i64 5, .int .u64 0, .float .f64 Q] 33)))
  have k5 : w4.heap.size < (w4.alloc (.cells #[.int .i64 5, .int .u64 0, .float .f64 Q] 33)).heap.size := by simp
  generalize hw5 : w4.alloc (.cells #[.int .i64 5, .int .u64 0, .float .f64 Q] 33) = w5 at *
  generalize hc : w4.heap.size = C at *
  refine (newD w5).mono ?_
  rintro e w6 ⟨p, q, hp, hq, rfl, hD6, hb6⟩
  have hC6 := (hb6.block C k5).trans hC
  have HW6 := Lib.hid (nextB HW5.out hb6)
  have k6 := hb6.size
  have y0 := HW5.out.size
  have y1 : w.heap.size ≤ p := by omega
  have y2 : w.heap.size ≤ q := by omega
  have n3 : C ≠ p := by omega
  have n4 : C ≠ q := by omega
  clear hC hw5 hb6 hp hq y0
  have c0 : w6.cell? ⟨C, 0, none⟩ = some (.int .i64 5) := by simp [World.cell?, hC6]
  have c1 : w6.cell? ⟨C, 1, none⟩ = some (.int .u64 0) := by simp [World.cell?, hC6]
  have c2 : w6.cell? ⟨C, 2, none⟩ = some (.float .f64 Q) := by simp [World.cell?, hC6]
  have q4 := HQ.out w6
  have HC6 := Lib.hid hC6
  have HD6 := Lib.hid hD6
  clear hC6 hD6
  go_wp2_with (first
    | (go_at_call 18; refine (HB.out _).mono ?_; rintro e v ⟨rfl, rfl⟩))
  refine (HO1.out _ (HZ.out _ HW6.out)).mono ?_
  rintro e w7 ⟨rfl, hb7⟩
  clear c0 c1 c2 q4
  have hC7 := (hb7.block C (lt_of_block HC6.out)).trans HC6.out
  have HC7 := Lib.hid hC7
  have hD7 := HD6.out.then_ hb7
  have HW7 := Lib.hid (nextB HW6.out hb7)
  have hal := (Below.refl w7.heap.size w7).alloc (Nat.le_refl _) (.cells #[.int .u64 (r1 : Int), .int .u64 (r2 : Int)] 51)
  have HS8 := Lib.hid (heap_alloc_new w7 (.cells #[.int .u64 (r1 : Int), .int .u64 (r2 : Int)] 51))
  have HC8 := Lib.hid ((hal.block C (lt_of_block hC7)).trans hC7)
  have HD8 := Lib.hid (hD7.then_ hal)
  have HW8 := Lib.hid (nextB HW7.out hal)
  have s1 : w7.heap.size ≠ p := by have := hD7.lt; omega
  have s2 : w7.heap.size ≠ q := by have := hD7.2.lt; omega
  clear hb7 hC7 hD7 hal
  have c0 : (w7.alloc (.cells #[.int .u64 (r1 : Int), .int .u64 (r2 : Int)] 51)).cell? ⟨C, 0, none⟩ = some (.int .i64 5) := by simp [World.cell?, HC8.out]
  have c1 : (w7.alloc (.cells #[.int .u64 (r1 : Int), .int .u64 (r2 : Int)] 51)).cell? ⟨C, 1, none⟩ = some (.int .u64 0) := by simp [World.cell?, HC8.out]
  have c2 : (w7.alloc (.cells #[.int .u64 (r1 : Int), .int .u64 (r2 : Int)] 51)).cell? ⟨C, 2, none⟩ = some (.float .f64 Q) := by simp [World.cell?, HC8.out]
  generalize hw8 : w7.alloc (.cells #[.int .u64 (r1 : Int), .int .u64 (r2 : Int)] 51) = w8 at *
  generalize hsb : w7.heap.size = Sb at *
  go_wp2_with fail
  refine (HX1.out _ _ _ HD8.out (HZ.out _ HW8.out)).mono ?_
  rintro e w9 ⟨rfl, hD9, hf9⟩
  have HS9 := Lib.hid ((hf9.block Sb (lt_of_block HS8.out) s1 s2).trans HS8.out)
  have HW9 := Lib.hid (hf9.below HW8.out y1 y2)
  clear c0 c1 c2 hw8 hf9
  have HR1 : Hid (Calls Tryz.prog 20 #[.pointer (some ⟨p, 0, none⟩)] w9 fun e w' => e = .returned (.agg #[.int .u64 (1 : Int), .int .u64 (1 : Int)]) ∧ Below w9.heap.size w9 w') := Lib.hid (by
    have h := rateC hD9
    rw [n1, n2] at h
    exact h)
  have HD9 := Lib.hid hD9
  clear hD9
  go_wp2_with fail
  refine HR1.out.mono ?_
  rintro e w10 ⟨rfl, hb10⟩
  have hS10 := (hb10.block Sb (lt_of_block HS9.out)).trans HS9.out
  have hD10 := HD9.out.then_ hb10
  have HW10 := Lib.hid (nextB HW9.out hb10)
  have hal := (Below.refl w10.heap.size w10).alloc (Nat.le_refl _) (.cells #[.int .u64 (1 : Int), .int .u64 (1 : Int)] 51)
  have HV11 := Lib.hid (heap_alloc_new w10 (.cells #[.int .u64 (1 : Int), .int .u64 (1 : Int)] 51))
  have hS11 := (hal.block Sb (lt_of_block hS10)).trans hS10
  have HD11 := Lib.hid (hD10.then_ hal)
  have HW11 := Lib.hid (nextB HW10.out hal)
  have v1 : w10.heap.size ≠ p := by have := hD10.lt; omega
  have v2 : w10.heap.size ≠ q := by have := hD10.2.lt; omega
  clear hb10 hS10 hD10 hal
  generalize hw11 : w10.alloc (.cells #[.int .u64 (1 : Int), .int .u64 (1 : Int)] 51) = w11 at *
  generalize hvb : w10.heap.size = Vb at *
  have a0 : w11.cell? ⟨Sb, 0, none⟩ = some (.int .u64 (r1 : Int)) := by simp [World.cell?, hS11]
  have a1 : w11.cell? ⟨Sb, 1, none⟩ = some (.int .u64 (r2 : Int)) := by simp [World.cell?, hS11]
  have a2 : w11.cell? ⟨Vb, 0, none⟩ = some (.int .u64 (1 : Int)) := by simp [World.cell?, HV11.out]
  have a3 : w11.cell? ⟨Vb, 1, none⟩ = some (.int .u64 (1 : Int)) := by simp [World.cell?, HV11.out]
  clear hS11
  go_wp2_with fail
  refine (HO2.out _ (HZ.out _ HW11.out)).mono ?_
  rintro e w12 ⟨rfl, hb12⟩
  have hV12 := (hb12.block Vb (lt_of_block HV11.out)).trans HV11.out
  have hD12 := HD11.out.then_ hb12
  have HW12 := Lib.hid (nextB HW11.out hb12)
  have hal := (Below.refl w12.heap.size w12).alloc (Nat.le_refl _) (.cells #[.int .u64 (t1 : Int), .int .u64 (t2 : Int)] 51)
  have HT13 := Lib.hid (heap_alloc_new w12 (.cells #[.int .u64 (t1 : Int), .int .u64 (t2 : Int)] 51))
  have HV13 := Lib.hid ((hal.block Vb (lt_of_block hV12)).trans hV12)
  have HD13 := Lib.hid (hD12.then_ hal)
  have HW13 := Lib.hid (nextB HW12.out hal)
  have u1 : w12.heap.size ≠ p := by have := hD12.lt; omega
  have u2 : w12.heap.size ≠ q := by have := hD12.2.lt; omega
  clear hb12 hV12 hD12 hal a0 a1 a2 a3 hw11
  generalize hw13 : w12.alloc (.cells #[.int .u64 (t1 : Int), .int .u64 (t2 : Int)] 51) = w13 at *
  generalize htb : w12.heap.size = Tb at *
  go_wp2_with fail
  refine (HX2.out _ _ _ HD13.out (HZ.out _ HW13.out)).mono ?_
  rintro e w14 ⟨rfl, hD14, hf14⟩
  have hT14 := (hf14.block Tb (lt_of_block HT13.out) u1 u2).trans HT13.out
  have hV14 := (hf14.block Vb (lt_of_block HV13.out) v1 v2).trans HV13.out
  have HW14 := Lib.hid (hf14.below HW13.out y1 y2)
  clear hf14 hw13
  have HSS : Hid (∀ W, Below w14.heap.size w14 W → (W.cell? ⟨Tb, 0, none⟩ = some (.int .u64 (t1 : Int)) ∧ W.cell? ⟨Tb, 1, none⟩ = some (.int .u64 (t2 : Int)) ∧ W.cell? ⟨Vb, 0, none⟩ = some (.int .u64 (1 : Int)) ∧ W.cell? ⟨Vb, 1, none⟩ = some (.int .u64 (1 : Int)))) := Lib.hid (fun W hb => by
    have h1 := (hb.block Tb (lt_of_block hT14)).trans hT14
    have h2 := (hb.block Vb (lt_of_block hV14)).trans hV14
    exact ⟨by simp [World.cell?, h1], by simp [World.cell?, h1], by simp [World.cell?, h2], by simp [World.cell?, h2]⟩)
  have HR : Hid (∀ W, Below w14.heap.size w14 W → Calls Tryz.prog 20 #[.pointer (some ⟨p, 0, none⟩)] W fun e w' => e = .returned (.agg #[.int .u64 (t1 : Int), .int .u64 (t2 : Int)]) ∧ Below W.heap.size W w') := Lib.hid (fun W hb => by
    have h := rateC (hD14.then_ hb)
    rw [m1, m2] at h
    exact h)
  clear hD14 hT14 hV14
  go_wp2_with fail
  refine wp_region_held_drew (S := (fun W => (W.cell? ⟨Tb, 0, none⟩ = some (.int .u64 (t1 : Int)) ∧ W.cell? ⟨Tb, 1, none⟩ = some (.int .u64 (t2 : Int)) ∧ W.cell? ⟨Vb, 0, none⟩ = some (.int .u64 (1 : Int)) ∧ W.cell? ⟨Vb, 1, none⟩ = some (.int .u64 (1 : Int))))) (by kernel_rfl) ?_ (fun hHeld => ?_)
  · ((try dsimp only); exact HSS.out _ (Below.refl _ _).drew)
  refine wpAnyH_ready (rs := [0]) (by kernel_rfl) (by simp) ?_
  refine (AllReadyH.cons (o := { dst := some 112, op := Op.call { callee := Callee.value (Operand.func 6), args := #[], argTypes := #[] }, type := 4, pos := _, after := #[], guard := none }) rfl (fun K hK => ?_) AllReadyH.nil)
  go_simp
  (refine (HF.out _).mono ?_; rintro e w15 ⟨rfl, hb15⟩; have HB15 := Lib.hid (show Below w14.heap.size w14 w15 from below_then (Below.refl _ _).drew hb15 (Nat.le_refl _)); clear hb15)
  go_wp2_with fail
  refine hK.out _ _ ?_ (fun hHeld => ?_)
  · ((try dsimp only); exact HSS.out _ HB15.out)
  clear hK K
  try simp only [Act.put, List.setIfInBounds_toArray, List.set_cons_zero, List.set_cons_succ]
  refine wpAnyH_take (i := 1) (oi := { dst := some 113, op := Op.move (Operand.tmp 112), type := 4, pos := _, after := #[{ on := 0, ground := Ground.data }, { on := 0, ground := Ground.chain }], guard := none }) (v := ?_) rfl (by kernel_rfl) (by kernel_rfl) (by kernel_rfl) (fun _ _ _ h => h) (Or.inl ⟨by rfl, ?_⟩) (by assumption) ?_
  rotate_left
  · ((intro w hSw); (try dsimp only at hSw); go_simp; (try with_reducible rfl))
  try simp only [Act.put, List.setIfInBounds_toArray, List.set_cons_zero, List.set_cons_succ]
  refine wpAnyH_take (i := 2) (oi := { dst := some 114, op := Op.move (Operand.tmp 16), type := 29, pos := _, after := #[{ on := 1, ground := Ground.guard }], guard := some (1, true) }) (v := ?_) rfl (by kernel_rfl) (by kernel_rfl) (by kernel_rfl) (fun _ _ _ h => h) (Or.inl ⟨by rfl, ?_⟩) (by assumption) ?_
  rotate_left
  · ((intro w hSw); (try dsimp only at hSw); go_simp; (try with_reducible rfl))
  try simp only [Act.put, List.setIfInBounds_toArray, List.set_cons_zero, List.set_cons_succ]
  refine wpAnyH_take (i := 3) (oi := { dst := some 115, op := Op.move (Operand.tmp 15), type := 29, pos := _, after := #[{ on := 1, ground := Ground.guard }], guard := some (1, true) }) (v := ?_) rfl (by kernel_rfl) (by kernel_rfl) (by kernel_rfl) (fun _ _ _ h => h) (Or.inl ⟨by rfl, ?_⟩) (by assumption) ?_
  rotate_left
  · ((intro w hSw); (try dsimp only at hSw); go_simp; (try with_reducible rfl))
  try simp only [Act.put, List.setIfInBounds_toArray, List.set_cons_zero, List.set_cons_succ]
  refine wpAnyH_take (i := 4) (oi := { dst := some 116, op := Op.binOp BinOp.eql 29 (Operand.tmp 114) (Operand.tmp 115) 29, type := 4, pos := _, after := #[{ on := 2, ground := Ground.data }, { on := 3, ground := Ground.data }, { on := 1, ground := Ground.guard }], guard := some (1, true) }) (v := ?_) rfl (by kernel_rfl) (by kernel_rfl) (by kernel_rfl) (fun _ _ _ h => h) (Or.inl ⟨by rfl, ?_⟩) (by assumption) ?_
  rotate_left
  · ((intro w hSw); (try dsimp only at hSw); go_simp; (try with_reducible rfl))
  try simp only [Act.put, List.setIfInBounds_toArray, List.set_cons_zero, List.set_cons_succ]
  refine wpAnyH_take (i := 5) (oi := { dst := some 117, op := Op.pick (Operand.tmp 113) (Operand.tmp 116) (Operand.const (Value.bool false)), type := 4, pos := _, after := #[{ on := 1, ground := Ground.data }, { on := 4, ground := Ground.data }], guard := none }) (v := ?_) rfl (by kernel_rfl) (by kernel_rfl) (by kernel_rfl) (fun _ _ _ h => h) (Or.inl ⟨by rfl, ?_⟩) (by assumption) ?_
  rotate_left
  · ((intro w hSw); (try dsimp only at hSw); go_simp; (try with_reducible rfl))
  try simp only [Act.put, List.setIfInBounds_toArray, List.set_cons_zero, List.set_cons_succ]
  refine wpAnyH_take (i := 6) (oi := { dst := some 118, op := Op.move (Operand.tmp 117), type := 4, pos := _, after := #[{ on := 5, ground := Ground.data }, { on := 1, ground := Ground.chain }], guard := none }) (v := ?_) rfl (by kernel_rfl) (by kernel_rfl) (by kernel_rfl) (fun _ _ _ h => h) (Or.inl ⟨by rfl, ?_⟩) (by assumption) ?_
  rotate_left
  · ((intro w hSw); (try dsimp only at hSw); go_simp; (try with_reducible rfl))
  try simp only [Act.put, List.setIfInBounds_toArray, List.set_cons_zero, List.set_cons_succ]
  refine wpAnyH_take (i := 7) (oi := { dst := some 119, op := Op.move (Operand.tmp 15), type := 29, pos := _, after := #[{ on := 6, ground := Ground.guard }], guard := some (6, true) }) (v := ?_) rfl (by kernel_rfl) (by kernel_rfl) (by kernel_rfl) (fun _ _ _ h => h) (Or.inl ⟨by rfl, ?_⟩) (by assumption) ?_
  rotate_left
  · ((intro w hSw); (try dsimp only at hSw); go_simp; (try with_reducible rfl))
  try simp only [Act.put, List.setIfInBounds_toArray, List.set_cons_zero, List.set_cons_succ]
  refine wpAnyH_take (i := 8) (oi := { dst := some 120, op := Op.binOp BinOp.eql 29 (Operand.tmp 119) (Operand.const (Value.int IntKind.i64 0)) 29, type := 4, pos := _, after := #[{ on := 7, ground := Ground.data }, { on := 6, ground := Ground.guard }], guard := some (6, true) }) (v := ?_) rfl (by kernel_rfl) (by kernel_rfl) (by kernel_rfl) (fun _ _ _ h => h) (Or.inl ⟨by rfl, ?_⟩) (by assumption) ?_
  rotate_left
  · ((intro w hSw); (try dsimp only at hSw); go_simp; (try with_reducible rfl))
  try simp only [Act.put, List.setIfInBounds_toArray, List.set_cons_zero, List.set_cons_succ]
  refine wpAnyH_take (i := 9) (oi := { dst := some 121, op := Op.move (Operand.tmp 120), type := 4, pos := _, after := #[{ on := 8, ground := Ground.data }, { on := 6, ground := Ground.chain }, { on := 6, ground := Ground.guard }], guard := some (6, true) }) (v := ?_) rfl (by kernel_rfl) (by kernel_rfl) (by kernel_rfl) (fun _ _ _ h => h) (Or.inl ⟨by rfl, ?_⟩) (by assumption) ?_
  rotate_left
  · ((intro w hSw); (try dsimp only at hSw); go_simp; (try with_reducible rfl))
  try simp only [Act.put, List.setIfInBounds_toArray, List.set_cons_zero, List.set_cons_succ]
  refine wpAnyH_take (i := 10) (oi := { dst := some 122, op := Op.move (Operand.tmp 9), type := 25, pos := _, after := #[{ on := 9, ground := Ground.guard }], guard := some (9, true) }) (v := ?_) rfl (by kernel_rfl) (by kernel_rfl) (by kernel_rfl) (fun _ _ _ h => h) (Or.inl ⟨by rfl, ?_⟩) (by assumption) ?_
  rotate_left
  · ((intro w hSw); (try dsimp only at hSw); go_simp; (try with_reducible rfl))
  try simp only [Act.put, List.setIfInBounds_toArray, List.set_cons_zero, List.set_cons_succ]
  refine wpAnyH_ready (rs := [11, 12]) (by kernel_rfl) (by simp) ?_
  refine (AllReadyH.cons (o := { dst := some 123, op := Op.call { callee := Callee.value (Operand.func 20), args := #[Operand.tmp 122], argTypes := #[25] }, type := 51, pos := _, after := #[{ on := 10, ground := Ground.data }, { on := 9, ground := Ground.chain }, { on := 9, ground := Ground.guard }], guard := some (9, true) }) rfl (fun K hK => ?_) (AllReadyH.cons (o := { dst := some 124, op := Op.load 51 (Operand.tmp 14), type := 51, pos := _, after := #[{ on := 9, ground := Ground.guard }], guard := some (9, true) }) rfl (fun K hK => ?_) AllReadyH.nil))
  · skip
    go_simp
    (refine (HR.out _ HB15.out).mono ?_; rintro e w16 ⟨rfl, hb16⟩; have HB16 := Lib.hid (nextB HB15.out hb16); clear hb16)
    go_wp2_with fail
    refine hK.out _ _ ?_ (fun hHeld => ?_)
    · ((try dsimp only); exact HSS.out _ HB16.out)
    clear hK K
    try simp only [Act.put, List.setIfInBounds_toArray, List.set_cons_zero, List.set_cons_succ]
    refine wpAnyH_ready (rs := [12]) (by kernel_rfl) (by simp) ?_
    refine (AllReadyH.cons (o := { dst := some 124, op := Op.load 51 (Operand.tmp 14), type := 51, pos := _, after := #[{ on := 9, ground := Ground.guard }], guard := some (9, true) }) rfl (fun K hK => ?_) AllReadyH.nil)
    go_simp
    refine hK.out _ _ ?_ (fun hHeld => ?_)
    · ((try dsimp only); exact HSS.out _ HB16.out)
    clear hK K
    try simp only [Act.put, List.setIfInBounds_toArray, List.set_cons_zero, List.set_cons_succ]
    refine wpAnyH_take (i := 13) (oi := { dst := some 125, op := Op.binOp BinOp.eql 51 (Operand.tmp 123) (Operand.tmp 124) 51, type := 4, pos := _, after := #[{ on := 11, ground := Ground.data }, { on := 12, ground := Ground.data }, { on := 9, ground := Ground.guard }], guard := some (9, true) }) (v := ?_) rfl (by kernel_rfl) (by kernel_rfl) (by kernel_rfl) (fun _ _ _ h => h) (Or.inl ⟨by rfl, ?_⟩) (by assumption) ?_
    rotate_left
    · ((intro w hSw); (try dsimp only at hSw); go_simp; (try with_reducible rfl))
    try simp only [Act.put, List.setIfInBounds_toArray, List.set_cons_zero, List.set_cons_succ]
    refine wpAnyH_take (i := 14) (oi := { dst := some 126, op := Op.pick (Operand.tmp 121) (Operand.tmp 125) (Operand.const (Value.bool false)), type := 4, pos := _, after := #[{ on := 9, ground := Ground.data }, { on := 13, ground := Ground.data }, { on := 6, ground := Ground.guard }], guard := some (6, true) }) (v := ?_) rfl (by kernel_rfl) (by kernel_rfl) (by kernel_rfl) (fun _ _ _ h => h) (Or.inl ⟨by rfl, ?_⟩) (by assumption) ?_
    rotate_left
    · ((intro w hSw); (try dsimp only at hSw); go_simp; (try with_reducible rfl))
    try simp only [Act.put, List.setIfInBounds_toArray, List.set_cons_zero, List.set_cons_succ]
    refine wpAnyH_take (i := 15) (oi := { dst := some 127, op := Op.move (Operand.tmp 126), type := 4, pos := _, after := #[{ on := 14, ground := Ground.data }, { on := 11, ground := Ground.chain }, { on := 6, ground := Ground.guard }], guard := some (6, true) }) (v := ?_) rfl (by kernel_rfl) (by kernel_rfl) (by kernel_rfl) (fun _ _ _ h => h) (Or.inl ⟨by rfl, ?_⟩) (by assumption) ?_
    rotate_left
    · ((intro w hSw); (try dsimp only at hSw); go_simp; (try with_reducible rfl))
    try simp only [Act.put, List.setIfInBounds_toArray, List.set_cons_zero, List.set_cons_succ]
    refine wpAnyH_take (i := 16) (oi := { dst := some 128, op := Op.move (Operand.tmp 15), type := 29, pos := _, after := #[{ on := 15, ground := Ground.guard }], guard := some (15, false) }) (v := undef) rfl (by kernel_rfl) (by kernel_rfl) (by kernel_rfl) (fun _ _ _ h => h) (Or.inr ⟨by rfl, rfl⟩) (by assumption) ?_
    try simp only [Act.put, List.setIfInBounds_toArray, List.set_cons_zero, List.set_cons_succ]
    refine wpAnyH_take (i := 17) (oi := { dst := some 129, op := Op.binOp BinOp.neq 29 (Operand.tmp 128) (Operand.const (Value.int IntKind.i64 0)) 29, type := 4, pos := _, after := #[{ on := 16, ground := Ground.data }, { on := 15, ground := Ground.guard }], guard := some (15, false) }) (v := undef) rfl (by kernel_rfl) (by kernel_rfl) (by kernel_rfl) (fun _ _ _ h => h) (Or.inr ⟨by rfl, rfl⟩) (by assumption) ?_
    try simp only [Act.put, List.setIfInBounds_toArray, List.set_cons_zero, List.set_cons_succ]
    refine wpAnyH_take (i := 18) (oi := { dst := some 130, op := Op.move (Operand.tmp 129), type := 4, pos := _, after := #[{ on := 17, ground := Ground.data }, { on := 15, ground := Ground.chain }, { on := 15, ground := Ground.guard }], guard := some (15, false) }) (v := undef) rfl (by kernel_rfl) (by kernel_rfl) (by kernel_rfl) (fun _ _ _ h => h) (Or.inr ⟨by rfl, rfl⟩) (by assumption) ?_
    try simp only [Act.put, List.setIfInBounds_toArray, List.set_cons_zero, List.set_cons_succ]
    refine wpAnyH_take (i := 19) (oi := { dst := some 131, op := Op.move (Operand.tmp 9), type := 25, pos := _, after := #[{ on := 18, ground := Ground.guard }], guard := some (18, true) }) (v := undef) rfl (by kernel_rfl) (by kernel_rfl) (by kernel_rfl) (fun _ _ _ h => h) (Or.inr ⟨by rfl, rfl⟩) (by assumption) ?_
    try simp only [Act.put, List.setIfInBounds_toArray, List.set_cons_zero, List.set_cons_succ]
    refine wpAnyH_take (i := 20) (oi := { dst := some 132, op := Op.call { callee := Callee.value (Operand.func 20), args := #[Operand.tmp 131], argTypes := #[25] }, type := 51, pos := _, after := #[{ on := 19, ground := Ground.data }, { on := 18, ground := Ground.chain }, { on := 18, ground := Ground.guard }], guard := some (18, true) }) (v := undef) rfl (by kernel_rfl) (by kernel_rfl) (by kernel_rfl) (fun _ _ _ h => h) (Or.inr ⟨by rfl, rfl⟩) (by assumption) ?_
    try simp only [Act.put, List.setIfInBounds_toArray, List.set_cons_zero, List.set_cons_succ]
    refine wpAnyH_take (i := 21) (oi := { dst := some 133, op := Op.load 51 (Operand.tmp 13), type := 51, pos := _, after := #[{ on := 18, ground := Ground.guard }], guard := some (18, true) }) (v := undef) rfl (by kernel_rfl) (by kernel_rfl) (by kernel_rfl) (fun _ _ _ h => h) (Or.inr ⟨by rfl, rfl⟩) (by assumption) ?_
    try simp only [Act.put, List.setIfInBounds_toArray, List.set_cons_zero, List.set_cons_succ]
    refine wpAnyH_take (i := 22) (oi := { dst := some 134, op := Op.binOp BinOp.eql 51 (Operand.tmp 132) (Operand.tmp 133) 51, type := 4, pos := _, after := #[{ on := 20, ground := Ground.data }, { on := 21, ground := Ground.data }, { on := 18, ground := Ground.guard }], guard := some (18, true) }) (v := undef) rfl (by kernel_rfl) (by kernel_rfl) (by kernel_rfl) (fun _ _ _ h => h) (Or.inr ⟨by rfl, rfl⟩) (by assumption) ?_
    try simp only [Act.put, List.setIfInBounds_toArray, List.set_cons_zero, List.set_cons_succ]
    refine wpAnyH_take (i := 23) (oi := { dst := some 135, op := Op.pick (Operand.tmp 130) (Operand.tmp 134) (Operand.const (Value.bool false)), type := 4, pos := _, after := #[{ on := 18, ground := Ground.data }, { on := 22, ground := Ground.data }, { on := 15, ground := Ground.guard }], guard := some (15, false) }) (v := undef) rfl (by kernel_rfl) (by kernel_rfl) (by kernel_rfl) (fun _ _ _ h => h) (Or.inr ⟨by rfl, rfl⟩) (by assumption) ?_
    try simp only [Act.put, List.setIfInBounds_toArray, List.set_cons_zero, List.set_cons_succ]
    refine wpAnyH_take (i := 24) (oi := { dst := some 136, op := Op.pick (Operand.tmp 127) (Operand.const (Value.bool true)) (Operand.tmp 135), type := 4, pos := _, after := #[{ on := 15, ground := Ground.data }, { on := 23, ground := Ground.data }, { on := 6, ground := Ground.guard }], guard := some (6, true) }) (v := ?_) rfl (by kernel_rfl) (by kernel_rfl) (by kernel_rfl) (fun _ _ _ h => h) (Or.inl ⟨by rfl, ?_⟩) (by assumption) ?_
    rotate_left
    · ((intro w hSw); (try dsimp only at hSw); go_simp; (try with_reducible rfl))
    try simp only [Act.put, List.setIfInBounds_toArray, List.set_cons_zero, List.set_cons_succ]
    refine wpAnyH_take (i := 25) (oi := { dst := some 137, op := Op.pick (Operand.tmp 118) (Operand.tmp 136) (Operand.const (Value.bool false)), type := 4, pos := _, after := #[{ on := 6, ground := Ground.data }, { on := 24, ground := Ground.data }], guard := none }) (v := ?_) rfl (by kernel_rfl) (by kernel_rfl) (by kernel_rfl) (fun _ _ _ h => h) (Or.inl ⟨by rfl, ?_⟩) (by assumption) ?_
    rotate_left
    · ((intro w hSw); (try dsimp only at hSw); go_simp; (try with_reducible rfl))
    try simp only [Act.put, List.setIfInBounds_toArray, List.set_cons_zero, List.set_cons_succ]
    refine wpAnyH_take (i := 26) (oi := { dst := some 6, op := Op.assign (Operand.tmp 137), type := 4, pos := _, after := #[{ on := 25, ground := Ground.data }, { on := 20, ground := Ground.chain }, { on := 0, ground := Ground.phase }, { on := 1, ground := Ground.phase }, { on := 2, ground := Ground.phase }, { on := 3, ground := Ground.phase }, { on := 4, ground := Ground.phase }, { on := 5, ground := Ground.phase }, { on := 6, ground := Ground.phase }, { on := 7, ground := Ground.phase }, { on := 8, ground := Ground.phase }, { on := 9, ground := Ground.phase }, { on := 10, ground := Ground.phase }, { on := 11, ground := Ground.phase }, { on := 12, ground := Ground.phase }, { on := 13, ground := Ground.phase }, { on := 14, ground := Ground.phase }, { on := 15, ground := Ground.phase }, { on := 16, ground := Ground.phase }, { on := 17, ground := Ground.phase }, { on := 18, ground := Ground.phase }, { on := 19, ground := Ground.phase }, { on := 20, ground := Ground.phase }, { on := 21, ground := Ground.phase }, { on := 22, ground := Ground.phase }, { on := 23, ground := Ground.phase }, { on := 24, ground := Ground.phase }, { on := 25, ground := Ground.phase }], guard := none }) (v := ?_) rfl (by kernel_rfl) (by kernel_rfl) (by kernel_rfl) (fun _ _ _ h => h) (Or.inl ⟨by rfl, ?_⟩) (by assumption) ?_
    rotate_left
    · ((intro w hSw); (try dsimp only at hSw); go_simp; (try with_reducible rfl))
    try simp only [Act.put, List.setIfInBounds_toArray, List.set_cons_zero, List.set_cons_succ]
    refine wpAnyH_done (by kernel_rfl) ?_ _
    go_wp2
    go_ret
    exact ⟨rfl, nextB HW14.out HB16.out⟩
  · skip
    go_simp
    refine hK.out _ _ ?_ (fun hHeld => ?_)
    · ((try dsimp only); exact HSS.out _ HB15.out)
    clear hK K
    try simp only [Act.put, List.setIfInBounds_toArray, List.set_cons_zero, List.set_cons_succ]
    refine wpAnyH_ready (rs := [11]) (by kernel_rfl) (by simp) ?_
    refine (AllReadyH.cons (o := { dst := some 123, op := Op.call { callee := Callee.value (Operand.func 20), args := #[Operand.tmp 122], argTypes := #[25] }, type := 51, pos := _, after := #[{ on := 10, ground := Ground.data }, { on := 9, ground := Ground.chain }, { on := 9, ground := Ground.guard }], guard := some (9, true) }) rfl (fun K hK => ?_) AllReadyH.nil)
    go_simp
    (refine (HR.out _ HB15.out).mono ?_; rintro e w16 ⟨rfl, hb16⟩; have HB16 := Lib.hid (nextB HB15.out hb16); clear hb16)
    go_wp2_with fail
    refine hK.out _ _ ?_ (fun hHeld => ?_)
    · ((try dsimp only); exact HSS.out _ HB16.out)
    clear hK K
    try simp only [Act.put, List.setIfInBounds_toArray, List.set_cons_zero, List.set_cons_succ]
    refine wpAnyH_take (i := 13) (oi := { dst := some 125, op := Op.binOp BinOp.eql 51 (Operand.tmp 123) (Operand.tmp 124) 51, type := 4, pos := _, after := #[{ on := 11, ground := Ground.data }, { on := 12, ground := Ground.data }, { on := 9, ground := Ground.guard }], guard := some (9, true) }) (v := ?_) rfl (by kernel_rfl) (by kernel_rfl) (by kernel_rfl) (fun _ _ _ h => h) (Or.inl ⟨by rfl, ?_⟩) (by assumption) ?_
    rotate_left
    · ((intro w hSw); (try dsimp only at hSw); go_simp; (try with_reducible rfl))
    try simp only [Act.put, List.setIfInBounds_toArray, List.set_cons_zero, List.set_cons_succ]
    refine wpAnyH_take (i := 14) (oi := { dst := some 126, op := Op.pick (Operand.tmp 121) (Operand.tmp 125) (Operand.const (Value.bool false)), type := 4, pos := _, after := #[{ on := 9, ground := Ground.data }, { on := 13, ground := Ground.data }, { on := 6, ground := Ground.guard }], guard := some (6, true) }) (v := ?_) rfl (by kernel_rfl) (by kernel_rfl) (by kernel_rfl) (fun _ _ _ h => h) (Or.inl ⟨by rfl, ?_⟩) (by assumption) ?_
    rotate_left
    · ((intro w hSw); (try dsimp only at hSw); go_simp; (try with_reducible rfl))
    try simp only [Act.put, List.setIfInBounds_toArray, List.set_cons_zero, List.set_cons_succ]
    refine wpAnyH_take (i := 15) (oi := { dst := some 127, op := Op.move (Operand.tmp 126), type := 4, pos := _, after := #[{ on := 14, ground := Ground.data }, { on := 11, ground := Ground.chain }, { on := 6, ground := Ground.guard }], guard := some (6, true) }) (v := ?_) rfl (by kernel_rfl) (by kernel_rfl) (by kernel_rfl) (fun _ _ _ h => h) (Or.inl ⟨by rfl, ?_⟩) (by assumption) ?_
    rotate_left
    · ((intro w hSw); (try dsimp only at hSw); go_simp; (try with_reducible rfl))
    try simp only [Act.put, List.setIfInBounds_toArray, List.set_cons_zero, List.set_cons_succ]
    refine wpAnyH_take (i := 16) (oi := { dst := some 128, op := Op.move (Operand.tmp 15), type := 29, pos := _, after := #[{ on := 15, ground := Ground.guard }], guard := some (15, false) }) (v := undef) rfl (by kernel_rfl) (by kernel_rfl) (by kernel_rfl) (fun _ _ _ h => h) (Or.inr ⟨by rfl, rfl⟩) (by assumption) ?_
    try simp only [Act.put, List.setIfInBounds_toArray, List.set_cons_zero, List.set_cons_succ]
    refine wpAnyH_take (i := 17) (oi := { dst := some 129, op := Op.binOp BinOp.neq 29 (Operand.tmp 128) (Operand.const (Value.int IntKind.i64 0)) 29, type := 4, pos := _, after := #[{ on := 16, ground := Ground.data }, { on := 15, ground := Ground.guard }], guard := some (15, false) }) (v := undef) rfl (by kernel_rfl) (by kernel_rfl) (by kernel_rfl) (fun _ _ _ h => h) (Or.inr ⟨by rfl, rfl⟩) (by assumption) ?_
    try simp only [Act.put, List.setIfInBounds_toArray, List.set_cons_zero, List.set_cons_succ]
    refine wpAnyH_take (i := 18) (oi := { dst := some 130, op := Op.move (Operand.tmp 129), type := 4, pos := _, after := #[{ on := 17, ground := Ground.data }, { on := 15, ground := Ground.chain }, { on := 15, ground := Ground.guard }], guard := some (15, false) }) (v := undef) rfl (by kernel_rfl) (by kernel_rfl) (by kernel_rfl) (fun _ _ _ h => h) (Or.inr ⟨by rfl, rfl⟩) (by assumption) ?_
    try simp only [Act.put, List.setIfInBounds_toArray, List.set_cons_zero, List.set_cons_succ]
    refine wpAnyH_take (i := 19) (oi := { dst := some 131, op := Op.move (Operand.tmp 9), type := 25, pos := _, after := #[{ on := 18, ground := Ground.guard }], guard := some (18, true) }) (v := undef) rfl (by kernel_rfl) (by kernel_rfl) (by kernel_rfl) (fun _ _ _ h => h) (Or.inr ⟨by rfl, rfl⟩) (by assumption) ?_
    try simp only [Act.put, List.setIfInBounds_toArray, List.set_cons_zero, List.set_cons_succ]
    refine wpAnyH_take (i := 20) (oi := { dst := some 132, op := Op.call { callee := Callee.value (Operand.func 20), args := #[Operand.tmp 131], argTypes := #[25] }, type := 51, pos := _, after := #[{ on := 19, ground := Ground.data }, { on := 18, ground := Ground.chain }, { on := 18, ground := Ground.guard }], guard := some (18, true) }) (v := undef) rfl (by kernel_rfl) (by kernel_rfl) (by kernel_rfl) (fun _ _ _ h => h) (Or.inr ⟨by rfl, rfl⟩) (by assumption) ?_
    try simp only [Act.put, List.setIfInBounds_toArray, List.set_cons_zero, List.set_cons_succ]
    refine wpAnyH_take (i := 21) (oi := { dst := some 133, op := Op.load 51 (Operand.tmp 13), type := 51, pos := _, after := #[{ on := 18, ground := Ground.guard }], guard := some (18, true) }) (v := undef) rfl (by kernel_rfl) (by kernel_rfl) (by kernel_rfl) (fun _ _ _ h => h) (Or.inr ⟨by rfl, rfl⟩) (by assumption) ?_
    try simp only [Act.put, List.setIfInBounds_toArray, List.set_cons_zero, List.set_cons_succ]
    refine wpAnyH_take (i := 22) (oi := { dst := some 134, op := Op.binOp BinOp.eql 51 (Operand.tmp 132) (Operand.tmp 133) 51, type := 4, pos := _, after := #[{ on := 20, ground := Ground.data }, { on := 21, ground := Ground.data }, { on := 18, ground := Ground.guard }], guard := some (18, true) }) (v := undef) rfl (by kernel_rfl) (by kernel_rfl) (by kernel_rfl) (fun _ _ _ h => h) (Or.inr ⟨by rfl, rfl⟩) (by assumption) ?_
    try simp only [Act.put, List.setIfInBounds_toArray, List.set_cons_zero, List.set_cons_succ]
    refine wpAnyH_take (i := 23) (oi := { dst := some 135, op := Op.pick (Operand.tmp 130) (Operand.tmp 134) (Operand.const (Value.bool false)), type := 4, pos := _, after := #[{ on := 18, ground := Ground.data }, { on := 22, ground := Ground.data }, { on := 15, ground := Ground.guard }], guard := some (15, false) }) (v := undef) rfl (by kernel_rfl) (by kernel_rfl) (by kernel_rfl) (fun _ _ _ h => h) (Or.inr ⟨by rfl, rfl⟩) (by assumption) ?_
    try simp only [Act.put, List.setIfInBounds_toArray, List.set_cons_zero, List.set_cons_succ]
    refine wpAnyH_take (i := 24) (oi := { dst := some 136, op := Op.pick (Operand.tmp 127) (Operand.const (Value.bool true)) (Operand.tmp 135), type := 4, pos := _, after := #[{ on := 15, ground := Ground.data }, { on := 23, ground := Ground.data }, { on := 6, ground := Ground.guard }], guard := some (6, true) }) (v := ?_) rfl (by kernel_rfl) (by kernel_rfl) (by kernel_rfl) (fun _ _ _ h => h) (Or.inl ⟨by rfl, ?_⟩) (by assumption) ?_
    rotate_left
    · ((intro w hSw); (try dsimp only at hSw); go_simp; (try with_reducible rfl))
    try simp only [Act.put, List.setIfInBounds_toArray, List.set_cons_zero, List.set_cons_succ]
    refine wpAnyH_take (i := 25) (oi := { dst := some 137, op := Op.pick (Operand.tmp 118) (Operand.tmp 136) (Operand.const (Value.bool false)), type := 4, pos := _, after := #[{ on := 6, ground := Ground.data }, { on := 24, ground := Ground.data }], guard := none }) (v := ?_) rfl (by kernel_rfl) (by kernel_rfl) (by kernel_rfl) (fun _ _ _ h => h) (Or.inl ⟨by rfl, ?_⟩) (by assumption) ?_
    rotate_left
    · ((intro w hSw); (try dsimp only at hSw); go_simp; (try with_reducible rfl))
    try simp only [Act.put, List.setIfInBounds_toArray, List.set_cons_zero, List.set_cons_succ]
    refine wpAnyH_take (i := 26) (oi := { dst := some 6, op := Op.assign (Operand.tmp 137), type := 4, pos := _, after := #[{ on := 25, ground := Ground.data }, { on := 20, ground := Ground.chain }, { on := 0, ground := Ground.phase }, { on := 1, ground := Ground.phase }, { on := 2, ground := Ground.phase }, { on := 3, ground := Ground.phase }, { on := 4, ground := Ground.phase }, { on := 5, ground := Ground.phase }, { on := 6, ground := Ground.phase }, { on := 7, ground := Ground.phase }, { on := 8, ground := Ground.phase }, { on := 9, ground := Ground.phase }, { on := 10, ground := Ground.phase }, { on := 11, ground := Ground.phase }, { on := 12, ground := Ground.phase }, { on := 13, ground := Ground.phase }, { on := 14, ground := Ground.phase }, { on := 15, ground := Ground.phase }, { on := 16, ground := Ground.phase }, { on := 17, ground := Ground.phase }, { on := 18, ground := Ground.phase }, { on := 19, ground := Ground.phase }, { on := 20, ground := Ground.phase }, { on := 21, ground := Ground.phase }, { on := 22, ground := Ground.phase }, { on := 23, ground := Ground.phase }, { on := 24, ground := Ground.phase }, { on := 25, ground := Ground.phase }], guard := none }) (v := ?_) rfl (by kernel_rfl) (by kernel_rfl) (by kernel_rfl) (fun _ _ _ h => h) (Or.inl ⟨by rfl, ?_⟩) (by assumption) ?_
    rotate_left
    · ((intro w hSw); (try dsimp only at hSw); go_simp; (try with_reducible rfl))
    try simp only [Act.put, List.setIfInBounds_toArray, List.set_cons_zero, List.set_cons_succ]
    refine wpAnyH_done (by kernel_rfl) ?_ _
    go_wp2
    go_ret
    exact ⟨rfl, nextB HW14.out HB16.out⟩
set_option maxRecDepth 100000 in
set_option maxHeartbeats 8000000 in
theorem walktf (A B x : Nat) (hA : A ≤ 9999) (h1 : 1 ≤ B) (h2 : B ≤ 9999) (hx : In64 x) (w : World) (hT : TabZ w) (hP : TabP w) (hf : (ofN (quoV A B)).2.2 = 0) (hg : (ofN x).2.2 ≠ 0) :
    Calls Tryz.prog 4 #[.int .i64 (A : Int), .int .i64 (B : Int), .float .f64 x] w fun e w' => e = .returned (.bool true) ∧ Below w.heap.size w w' := by
  have HF := Lib.hid firstC
  have HD1 := Lib.hid (fun w => Dc.decB A (by omega) w)
  have HD2 := Lib.hid (fun w => Dc.decB B (by omega) w)
  have l1 := dec_len hA
  have l2 := dec_len h2
  have zA : ((bs (Lib.decDigits A)).size : Int) ≤ 4 := by rw [bs_size]; omega
  have zB : ((bs (Lib.decDigits B)).size : Int) ≤ 4 := by rw [bs_size]; omega
  have hS : (⟨#[115, 112, 101, 101, 100, 32]⟩ : ByteArray) ++ bs (Lib.decDigits A) ++ ⟨#[47]⟩ ++ bs (Lib.decDigits B) = bs (sp A B) := by
    show bs [115, 112, 101, 101, 100, 32] ++ bs (Lib.decDigits A) ++ bs [47] ++ bs (Lib.decDigits B) = _
    rw [bs_app, bs_app, bs_app]
    simp [sp, fr]
  have HPa := Lib.hid (fun w h => parseG A B hA h1 h2 w h)
  have HQ := Lib.hid (fun w => quo_run A B h1 h2 w)
  have hQ := quo_in A B h1 h2
  have HB := Lib.hid (fun w => bitsC (quoV A B) w hQ)
  have HO1 := Lib.hid (fun w h => ofC (quoV A B) w hQ h)
  have HO2 := Lib.hid (fun w h => ofC x w hx h)
  have HX1 := Lib.hid (fun W p q (h : Dl W p q d0) (hT : TabZ W) => doC 5 0 (quoV A B) 0 0 0 hQ (by decide) h d0_ok hT)
  have hk1 : Dkk (doD d0 5 0 (quoV A B) 0 0 0) := doD_dkk d0_ok _ _ _ _ _ _
  have HX2 := Lib.hid (fun W p q (h : Dl W p q (doD d0 5 0 (quoV A B) 0 0 0)) (hT : TabZ W) => doC 5 0 x 0 0 0 hx (by decide) h hk1 hT)
  have HZ := Lib.hid (fun w2 (hb : Below w.heap.size w w2) => hT.then_ hb)
  have HY := Lib.hid (fun w2 (hb : Below w.heap.size w w2) => tabP_then hb hP)
  unfold OfP at HO1 HO2
  rw [doE5] at HX1 HX2
  obtain ⟨n1, n2⟩ := doD5_ok d0 hf
  rw [hf] at HX1 HO1
  obtain ⟨m1, m2⟩ := doD5_nod (doD d0 5 0 (quoV A B) 0 0 0) hg
  generalize doD (doD d0 5 0 (quoV A B) 0 0 0) 5 0 x 0 0 0 = d2 at *
  generalize doD d0 5 0 (quoV A B) 0 0 0 = d1 at *
  have g1 : ((ofN x).2.2 == 0) = false := by simpa using hg
  have g2 : ((ofN x).2.2 != 0) = true := by simpa using hg
  generalize (ofN x).2.2 = G at *
  generalize (ofN (quoV A B)).1 = r1 at *
  generalize (ofN (quoV A B)).2.1 = r2 at *
  generalize (ofN x).1 = t1 at *
  generalize (ofN x).2.1 = t2 at *
  generalize bs (sp A B) = SS at *
  generalize bs (Lib.decDigits A) = SA at *
  generalize bs (Lib.decDigits B) = SB at *
  generalize quoV A B = Q at *
  have b1 : decide ((A : Int) < 0) = false := by simp
  have b2 : decide ((9999 : Int) < (A : Int)) = false := decide_eq_false (by omega)
  have b3 : decide ((B : Int) < 1) = false := decide_eq_false (by omega)
  have b4 : decide ((9999 : Int) < (B : Int)) = false := decide_eq_false (by omega)
  have z1 : IntKind.u64.wrap (A : Int) = (A : Int) := by rw [IntKind.wrap_u64]; omega
  have z2 : IntKind.u64.wrap (B : Int) = (B : Int) := by rw [IntKind.wrap_u64]; omega
  have hsf := stF
  clear hT hP hA h1 h2 l1 l2 hx hQ hk1 hf hg
  go_enter Tryz.func4, Tryz.ntmps4
  go_wp2_with fail
  refine (HF.out _).mono ?_
  rintro e w1 ⟨rfl, hb1⟩
  have HW1 := Lib.hid hb1
  clear hb1
  go_wp2_with fail
  refine (HD1.out _).mono ?_
  rintro e w2 ⟨rfl, hb2⟩
  have HW2 := Lib.hid (nextB HW1.out hb2)
  clear hb2
  go_wp2_with fail
  refine (HD2.out _).mono ?_
  rintro e w3 ⟨rfl, hb3⟩
  have HW3 := Lib.hid (nextB HW2.out hb3)
  clear hb3
  go_wp2_with fail
  clear zA zB hS
  refine (HPa.out _ (HY.out _ HW3.out)).mono ?_
  rintro e w4 ⟨rfl, hb4⟩
  have HW4 := Lib.hid (nextB HW3.out hb4)
  clear hb4
  go_wp2_with fail
  have hC := heap_alloc_new w4 (.cells #[.int .i64 5, .int .u64 0, .float .f64 Q] 33)
  have HW5 := Lib.hid (nextB HW4.out ((Below.refl w4.heap.size w4).alloc (Nat.le_refl _) (.cells #[.int .i64 5, .int .u64 0, .float .f64 Q] 33)))
  have k5 : w4.heap.size < (w4.alloc (.cells #[.int .i64 5, .int .u64 0, .float .f64 Q] 33)).heap.size := by simp
  generalize hw5 : w4.alloc (.cells #[.int .i64 5, .int .u64 0, .float .f64 Q] 33) = w5 at *
  generalize hc : w4.heap.size = C at *
  refine (newD w5).mono ?_
  rintro e w6 ⟨p, q, hp, hq, rfl, hD6, hb6⟩
  have hC6 := (hb6.block C k5).trans hC
  have HW6 := Lib.hid (nextB HW5.out hb6)
  have k6 := hb6.size
  have y0 := HW5.out.size
  have y1 : w.heap.size ≤ p := by omega
  have y2 : w.heap.size ≤ q := by omega
  have n3 : C ≠ p := by omega
  have n4 : C ≠ q := by omega
  clear hC hw5 hb6 hp hq y0
  have c0 : w6.cell? ⟨C, 0, none⟩ = some (.int .i64 5) := by simp [World.cell?, hC6]
  have c1 : w6.cell? ⟨C, 1, none⟩ = some (.int .u64 0) := by simp [World.cell?, hC6]
  have c2 : w6.cell? ⟨C, 2, none⟩ = some (.float .f64 Q) := by simp [World.cell?, hC6]
  have q4 := HQ.out w6
  have HC6 := Lib.hid hC6
  have HD6 := Lib.hid hD6
  clear hC6 hD6
  go_wp2_with (first
    | (go_at_call 18; refine (HB.out _).mono ?_; rintro e v ⟨rfl, rfl⟩))
  refine (HO1.out _ (HZ.out _ HW6.out)).mono ?_
  rintro e w7 ⟨rfl, hb7⟩
  clear c0 c1 c2 q4
  have hC7 := (hb7.block C (lt_of_block HC6.out)).trans HC6.out
  have HC7 := Lib.hid hC7
  have hD7 := HD6.out.then_ hb7
  have HW7 := Lib.hid (nextB HW6.out hb7)
  have hal := (Below.refl w7.heap.size w7).alloc (Nat.le_refl _) (.cells #[.int .u64 (r1 : Int), .int .u64 (r2 : Int)] 51)
  have HS8 := Lib.hid (heap_alloc_new w7 (.cells #[.int .u64 (r1 : Int), .int .u64 (r2 : Int)] 51))
  have HC8 := Lib.hid ((hal.block C (lt_of_block hC7)).trans hC7)
  have HD8 := Lib.hid (hD7.then_ hal)
  have HW8 := Lib.hid (nextB HW7.out hal)
  have s1 : w7.heap.size ≠ p := by have := hD7.lt; omega
  have s2 : w7.heap.size ≠ q := by have := hD7.2.lt; omega
  clear hb7 hC7 hD7 hal
  have c0 : (w7.alloc (.cells #[.int .u64 (r1 : Int), .int .u64 (r2 : Int)] 51)).cell? ⟨C, 0, none⟩ = some (.int .i64 5) := by simp [World.cell?, HC8.out]
  have c1 : (w7.alloc (.cells #[.int .u64 (r1 : Int), .int .u64 (r2 : Int)] 51)).cell? ⟨C, 1, none⟩ = some (.int .u64 0) := by simp [World.cell?, HC8.out]
  have c2 : (w7.alloc (.cells #[.int .u64 (r1 : Int), .int .u64 (r2 : Int)] 51)).cell? ⟨C, 2, none⟩ = some (.float .f64 Q) := by simp [World.cell?, HC8.out]
  generalize hw8 : w7.alloc (.cells #[.int .u64 (r1 : Int), .int .u64 (r2 : Int)] 51) = w8 at *
  generalize hsb : w7.heap.size = Sb at *
  go_wp2_with fail
  refine (HX1.out _ _ _ HD8.out (HZ.out _ HW8.out)).mono ?_
  rintro e w9 ⟨rfl, hD9, hf9⟩
  have HS9 := Lib.hid ((hf9.block Sb (lt_of_block HS8.out) s1 s2).trans HS8.out)
  have HW9 := Lib.hid (hf9.below HW8.out y1 y2)
  clear c0 c1 c2 hw8 hf9
  have HR1 : Hid (Calls Tryz.prog 20 #[.pointer (some ⟨p, 0, none⟩)] w9 fun e w' => e = .returned (.agg #[.int .u64 (r1 : Int), .int .u64 (r2 : Int)]) ∧ Below w9.heap.size w9 w') := Lib.hid (by
    have h := rateC hD9
    rw [n1, n2] at h
    exact h)
  have HD9 := Lib.hid hD9
  clear hD9
  go_wp2_with fail
  refine HR1.out.mono ?_
  rintro e w10 ⟨rfl, hb10⟩
  have hS10 := (hb10.block Sb (lt_of_block HS9.out)).trans HS9.out
  have hD10 := HD9.out.then_ hb10
  have HW10 := Lib.hid (nextB HW9.out hb10)
  have hal := (Below.refl w10.heap.size w10).alloc (Nat.le_refl _) (.cells #[.int .u64 (r1 : Int), .int .u64 (r2 : Int)] 51)
  have HV11 := Lib.hid (heap_alloc_new w10 (.cells #[.int .u64 (r1 : Int), .int .u64 (r2 : Int)] 51))
  have hS11 := (hal.block Sb (lt_of_block hS10)).trans hS10
  have HD11 := Lib.hid (hD10.then_ hal)
  have HW11 := Lib.hid (nextB HW10.out hal)
  have v1 : w10.heap.size ≠ p := by have := hD10.lt; omega
  have v2 : w10.heap.size ≠ q := by have := hD10.2.lt; omega
  clear hb10 hS10 hD10 hal
  generalize hw11 : w10.alloc (.cells #[.int .u64 (r1 : Int), .int .u64 (r2 : Int)] 51) = w11 at *
  generalize hvb : w10.heap.size = Vb at *
  have a0 : w11.cell? ⟨Sb, 0, none⟩ = some (.int .u64 (r1 : Int)) := by simp [World.cell?, hS11]
  have a1 : w11.cell? ⟨Sb, 1, none⟩ = some (.int .u64 (r2 : Int)) := by simp [World.cell?, hS11]
  have a2 : w11.cell? ⟨Vb, 0, none⟩ = some (.int .u64 (r1 : Int)) := by simp [World.cell?, HV11.out]
  have a3 : w11.cell? ⟨Vb, 1, none⟩ = some (.int .u64 (r2 : Int)) := by simp [World.cell?, HV11.out]
  clear hS11
  go_wp2_with fail
  refine (HO2.out _ (HZ.out _ HW11.out)).mono ?_
  rintro e w12 ⟨rfl, hb12⟩
  have hV12 := (hb12.block Vb (lt_of_block HV11.out)).trans HV11.out
  have hD12 := HD11.out.then_ hb12
  have HW12 := Lib.hid (nextB HW11.out hb12)
  have hal := (Below.refl w12.heap.size w12).alloc (Nat.le_refl _) (.cells #[.int .u64 (t1 : Int), .int .u64 (t2 : Int)] 51)
  have HT13 := Lib.hid (heap_alloc_new w12 (.cells #[.int .u64 (t1 : Int), .int .u64 (t2 : Int)] 51))
  have HV13 := Lib.hid ((hal.block Vb (lt_of_block hV12)).trans hV12)
  have HD13 := Lib.hid (hD12.then_ hal)
  have HW13 := Lib.hid (nextB HW12.out hal)
  have u1 : w12.heap.size ≠ p := by have := hD12.lt; omega
  have u2 : w12.heap.size ≠ q := by have := hD12.2.lt; omega
  clear hb12 hV12 hD12 hal a0 a1 a2 a3 hw11
  generalize hw13 : w12.alloc (.cells #[.int .u64 (t1 : Int), .int .u64 (t2 : Int)] 51) = w13 at *
  generalize htb : w12.heap.size = Tb at *
  go_wp2_with fail
  refine (HX2.out _ _ _ HD13.out (HZ.out _ HW13.out)).mono ?_
  rintro e w14 ⟨rfl, hD14, hf14⟩
  have hT14 := (hf14.block Tb (lt_of_block HT13.out) u1 u2).trans HT13.out
  have hV14 := (hf14.block Vb (lt_of_block HV13.out) v1 v2).trans HV13.out
  have HW14 := Lib.hid (hf14.below HW13.out y1 y2)
  clear hf14 hw13
  have HSS : Hid (∀ W, Below w14.heap.size w14 W → (W.cell? ⟨Tb, 0, none⟩ = some (.int .u64 (t1 : Int)) ∧ W.cell? ⟨Tb, 1, none⟩ = some (.int .u64 (t2 : Int)) ∧ W.cell? ⟨Vb, 0, none⟩ = some (.int .u64 (r1 : Int)) ∧ W.cell? ⟨Vb, 1, none⟩ = some (.int .u64 (r2 : Int)))) := Lib.hid (fun W hb => by
    have h1 := (hb.block Tb (lt_of_block hT14)).trans hT14
    have h2 := (hb.block Vb (lt_of_block hV14)).trans hV14
    exact ⟨by simp [World.cell?, h1], by simp [World.cell?, h1], by simp [World.cell?, h2], by simp [World.cell?, h2]⟩)
  have HR : Hid (∀ W, Below w14.heap.size w14 W → Calls Tryz.prog 20 #[.pointer (some ⟨p, 0, none⟩)] W fun e w' => e = .returned (.agg #[.int .u64 (r1 : Int), .int .u64 (r2 : Int)]) ∧ Below W.heap.size W w') := Lib.hid (fun W hb => by
    have h := rateC (hD14.then_ hb)
    rw [m1, m2, n1, n2] at h
    exact h)
  clear hD14 hT14 hV14
  go_wp2_with fail
  refine wp_region_held_drew (S := (fun W => (W.cell? ⟨Tb, 0, none⟩ = some (.int .u64 (t1 : Int)) ∧ W.cell? ⟨Tb, 1, none⟩ = some (.int .u64 (t2 : Int)) ∧ W.cell? ⟨Vb, 0, none⟩ = some (.int .u64 (r1 : Int)) ∧ W.cell? ⟨Vb, 1, none⟩ = some (.int .u64 (r2 : Int))))) (by kernel_rfl) ?_ (fun hHeld => ?_)
  · ((try dsimp only); exact HSS.out _ (Below.refl _ _).drew)
  refine wpAnyH_ready (rs := [0]) (by kernel_rfl) (by simp) ?_
  refine (AllReadyH.cons (o := { dst := some 112, op := Op.call { callee := Callee.value (Operand.func 6), args := #[], argTypes := #[] }, type := 4, pos := _, after := #[], guard := none }) rfl (fun K hK => ?_) AllReadyH.nil)
  go_simp
  (refine (HF.out _).mono ?_; rintro e w15 ⟨rfl, hb15⟩; have HB15 := Lib.hid (show Below w14.heap.size w14 w15 from below_then (Below.refl _ _).drew hb15 (Nat.le_refl _)); clear hb15)
  go_wp2_with fail
  refine hK.out _ _ ?_ (fun hHeld => ?_)
  · ((try dsimp only); exact HSS.out _ HB15.out)
  clear hK K
  try simp only [Act.put, List.setIfInBounds_toArray, List.set_cons_zero, List.set_cons_succ]
  refine wpAnyH_take (i := 1) (oi := { dst := some 113, op := Op.move (Operand.tmp 112), type := 4, pos := _, after := #[{ on := 0, ground := Ground.data }, { on := 0, ground := Ground.chain }], guard := none }) (v := ?_) rfl (by kernel_rfl) (by kernel_rfl) (by kernel_rfl) (fun _ _ _ h => h) (Or.inl ⟨by rfl, ?_⟩) (by assumption) ?_
  rotate_left
  · ((intro w hSw); (try dsimp only at hSw); go_simp; (try with_reducible rfl))
  try simp only [Act.put, List.setIfInBounds_toArray, List.set_cons_zero, List.set_cons_succ]
  refine wpAnyH_take (i := 2) (oi := { dst := some 114, op := Op.move (Operand.tmp 16), type := 29, pos := _, after := #[{ on := 1, ground := Ground.guard }], guard := some (1, true) }) (v := ?_) rfl (by kernel_rfl) (by kernel_rfl) (by kernel_rfl) (fun _ _ _ h => h) (Or.inl ⟨by rfl, ?_⟩) (by assumption) ?_
  rotate_left
  · ((intro w hSw); (try dsimp only at hSw); go_simp; (try with_reducible rfl))
  try simp only [Act.put, List.setIfInBounds_toArray, List.set_cons_zero, List.set_cons_succ]
  refine wpAnyH_take (i := 3) (oi := { dst := some 115, op := Op.move (Operand.tmp 15), type := 29, pos := _, after := #[{ on := 1, ground := Ground.guard }], guard := some (1, true) }) (v := ?_) rfl (by kernel_rfl) (by kernel_rfl) (by kernel_rfl) (fun _ _ _ h => h) (Or.inl ⟨by rfl, ?_⟩) (by assumption) ?_
  rotate_left
  · ((intro w hSw); (try dsimp only at hSw); go_simp; (try with_reducible rfl))
  try simp only [Act.put, List.setIfInBounds_toArray, List.set_cons_zero, List.set_cons_succ]
  refine wpAnyH_take (i := 4) (oi := { dst := some 116, op := Op.binOp BinOp.eql 29 (Operand.tmp 114) (Operand.tmp 115) 29, type := 4, pos := _, after := #[{ on := 2, ground := Ground.data }, { on := 3, ground := Ground.data }, { on := 1, ground := Ground.guard }], guard := some (1, true) }) (v := ?_) rfl (by kernel_rfl) (by kernel_rfl) (by kernel_rfl) (fun _ _ _ h => h) (Or.inl ⟨by rfl, ?_⟩) (by assumption) ?_
  rotate_left
  · ((intro w hSw); (try dsimp only at hSw); go_simp; (try with_reducible rfl))
  try simp only [Act.put, List.setIfInBounds_toArray, List.set_cons_zero, List.set_cons_succ]
  refine wpAnyH_take (i := 5) (oi := { dst := some 117, op := Op.pick (Operand.tmp 113) (Operand.tmp 116) (Operand.const (Value.bool false)), type := 4, pos := _, after := #[{ on := 1, ground := Ground.data }, { on := 4, ground := Ground.data }], guard := none }) (v := ?_) rfl (by kernel_rfl) (by kernel_rfl) (by kernel_rfl) (fun _ _ _ h => h) (Or.inl ⟨by rfl, ?_⟩) (by assumption) ?_
  rotate_left
  · ((intro w hSw); (try dsimp only at hSw); go_simp; (try with_reducible rfl))
  try simp only [Act.put, List.setIfInBounds_toArray, List.set_cons_zero, List.set_cons_succ]
  refine wpAnyH_take (i := 6) (oi := { dst := some 118, op := Op.move (Operand.tmp 117), type := 4, pos := _, after := #[{ on := 5, ground := Ground.data }, { on := 1, ground := Ground.chain }], guard := none }) (v := ?_) rfl (by kernel_rfl) (by kernel_rfl) (by kernel_rfl) (fun _ _ _ h => h) (Or.inl ⟨by rfl, ?_⟩) (by assumption) ?_
  rotate_left
  · ((intro w hSw); (try dsimp only at hSw); go_simp; (try with_reducible rfl))
  try simp only [Act.put, List.setIfInBounds_toArray, List.set_cons_zero, List.set_cons_succ]
  refine wpAnyH_take (i := 7) (oi := { dst := some 119, op := Op.move (Operand.tmp 15), type := 29, pos := _, after := #[{ on := 6, ground := Ground.guard }], guard := some (6, true) }) (v := ?_) rfl (by kernel_rfl) (by kernel_rfl) (by kernel_rfl) (fun _ _ _ h => h) (Or.inl ⟨by rfl, ?_⟩) (by assumption) ?_
  rotate_left
  · ((intro w hSw); (try dsimp only at hSw); go_simp; (try with_reducible rfl))
  try simp only [Act.put, List.setIfInBounds_toArray, List.set_cons_zero, List.set_cons_succ]
  refine wpAnyH_take (i := 8) (oi := { dst := some 120, op := Op.binOp BinOp.eql 29 (Operand.tmp 119) (Operand.const (Value.int IntKind.i64 0)) 29, type := 4, pos := _, after := #[{ on := 7, ground := Ground.data }, { on := 6, ground := Ground.guard }], guard := some (6, true) }) (v := ?_) rfl (by kernel_rfl) (by kernel_rfl) (by kernel_rfl) (fun _ _ _ h => h) (Or.inl ⟨by rfl, ?_⟩) (by assumption) ?_
  rotate_left
  · ((intro w hSw); (try dsimp only at hSw); go_simp; (try with_reducible rfl))
  try simp only [Act.put, List.setIfInBounds_toArray, List.set_cons_zero, List.set_cons_succ]
  refine wpAnyH_take (i := 9) (oi := { dst := some 121, op := Op.move (Operand.tmp 120), type := 4, pos := _, after := #[{ on := 8, ground := Ground.data }, { on := 6, ground := Ground.chain }, { on := 6, ground := Ground.guard }], guard := some (6, true) }) (v := ?_) rfl (by kernel_rfl) (by kernel_rfl) (by kernel_rfl) (fun _ _ _ h => h) (Or.inl ⟨by rfl, ?_⟩) (by assumption) ?_
  rotate_left
  · ((intro w hSw); (try dsimp only at hSw); go_simp; (try with_reducible rfl))
  try simp only [Act.put, List.setIfInBounds_toArray, List.set_cons_zero, List.set_cons_succ]
  refine wpAnyH_take (i := 10) (oi := { dst := some 122, op := Op.move (Operand.tmp 9), type := 25, pos := _, after := #[{ on := 9, ground := Ground.guard }], guard := some (9, true) }) (v := undef) rfl (by kernel_rfl) (by kernel_rfl) (by kernel_rfl) (fun _ _ _ h => h) (Or.inr ⟨by rfl, rfl⟩) (by assumption) ?_
  try simp only [Act.put, List.setIfInBounds_toArray, List.set_cons_zero, List.set_cons_succ]
  refine wpAnyH_take (i := 11) (oi := { dst := some 123, op := Op.call { callee := Callee.value (Operand.func 20), args := #[Operand.tmp 122], argTypes := #[25] }, type := 51, pos := _, after := #[{ on := 10, ground := Ground.data }, { on := 9, ground := Ground.chain }, { on := 9, ground := Ground.guard }], guard := some (9, true) }) (v := undef) rfl (by kernel_rfl) (by kernel_rfl) (by kernel_rfl) (fun _ _ _ h => h) (Or.inr ⟨by rfl, rfl⟩) (by assumption) ?_
  try simp only [Act.put, List.setIfInBounds_toArray, List.set_cons_zero, List.set_cons_succ]
  refine wpAnyH_take (i := 12) (oi := { dst := some 124, op := Op.load 51 (Operand.tmp 14), type := 51, pos := _, after := #[{ on := 9, ground := Ground.guard }], guard := some (9, true) }) (v := undef) rfl (by kernel_rfl) (by kernel_rfl) (by kernel_rfl) (fun _ _ _ h => h) (Or.inr ⟨by rfl, rfl⟩) (by assumption) ?_
  try simp only [Act.put, List.setIfInBounds_toArray, List.set_cons_zero, List.set_cons_succ]
  refine wpAnyH_take (i := 13) (oi := { dst := some 125, op := Op.binOp BinOp.eql 51 (Operand.tmp 123) (Operand.tmp 124) 51, type := 4, pos := _, after := #[{ on := 11, ground := Ground.data }, { on := 12, ground := Ground.data }, { on := 9, ground := Ground.guard }], guard := some (9, true) }) (v := undef) rfl (by kernel_rfl) (by kernel_rfl) (by kernel_rfl) (fun _ _ _ h => h) (Or.inr ⟨by rfl, rfl⟩) (by assumption) ?_
  try simp only [Act.put, List.setIfInBounds_toArray, List.set_cons_zero, List.set_cons_succ]
  refine wpAnyH_take (i := 14) (oi := { dst := some 126, op := Op.pick (Operand.tmp 121) (Operand.tmp 125) (Operand.const (Value.bool false)), type := 4, pos := _, after := #[{ on := 9, ground := Ground.data }, { on := 13, ground := Ground.data }, { on := 6, ground := Ground.guard }], guard := some (6, true) }) (v := ?_) rfl (by kernel_rfl) (by kernel_rfl) (by kernel_rfl) (fun _ _ _ h => h) (Or.inl ⟨by rfl, ?_⟩) (by assumption) ?_
  rotate_left
  · ((intro w hSw); (try dsimp only at hSw); go_simp; (try with_reducible rfl))
  try simp only [Act.put, List.setIfInBounds_toArray, List.set_cons_zero, List.set_cons_succ]
  refine wpAnyH_take (i := 15) (oi := { dst := some 127, op := Op.move (Operand.tmp 126), type := 4, pos := _, after := #[{ on := 14, ground := Ground.data }, { on := 11, ground := Ground.chain }, { on := 6, ground := Ground.guard }], guard := some (6, true) }) (v := ?_) rfl (by kernel_rfl) (by kernel_rfl) (by kernel_rfl) (fun _ _ _ h => h) (Or.inl ⟨by rfl, ?_⟩) (by assumption) ?_
  rotate_left
  · ((intro w hSw); (try dsimp only at hSw); go_simp; (try with_reducible rfl))
  try simp only [Act.put, List.setIfInBounds_toArray, List.set_cons_zero, List.set_cons_succ]
  refine wpAnyH_take (i := 16) (oi := { dst := some 128, op := Op.move (Operand.tmp 15), type := 29, pos := _, after := #[{ on := 15, ground := Ground.guard }], guard := some (15, false) }) (v := ?_) rfl (by kernel_rfl) (by kernel_rfl) (by kernel_rfl) (fun _ _ _ h => h) (Or.inl ⟨by rfl, ?_⟩) (by assumption) ?_
  rotate_left
  · ((intro w hSw); (try dsimp only at hSw); go_simp; (try with_reducible rfl))
  try simp only [Act.put, List.setIfInBounds_toArray, List.set_cons_zero, List.set_cons_succ]
  refine wpAnyH_take (i := 17) (oi := { dst := some 129, op := Op.binOp BinOp.neq 29 (Operand.tmp 128) (Operand.const (Value.int IntKind.i64 0)) 29, type := 4, pos := _, after := #[{ on := 16, ground := Ground.data }, { on := 15, ground := Ground.guard }], guard := some (15, false) }) (v := ?_) rfl (by kernel_rfl) (by kernel_rfl) (by kernel_rfl) (fun _ _ _ h => h) (Or.inl ⟨by rfl, ?_⟩) (by assumption) ?_
  rotate_left
  · ((intro w hSw); (try dsimp only at hSw); go_simp; (try with_reducible rfl))
  try simp only [Act.put, List.setIfInBounds_toArray, List.set_cons_zero, List.set_cons_succ]
  refine wpAnyH_take (i := 18) (oi := { dst := some 130, op := Op.move (Operand.tmp 129), type := 4, pos := _, after := #[{ on := 17, ground := Ground.data }, { on := 15, ground := Ground.chain }, { on := 15, ground := Ground.guard }], guard := some (15, false) }) (v := ?_) rfl (by kernel_rfl) (by kernel_rfl) (by kernel_rfl) (fun _ _ _ h => h) (Or.inl ⟨by rfl, ?_⟩) (by assumption) ?_
  rotate_left
  · ((intro w hSw); (try dsimp only at hSw); go_simp; (try with_reducible rfl))
  try simp only [Act.put, List.setIfInBounds_toArray, List.set_cons_zero, List.set_cons_succ]
  refine wpAnyH_take (i := 19) (oi := { dst := some 131, op := Op.move (Operand.tmp 9), type := 25, pos := _, after := #[{ on := 18, ground := Ground.guard }], guard := some (18, true) }) (v := ?_) rfl (by kernel_rfl) (by kernel_rfl) (by kernel_rfl) (fun _ _ _ h => h) (Or.inl ⟨by rfl, ?_⟩) (by assumption) ?_
  rotate_left
  · ((intro w hSw); (try dsimp only at hSw); go_simp; (try with_reducible rfl))
  try simp only [Act.put, List.setIfInBounds_toArray, List.set_cons_zero, List.set_cons_succ]
  refine wpAnyH_ready (rs := [20, 21]) (by kernel_rfl) (by simp) ?_
  refine (AllReadyH.cons (o := { dst := some 132, op := Op.call { callee := Callee.value (Operand.func 20), args := #[Operand.tmp 131], argTypes := #[25] }, type := 51, pos := _, after := #[{ on := 19, ground := Ground.data }, { on := 18, ground := Ground.chain }, { on := 18, ground := Ground.guard }], guard := some (18, true) }) rfl (fun K hK => ?_) (AllReadyH.cons (o := { dst := some 133, op := Op.load 51 (Operand.tmp 13), type := 51, pos := _, after := #[{ on := 18, ground := Ground.guard }], guard := some (18, true) }) rfl (fun K hK => ?_) AllReadyH.nil))
  · skip
    go_simp
    (refine (HR.out _ HB15.out).mono ?_; rintro e w16 ⟨rfl, hb16⟩; have HB16 := Lib.hid (nextB HB15.out hb16); clear hb16)
    go_wp2_with fail
    refine hK.out _ _ ?_ (fun hHeld => ?_)
    · ((try dsimp only); exact HSS.out _ HB16.out)
    clear hK K
    try simp only [Act.put, List.setIfInBounds_toArray, List.set_cons_zero, List.set_cons_succ]
    refine wpAnyH_ready (rs := [21]) (by kernel_rfl) (by simp) ?_
    refine (AllReadyH.cons (o := { dst := some 133, op := Op.load 51 (Operand.tmp 13), type := 51, pos := _, after := #[{ on := 18, ground := Ground.guard }], guard := some (18, true) }) rfl (fun K hK => ?_) AllReadyH.nil)
    go_simp
    refine hK.out _ _ ?_ (fun hHeld => ?_)
    · ((try dsimp only); exact HSS.out _ HB16.out)
    clear hK K
    try simp only [Act.put, List.setIfInBounds_toArray, List.set_cons_zero, List.set_cons_succ]
    refine wpAnyH_take (i := 22) (oi := { dst := some 134, op := Op.binOp BinOp.eql 51 (Operand.tmp 132) (Operand.tmp 133) 51, type := 4, pos := _, after := #[{ on := 20, ground := Ground.data }, { on := 21, ground := Ground.data }, { on := 18, ground := Ground.guard }], guard := some (18, true) }) (v := ?_) rfl (by kernel_rfl) (by kernel_rfl) (by kernel_rfl) (fun _ _ _ h => h) (Or.inl ⟨by rfl, ?_⟩) (by assumption) ?_
    rotate_left
    · ((intro w hSw); (try dsimp only at hSw); go_simp; (try with_reducible rfl))
    try simp only [Act.put, List.setIfInBounds_toArray, List.set_cons_zero, List.set_cons_succ]
    refine wpAnyH_take (i := 23) (oi := { dst := some 135, op := Op.pick (Operand.tmp 130) (Operand.tmp 134) (Operand.const (Value.bool false)), type := 4, pos := _, after := #[{ on := 18, ground := Ground.data }, { on := 22, ground := Ground.data }, { on := 15, ground := Ground.guard }], guard := some (15, false) }) (v := ?_) rfl (by kernel_rfl) (by kernel_rfl) (by kernel_rfl) (fun _ _ _ h => h) (Or.inl ⟨by rfl, ?_⟩) (by assumption) ?_
    rotate_left
    · ((intro w hSw); (try dsimp only at hSw); go_simp; (try with_reducible rfl))
    try simp only [Act.put, List.setIfInBounds_toArray, List.set_cons_zero, List.set_cons_succ]
    refine wpAnyH_take (i := 24) (oi := { dst := some 136, op := Op.pick (Operand.tmp 127) (Operand.const (Value.bool true)) (Operand.tmp 135), type := 4, pos := _, after := #[{ on := 15, ground := Ground.data }, { on := 23, ground := Ground.data }, { on := 6, ground := Ground.guard }], guard := some (6, true) }) (v := ?_) rfl (by kernel_rfl) (by kernel_rfl) (by kernel_rfl) (fun _ _ _ h => h) (Or.inl ⟨by rfl, ?_⟩) (by assumption) ?_
    rotate_left
    · ((intro w hSw); (try dsimp only at hSw); go_simp; (try with_reducible rfl))
    try simp only [Act.put, List.setIfInBounds_toArray, List.set_cons_zero, List.set_cons_succ]
    refine wpAnyH_take (i := 25) (oi := { dst := some 137, op := Op.pick (Operand.tmp 118) (Operand.tmp 136) (Operand.const (Value.bool false)), type := 4, pos := _, after := #[{ on := 6, ground := Ground.data }, { on := 24, ground := Ground.data }], guard := none }) (v := ?_) rfl (by kernel_rfl) (by kernel_rfl) (by kernel_rfl) (fun _ _ _ h => h) (Or.inl ⟨by rfl, ?_⟩) (by assumption) ?_
    rotate_left
    · ((intro w hSw); (try dsimp only at hSw); go_simp; (try with_reducible rfl))
    try simp only [Act.put, List.setIfInBounds_toArray, List.set_cons_zero, List.set_cons_succ]
    refine wpAnyH_take (i := 26) (oi := { dst := some 6, op := Op.assign (Operand.tmp 137), type := 4, pos := _, after := #[{ on := 25, ground := Ground.data }, { on := 20, ground := Ground.chain }, { on := 0, ground := Ground.phase }, { on := 1, ground := Ground.phase }, { on := 2, ground := Ground.phase }, { on := 3, ground := Ground.phase }, { on := 4, ground := Ground.phase }, { on := 5, ground := Ground.phase }, { on := 6, ground := Ground.phase }, { on := 7, ground := Ground.phase }, { on := 8, ground := Ground.phase }, { on := 9, ground := Ground.phase }, { on := 10, ground := Ground.phase }, { on := 11, ground := Ground.phase }, { on := 12, ground := Ground.phase }, { on := 13, ground := Ground.phase }, { on := 14, ground := Ground.phase }, { on := 15, ground := Ground.phase }, { on := 16, ground := Ground.phase }, { on := 17, ground := Ground.phase }, { on := 18, ground := Ground.phase }, { on := 19, ground := Ground.phase }, { on := 20, ground := Ground.phase }, { on := 21, ground := Ground.phase }, { on := 22, ground := Ground.phase }, { on := 23, ground := Ground.phase }, { on := 24, ground := Ground.phase }, { on := 25, ground := Ground.phase }], guard := none }) (v := ?_) rfl (by kernel_rfl) (by kernel_rfl) (by kernel_rfl) (fun _ _ _ h => h) (Or.inl ⟨by rfl, ?_⟩) (by assumption) ?_
    rotate_left
    · ((intro w hSw); (try dsimp only at hSw); go_simp; (try with_reducible rfl))
    try simp only [Act.put, List.setIfInBounds_toArray, List.set_cons_zero, List.set_cons_succ]
    refine wpAnyH_done (by kernel_rfl) ?_ _
    go_wp2
    go_ret
    exact ⟨rfl, nextB HW14.out HB16.out⟩
  · skip
    go_simp
    refine hK.out _ _ ?_ (fun hHeld => ?_)
    · ((try dsimp only); exact HSS.out _ HB15.out)
    clear hK K
    try simp only [Act.put, List.setIfInBounds_toArray, List.set_cons_zero, List.set_cons_succ]
    refine wpAnyH_ready (rs := [20]) (by kernel_rfl) (by simp) ?_
    refine (AllReadyH.cons (o := { dst := some 132, op := Op.call { callee := Callee.value (Operand.func 20), args := #[Operand.tmp 131], argTypes := #[25] }, type := 51, pos := _, after := #[{ on := 19, ground := Ground.data }, { on := 18, ground := Ground.chain }, { on := 18, ground := Ground.guard }], guard := some (18, true) }) rfl (fun K hK => ?_) AllReadyH.nil)
    go_simp
    (refine (HR.out _ HB15.out).mono ?_; rintro e w16 ⟨rfl, hb16⟩; have HB16 := Lib.hid (nextB HB15.out hb16); clear hb16)
    go_wp2_with fail
    refine hK.out _ _ ?_ (fun hHeld => ?_)
    · ((try dsimp only); exact HSS.out _ HB16.out)
    clear hK K
    try simp only [Act.put, List.setIfInBounds_toArray, List.set_cons_zero, List.set_cons_succ]
    refine wpAnyH_take (i := 22) (oi := { dst := some 134, op := Op.binOp BinOp.eql 51 (Operand.tmp 132) (Operand.tmp 133) 51, type := 4, pos := _, after := #[{ on := 20, ground := Ground.data }, { on := 21, ground := Ground.data }, { on := 18, ground := Ground.guard }], guard := some (18, true) }) (v := ?_) rfl (by kernel_rfl) (by kernel_rfl) (by kernel_rfl) (fun _ _ _ h => h) (Or.inl ⟨by rfl, ?_⟩) (by assumption) ?_
    rotate_left
    · ((intro w hSw); (try dsimp only at hSw); go_simp; (try with_reducible rfl))
    try simp only [Act.put, List.setIfInBounds_toArray, List.set_cons_zero, List.set_cons_succ]
    refine wpAnyH_take (i := 23) (oi := { dst := some 135, op := Op.pick (Operand.tmp 130) (Operand.tmp 134) (Operand.const (Value.bool false)), type := 4, pos := _, after := #[{ on := 18, ground := Ground.data }, { on := 22, ground := Ground.data }, { on := 15, ground := Ground.guard }], guard := some (15, false) }) (v := ?_) rfl (by kernel_rfl) (by kernel_rfl) (by kernel_rfl) (fun _ _ _ h => h) (Or.inl ⟨by rfl, ?_⟩) (by assumption) ?_
    rotate_left
    · ((intro w hSw); (try dsimp only at hSw); go_simp; (try with_reducible rfl))
    try simp only [Act.put, List.setIfInBounds_toArray, List.set_cons_zero, List.set_cons_succ]
    refine wpAnyH_take (i := 24) (oi := { dst := some 136, op := Op.pick (Operand.tmp 127) (Operand.const (Value.bool true)) (Operand.tmp 135), type := 4, pos := _, after := #[{ on := 15, ground := Ground.data }, { on := 23, ground := Ground.data }, { on := 6, ground := Ground.guard }], guard := some (6, true) }) (v := ?_) rfl (by kernel_rfl) (by kernel_rfl) (by kernel_rfl) (fun _ _ _ h => h) (Or.inl ⟨by rfl, ?_⟩) (by assumption) ?_
    rotate_left
    · ((intro w hSw); (try dsimp only at hSw); go_simp; (try with_reducible rfl))
    try simp only [Act.put, List.setIfInBounds_toArray, List.set_cons_zero, List.set_cons_succ]
    refine wpAnyH_take (i := 25) (oi := { dst := some 137, op := Op.pick (Operand.tmp 118) (Operand.tmp 136) (Operand.const (Value.bool false)), type := 4, pos := _, after := #[{ on := 6, ground := Ground.data }, { on := 24, ground := Ground.data }], guard := none }) (v := ?_) rfl (by kernel_rfl) (by kernel_rfl) (by kernel_rfl) (fun _ _ _ h => h) (Or.inl ⟨by rfl, ?_⟩) (by assumption) ?_
    rotate_left
    · ((intro w hSw); (try dsimp only at hSw); go_simp; (try with_reducible rfl))
    try simp only [Act.put, List.setIfInBounds_toArray, List.set_cons_zero, List.set_cons_succ]
    refine wpAnyH_take (i := 26) (oi := { dst := some 6, op := Op.assign (Operand.tmp 137), type := 4, pos := _, after := #[{ on := 25, ground := Ground.data }, { on := 20, ground := Ground.chain }, { on := 0, ground := Ground.phase }, { on := 1, ground := Ground.phase }, { on := 2, ground := Ground.phase }, { on := 3, ground := Ground.phase }, { on := 4, ground := Ground.phase }, { on := 5, ground := Ground.phase }, { on := 6, ground := Ground.phase }, { on := 7, ground := Ground.phase }, { on := 8, ground := Ground.phase }, { on := 9, ground := Ground.phase }, { on := 10, ground := Ground.phase }, { on := 11, ground := Ground.phase }, { on := 12, ground := Ground.phase }, { on := 13, ground := Ground.phase }, { on := 14, ground := Ground.phase }, { on := 15, ground := Ground.phase }, { on := 16, ground := Ground.phase }, { on := 17, ground := Ground.phase }, { on := 18, ground := Ground.phase }, { on := 19, ground := Ground.phase }, { on := 20, ground := Ground.phase }, { on := 21, ground := Ground.phase }, { on := 22, ground := Ground.phase }, { on := 23, ground := Ground.phase }, { on := 24, ground := Ground.phase }, { on := 25, ground := Ground.phase }], guard := none }) (v := ?_) rfl (by kernel_rfl) (by kernel_rfl) (by kernel_rfl) (fun _ _ _ h => h) (Or.inl ⟨by rfl, ?_⟩) (by assumption) ?_
    rotate_left
    · ((intro w hSw); (try dsimp only at hSw); go_simp; (try with_reducible rfl))
    try simp only [Act.put, List.setIfInBounds_toArray, List.set_cons_zero, List.set_cons_succ]
    refine wpAnyH_done (by kernel_rfl) ?_ _
    go_wp2
    go_ret
    exact ⟨rfl, nextB HW14.out HB16.out⟩
set_option maxRecDepth 100000 in
set_option maxHeartbeats 8000000 in
theorem walktt (A B x : Nat) (hA : A ≤ 9999) (h1 : 1 ≤ B) (h2 : B ≤ 9999) (hx : In64 x) (w : World) (hT : TabZ w) (hP : TabP w) (hf : (ofN (quoV A B)).2.2 = 0) (hg : (ofN x).2.2 = 0) :
    Calls Tryz.prog 4 #[.int .i64 (A : Int), .int .i64 (B : Int), .float .f64 x] w fun e w' => e = .returned (.bool true) ∧ Below w.heap.size w w' := by
  have HF := Lib.hid firstC
  have HD1 := Lib.hid (fun w => Dc.decB A (by omega) w)
  have HD2 := Lib.hid (fun w => Dc.decB B (by omega) w)
  have l1 := dec_len hA
  have l2 := dec_len h2
  have zA : ((bs (Lib.decDigits A)).size : Int) ≤ 4 := by rw [bs_size]; omega
  have zB : ((bs (Lib.decDigits B)).size : Int) ≤ 4 := by rw [bs_size]; omega
  have hS : (⟨#[115, 112, 101, 101, 100, 32]⟩ : ByteArray) ++ bs (Lib.decDigits A) ++ ⟨#[47]⟩ ++ bs (Lib.decDigits B) = bs (sp A B) := by
    show bs [115, 112, 101, 101, 100, 32] ++ bs (Lib.decDigits A) ++ bs [47] ++ bs (Lib.decDigits B) = _
    rw [bs_app, bs_app, bs_app]
    simp [sp, fr]
  have HPa := Lib.hid (fun w h => parseG A B hA h1 h2 w h)
  have HQ := Lib.hid (fun w => quo_run A B h1 h2 w)
  have hQ := quo_in A B h1 h2
  have HB := Lib.hid (fun w => bitsC (quoV A B) w hQ)
  have HO1 := Lib.hid (fun w h => ofC (quoV A B) w hQ h)
  have HO2 := Lib.hid (fun w h => ofC x w hx h)
  have HX1 := Lib.hid (fun W p q (h : Dl W p q d0) (hT : TabZ W) => doC 5 0 (quoV A B) 0 0 0 hQ (by decide) h d0_ok hT)
  have hk1 : Dkk (doD d0 5 0 (quoV A B) 0 0 0) := doD_dkk d0_ok _ _ _ _ _ _
  have HX2 := Lib.hid (fun W p q (h : Dl W p q (doD d0 5 0 (quoV A B) 0 0 0)) (hT : TabZ W) => doC 5 0 x 0 0 0 hx (by decide) h hk1 hT)
  have HZ := Lib.hid (fun w2 (hb : Below w.heap.size w w2) => hT.then_ hb)
  have HY := Lib.hid (fun w2 (hb : Below w.heap.size w w2) => tabP_then hb hP)
  unfold OfP at HO1 HO2
  rw [doE5] at HX1 HX2
  obtain ⟨n1, n2⟩ := doD5_ok d0 hf
  rw [hf] at HX1 HO1
  obtain ⟨m1, m2⟩ := doD5_ok (doD d0 5 0 (quoV A B) 0 0 0) hg
  rw [hg] at HX2 HO2
  generalize doD (doD d0 5 0 (quoV A B) 0 0 0) 5 0 x 0 0 0 = d2 at *
  generalize doD d0 5 0 (quoV A B) 0 0 0 = d1 at *
  generalize (ofN (quoV A B)).1 = r1 at *
  generalize (ofN (quoV A B)).2.1 = r2 at *
  generalize (ofN x).1 = t1 at *
  generalize (ofN x).2.1 = t2 at *
  generalize bs (sp A B) = SS at *
  generalize bs (Lib.decDigits A) = SA at *
  generalize bs (Lib.decDigits B) = SB at *
  generalize quoV A B = Q at *
  have b1 : decide ((A : Int) < 0) = false := by simp
  have b2 : decide ((9999 : Int) < (A : Int)) = false := decide_eq_false (by omega)
  have b3 : decide ((B : Int) < 1) = false := decide_eq_false (by omega)
  have b4 : decide ((9999 : Int) < (B : Int)) = false := decide_eq_false (by omega)
  have z1 : IntKind.u64.wrap (A : Int) = (A : Int) := by rw [IntKind.wrap_u64]; omega
  have z2 : IntKind.u64.wrap (B : Int) = (B : Int) := by rw [IntKind.wrap_u64]; omega
  have hsf := stF
  clear hT hP hA h1 h2 l1 l2 hx hQ hk1 hf hg
  go_enter Tryz.func4, Tryz.ntmps4
  go_wp2_with fail
  refine (HF.out _).mono ?_
  rintro e w1 ⟨rfl, hb1⟩
  have HW1 := Lib.hid hb1
  clear hb1
  go_wp2_with fail
  refine (HD1.out _).mono ?_
  rintro e w2 ⟨rfl, hb2⟩
  have HW2 := Lib.hid (nextB HW1.out hb2)
  clear hb2
  go_wp2_with fail
  refine (HD2.out _).mono ?_
  rintro e w3 ⟨rfl, hb3⟩
  have HW3 := Lib.hid (nextB HW2.out hb3)
  clear hb3
  go_wp2_with fail
  clear zA zB hS
  refine (HPa.out _ (HY.out _ HW3.out)).mono ?_
  rintro e w4 ⟨rfl, hb4⟩
  have HW4 := Lib.hid (nextB HW3.out hb4)
  clear hb4
  go_wp2_with fail
  have hC := heap_alloc_new w4 (.cells #[.int .i64 5, .int .u64 0, .float .f64 Q] 33)
  have HW5 := Lib.hid (nextB HW4.out ((Below.refl w4.heap.size w4).alloc (Nat.le_refl _) (.cells #[.int .i64 5, .int .u64 0, .float .f64 Q] 33)))
  have k5 : w4.heap.size < (w4.alloc (.cells #[.int .i64 5, .int .u64 0, .float .f64 Q] 33)).heap.size := by simp
  generalize hw5 : w4.alloc (.cells #[.int .i64 5, .int .u64 0, .float .f64 Q] 33) = w5 at *
  generalize hc : w4.heap.size = C at *
  refine (newD w5).mono ?_
  rintro e w6 ⟨p, q, hp, hq, rfl, hD6, hb6⟩
  have hC6 := (hb6.block C k5).trans hC
  have HW6 := Lib.hid (nextB HW5.out hb6)
  have k6 := hb6.size
  have y0 := HW5.out.size
  have y1 : w.heap.size ≤ p := by omega
  have y2 : w.heap.size ≤ q := by omega
  have n3 : C ≠ p := by omega
  have n4 : C ≠ q := by omega
  clear hC hw5 hb6 hp hq y0
  have c0 : w6.cell? ⟨C, 0, none⟩ = some (.int .i64 5) := by simp [World.cell?, hC6]
  have c1 : w6.cell? ⟨C, 1, none⟩ = some (.int .u64 0) := by simp [World.cell?, hC6]
  have c2 : w6.cell? ⟨C, 2, none⟩ = some (.float .f64 Q) := by simp [World.cell?, hC6]
  have q4 := HQ.out w6
  have HC6 := Lib.hid hC6
  have HD6 := Lib.hid hD6
  clear hC6 hD6
  go_wp2_with (first
    | (go_at_call 18; refine (HB.out _).mono ?_; rintro e v ⟨rfl, rfl⟩))
  refine (HO1.out _ (HZ.out _ HW6.out)).mono ?_
  rintro e w7 ⟨rfl, hb7⟩
  clear c0 c1 c2 q4
  have hC7 := (hb7.block C (lt_of_block HC6.out)).trans HC6.out
  have HC7 := Lib.hid hC7
  have hD7 := HD6.out.then_ hb7
  have HW7 := Lib.hid (nextB HW6.out hb7)
  have hal := (Below.refl w7.heap.size w7).alloc (Nat.le_refl _) (.cells #[.int .u64 (r1 : Int), .int .u64 (r2 : Int)] 51)
  have HS8 := Lib.hid (heap_alloc_new w7 (.cells #[.int .u64 (r1 : Int), .int .u64 (r2 : Int)] 51))
  have HC8 := Lib.hid ((hal.block C (lt_of_block hC7)).trans hC7)
  have HD8 := Lib.hid (hD7.then_ hal)
  have HW8 := Lib.hid (nextB HW7.out hal)
  have s1 : w7.heap.size ≠ p := by have := hD7.lt; omega
  have s2 : w7.heap.size ≠ q := by have := hD7.2.lt; omega
  clear hb7 hC7 hD7 hal
  have c0 : (w7.alloc (.cells #[.int .u64 (r1 : Int), .int .u64 (r2 : Int)] 51)).cell? ⟨C, 0, none⟩ = some (.int .i64 5) := by simp [World.cell?, HC8.out]
  have c1 : (w7.alloc (.cells #[.int .u64 (r1 : Int), .int .u64 (r2 : Int)] 51)).cell? ⟨C, 1, none⟩ = some (.int .u64 0) := by simp [World.cell?, HC8.out]
  have c2 : (w7.alloc (.cells #[.int .u64 (r1 : Int), .int .u64 (r2 : Int)] 51)).cell? ⟨C, 2, none⟩ = some (.float .f64 Q) := by simp [World.cell?, HC8.out]
  generalize hw8 : w7.alloc (.cells #[.int .u64 (r1 : Int), .int .u64 (r2 : Int)] 51) = w8 at *
  generalize hsb : w7.heap.size = Sb at *
  go_wp2_with fail
  refine (HX1.out _ _ _ HD8.out (HZ.out _ HW8.out)).mono ?_
  rintro e w9 ⟨rfl, hD9, hf9⟩
  have HS9 := Lib.hid ((hf9.block Sb (lt_of_block HS8.out) s1 s2).trans HS8.out)
  have HW9 := Lib.hid (hf9.below HW8.out y1 y2)
  clear c0 c1 c2 hw8 hf9
  have HR1 : Hid (Calls Tryz.prog 20 #[.pointer (some ⟨p, 0, none⟩)] w9 fun e w' => e = .returned (.agg #[.int .u64 (r1 : Int), .int .u64 (r2 : Int)]) ∧ Below w9.heap.size w9 w') := Lib.hid (by
    have h := rateC hD9
    rw [n1, n2] at h
    exact h)
  have HD9 := Lib.hid hD9
  clear hD9
  go_wp2_with fail
  refine HR1.out.mono ?_
  rintro e w10 ⟨rfl, hb10⟩
  have hS10 := (hb10.block Sb (lt_of_block HS9.out)).trans HS9.out
  have hD10 := HD9.out.then_ hb10
  have HW10 := Lib.hid (nextB HW9.out hb10)
  have hal := (Below.refl w10.heap.size w10).alloc (Nat.le_refl _) (.cells #[.int .u64 (r1 : Int), .int .u64 (r2 : Int)] 51)
  have HV11 := Lib.hid (heap_alloc_new w10 (.cells #[.int .u64 (r1 : Int), .int .u64 (r2 : Int)] 51))
  have hS11 := (hal.block Sb (lt_of_block hS10)).trans hS10
  have HD11 := Lib.hid (hD10.then_ hal)
  have HW11 := Lib.hid (nextB HW10.out hal)
  have v1 : w10.heap.size ≠ p := by have := hD10.lt; omega
  have v2 : w10.heap.size ≠ q := by have := hD10.2.lt; omega
  clear hb10 hS10 hD10 hal
  generalize hw11 : w10.alloc (.cells #[.int .u64 (r1 : Int), .int .u64 (r2 : Int)] 51) = w11 at *
  generalize hvb : w10.heap.size = Vb at *
  have a0 : w11.cell? ⟨Sb, 0, none⟩ = some (.int .u64 (r1 : Int)) := by simp [World.cell?, hS11]
  have a1 : w11.cell? ⟨Sb, 1, none⟩ = some (.int .u64 (r2 : Int)) := by simp [World.cell?, hS11]
  have a2 : w11.cell? ⟨Vb, 0, none⟩ = some (.int .u64 (r1 : Int)) := by simp [World.cell?, HV11.out]
  have a3 : w11.cell? ⟨Vb, 1, none⟩ = some (.int .u64 (r2 : Int)) := by simp [World.cell?, HV11.out]
  clear hS11
  go_wp2_with fail
  refine (HO2.out _ (HZ.out _ HW11.out)).mono ?_
  rintro e w12 ⟨rfl, hb12⟩
  have hV12 := (hb12.block Vb (lt_of_block HV11.out)).trans HV11.out
  have hD12 := HD11.out.then_ hb12
  have HW12 := Lib.hid (nextB HW11.out hb12)
  have hal := (Below.refl w12.heap.size w12).alloc (Nat.le_refl _) (.cells #[.int .u64 (t1 : Int), .int .u64 (t2 : Int)] 51)
  have HT13 := Lib.hid (heap_alloc_new w12 (.cells #[.int .u64 (t1 : Int), .int .u64 (t2 : Int)] 51))
  have HV13 := Lib.hid ((hal.block Vb (lt_of_block hV12)).trans hV12)
  have HD13 := Lib.hid (hD12.then_ hal)
  have HW13 := Lib.hid (nextB HW12.out hal)
  have u1 : w12.heap.size ≠ p := by have := hD12.lt; omega
  have u2 : w12.heap.size ≠ q := by have := hD12.2.lt; omega
  clear hb12 hV12 hD12 hal a0 a1 a2 a3 hw11
  generalize hw13 : w12.alloc (.cells #[.int .u64 (t1 : Int), .int .u64 (t2 : Int)] 51) = w13 at *
  generalize htb : w12.heap.size = Tb at *
  go_wp2_with fail
  refine (HX2.out _ _ _ HD13.out (HZ.out _ HW13.out)).mono ?_
  rintro e w14 ⟨rfl, hD14, hf14⟩
  have hT14 := (hf14.block Tb (lt_of_block HT13.out) u1 u2).trans HT13.out
  have hV14 := (hf14.block Vb (lt_of_block HV13.out) v1 v2).trans HV13.out
  have HW14 := Lib.hid (hf14.below HW13.out y1 y2)
  clear hf14 hw13
  have HSS : Hid (∀ W, Below w14.heap.size w14 W → (W.cell? ⟨Tb, 0, none⟩ = some (.int .u64 (t1 : Int)) ∧ W.cell? ⟨Tb, 1, none⟩ = some (.int .u64 (t2 : Int)) ∧ W.cell? ⟨Vb, 0, none⟩ = some (.int .u64 (r1 : Int)) ∧ W.cell? ⟨Vb, 1, none⟩ = some (.int .u64 (r2 : Int)))) := Lib.hid (fun W hb => by
    have h1 := (hb.block Tb (lt_of_block hT14)).trans hT14
    have h2 := (hb.block Vb (lt_of_block hV14)).trans hV14
    exact ⟨by simp [World.cell?, h1], by simp [World.cell?, h1], by simp [World.cell?, h2], by simp [World.cell?, h2]⟩)
  have HR : Hid (∀ W, Below w14.heap.size w14 W → Calls Tryz.prog 20 #[.pointer (some ⟨p, 0, none⟩)] W fun e w' => e = .returned (.agg #[.int .u64 (t1 : Int), .int .u64 (t2 : Int)]) ∧ Below W.heap.size W w') := Lib.hid (fun W hb => by
    have h := rateC (hD14.then_ hb)
    rw [m1, m2] at h
    exact h)
  clear hD14 hT14 hV14
  go_wp2_with fail
  refine wp_region_held_drew (S := (fun W => (W.cell? ⟨Tb, 0, none⟩ = some (.int .u64 (t1 : Int)) ∧ W.cell? ⟨Tb, 1, none⟩ = some (.int .u64 (t2 : Int)) ∧ W.cell? ⟨Vb, 0, none⟩ = some (.int .u64 (r1 : Int)) ∧ W.cell? ⟨Vb, 1, none⟩ = some (.int .u64 (r2 : Int))))) (by kernel_rfl) ?_ (fun hHeld => ?_)
  · ((try dsimp only); exact HSS.out _ (Below.refl _ _).drew)
  refine wpAnyH_ready (rs := [0]) (by kernel_rfl) (by simp) ?_
  refine (AllReadyH.cons (o := { dst := some 112, op := Op.call { callee := Callee.value (Operand.func 6), args := #[], argTypes := #[] }, type := 4, pos := _, after := #[], guard := none }) rfl (fun K hK => ?_) AllReadyH.nil)
  go_simp
  (refine (HF.out _).mono ?_; rintro e w15 ⟨rfl, hb15⟩; have HB15 := Lib.hid (show Below w14.heap.size w14 w15 from below_then (Below.refl _ _).drew hb15 (Nat.le_refl _)); clear hb15)
  go_wp2_with fail
  refine hK.out _ _ ?_ (fun hHeld => ?_)
  · ((try dsimp only); exact HSS.out _ HB15.out)
  clear hK K
  try simp only [Act.put, List.setIfInBounds_toArray, List.set_cons_zero, List.set_cons_succ]
  refine wpAnyH_take (i := 1) (oi := { dst := some 113, op := Op.move (Operand.tmp 112), type := 4, pos := _, after := #[{ on := 0, ground := Ground.data }, { on := 0, ground := Ground.chain }], guard := none }) (v := ?_) rfl (by kernel_rfl) (by kernel_rfl) (by kernel_rfl) (fun _ _ _ h => h) (Or.inl ⟨by rfl, ?_⟩) (by assumption) ?_
  rotate_left
  · ((intro w hSw); (try dsimp only at hSw); go_simp; (try with_reducible rfl))
  try simp only [Act.put, List.setIfInBounds_toArray, List.set_cons_zero, List.set_cons_succ]
  refine wpAnyH_take (i := 2) (oi := { dst := some 114, op := Op.move (Operand.tmp 16), type := 29, pos := _, after := #[{ on := 1, ground := Ground.guard }], guard := some (1, true) }) (v := ?_) rfl (by kernel_rfl) (by kernel_rfl) (by kernel_rfl) (fun _ _ _ h => h) (Or.inl ⟨by rfl, ?_⟩) (by assumption) ?_
  rotate_left
  · ((intro w hSw); (try dsimp only at hSw); go_simp; (try with_reducible rfl))
  try simp only [Act.put, List.setIfInBounds_toArray, List.set_cons_zero, List.set_cons_succ]
  refine wpAnyH_take (i := 3) (oi := { dst := some 115, op := Op.move (Operand.tmp 15), type := 29, pos := _, after := #[{ on := 1, ground := Ground.guard }], guard := some (1, true) }) (v := ?_) rfl (by kernel_rfl) (by kernel_rfl) (by kernel_rfl) (fun _ _ _ h => h) (Or.inl ⟨by rfl, ?_⟩) (by assumption) ?_
  rotate_left
  · ((intro w hSw); (try dsimp only at hSw); go_simp; (try with_reducible rfl))
  try simp only [Act.put, List.setIfInBounds_toArray, List.set_cons_zero, List.set_cons_succ]
  refine wpAnyH_take (i := 4) (oi := { dst := some 116, op := Op.binOp BinOp.eql 29 (Operand.tmp 114) (Operand.tmp 115) 29, type := 4, pos := _, after := #[{ on := 2, ground := Ground.data }, { on := 3, ground := Ground.data }, { on := 1, ground := Ground.guard }], guard := some (1, true) }) (v := ?_) rfl (by kernel_rfl) (by kernel_rfl) (by kernel_rfl) (fun _ _ _ h => h) (Or.inl ⟨by rfl, ?_⟩) (by assumption) ?_
  rotate_left
  · ((intro w hSw); (try dsimp only at hSw); go_simp; (try with_reducible rfl))
  try simp only [Act.put, List.setIfInBounds_toArray, List.set_cons_zero, List.set_cons_succ]
  refine wpAnyH_take (i := 5) (oi := { dst := some 117, op := Op.pick (Operand.tmp 113) (Operand.tmp 116) (Operand.const (Value.bool false)), type := 4, pos := _, after := #[{ on := 1, ground := Ground.data }, { on := 4, ground := Ground.data }], guard := none }) (v := ?_) rfl (by kernel_rfl) (by kernel_rfl) (by kernel_rfl) (fun _ _ _ h => h) (Or.inl ⟨by rfl, ?_⟩) (by assumption) ?_
  rotate_left
  · ((intro w hSw); (try dsimp only at hSw); go_simp; (try with_reducible rfl))
  try simp only [Act.put, List.setIfInBounds_toArray, List.set_cons_zero, List.set_cons_succ]
  refine wpAnyH_take (i := 6) (oi := { dst := some 118, op := Op.move (Operand.tmp 117), type := 4, pos := _, after := #[{ on := 5, ground := Ground.data }, { on := 1, ground := Ground.chain }], guard := none }) (v := ?_) rfl (by kernel_rfl) (by kernel_rfl) (by kernel_rfl) (fun _ _ _ h => h) (Or.inl ⟨by rfl, ?_⟩) (by assumption) ?_
  rotate_left
  · ((intro w hSw); (try dsimp only at hSw); go_simp; (try with_reducible rfl))
  try simp only [Act.put, List.setIfInBounds_toArray, List.set_cons_zero, List.set_cons_succ]
  refine wpAnyH_take (i := 7) (oi := { dst := some 119, op := Op.move (Operand.tmp 15), type := 29, pos := _, after := #[{ on := 6, ground := Ground.guard }], guard := some (6, true) }) (v := ?_) rfl (by kernel_rfl) (by kernel_rfl) (by kernel_rfl) (fun _ _ _ h => h) (Or.inl ⟨by rfl, ?_⟩) (by assumption) ?_
  rotate_left
  · ((intro w hSw); (try dsimp only at hSw); go_simp; (try with_reducible rfl))
  try simp only [Act.put, List.setIfInBounds_toArray, List.set_cons_zero, List.set_cons_succ]
  refine wpAnyH_take (i := 8) (oi := { dst := some 120, op := Op.binOp BinOp.eql 29 (Operand.tmp 119) (Operand.const (Value.int IntKind.i64 0)) 29, type := 4, pos := _, after := #[{ on := 7, ground := Ground.data }, { on := 6, ground := Ground.guard }], guard := some (6, true) }) (v := ?_) rfl (by kernel_rfl) (by kernel_rfl) (by kernel_rfl) (fun _ _ _ h => h) (Or.inl ⟨by rfl, ?_⟩) (by assumption) ?_
  rotate_left
  · ((intro w hSw); (try dsimp only at hSw); go_simp; (try with_reducible rfl))
  try simp only [Act.put, List.setIfInBounds_toArray, List.set_cons_zero, List.set_cons_succ]
  refine wpAnyH_take (i := 9) (oi := { dst := some 121, op := Op.move (Operand.tmp 120), type := 4, pos := _, after := #[{ on := 8, ground := Ground.data }, { on := 6, ground := Ground.chain }, { on := 6, ground := Ground.guard }], guard := some (6, true) }) (v := ?_) rfl (by kernel_rfl) (by kernel_rfl) (by kernel_rfl) (fun _ _ _ h => h) (Or.inl ⟨by rfl, ?_⟩) (by assumption) ?_
  rotate_left
  · ((intro w hSw); (try dsimp only at hSw); go_simp; (try with_reducible rfl))
  try simp only [Act.put, List.setIfInBounds_toArray, List.set_cons_zero, List.set_cons_succ]
  refine wpAnyH_take (i := 10) (oi := { dst := some 122, op := Op.move (Operand.tmp 9), type := 25, pos := _, after := #[{ on := 9, ground := Ground.guard }], guard := some (9, true) }) (v := ?_) rfl (by kernel_rfl) (by kernel_rfl) (by kernel_rfl) (fun _ _ _ h => h) (Or.inl ⟨by rfl, ?_⟩) (by assumption) ?_
  rotate_left
  · ((intro w hSw); (try dsimp only at hSw); go_simp; (try with_reducible rfl))
  try simp only [Act.put, List.setIfInBounds_toArray, List.set_cons_zero, List.set_cons_succ]
  refine wpAnyH_ready (rs := [11, 12]) (by kernel_rfl) (by simp) ?_
  refine (AllReadyH.cons (o := { dst := some 123, op := Op.call { callee := Callee.value (Operand.func 20), args := #[Operand.tmp 122], argTypes := #[25] }, type := 51, pos := _, after := #[{ on := 10, ground := Ground.data }, { on := 9, ground := Ground.chain }, { on := 9, ground := Ground.guard }], guard := some (9, true) }) rfl (fun K hK => ?_) (AllReadyH.cons (o := { dst := some 124, op := Op.load 51 (Operand.tmp 14), type := 51, pos := _, after := #[{ on := 9, ground := Ground.guard }], guard := some (9, true) }) rfl (fun K hK => ?_) AllReadyH.nil))
  · skip
    go_simp
    (refine (HR.out _ HB15.out).mono ?_; rintro e w16 ⟨rfl, hb16⟩; have HB16 := Lib.hid (nextB HB15.out hb16); clear hb16)
    go_wp2_with fail
    refine hK.out _ _ ?_ (fun hHeld => ?_)
    · ((try dsimp only); exact HSS.out _ HB16.out)
    clear hK K
    try simp only [Act.put, List.setIfInBounds_toArray, List.set_cons_zero, List.set_cons_succ]
    refine wpAnyH_ready (rs := [12]) (by kernel_rfl) (by simp) ?_
    refine (AllReadyH.cons (o := { dst := some 124, op := Op.load 51 (Operand.tmp 14), type := 51, pos := _, after := #[{ on := 9, ground := Ground.guard }], guard := some (9, true) }) rfl (fun K hK => ?_) AllReadyH.nil)
    go_simp
    refine hK.out _ _ ?_ (fun hHeld => ?_)
    · ((try dsimp only); exact HSS.out _ HB16.out)
    clear hK K
    try simp only [Act.put, List.setIfInBounds_toArray, List.set_cons_zero, List.set_cons_succ]
    refine wpAnyH_take (i := 13) (oi := { dst := some 125, op := Op.binOp BinOp.eql 51 (Operand.tmp 123) (Operand.tmp 124) 51, type := 4, pos := _, after := #[{ on := 11, ground := Ground.data }, { on := 12, ground := Ground.data }, { on := 9, ground := Ground.guard }], guard := some (9, true) }) (v := ?_) rfl (by kernel_rfl) (by kernel_rfl) (by kernel_rfl) (fun _ _ _ h => h) (Or.inl ⟨by rfl, ?_⟩) (by assumption) ?_
    rotate_left
    · ((intro w hSw); (try dsimp only at hSw); go_simp; (try with_reducible rfl))
    try simp only [Act.put, List.setIfInBounds_toArray, List.set_cons_zero, List.set_cons_succ]
    refine wpAnyH_take (i := 14) (oi := { dst := some 126, op := Op.pick (Operand.tmp 121) (Operand.tmp 125) (Operand.const (Value.bool false)), type := 4, pos := _, after := #[{ on := 9, ground := Ground.data }, { on := 13, ground := Ground.data }, { on := 6, ground := Ground.guard }], guard := some (6, true) }) (v := ?_) rfl (by kernel_rfl) (by kernel_rfl) (by kernel_rfl) (fun _ _ _ h => h) (Or.inl ⟨by rfl, ?_⟩) (by assumption) ?_
    rotate_left
    · ((intro w hSw); (try dsimp only at hSw); go_simp; (try with_reducible rfl))
    try simp only [Act.put, List.setIfInBounds_toArray, List.set_cons_zero, List.set_cons_succ]
    refine wpAnyH_take (i := 15) (oi := { dst := some 127, op := Op.move (Operand.tmp 126), type := 4, pos := _, after := #[{ on := 14, ground := Ground.data }, { on := 11, ground := Ground.chain }, { on := 6, ground := Ground.guard }], guard := some (6, true) }) (v := ?_) rfl (by kernel_rfl) (by kernel_rfl) (by kernel_rfl) (fun _ _ _ h => h) (Or.inl ⟨by rfl, ?_⟩) (by assumption) ?_
    rotate_left
    · ((intro w hSw); (try dsimp only at hSw); go_simp; (try with_reducible rfl))
    try simp only [Act.put, List.setIfInBounds_toArray, List.set_cons_zero, List.set_cons_succ]
    refine wpAnyH_take (i := 16) (oi := { dst := some 128, op := Op.move (Operand.tmp 15), type := 29, pos := _, after := #[{ on := 15, ground := Ground.guard }], guard := some (15, false) }) (v := undef) rfl (by kernel_rfl) (by kernel_rfl) (by kernel_rfl) (fun _ _ _ h => h) (Or.inr ⟨by rfl, rfl⟩) (by assumption) ?_
    try simp only [Act.put, List.setIfInBounds_toArray, List.set_cons_zero, List.set_cons_succ]
    refine wpAnyH_take (i := 17) (oi := { dst := some 129, op := Op.binOp BinOp.neq 29 (Operand.tmp 128) (Operand.const (Value.int IntKind.i64 0)) 29, type := 4, pos := _, after := #[{ on := 16, ground := Ground.data }, { on := 15, ground := Ground.guard }], guard := some (15, false) }) (v := undef) rfl (by kernel_rfl) (by kernel_rfl) (by kernel_rfl) (fun _ _ _ h => h) (Or.inr ⟨by rfl, rfl⟩) (by assumption) ?_
    try simp only [Act.put, List.setIfInBounds_toArray, List.set_cons_zero, List.set_cons_succ]
    refine wpAnyH_take (i := 18) (oi := { dst := some 130, op := Op.move (Operand.tmp 129), type := 4, pos := _, after := #[{ on := 17, ground := Ground.data }, { on := 15, ground := Ground.chain }, { on := 15, ground := Ground.guard }], guard := some (15, false) }) (v := undef) rfl (by kernel_rfl) (by kernel_rfl) (by kernel_rfl) (fun _ _ _ h => h) (Or.inr ⟨by rfl, rfl⟩) (by assumption) ?_
    try simp only [Act.put, List.setIfInBounds_toArray, List.set_cons_zero, List.set_cons_succ]
    refine wpAnyH_take (i := 19) (oi := { dst := some 131, op := Op.move (Operand.tmp 9), type := 25, pos := _, after := #[{ on := 18, ground := Ground.guard }], guard := some (18, true) }) (v := undef) rfl (by kernel_rfl) (by kernel_rfl) (by kernel_rfl) (fun _ _ _ h => h) (Or.inr ⟨by rfl, rfl⟩) (by assumption) ?_
    try simp only [Act.put, List.setIfInBounds_toArray, List.set_cons_zero, List.set_cons_succ]
    refine wpAnyH_take (i := 20) (oi := { dst := some 132, op := Op.call { callee := Callee.value (Operand.func 20), args := #[Operand.tmp 131], argTypes := #[25] }, type := 51, pos := _, after := #[{ on := 19, ground := Ground.data }, { on := 18, ground := Ground.chain }, { on := 18, ground := Ground.guard }], guard := some (18, true) }) (v := undef) rfl (by kernel_rfl) (by kernel_rfl) (by kernel_rfl) (fun _ _ _ h => h) (Or.inr ⟨by rfl, rfl⟩) (by assumption) ?_
    try simp only [Act.put, List.setIfInBounds_toArray, List.set_cons_zero, List.set_cons_succ]
    refine wpAnyH_take (i := 21) (oi := { dst := some 133, op := Op.load 51 (Operand.tmp 13), type := 51, pos := _, after := #[{ on := 18, ground := Ground.guard }], guard := some (18, true) }) (v := undef) rfl (by kernel_rfl) (by kernel_rfl) (by kernel_rfl) (fun _ _ _ h => h) (Or.inr ⟨by rfl, rfl⟩) (by assumption) ?_
    try simp only [Act.put, List.setIfInBounds_toArray, List.set_cons_zero, List.set_cons_succ]
    refine wpAnyH_take (i := 22) (oi := { dst := some 134, op := Op.binOp BinOp.eql 51 (Operand.tmp 132) (Operand.tmp 133) 51, type := 4, pos := _, after := #[{ on := 20, ground := Ground.data }, { on := 21, ground := Ground.data }, { on := 18, ground := Ground.guard }], guard := some (18, true) }) (v := undef) rfl (by kernel_rfl) (by kernel_rfl) (by kernel_rfl) (fun _ _ _ h => h) (Or.inr ⟨by rfl, rfl⟩) (by assumption) ?_
    try simp only [Act.put, List.setIfInBounds_toArray, List.set_cons_zero, List.set_cons_succ]
    refine wpAnyH_take (i := 23) (oi := { dst := some 135, op := Op.pick (Operand.tmp 130) (Operand.tmp 134) (Operand.const (Value.bool false)), type := 4, pos := _, after := #[{ on := 18, ground := Ground.data }, { on := 22, ground := Ground.data }, { on := 15, ground := Ground.guard }], guard := some (15, false) }) (v := undef) rfl (by kernel_rfl) (by kernel_rfl) (by kernel_rfl) (fun _ _ _ h => h) (Or.inr ⟨by rfl, rfl⟩) (by assumption) ?_
    try simp only [Act.put, List.setIfInBounds_toArray, List.set_cons_zero, List.set_cons_succ]
    refine wpAnyH_take (i := 24) (oi := { dst := some 136, op := Op.pick (Operand.tmp 127) (Operand.const (Value.bool true)) (Operand.tmp 135), type := 4, pos := _, after := #[{ on := 15, ground := Ground.data }, { on := 23, ground := Ground.data }, { on := 6, ground := Ground.guard }], guard := some (6, true) }) (v := ?_) rfl (by kernel_rfl) (by kernel_rfl) (by kernel_rfl) (fun _ _ _ h => h) (Or.inl ⟨by rfl, ?_⟩) (by assumption) ?_
    rotate_left
    · ((intro w hSw); (try dsimp only at hSw); go_simp; (try with_reducible rfl))
    try simp only [Act.put, List.setIfInBounds_toArray, List.set_cons_zero, List.set_cons_succ]
    refine wpAnyH_take (i := 25) (oi := { dst := some 137, op := Op.pick (Operand.tmp 118) (Operand.tmp 136) (Operand.const (Value.bool false)), type := 4, pos := _, after := #[{ on := 6, ground := Ground.data }, { on := 24, ground := Ground.data }], guard := none }) (v := ?_) rfl (by kernel_rfl) (by kernel_rfl) (by kernel_rfl) (fun _ _ _ h => h) (Or.inl ⟨by rfl, ?_⟩) (by assumption) ?_
    rotate_left
    · ((intro w hSw); (try dsimp only at hSw); go_simp; (try with_reducible rfl))
    try simp only [Act.put, List.setIfInBounds_toArray, List.set_cons_zero, List.set_cons_succ]
    refine wpAnyH_take (i := 26) (oi := { dst := some 6, op := Op.assign (Operand.tmp 137), type := 4, pos := _, after := #[{ on := 25, ground := Ground.data }, { on := 20, ground := Ground.chain }, { on := 0, ground := Ground.phase }, { on := 1, ground := Ground.phase }, { on := 2, ground := Ground.phase }, { on := 3, ground := Ground.phase }, { on := 4, ground := Ground.phase }, { on := 5, ground := Ground.phase }, { on := 6, ground := Ground.phase }, { on := 7, ground := Ground.phase }, { on := 8, ground := Ground.phase }, { on := 9, ground := Ground.phase }, { on := 10, ground := Ground.phase }, { on := 11, ground := Ground.phase }, { on := 12, ground := Ground.phase }, { on := 13, ground := Ground.phase }, { on := 14, ground := Ground.phase }, { on := 15, ground := Ground.phase }, { on := 16, ground := Ground.phase }, { on := 17, ground := Ground.phase }, { on := 18, ground := Ground.phase }, { on := 19, ground := Ground.phase }, { on := 20, ground := Ground.phase }, { on := 21, ground := Ground.phase }, { on := 22, ground := Ground.phase }, { on := 23, ground := Ground.phase }, { on := 24, ground := Ground.phase }, { on := 25, ground := Ground.phase }], guard := none }) (v := ?_) rfl (by kernel_rfl) (by kernel_rfl) (by kernel_rfl) (fun _ _ _ h => h) (Or.inl ⟨by rfl, ?_⟩) (by assumption) ?_
    rotate_left
    · ((intro w hSw); (try dsimp only at hSw); go_simp; (try with_reducible rfl))
    try simp only [Act.put, List.setIfInBounds_toArray, List.set_cons_zero, List.set_cons_succ]
    refine wpAnyH_done (by kernel_rfl) ?_ _
    go_wp2
    go_ret
    exact ⟨rfl, nextB HW14.out HB16.out⟩
  · skip
    go_simp
    refine hK.out _ _ ?_ (fun hHeld => ?_)
    · ((try dsimp only); exact HSS.out _ HB15.out)
    clear hK K
    try simp only [Act.put, List.setIfInBounds_toArray, List.set_cons_zero, List.set_cons_succ]
    refine wpAnyH_ready (rs := [11]) (by kernel_rfl) (by simp) ?_
    refine (AllReadyH.cons (o := { dst := some 123, op := Op.call { callee := Callee.value (Operand.func 20), args := #[Operand.tmp 122], argTypes := #[25] }, type := 51, pos := _, after := #[{ on := 10, ground := Ground.data }, { on := 9, ground := Ground.chain }, { on := 9, ground := Ground.guard }], guard := some (9, true) }) rfl (fun K hK => ?_) AllReadyH.nil)
    go_simp
    (refine (HR.out _ HB15.out).mono ?_; rintro e w16 ⟨rfl, hb16⟩; have HB16 := Lib.hid (nextB HB15.out hb16); clear hb16)
    go_wp2_with fail
    refine hK.out _ _ ?_ (fun hHeld => ?_)
    · ((try dsimp only); exact HSS.out _ HB16.out)
    clear hK K
    try simp only [Act.put, List.setIfInBounds_toArray, List.set_cons_zero, List.set_cons_succ]
    refine wpAnyH_take (i := 13) (oi := { dst := some 125, op := Op.binOp BinOp.eql 51 (Operand.tmp 123) (Operand.tmp 124) 51, type := 4, pos := _, after := #[{ on := 11, ground := Ground.data }, { on := 12, ground := Ground.data }, { on := 9, ground := Ground.guard }], guard := some (9, true) }) (v := ?_) rfl (by kernel_rfl) (by kernel_rfl) (by kernel_rfl) (fun _ _ _ h => h) (Or.inl ⟨by rfl, ?_⟩) (by assumption) ?_
    rotate_left
    · ((intro w hSw); (try dsimp only at hSw); go_simp; (try with_reducible rfl))
    try simp only [Act.put, List.setIfInBounds_toArray, List.set_cons_zero, List.set_cons_succ]
    refine wpAnyH_take (i := 14) (oi := { dst := some 126, op := Op.pick (Operand.tmp 121) (Operand.tmp 125) (Operand.const (Value.bool false)), type := 4, pos := _, after := #[{ on := 9, ground := Ground.data }, { on := 13, ground := Ground.data }, { on := 6, ground := Ground.guard }], guard := some (6, true) }) (v := ?_) rfl (by kernel_rfl) (by kernel_rfl) (by kernel_rfl) (fun _ _ _ h => h) (Or.inl ⟨by rfl, ?_⟩) (by assumption) ?_
    rotate_left
    · ((intro w hSw); (try dsimp only at hSw); go_simp; (try with_reducible rfl))
    try simp only [Act.put, List.setIfInBounds_toArray, List.set_cons_zero, List.set_cons_succ]
    refine wpAnyH_take (i := 15) (oi := { dst := some 127, op := Op.move (Operand.tmp 126), type := 4, pos := _, after := #[{ on := 14, ground := Ground.data }, { on := 11, ground := Ground.chain }, { on := 6, ground := Ground.guard }], guard := some (6, true) }) (v := ?_) rfl (by kernel_rfl) (by kernel_rfl) (by kernel_rfl) (fun _ _ _ h => h) (Or.inl ⟨by rfl, ?_⟩) (by assumption) ?_
    rotate_left
    · ((intro w hSw); (try dsimp only at hSw); go_simp; (try with_reducible rfl))
    try simp only [Act.put, List.setIfInBounds_toArray, List.set_cons_zero, List.set_cons_succ]
    refine wpAnyH_take (i := 16) (oi := { dst := some 128, op := Op.move (Operand.tmp 15), type := 29, pos := _, after := #[{ on := 15, ground := Ground.guard }], guard := some (15, false) }) (v := undef) rfl (by kernel_rfl) (by kernel_rfl) (by kernel_rfl) (fun _ _ _ h => h) (Or.inr ⟨by rfl, rfl⟩) (by assumption) ?_
    try simp only [Act.put, List.setIfInBounds_toArray, List.set_cons_zero, List.set_cons_succ]
    refine wpAnyH_take (i := 17) (oi := { dst := some 129, op := Op.binOp BinOp.neq 29 (Operand.tmp 128) (Operand.const (Value.int IntKind.i64 0)) 29, type := 4, pos := _, after := #[{ on := 16, ground := Ground.data }, { on := 15, ground := Ground.guard }], guard := some (15, false) }) (v := undef) rfl (by kernel_rfl) (by kernel_rfl) (by kernel_rfl) (fun _ _ _ h => h) (Or.inr ⟨by rfl, rfl⟩) (by assumption) ?_
    try simp only [Act.put, List.setIfInBounds_toArray, List.set_cons_zero, List.set_cons_succ]
    refine wpAnyH_take (i := 18) (oi := { dst := some 130, op := Op.move (Operand.tmp 129), type := 4, pos := _, after := #[{ on := 17, ground := Ground.data }, { on := 15, ground := Ground.chain }, { on := 15, ground := Ground.guard }], guard := some (15, false) }) (v := undef) rfl (by kernel_rfl) (by kernel_rfl) (by kernel_rfl) (fun _ _ _ h => h) (Or.inr ⟨by rfl, rfl⟩) (by assumption) ?_
    try simp only [Act.put, List.setIfInBounds_toArray, List.set_cons_zero, List.set_cons_succ]
    refine wpAnyH_take (i := 19) (oi := { dst := some 131, op := Op.move (Operand.tmp 9), type := 25, pos := _, after := #[{ on := 18, ground := Ground.guard }], guard := some (18, true) }) (v := undef) rfl (by kernel_rfl) (by kernel_rfl) (by kernel_rfl) (fun _ _ _ h => h) (Or.inr ⟨by rfl, rfl⟩) (by assumption) ?_
    try simp only [Act.put, List.setIfInBounds_toArray, List.set_cons_zero, List.set_cons_succ]
    refine wpAnyH_take (i := 20) (oi := { dst := some 132, op := Op.call { callee := Callee.value (Operand.func 20), args := #[Operand.tmp 131], argTypes := #[25] }, type := 51, pos := _, after := #[{ on := 19, ground := Ground.data }, { on := 18, ground := Ground.chain }, { on := 18, ground := Ground.guard }], guard := some (18, true) }) (v := undef) rfl (by kernel_rfl) (by kernel_rfl) (by kernel_rfl) (fun _ _ _ h => h) (Or.inr ⟨by rfl, rfl⟩) (by assumption) ?_
    try simp only [Act.put, List.setIfInBounds_toArray, List.set_cons_zero, List.set_cons_succ]
    refine wpAnyH_take (i := 21) (oi := { dst := some 133, op := Op.load 51 (Operand.tmp 13), type := 51, pos := _, after := #[{ on := 18, ground := Ground.guard }], guard := some (18, true) }) (v := undef) rfl (by kernel_rfl) (by kernel_rfl) (by kernel_rfl) (fun _ _ _ h => h) (Or.inr ⟨by rfl, rfl⟩) (by assumption) ?_
    try simp only [Act.put, List.setIfInBounds_toArray, List.set_cons_zero, List.set_cons_succ]
    refine wpAnyH_take (i := 22) (oi := { dst := some 134, op := Op.binOp BinOp.eql 51 (Operand.tmp 132) (Operand.tmp 133) 51, type := 4, pos := _, after := #[{ on := 20, ground := Ground.data }, { on := 21, ground := Ground.data }, { on := 18, ground := Ground.guard }], guard := some (18, true) }) (v := undef) rfl (by kernel_rfl) (by kernel_rfl) (by kernel_rfl) (fun _ _ _ h => h) (Or.inr ⟨by rfl, rfl⟩) (by assumption) ?_
    try simp only [Act.put, List.setIfInBounds_toArray, List.set_cons_zero, List.set_cons_succ]
    refine wpAnyH_take (i := 23) (oi := { dst := some 135, op := Op.pick (Operand.tmp 130) (Operand.tmp 134) (Operand.const (Value.bool false)), type := 4, pos := _, after := #[{ on := 18, ground := Ground.data }, { on := 22, ground := Ground.data }, { on := 15, ground := Ground.guard }], guard := some (15, false) }) (v := undef) rfl (by kernel_rfl) (by kernel_rfl) (by kernel_rfl) (fun _ _ _ h => h) (Or.inr ⟨by rfl, rfl⟩) (by assumption) ?_
    try simp only [Act.put, List.setIfInBounds_toArray, List.set_cons_zero, List.set_cons_succ]
    refine wpAnyH_take (i := 24) (oi := { dst := some 136, op := Op.pick (Operand.tmp 127) (Operand.const (Value.bool true)) (Operand.tmp 135), type := 4, pos := _, after := #[{ on := 15, ground := Ground.data }, { on := 23, ground := Ground.data }, { on := 6, ground := Ground.guard }], guard := some (6, true) }) (v := ?_) rfl (by kernel_rfl) (by kernel_rfl) (by kernel_rfl) (fun _ _ _ h => h) (Or.inl ⟨by rfl, ?_⟩) (by assumption) ?_
    rotate_left
    · ((intro w hSw); (try dsimp only at hSw); go_simp; (try with_reducible rfl))
    try simp only [Act.put, List.setIfInBounds_toArray, List.set_cons_zero, List.set_cons_succ]
    refine wpAnyH_take (i := 25) (oi := { dst := some 137, op := Op.pick (Operand.tmp 118) (Operand.tmp 136) (Operand.const (Value.bool false)), type := 4, pos := _, after := #[{ on := 6, ground := Ground.data }, { on := 24, ground := Ground.data }], guard := none }) (v := ?_) rfl (by kernel_rfl) (by kernel_rfl) (by kernel_rfl) (fun _ _ _ h => h) (Or.inl ⟨by rfl, ?_⟩) (by assumption) ?_
    rotate_left
    · ((intro w hSw); (try dsimp only at hSw); go_simp; (try with_reducible rfl))
    try simp only [Act.put, List.setIfInBounds_toArray, List.set_cons_zero, List.set_cons_succ]
    refine wpAnyH_take (i := 26) (oi := { dst := some 6, op := Op.assign (Operand.tmp 137), type := 4, pos := _, after := #[{ on := 25, ground := Ground.data }, { on := 20, ground := Ground.chain }, { on := 0, ground := Ground.phase }, { on := 1, ground := Ground.phase }, { on := 2, ground := Ground.phase }, { on := 3, ground := Ground.phase }, { on := 4, ground := Ground.phase }, { on := 5, ground := Ground.phase }, { on := 6, ground := Ground.phase }, { on := 7, ground := Ground.phase }, { on := 8, ground := Ground.phase }, { on := 9, ground := Ground.phase }, { on := 10, ground := Ground.phase }, { on := 11, ground := Ground.phase }, { on := 12, ground := Ground.phase }, { on := 13, ground := Ground.phase }, { on := 14, ground := Ground.phase }, { on := 15, ground := Ground.phase }, { on := 16, ground := Ground.phase }, { on := 17, ground := Ground.phase }, { on := 18, ground := Ground.phase }, { on := 19, ground := Ground.phase }, { on := 20, ground := Ground.phase }, { on := 21, ground := Ground.phase }, { on := 22, ground := Ground.phase }, { on := 23, ground := Ground.phase }, { on := 24, ground := Ground.phase }, { on := 25, ground := Ground.phase }], guard := none }) (v := ?_) rfl (by kernel_rfl) (by kernel_rfl) (by kernel_rfl) (fun _ _ _ h => h) (Or.inl ⟨by rfl, ?_⟩) (by assumption) ?_
    rotate_left
    · ((intro w hSw); (try dsimp only at hSw); go_simp; (try with_reducible rfl))
    try simp only [Act.put, List.setIfInBounds_toArray, List.set_cons_zero, List.set_cons_succ]
    refine wpAnyH_done (by kernel_rfl) ?_ _
    go_wp2
    go_ret
    exact ⟨rfl, nextB HW14.out HB16.out⟩
set_option maxRecDepth 100000 in
theorem walkOut (a b : Int) (x : Nat) (w : World) (c1 c2 c3 c4 : Bool) (e1 : decide (a < 0) = c1) (e2 : decide (9999 < a) = c2) (e3 : decide (b < 1) = c3) (e4 : decide (9999 < b) = c4) (hall : (c1 || c2 || c3 || c4) = true) :
    Calls Tryz.prog 4 #[.int .i64 a, .int .i64 b, .float .f64 x] w fun e w' => e = .returned (.bool true) ∧ Below w.heap.size w w' := by
  have HF := Lib.hid firstC
  cases c1 <;> cases c2 <;> cases c3 <;> cases c4 <;> simp at hall
  all_goals go_enter Tryz.func4, Tryz.ntmps4
  all_goals go_wp2_with fail
  all_goals refine (HF.out _).mono ?_
  all_goals rintro e w1 ⟨rfl, hb1⟩
  all_goals have HW1 := Lib.hid hb1
  all_goals clear hb1
  all_goals go_wp2_with fail
  all_goals refine (HF.out _).mono ?_
  all_goals rintro e w2 ⟨rfl, hb2⟩
  all_goals go_wp2
  all_goals go_ret
  all_goals exact ⟨rfl, nextB HW1.out hb2⟩
theorem walk (a b : Int) (x : Nat) (W : World) (w0 : (Lit.int .i64 a).wf = true) (w1 : (Lit.int .i64 b).wf = true) (w2 : (Lit.float .f64 x).wf = true)
    (hT : Lib.TabIs Tryz.prog W "math/bits.deBruijn64tab" .u8 [0, 1, 56, 2, 57, 49, 28, 3, 61, 58, 42, 50, 38, 29, 17, 4, 62, 47, 59, 36, 45, 43, 51, 22, 53, 39, 33, 30, 24, 18, 12, 5, 63, 55, 48, 27, 60, 41, 37, 16, 46, 35, 44, 21, 52, 32, 23, 11, 54, 26, 40, 15, 34, 20, 31, 10, 25, 14, 19, 9, 13, 8, 7, 6]) (hP : Lib.TabIs Tryz.prog W "internal/strconv.uint64pow10" .u64 [1, 10, 100, 1000, 10000, 100000, 1000000, 10000000, 100000000, 1000000000, 10000000000, 100000000000, 1000000000000, 10000000000000, 100000000000000, 1000000000000000, 10000000000000000, 100000000000000000, 1000000000000000000, 10000000000000000000]) :
    Calls Tryz.prog 4 #[.int .i64 a, .int .i64 b, .float .f64 x] W fun e w' => e = .returned (.bool true) ∧ Below W.heap.size W w' := by
  have hT' := DkTab.tabZ hT
  have hx := DkOps.inF w2
  by_cases h : (decide (a < 0) || decide (9999 < a) || decide (b < 1) || decide (9999 < b)) = true
  · exact walkOut a b x W _ _ _ _ rfl rfl rfl rfl h
  · simp only [Bool.or_eq_true, decide_eq_true_eq, not_or] at h
    obtain ⟨A, rfl⟩ := Int.eq_ofNat_of_zero_le (a := a) (by omega)
    obtain ⟨B, rfl⟩ := Int.eq_ofNat_of_zero_le (a := b) (by omega)
    have hA : A ≤ 9999 := by omega
    have h1 : 1 ≤ B := by omega
    have h2 : B ≤ 9999 := by omega
    by_cases hf : (ofN (quoV A B)).2.2 = 0 <;> by_cases hg : (ofN x).2.2 = 0
    · exact walktt A B x hA h1 h2 hx W hT' hP hf hg
    · exact walktf A B x hA h1 h2 hx W hT' hP hf hg
    · exact walkft A B x hA h1 h2 hx W hT' hP hf hg
    · exact walkff A B x hA h1 h2 hx W hT' hP hf hg
end Go.Proofs.YthihkbnkbajglaaGreatDoor.Sw
