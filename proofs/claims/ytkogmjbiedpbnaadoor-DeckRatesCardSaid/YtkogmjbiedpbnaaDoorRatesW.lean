/- tiklaw23.DeckRates: the walk. -/
import Derived.Test.YtkogmjbiedpbnaaDoorRm
set_option linter.unusedVariables false
namespace Go.Proofs.YtkogmjbiedpbnaaDoor.RatesW
open Go Go.RowKit Kit Nums Rate0 Scale Scale2 CkMath CkC CkD CkE CkN OfA OfB Dk Dk2 Dk3 Dk4 AirW Rm

set_option maxRecDepth 100000 in
set_option maxHeartbeats 4000000 in
theorem out (now hi x more : Nat) (y z : Nat) (w : World) (hT : TabZ w) (hy : In64 y) (hz : In64 z) (b0 b1 b2 b3 b4 b5 : Bool) (h0 : ((ofN y).2.2 != 0) = b0) (h1 : ((ofN z).2.2 != 0) = b1) (h2 : decide ((1099511627776 : Int) < (hi : Int)) = b2) (h3 : decide ((1099511627776 : Int) < (now : Int)) = b3)
    (h4 : decide ((1073741824 : Int) < (more : Int)) = b4) (h5 : decide ((hi : Int) < (x : Int)) = b5) (hall : (b0 || b1 || b2 || b3 || b4 || b5) = true) :
    Calls Tryd.prog 6 #[.int .u64 (now : Int), .int .u64 (hi : Int), .int .u64 (x : Int), .int .u64 (more : Int), .float .f64 y, .float .f64 z] w (OutP w) := by
  have h5' : decide (hi < x) = b5 := by rw [← h5]; exact decide_eq_decide.2 (by omega)
  have HF : Hid (∀ W, TabZ W → Calls Tryd.prog 8 #[] W fun e w' => e = .returned (.bool true) ∧ Below W.heap.size W w') := Lib.hid (fun W h => first W h)
  have CO := Lib.hid (fun w (h : TabZ w) => ofC y w hy h)
  have CP := Lib.hid (fun w (h : TabZ w) => ofC z w hz h)
  unfold OfP at CO CP
  generalize ofN y = O at *
  generalize ofN z = O' at *
  have HT := Lib.hid hT
  clear hT hy hz
  have hc : b0 = true ∨ (b0 = false ∧ b1 = true) ∨ (b0 = false ∧ b1 = false ∧ b2 = true) ∨ (b0 = false ∧ b1 = false ∧ b2 = false ∧ b3 = true) ∨ (b0 = false ∧ b1 = false ∧ b2 = false ∧ b3 = false ∧ b4 = true) ∨ (b0 = false ∧ b1 = false ∧ b2 = false ∧ b3 = false ∧ b4 = false ∧ b5 = true) := by
    revert hall; cases b0 <;> cases b1 <;> cases b2 <;> cases b3 <;> cases b4 <;> cases b5 <;> decide
  rcases hc with rfl | ⟨rfl, rfl⟩ | ⟨rfl, rfl, rfl⟩ | ⟨rfl, rfl, rfl, rfl⟩ | ⟨rfl, rfl, rfl, rfl, rfl⟩ | ⟨rfl, rfl, rfl, rfl, rfl, rfl⟩
  all_goals
    clear hall
    go_enter Tryd.func6, Tryd.ntmps6
    go_wp2_with fail
    refine (HF.out _ HT.out).mono ?_
    rintro e w1 ⟨rfl, hb1⟩
    go_wp2_with fail
    refine (newD w1).mono ?_
    rintro e w2 ⟨p, q, hp, hq, rfl, hD, hb2⟩
    clear hD
    have hW2 := below_next hb1 hb2
    clear hb1 hb2
    go_wp2_with fail
    refine (CO.out _ (HT.out.then_ hW2)).mono ?_
    rintro e w3 ⟨rfl, hb3⟩
    have hW3 := below_next hW2 (hb3.alloc hb3.size (.cells #[.int .u64 (O.1 : Int), .int .u64 (O.2.1 : Int)] 30))
    clear hb3 hW2
    generalize hw3 : w3.alloc (.cells #[.int .u64 (O.1 : Int), .int .u64 (O.2.1 : Int)] 30) = w4 at *
    go_wp2_with fail
    refine (CP.out _ (HT.out.then_ hW3)).mono ?_
    rintro e w5 ⟨rfl, hb5⟩
    have hW5 := below_next hW3 (hb5.alloc hb5.size (.cells #[.int .u64 (O'.1 : Int), .int .u64 (O'.2.1 : Int)] 30))
    clear hb5 hW3
    generalize hw5 : w5.alloc (.cells #[.int .u64 (O'.1 : Int), .int .u64 (O'.2.1 : Int)] 30) = w6 at *
    go_wp2_with fail
    refine (HF.out _ (HT.out.then_ hW5)).mono ?_
    rintro e w7 ⟨rfl, hb7⟩
    go_wp2
    go_ret
    exact ⟨rfl, below_next hW5 hb7⟩
set_option maxRecDepth 100000 in
set_option maxHeartbeats 8000000 in
theorem main (now hi x more : Nat) (y z : Nat) (w : World) (hT : TabZ w) (hy : In64 y) (hz : In64 z) (ey : (ofN y).2.2 = 0) (ez : (ofN z).2.2 = 0) (h1 : hi ≤ 1099511627776) (h2 : now ≤ 1099511627776) (h3 : more ≤ 1073741824) (h4 : x ≤ hi) :
    Calls Tryd.prog 6 #[.int .u64 (now : Int), .int .u64 (hi : Int), .int .u64 (x : Int), .int .u64 (more : Int), .float .f64 y, .float .f64 z] w (OutP w) := by
  have b2 : decide ((1099511627776 : Int) < (hi : Int)) = false := decide_eq_false (by omega)
  have b3 : decide ((1099511627776 : Int) < (now : Int)) = false := decide_eq_false (by omega)
  have b4 : decide ((1073741824 : Int) < (more : Int)) = false := decide_eq_false (by omega)
  have b5 : decide ((hi : Int) < (x : Int)) = false := decide_eq_false (by omega)
  have b5' : decide (hi < x) = false := decide_eq_false (by omega)
  have HF : Hid (∀ W, TabZ W → Calls Tryd.prog 8 #[] W fun e w' => e = .returned (.bool true) ∧ Below W.heap.size W w') := Lib.hid (fun W h => first W h)
  have CO := Lib.hid (fun w (h : TabZ w) => ofC y w hy h)
  have CP := Lib.hid (fun w (h : TabZ w) => ofC z w hz h)
  unfold OfP at CO CP
  rw [ey] at CO
  rw [ez] at CP
  obtain ⟨n, hn⟩ : ∃ n, (ofN y).1 = n := ⟨_, rfl⟩
  obtain ⟨d, hd⟩ : ∃ n, (ofN y).2.1 = n := ⟨_, rfl⟩
  obtain ⟨m, hm⟩ : ∃ n, (ofN z).1 = n := ⟨_, rfl⟩
  obtain ⟨k, hk⟩ : ∃ n, (ofN z).2.1 = n := ⟨_, rfl⟩
  rw [hn, hd] at CO
  rw [hm, hk] at CP
  obtain ⟨D1, D2, Q, R, s1, s2, s3, s4, s5, s6, K1, K2, K3, q1, q2, q3, q4, q5, q6, q7, tk⟩ := rates1 (now := now) (hi := hi) (x := x) (more := more) (y := y) ey hn hd h1 h2 h3 h4
  have mk := of_may ez
  rw [hm, hk] at mk
  obtain ⟨l1, l2, l3⟩ := mayLe mk
  obtain ⟨T, hTT⟩ : ∃ T, T = now + more := ⟨_, rfl⟩
  obtain ⟨F, hF⟩ : ∃ F, F = x + Q := ⟨_, rfl⟩
  rw [← hTT, ← hF] at tk
  have wT : IntKind.u64.wrap ((now : Int) + (more : Int)) = (T : Int) := by rw [IntKind.wrap_u64]; omega
  have wF : IntKind.u64.wrap ((x : Int) + (Q : Int)) = (F : Int) := by rw [IntKind.wrap_u64]; omega
  have CS := Lib.hid (fun w p q (h : Dl w p q d0) (hT : TabZ w) => speedB now y h d0_ok hy (by omega) hT)
  rw [s1, s2] at CS
  have CK := Lib.hid (fun w p q (h : Dl w p q D1) => seekC now 0 hi x h K1)
  rw [s3, s4] at CK
  have CB := Lib.hid (fun w p q (h : Dl w p q D2) => playBC now 0 hi h K2)
  rw [s5, s6] at CB
  have CC : Hid (∀ w, Calls Tryd.prog 22 #[.int .u64 (more : Int), .int .u64 0, .agg #[.int .u64 (n : Int), .int .u64 (d : Int)]] w fun e w' => e = .returned (.tuple #[.int .u64 (Q : Int), .int .u64 (R : Int), .int .i64 0]) ∧ Below w.heap.size w w') := Lib.hid (fun w => by
    have h := scaleC more 0 n d w (by omega) (by omega) (by omega) (by omega)
    unfold ScP at h
    rw [q1] at h
    exact h)
  have CT := Lib.hid (fun w p q (h : Dl w p q ⟨2, x, ⟨now, x, 0, n, d⟩⟩) => tickC T 0 hi h K3)
  have hcase : (F < hi ∧ tickD ⟨2, x, ⟨now, x, 0, n, d⟩⟩ T 0 hi = ⟨2, F, ⟨T, F, R, n, d⟩⟩) ∨ (F = hi ∧ (tickD ⟨2, x, ⟨now, x, 0, n, d⟩⟩ T 0 hi).mode = 0 ∧ (tickD ⟨2, x, ⟨now, x, 0, n, d⟩⟩ T 0 hi).place = hi) ∨ (hi < F ∧ (tickD ⟨2, x, ⟨now, x, 0, n, d⟩⟩ T 0 hi).mode = 0 ∧ (tickD ⟨2, x, ⟨now, x, 0, n, d⟩⟩ T 0 hi).place = hi) := by
    rcases tk with tk | ⟨tk, tm⟩
    · exact .inl tk
    · by_cases h : F = hi
      · exact .inr (.inl ⟨h, tm⟩)
      · exact .inr (.inr ⟨by omega, tm⟩)
  clear tk
  have K4 : Dkk (tickD ⟨2, x, ⟨now, x, 0, n, d⟩⟩ T 0 hi) := tickD_dkk K3
  generalize tickD ⟨2, x, ⟨now, x, 0, n, d⟩⟩ T 0 hi = D4 at *
  have nT : T ≤ 1100585369600 := by omega
  have HN2 : Hid (2 * more ≤ 2147483648 ∧ now + 2 * more = T + more ∧ T + more < 18446744073709551616) := Lib.hid ⟨by omega, by omega, by omega⟩
  have HT := Lib.hid hT
  have u1 : ((n : Int) != (n : Int)) = false := by simp
  have u2 : ((d : Int) != (d : Int)) = false := by simp
  have u3 : ((m : Int) != (m : Int)) = false := by simp
  have u4 : ((k : Int) != (k : Int)) = false := by simp
  have u5 : ((F : Int) != (F : Int)) = false := by simp
  have u6 : ((hi : Int) != (hi : Int)) = false := by simp
  have HH1 := Lib.hid h1
  have HH3 := Lib.hid h3
  have HZ := Lib.hid hz
  have HEZ := Lib.hid ez
  have HMK := Lib.hid (And.intro hm hk)
  have HL := Lib.hid (And.intro l1 (And.intro l2 l3))
  have HQ := Lib.hid (And.intro q2 (And.intro q3 (And.intro q4 (And.intro q5 q6))))
  have HNT := Lib.hid nT
  clear hT hy hz ey ez h1 h2 h3 h4 hn hd s1 s2 s3 s4 s5 s6 K1 K2 K3 q1 q2 q3 q4 q5 q6 q7 mk l1 l2 l3 hTT hF hm hk nT
  go_enter Tryd.func6, Tryd.ntmps6
  go_wp2_with fail
  refine (HF.out _ HT.out).mono ?_
  rintro e w1 ⟨rfl, hb1⟩
  go_wp2_with fail
  refine (newD w1).mono ?_
  rintro e w2 ⟨p, q, hp, hq, rfl, hD, hb2⟩
  have z1 := hb1.size
  have yp : w.heap.size ≤ p := by omega
  have yq : w.heap.size ≤ q := by omega
  have hW2 := below_next hb1 hb2
  clear hb1 hb2 hp hq z1
  go_wp2_with fail
  refine (CO.out _ (HT.out.then_ hW2)).mono ?_
  rintro e w3 ⟨rfl, hb3⟩
  have hal := hb3.alloc hb3.size (.cells #[.int .u64 (n : Int), .int .u64 (d : Int)] 30)
  have hW4 := below_next hW2 hal
  have hD4 := hD.then_ hal
  have hX4 := Bx.new w3 n d
  clear hb3 hW2 hD hal
  generalize hw3 : w3.alloc (.cells #[.int .u64 (n : Int), .int .u64 (d : Int)] 30) = w4 at *
  generalize hB : w3.heap.size = B at *
  go_wp2_with fail
  refine (CP.out _ (HT.out.then_ hW4)).mono ?_
  rintro e w5 ⟨rfl, hb5⟩
  have hal := hb5.alloc hb5.size (.cells #[.int .u64 (m : Int), .int .u64 (k : Int)] 30)
  have hW6 := below_next hW4 hal
  have hD6 := hD4.then_ hal
  have hX6 : Two (w5.alloc (.cells #[.int .u64 (m : Int), .int .u64 (k : Int)] 30)) B w5.heap.size n d m k := ⟨hX4.then_ hal, Bx.new w5 m k⟩
  clear hb5 hW4 hD4 hX4 hal
  generalize hw5 : w5.alloc (.cells #[.int .u64 (m : Int), .int .u64 (k : Int)] 30) = w6 at *
  generalize hC : w5.heap.size = C at *
  clear hw3 hB
  have c0 := hX6.a.c0
  have c1 := hX6.a.c1
  have c2 := hX6.b.c0
  have c3 := hX6.b.c1
  have hX7 := hX6.drew_
  have hD7 := Dl.drew_ hD6
  have hW7 : Below w.heap.size w w6.drew := hW6.drew
  clear hX6 hD6 hW6
  go_wp2_with fail
  refine wp_region_held_drew (S := (fun W => W.cell? ⟨B, 0, none⟩ = some (.int .u64 (n : Int)) ∧ W.cell? ⟨B, 1, none⟩ = some (.int .u64 (d : Int)) ∧ W.cell? ⟨C, 0, none⟩ = some (.int .u64 (m : Int)) ∧ W.cell? ⟨C, 1, none⟩ = some (.int .u64 (k : Int)))) (by kernel_rfl) ?_ (fun hHeld => ?_)
  · ((try dsimp only); exact ⟨hX7.a.c0, hX7.a.c1, hX7.b.c0, hX7.b.c1⟩)
  refine wpAnyH_take (i := 0) (oi := { dst := some 69, op := Op.move (Operand.tmp 13), type := 24, pos := _, after := #[], guard := none }) (v := ?_) rfl (by kernel_rfl) (by kernel_rfl) (by kernel_rfl) (fun _ _ _ h => h) (Or.inl ⟨by rfl, ?_⟩) (by assumption) ?_
  rotate_left
  · ((intro w hSw); (try dsimp only at hSw); go_simp; (try with_reducible rfl))
  try simp only [Act.put, List.setIfInBounds_toArray, List.set_cons_zero, List.set_cons_succ]
  refine wpAnyH_take (i := 1) (oi := { dst := some 70, op := Op.move (Operand.tmp 0), type := 28, pos := _, after := #[], guard := none }) (v := ?_) rfl (by kernel_rfl) (by kernel_rfl) (by kernel_rfl) (fun _ _ _ h => h) (Or.inl ⟨by rfl, ?_⟩) (by assumption) ?_
  rotate_left
  · ((intro w hSw); (try dsimp only at hSw); go_simp; (try with_reducible rfl))
  try simp only [Act.put, List.setIfInBounds_toArray, List.set_cons_zero, List.set_cons_succ]
  refine wpAnyH_take (i := 2) (oi := { dst := some 71, op := Op.move (Operand.tmp 4), type := 34, pos := _, after := #[], guard := none }) (v := ?_) rfl (by kernel_rfl) (by kernel_rfl) (by kernel_rfl) (fun _ _ _ h => h) (Or.inl ⟨by rfl, ?_⟩) (by assumption) ?_
  rotate_left
  · ((intro w hSw); (try dsimp only at hSw); go_simp; (try with_reducible rfl))
  try simp only [Act.put, List.setIfInBounds_toArray, List.set_cons_zero, List.set_cons_succ]
  refine wpAnyH_ready (rs := [3]) (by kernel_rfl) (by simp) ?_
  refine (AllReadyH.cons (o := { dst := some 72, op := Op.call { callee := Callee.value (Operand.func 17), args := #[Operand.tmp 69, Operand.tmp 70, Operand.tmp 71], argTypes := #[24, 28, 34] }, type := 32, pos := _, after := #[{ on := 0, ground := Ground.data }, { on := 1, ground := Ground.data }, { on := 2, ground := Ground.data }], guard := none }) rfl (fun K hK => ?_) AllReadyH.nil)
  go_simp
  (refine (CS.out _ _ _ hD7 (HT.out.then_ hW7)).mono ?_; rintro e v1 ⟨rfl, hD8, f8⟩; have hX8 := hX7.fr hD7 f8; have hW8 := f8.below hW7 yp yq)
  go_wp2_with fail
  refine hK.out _ _ ?_ (fun hHeld => ?_)
  · ((try dsimp only); exact ⟨hX8.a.c0, hX8.a.c1, hX8.b.c0, hX8.b.c1⟩)
  clear hK K
  try simp only [Act.put, List.setIfInBounds_toArray, List.set_cons_zero, List.set_cons_succ]
  refine wpAnyH_take (i := 4) (oi := { dst := some 73, op := Op.binOp BinOp.neq 32 (Operand.tmp 72) (Operand.const (Value.int IntKind.i64 0)) 32, type := 4, pos := _, after := #[{ on := 3, ground := Ground.data }], guard := none }) (v := ?_) rfl (by kernel_rfl) (by kernel_rfl) (by kernel_rfl) (fun _ _ _ h => h) (Or.inl ⟨by rfl, ?_⟩) (by assumption) ?_
  rotate_left
  · ((intro w hSw); (try dsimp only at hSw); go_simp; (try with_reducible rfl))
  try simp only [Act.put, List.setIfInBounds_toArray, List.set_cons_zero, List.set_cons_succ]
  refine wpAnyH_take (i := 5) (oi := { dst := some 74, op := Op.move (Operand.tmp 73), type := 4, pos := _, after := #[{ on := 4, ground := Ground.data }, { on := 3, ground := Ground.chain }], guard := none }) (v := ?_) rfl (by kernel_rfl) (by kernel_rfl) (by kernel_rfl) (fun _ _ _ h => h) (Or.inl ⟨by rfl, ?_⟩) (by assumption) ?_
  rotate_left
  · ((intro w hSw); (try dsimp only at hSw); go_simp; (try with_reducible rfl))
  try simp only [Act.put, List.setIfInBounds_toArray, List.set_cons_zero, List.set_cons_succ]
  refine wpAnyH_take (i := 6) (oi := { dst := some 75, op := Op.move (Operand.tmp 13), type := 24, pos := _, after := #[{ on := 5, ground := Ground.guard }], guard := some (5, false) }) (v := ?_) rfl (by kernel_rfl) (by kernel_rfl) (by kernel_rfl) (fun _ _ _ h => h) (Or.inl ⟨by rfl, ?_⟩) (by assumption) ?_
  rotate_left
  · ((intro w hSw); (try dsimp only at hSw); go_simp; (try with_reducible rfl))
  try simp only [Act.put, List.setIfInBounds_toArray, List.set_cons_zero, List.set_cons_succ]
  refine wpAnyH_take (i := 7) (oi := { dst := some 76, op := Op.move (Operand.tmp 0), type := 28, pos := _, after := #[{ on := 5, ground := Ground.guard }], guard := some (5, false) }) (v := ?_) rfl (by kernel_rfl) (by kernel_rfl) (by kernel_rfl) (fun _ _ _ h => h) (Or.inl ⟨by rfl, ?_⟩) (by assumption) ?_
  rotate_left
  · ((intro w hSw); (try dsimp only at hSw); go_simp; (try with_reducible rfl))
  try simp only [Act.put, List.setIfInBounds_toArray, List.set_cons_zero, List.set_cons_succ]
  refine wpAnyH_take (i := 8) (oi := { dst := some 77, op := Op.move (Operand.tmp 1), type := 28, pos := _, after := #[{ on := 5, ground := Ground.guard }], guard := some (5, false) }) (v := ?_) rfl (by kernel_rfl) (by kernel_rfl) (by kernel_rfl) (fun _ _ _ h => h) (Or.inl ⟨by rfl, ?_⟩) (by assumption) ?_
  rotate_left
  · ((intro w hSw); (try dsimp only at hSw); go_simp; (try with_reducible rfl))
  try simp only [Act.put, List.setIfInBounds_toArray, List.set_cons_zero, List.set_cons_succ]
  refine wpAnyH_take (i := 9) (oi := { dst := some 78, op := Op.move (Operand.tmp 2), type := 28, pos := _, after := #[{ on := 5, ground := Ground.guard }], guard := some (5, false) }) (v := ?_) rfl (by kernel_rfl) (by kernel_rfl) (by kernel_rfl) (fun _ _ _ h => h) (Or.inl ⟨by rfl, ?_⟩) (by assumption) ?_
  rotate_left
  · ((intro w hSw); (try dsimp only at hSw); go_simp; (try with_reducible rfl))
  try simp only [Act.put, List.setIfInBounds_toArray, List.set_cons_zero, List.set_cons_succ]
  refine wpAnyH_ready (rs := [10]) (by kernel_rfl) (by simp) ?_
  refine (AllReadyH.cons (o := { dst := some 79, op := Op.call { callee := Callee.value (Operand.func 19), args := #[Operand.tmp 75, Operand.tmp 76, Operand.const (Value.int IntKind.u64 0), Operand.tmp 77, Operand.tmp 78], argTypes := #[24, 28, 28, 28, 28] }, type := 32, pos := _, after := #[{ on := 6, ground := Ground.data }, { on := 7, ground := Ground.data }, { on := 8, ground := Ground.data }, { on := 9, ground := Ground.data }, { on := 5, ground := Ground.chain }, { on := 5, ground := Ground.guard }], guard := some (5, false) }) rfl (fun K hK => ?_) AllReadyH.nil)
  go_simp
  (refine (CK.out _ _ _ hD8).mono ?_; rintro e v2 ⟨rfl, hD9, f9⟩; have hX9 := hX8.fr hD8 f9; have hW9 := f9.below hW8 yp yq)
  go_wp2_with fail
  refine hK.out _ _ ?_ (fun hHeld => ?_)
  · ((try dsimp only); exact ⟨hX9.a.c0, hX9.a.c1, hX9.b.c0, hX9.b.c1⟩)
  clear hK K
  try simp only [Act.put, List.setIfInBounds_toArray, List.set_cons_zero, List.set_cons_succ]
  refine wpAnyH_take (i := 11) (oi := { dst := some 80, op := Op.binOp BinOp.neq 32 (Operand.tmp 79) (Operand.const (Value.int IntKind.i64 0)) 32, type := 4, pos := _, after := #[{ on := 10, ground := Ground.data }, { on := 5, ground := Ground.guard }], guard := some (5, false) }) (v := ?_) rfl (by kernel_rfl) (by kernel_rfl) (by kernel_rfl) (fun _ _ _ h => h) (Or.inl ⟨by rfl, ?_⟩) (by assumption) ?_
  rotate_left
  · ((intro w hSw); (try dsimp only at hSw); go_simp; (try with_reducible rfl))
  try simp only [Act.put, List.setIfInBounds_toArray, List.set_cons_zero, List.set_cons_succ]
  refine wpAnyH_take (i := 12) (oi := { dst := some 81, op := Op.pick (Operand.tmp 74) (Operand.const (Value.bool true)) (Operand.tmp 80), type := 4, pos := _, after := #[{ on := 5, ground := Ground.data }, { on := 11, ground := Ground.data }], guard := none }) (v := ?_) rfl (by kernel_rfl) (by kernel_rfl) (by kernel_rfl) (fun _ _ _ h => h) (Or.inl ⟨by rfl, ?_⟩) (by assumption) ?_
  rotate_left
  · ((intro w hSw); (try dsimp only at hSw); go_simp; (try with_reducible rfl))
  try simp only [Act.put, List.setIfInBounds_toArray, List.set_cons_zero, List.set_cons_succ]
  refine wpAnyH_take (i := 13) (oi := { dst := some 82, op := Op.move (Operand.tmp 81), type := 4, pos := _, after := #[{ on := 12, ground := Ground.data }, { on := 10, ground := Ground.chain }], guard := none }) (v := ?_) rfl (by kernel_rfl) (by kernel_rfl) (by kernel_rfl) (fun _ _ _ h => h) (Or.inl ⟨by rfl, ?_⟩) (by assumption) ?_
  rotate_left
  · ((intro w hSw); (try dsimp only at hSw); go_simp; (try with_reducible rfl))
  try simp only [Act.put, List.setIfInBounds_toArray, List.set_cons_zero, List.set_cons_succ]
  refine wpAnyH_take (i := 14) (oi := { dst := some 83, op := Op.move (Operand.tmp 13), type := 24, pos := _, after := #[{ on := 13, ground := Ground.guard }], guard := some (13, false) }) (v := ?_) rfl (by kernel_rfl) (by kernel_rfl) (by kernel_rfl) (fun _ _ _ h => h) (Or.inl ⟨by rfl, ?_⟩) (by assumption) ?_
  rotate_left
  · ((intro w hSw); (try dsimp only at hSw); go_simp; (try with_reducible rfl))
  try simp only [Act.put, List.setIfInBounds_toArray, List.set_cons_zero, List.set_cons_succ]
  refine wpAnyH_take (i := 15) (oi := { dst := some 84, op := Op.move (Operand.tmp 0), type := 28, pos := _, after := #[{ on := 13, ground := Ground.guard }], guard := some (13, false) }) (v := ?_) rfl (by kernel_rfl) (by kernel_rfl) (by kernel_rfl) (fun _ _ _ h => h) (Or.inl ⟨by rfl, ?_⟩) (by assumption) ?_
  rotate_left
  · ((intro w hSw); (try dsimp only at hSw); go_simp; (try with_reducible rfl))
  try simp only [Act.put, List.setIfInBounds_toArray, List.set_cons_zero, List.set_cons_succ]
  refine wpAnyH_take (i := 16) (oi := { dst := some 85, op := Op.move (Operand.tmp 1), type := 28, pos := _, after := #[{ on := 13, ground := Ground.guard }], guard := some (13, false) }) (v := ?_) rfl (by kernel_rfl) (by kernel_rfl) (by kernel_rfl) (fun _ _ _ h => h) (Or.inl ⟨by rfl, ?_⟩) (by assumption) ?_
  rotate_left
  · ((intro w hSw); (try dsimp only at hSw); go_simp; (try with_reducible rfl))
  try simp only [Act.put, List.setIfInBounds_toArray, List.set_cons_zero, List.set_cons_succ]
  refine wpAnyH_ready (rs := [17]) (by kernel_rfl) (by simp) ?_
  refine (AllReadyH.cons (o := { dst := some 86, op := Op.call { callee := Callee.value (Operand.func 20), args := #[Operand.tmp 83, Operand.tmp 84, Operand.const (Value.int IntKind.u64 0), Operand.tmp 85], argTypes := #[24, 28, 28, 28] }, type := 32, pos := _, after := #[{ on := 14, ground := Ground.data }, { on := 15, ground := Ground.data }, { on := 16, ground := Ground.data }, { on := 13, ground := Ground.chain }, { on := 13, ground := Ground.guard }], guard := some (13, false) }) rfl (fun K hK => ?_) AllReadyH.nil)
  go_simp
  (refine (CB.out _ _ _ hD9).mono ?_; rintro e v3 ⟨rfl, hD10, f10⟩; have hX10 := hX9.fr hD9 f10; have hW10 := f10.below hW9 yp yq)
  go_wp2_with fail
  refine hK.out _ _ ?_ (fun hHeld => ?_)
  · ((try dsimp only); exact ⟨hX10.a.c0, hX10.a.c1, hX10.b.c0, hX10.b.c1⟩)
  clear hK K
  try simp only [Act.put, List.setIfInBounds_toArray, List.set_cons_zero, List.set_cons_succ]
  refine wpAnyH_take (i := 18) (oi := { dst := some 87, op := Op.binOp BinOp.neq 32 (Operand.tmp 86) (Operand.const (Value.int IntKind.i64 0)) 32, type := 4, pos := _, after := #[{ on := 17, ground := Ground.data }, { on := 13, ground := Ground.guard }], guard := some (13, false) }) (v := ?_) rfl (by kernel_rfl) (by kernel_rfl) (by kernel_rfl) (fun _ _ _ h => h) (Or.inl ⟨by rfl, ?_⟩) (by assumption) ?_
  rotate_left
  · ((intro w hSw); (try dsimp only at hSw); go_simp; (try with_reducible rfl))
  try simp only [Act.put, List.setIfInBounds_toArray, List.set_cons_zero, List.set_cons_succ]
  refine wpAnyH_take (i := 19) (oi := { dst := some 88, op := Op.pick (Operand.tmp 82) (Operand.const (Value.bool true)) (Operand.tmp 87), type := 4, pos := _, after := #[{ on := 13, ground := Ground.data }, { on := 18, ground := Ground.data }], guard := none }) (v := ?_) rfl (by kernel_rfl) (by kernel_rfl) (by kernel_rfl) (fun _ _ _ h => h) (Or.inl ⟨by rfl, ?_⟩) (by assumption) ?_
  rotate_left
  · ((intro w hSw); (try dsimp only at hSw); go_simp; (try with_reducible rfl))
  try simp only [Act.put, List.setIfInBounds_toArray, List.set_cons_zero, List.set_cons_succ]
  refine wpAnyH_take (i := 20) (oi := { dst := some 89, op := Op.move (Operand.tmp 88), type := 4, pos := _, after := #[{ on := 19, ground := Ground.data }, { on := 17, ground := Ground.chain }], guard := none }) (v := ?_) rfl (by kernel_rfl) (by kernel_rfl) (by kernel_rfl) (fun _ _ _ h => h) (Or.inl ⟨by rfl, ?_⟩) (by assumption) ?_
  rotate_left
  · ((intro w hSw); (try dsimp only at hSw); go_simp; (try with_reducible rfl))
  try simp only [Act.put, List.setIfInBounds_toArray, List.set_cons_zero, List.set_cons_succ]
  refine wpAnyH_take (i := 21) (oi := { dst := some 90, op := Op.move (Operand.tmp 13), type := 24, pos := _, after := #[{ on := 20, ground := Ground.guard }], guard := some (20, false) }) (v := ?_) rfl (by kernel_rfl) (by kernel_rfl) (by kernel_rfl) (fun _ _ _ h => h) (Or.inl ⟨by rfl, ?_⟩) (by assumption) ?_
  rotate_left
  · ((intro w hSw); (try dsimp only at hSw); go_simp; (try with_reducible rfl))
  try simp only [Act.put, List.setIfInBounds_toArray, List.set_cons_zero, List.set_cons_succ]
  refine wpAnyH_take (i := 23) (oi := { dst := some 92, op := Op.load 30 (Operand.tmp 14), type := 30, pos := _, after := #[{ on := 20, ground := Ground.guard }], guard := some (20, false) }) (v := ?_) rfl (by kernel_rfl) (by kernel_rfl) (by kernel_rfl) (fun _ _ _ h => h) (Or.inl ⟨by rfl, ?_⟩) (by assumption) ?_
  rotate_left
  · ((intro w hSw); (try dsimp only at hSw); go_simp; (try with_reducible rfl))
  try simp only [Act.put, List.setIfInBounds_toArray, List.set_cons_zero, List.set_cons_succ]
  refine wpAnyH_ready (rs := [22]) (by kernel_rfl) (by simp) ?_
  refine (AllReadyH.cons (o := { dst := some 91, op := Op.call { callee := Callee.value (Operand.func 11), args := #[Operand.tmp 90], argTypes := #[24] }, type := 30, pos := _, after := #[{ on := 21, ground := Ground.data }, { on := 20, ground := Ground.chain }, { on := 20, ground := Ground.guard }], guard := some (20, false) }) rfl (fun K hK => ?_) AllReadyH.nil)
  go_simp
  (refine (rateC hD10).mono ?_; rintro e v4 ⟨rfl, f11⟩; have hD11 := hD10.then_ f11; have hX11 := hX10.then_ f11; have hW11 := below_next hW10 f11)
  go_wp2_with fail
  refine hK.out _ _ ?_ (fun hHeld => ?_)
  · ((try dsimp only); exact ⟨hX11.a.c0, hX11.a.c1, hX11.b.c0, hX11.b.c1⟩)
  clear hK K
  try simp only [Act.put, List.setIfInBounds_toArray, List.set_cons_zero, List.set_cons_succ]
  refine wpAnyH_take (i := 24) (oi := { dst := some 93, op := Op.binOp BinOp.neq 30 (Operand.tmp 91) (Operand.tmp 92) 30, type := 4, pos := _, after := #[{ on := 22, ground := Ground.data }, { on := 23, ground := Ground.data }, { on := 20, ground := Ground.guard }], guard := some (20, false) }) (v := ?_) rfl (by kernel_rfl) (by kernel_rfl) (by kernel_rfl) (fun _ _ _ h => h) (Or.inl ⟨by rfl, ?_⟩) (by assumption) ?_
  rotate_left
  · ((intro w hSw); (try dsimp only at hSw); go_simp; (try with_reducible rfl))
  try simp only [Act.put, List.setIfInBounds_toArray, List.set_cons_zero, List.set_cons_succ]
  refine wpAnyH_take (i := 25) (oi := { dst := some 94, op := Op.pick (Operand.tmp 89) (Operand.const (Value.bool true)) (Operand.tmp 93), type := 4, pos := _, after := #[{ on := 20, ground := Ground.data }, { on := 24, ground := Ground.data }], guard := none }) (v := ?_) rfl (by kernel_rfl) (by kernel_rfl) (by kernel_rfl) (fun _ _ _ h => h) (Or.inl ⟨by rfl, ?_⟩) (by assumption) ?_
  rotate_left
  · ((intro w hSw); (try dsimp only at hSw); go_simp; (try with_reducible rfl))
  try simp only [Act.put, List.setIfInBounds_toArray, List.set_cons_zero, List.set_cons_succ]
  refine wpAnyH_done (by kernel_rfl) ?_ _
  skip
  have c0 := hX11.a.c0
  have c1 := hX11.a.c1
  clear hX7 hD7 hW7 hX8 hD8 hW8 hX9 hD9 hW9 hX10 hD10 hW10 f8 f9 f10 f11 hHeld
  go_wp2_with fail
  refine (CC.out _).mono ?_
  rintro e w12 ⟨rfl, hb12⟩
  have hD12 := hD11.then_ hb12
  have hX12 := hX11.then_ hb12
  have hW12 := below_next hW11 hb12
  clear hb12 c0 c1 hD11 hX11 hW11
  go_wp2_with fail
  refine (CT.out _ _ _ hD12).mono ?_
  rintro e w13 ⟨rfl, hD13, hf⟩
  have hX13 := hX12.fr hD12 hf
  have hW13 := hf.below hW12 yp yq
  clear hD12 hX12 hW12 hf
  rcases hcase with ⟨hlt, hd4⟩ | ⟨rfl, hm4, hp4⟩ | ⟨hlt, hm4, hp4⟩
  · have hm4 : D4.mode = 2 := by rw [hd4]
    have hp4 : D4.place = F := by rw [hd4]
    have HM4 := Lib.hid hm4
    have HP4 := Lib.hid hp4
    have g1 : ¬ (hi : Int) < (F : Int) := by omega
    have g2 : decide ((hi : Int) ≤ (F : Int)) = false := decide_eq_false (by omega)
    have g3 : decide (hi ≤ F) = false := decide_eq_false (by omega)
    have HLT := Lib.hid hlt
    have HD4 := Lib.hid hd4
    clear hm4 hp4 hlt hd4
    go_wp2_with fail
    refine (posC hD13).mono ?_
    rw [HP4.out]
    rintro e w14 ⟨rfl, rfl⟩
    go_wp2_with fail
    refine (modeC hD13).mono ?_
    rw [HM4.out]
    rintro e w14 ⟨rfl, rfl⟩
    go_wp2_with fail
    refine (modeC hD13).mono ?_
    rw [HM4.out]
    rintro e w14 ⟨rfl, rfl⟩
    obtain rfl := HD4.out
    obtain ⟨S, M, V, r1, r2, r3, r4, r5, r6, r7, r8, r9⟩ := rates2 (more := more) (y := z) K4 HEZ.out HMK.out.1 HMK.out.2 HH1.out HNT.out HH3.out HLT.out
    obtain ⟨q2, q3, q4, q5, q6⟩ := HQ.out
    have hMn : m ≤ 1073741824 := by have := HL.out; omega
    have CU := Lib.hid (fun w p q (h : Dl w p q ⟨2, F, ⟨T, F, R, n, d⟩⟩) (hT : TabZ w) => speedB T z h K4 HZ.out (by have := HNT.out; omega) hT)
    rw [r1, r2] at CU
    have CV : Hid (∀ w, Calls Tryd.prog 22 #[.int .u64 (more : Int), .int .u64 (S : Int), .agg #[.int .u64 (m : Int), .int .u64 (k : Int)]] w fun e w' => e = .returned (.tuple #[.int .u64 (M : Int), .int .u64 (V : Int), .int .i64 0]) ∧ Below w.heap.size w w') := Lib.hid (fun w => by
      have h := scaleC more S m k w (by have := HH3.out; omega) (by omega) (by omega) (by omega)
      unfold ScP at h
      rw [r6] at h
      exact h)
    obtain ⟨P, hP⟩ : ∃ P, P = R * k := ⟨_, rfl⟩
    obtain ⟨G, hG⟩ : ∃ G, G = F + M := ⟨_, rfl⟩
    obtain ⟨E, hE⟩ : ∃ E, E = 2 * more := ⟨_, rfl⟩
    obtain ⟨T2, hT2⟩ : ∃ T2, T2 = T + more := ⟨_, rfl⟩
    have hPb : P ≤ 1048576 * 1048576 := by rw [hP]; exact Nat.mul_le_mul (by omega) r8
    have wP : IntKind.u64.wrap ((R : Int) * (k : Int)) = (P : Int) := by rw [← Int.natCast_mul, ← hP, IntKind.wrap_u64]; omega
    have dP : (P : Int).tdiv (d : Int) = (S : Int) := by rw [r3, ← hP]; exact (Int.ofNat_tdiv P d).symm
    have dP2 : (P : Int) / (d : Int) = (S : Int) := by rw [r3, ← hP]; exact (Int.natCast_ediv P d).symm
    have wS : IntKind.u64.wrap (S : Int) = (S : Int) := by rw [IntKind.wrap_u64]; omega
    have dn : ¬ (d : Int) = 0 := by omega
    have dn2 : ¬ d = 0 := by omega
    have wG : IntKind.u64.wrap ((F : Int) + (M : Int)) = (G : Int) := by rw [IntKind.wrap_u64]; have := HH1.out; have := HLT.out; omega
    have wE : IntKind.u64.wrap (2 * (more : Int)) = (E : Int) := by rw [IntKind.wrap_u64]; have := HH3.out; omega
    have wT2 : IntKind.u64.wrap ((now : Int) + (E : Int)) = (T2 : Int) := by rw [IntKind.wrap_u64]; have := HN2.out; omega
    have CX := Lib.hid (fun w p q (h : Dl w p q ⟨2, F, ⟨T, F, S, m, k⟩⟩) => tickC T2 0 hi h r5)
    rw [← hT2, ← hG] at r9
    have hlast : (¬ (hi : Int) < (G : Int) ∧ Hid ((tickD ⟨2, F, ⟨T, F, S, m, k⟩⟩ T2 0 hi).place = G)) ∨ ((hi : Int) < (G : Int) ∧ Hid ((tickD ⟨2, F, ⟨T, F, S, m, k⟩⟩ T2 0 hi).place = hi)) := by
      by_cases h : hi < G
      · exact .inr ⟨by omega, Lib.hid (by rw [r9]; omega)⟩
      · exact .inl ⟨by omega, Lib.hid (by rw [r9]; omega)⟩
    generalize tickD ⟨2, F, ⟨T, F, S, m, k⟩⟩ T2 0 hi = D6 at *
    have u7 : ((G : Int) == (G : Int)) = true := by simp
    have u8 : ((hi : Int) == (hi : Int)) = true := by simp
    have hX15 := hX13.drew_
    have hD15 := Dl.drew_ hD13
    have hW15 : Below w.heap.size w w13.drew := hW13.drew
    clear r1 r2 r3 r4 r5 r6 r7 r8 r9 q2 q3 q4 q5 q6 hP hG hE hT2 hPb hMn hX13 hD13 hW13
    clear K4 HD4
    go_wp2_with fail
    refine wp_region_held_drew (S := (fun W => W.cell? ⟨B, 0, none⟩ = some (.int .u64 (n : Int)) ∧ W.cell? ⟨B, 1, none⟩ = some (.int .u64 (d : Int)) ∧ W.cell? ⟨C, 0, none⟩ = some (.int .u64 (m : Int)) ∧ W.cell? ⟨C, 1, none⟩ = some (.int .u64 (k : Int)))) (by kernel_rfl) ?_ (fun hHeld => ?_)
    · ((try dsimp only); exact ⟨hX15.a.c0, hX15.a.c1, hX15.b.c0, hX15.b.c1⟩)
    refine wpAnyH_take (i := 0) (oi := { dst := some 135, op := Op.move (Operand.tmp 13), type := 24, pos := _, after := #[], guard := none }) (v := ?_) rfl (by kernel_rfl) (by kernel_rfl) (by kernel_rfl) (fun _ _ _ h => h) (Or.inl ⟨by rfl, ?_⟩) (by assumption) ?_
    rotate_left
    · ((intro w hSw); (try dsimp only at hSw); go_simp; (try with_reducible rfl))
    try simp only [Act.put, List.setIfInBounds_toArray, List.set_cons_zero, List.set_cons_succ]
    refine wpAnyH_take (i := 1) (oi := { dst := some 136, op := Op.move (Operand.tmp 0), type := 28, pos := _, after := #[], guard := none }) (v := ?_) rfl (by kernel_rfl) (by kernel_rfl) (by kernel_rfl) (fun _ _ _ h => h) (Or.inl ⟨by rfl, ?_⟩) (by assumption) ?_
    rotate_left
    · ((intro w hSw); (try dsimp only at hSw); go_simp; (try with_reducible rfl))
    try simp only [Act.put, List.setIfInBounds_toArray, List.set_cons_zero, List.set_cons_succ]
    refine wpAnyH_take (i := 2) (oi := { dst := some 137, op := Op.move (Operand.tmp 3), type := 28, pos := _, after := #[], guard := none }) (v := ?_) rfl (by kernel_rfl) (by kernel_rfl) (by kernel_rfl) (fun _ _ _ h => h) (Or.inl ⟨by rfl, ?_⟩) (by assumption) ?_
    rotate_left
    · ((intro w hSw); (try dsimp only at hSw); go_simp; (try with_reducible rfl))
    try simp only [Act.put, List.setIfInBounds_toArray, List.set_cons_zero, List.set_cons_succ]
    refine wpAnyH_take (i := 3) (oi := { dst := some 138, op := Op.binOp BinOp.add 28 (Operand.tmp 136) (Operand.tmp 137) 28, type := 28, pos := _, after := #[{ on := 1, ground := Ground.data }, { on := 2, ground := Ground.data }], guard := none }) (v := ?_) rfl (by kernel_rfl) (by kernel_rfl) (by kernel_rfl) (fun _ _ _ h => h) (Or.inl ⟨by rfl, ?_⟩) (by assumption) ?_
    rotate_left
    · ((intro w hSw); (try dsimp only at hSw); go_simp; (try with_reducible rfl))
    try simp only [Act.put, List.setIfInBounds_toArray, List.set_cons_zero, List.set_cons_succ]
    refine wpAnyH_take (i := 4) (oi := { dst := some 139, op := Op.move (Operand.tmp 5), type := 34, pos := _, after := #[], guard := none }) (v := ?_) rfl (by kernel_rfl) (by kernel_rfl) (by kernel_rfl) (fun _ _ _ h => h) (Or.inl ⟨by rfl, ?_⟩) (by assumption) ?_
    rotate_left
    · ((intro w hSw); (try dsimp only at hSw); go_simp; (try with_reducible rfl))
    try simp only [Act.put, List.setIfInBounds_toArray, List.set_cons_zero, List.set_cons_succ]
    refine wpAnyH_ready (rs := [5]) (by kernel_rfl) (by simp) ?_
    refine (AllReadyH.cons (o := { dst := some 140, op := Op.call { callee := Callee.value (Operand.func 17), args := #[Operand.tmp 135, Operand.tmp 138, Operand.tmp 139], argTypes := #[24, 28, 34] }, type := 32, pos := _, after := #[{ on := 0, ground := Ground.data }, { on := 3, ground := Ground.data }, { on := 4, ground := Ground.data }], guard := none }) rfl (fun K hK => ?_) AllReadyH.nil)
    go_simp
    (refine (CU.out _ _ _ hD15 (HT.out.then_ hW15)).mono ?_; rintro e v5 ⟨rfl, hD16, f16⟩; have hX16 := hX15.fr hD15 f16; have hW16 := f16.below hW15 yp yq)
    go_wp2_with fail
    refine hK.out _ _ ?_ (fun hHeld => ?_)
    · ((try dsimp only); exact ⟨hX16.a.c0, hX16.a.c1, hX16.b.c0, hX16.b.c1⟩)
    clear hK K
    try simp only [Act.put, List.setIfInBounds_toArray, List.set_cons_zero, List.set_cons_succ]
    refine wpAnyH_take (i := 6) (oi := { dst := some 141, op := Op.binOp BinOp.neq 32 (Operand.tmp 140) (Operand.const (Value.int IntKind.i64 0)) 32, type := 4, pos := _, after := #[{ on := 5, ground := Ground.data }], guard := none }) (v := ?_) rfl (by kernel_rfl) (by kernel_rfl) (by kernel_rfl) (fun _ _ _ h => h) (Or.inl ⟨by rfl, ?_⟩) (by assumption) ?_
    rotate_left
    · ((intro w hSw); (try dsimp only at hSw); go_simp; (try with_reducible rfl))
    try simp only [Act.put, List.setIfInBounds_toArray, List.set_cons_zero, List.set_cons_succ]
    refine wpAnyH_take (i := 7) (oi := { dst := some 142, op := Op.move (Operand.tmp 141), type := 4, pos := _, after := #[{ on := 6, ground := Ground.data }, { on := 5, ground := Ground.chain }], guard := none }) (v := ?_) rfl (by kernel_rfl) (by kernel_rfl) (by kernel_rfl) (fun _ _ _ h => h) (Or.inl ⟨by rfl, ?_⟩) (by assumption) ?_
    rotate_left
    · ((intro w hSw); (try dsimp only at hSw); go_simp; (try with_reducible rfl))
    try simp only [Act.put, List.setIfInBounds_toArray, List.set_cons_zero, List.set_cons_succ]
    refine wpAnyH_take (i := 8) (oi := { dst := some 143, op := Op.move (Operand.tmp 13), type := 24, pos := _, after := #[{ on := 7, ground := Ground.guard }], guard := some (7, false) }) (v := ?_) rfl (by kernel_rfl) (by kernel_rfl) (by kernel_rfl) (fun _ _ _ h => h) (Or.inl ⟨by rfl, ?_⟩) (by assumption) ?_
    rotate_left
    · ((intro w hSw); (try dsimp only at hSw); go_simp; (try with_reducible rfl))
    try simp only [Act.put, List.setIfInBounds_toArray, List.set_cons_zero, List.set_cons_succ]
    refine wpAnyH_take (i := 10) (oi := { dst := some 145, op := Op.load 30 (Operand.tmp 16), type := 30, pos := _, after := #[{ on := 7, ground := Ground.guard }], guard := some (7, false) }) (v := ?_) rfl (by kernel_rfl) (by kernel_rfl) (by kernel_rfl) (fun _ _ _ h => h) (Or.inl ⟨by rfl, ?_⟩) (by assumption) ?_
    rotate_left
    · ((intro w hSw); (try dsimp only at hSw); go_simp; (try with_reducible rfl))
    try simp only [Act.put, List.setIfInBounds_toArray, List.set_cons_zero, List.set_cons_succ]
    refine wpAnyH_ready (rs := [9]) (by kernel_rfl) (by simp) ?_
    refine (AllReadyH.cons (o := { dst := some 144, op := Op.call { callee := Callee.value (Operand.func 11), args := #[Operand.tmp 143], argTypes := #[24] }, type := 30, pos := _, after := #[{ on := 8, ground := Ground.data }, { on := 7, ground := Ground.chain }, { on := 7, ground := Ground.guard }], guard := some (7, false) }) rfl (fun K hK => ?_) AllReadyH.nil)
    go_simp
    (refine (rateC hD16).mono ?_; rintro e v6 ⟨rfl, f17⟩; have hD17 := hD16.then_ f17; have hX17 := hX16.then_ f17; have hW17 := below_next hW16 f17)
    go_wp2_with fail
    refine hK.out _ _ ?_ (fun hHeld => ?_)
    · ((try dsimp only); exact ⟨hX17.a.c0, hX17.a.c1, hX17.b.c0, hX17.b.c1⟩)
    clear hK K
    try simp only [Act.put, List.setIfInBounds_toArray, List.set_cons_zero, List.set_cons_succ]
    refine wpAnyH_take (i := 11) (oi := { dst := some 146, op := Op.binOp BinOp.neq 30 (Operand.tmp 144) (Operand.tmp 145) 30, type := 4, pos := _, after := #[{ on := 9, ground := Ground.data }, { on := 10, ground := Ground.data }, { on := 7, ground := Ground.guard }], guard := some (7, false) }) (v := ?_) rfl (by kernel_rfl) (by kernel_rfl) (by kernel_rfl) (fun _ _ _ h => h) (Or.inl ⟨by rfl, ?_⟩) (by assumption) ?_
    rotate_left
    · ((intro w hSw); (try dsimp only at hSw); go_simp; (try with_reducible rfl))
    try simp only [Act.put, List.setIfInBounds_toArray, List.set_cons_zero, List.set_cons_succ]
    refine wpAnyH_take (i := 12) (oi := { dst := some 147, op := Op.pick (Operand.tmp 142) (Operand.const (Value.bool true)) (Operand.tmp 146), type := 4, pos := _, after := #[{ on := 7, ground := Ground.data }, { on := 11, ground := Ground.data }], guard := none }) (v := ?_) rfl (by kernel_rfl) (by kernel_rfl) (by kernel_rfl) (fun _ _ _ h => h) (Or.inl ⟨by rfl, ?_⟩) (by assumption) ?_
    rotate_left
    · ((intro w hSw); (try dsimp only at hSw); go_simp; (try with_reducible rfl))
    try simp only [Act.put, List.setIfInBounds_toArray, List.set_cons_zero, List.set_cons_succ]
    refine wpAnyH_done (by kernel_rfl) ?_ _
    skip
    have hX18 := hX17.drew_
    have hD18 := Dl.drew_ hD17
    have hW18 : Below w.heap.size w v6.drew := hW17.drew
    clear hX15 hD15 hW15 f16 hX16 hD16 hW16 f17 hX17 hD17 hW17 hHeld
    go_wp2_with fail
    refine wp_region_held_drew (S := (fun W => W.cell? ⟨B, 0, none⟩ = some (.int .u64 (n : Int)) ∧ W.cell? ⟨B, 1, none⟩ = some (.int .u64 (d : Int)) ∧ W.cell? ⟨C, 0, none⟩ = some (.int .u64 (m : Int)) ∧ W.cell? ⟨C, 1, none⟩ = some (.int .u64 (k : Int)))) (by kernel_rfl) ?_ (fun hHeld => ?_)
    · ((try dsimp only); exact ⟨hX18.a.c0, hX18.a.c1, hX18.b.c0, hX18.b.c1⟩)
    refine wpAnyH_take (i := 0) (oi := { dst := some 149, op := Op.move (Operand.tmp 3), type := 28, pos := _, after := #[], guard := none }) (v := ?_) rfl (by kernel_rfl) (by kernel_rfl) (by kernel_rfl) (fun _ _ _ h => h) (Or.inl ⟨by rfl, ?_⟩) (by assumption) ?_
    rotate_left
    · ((intro w hSw); (try dsimp only at hSw); go_simp; (try with_reducible rfl))
    try simp only [Act.put, List.setIfInBounds_toArray, List.set_cons_zero, List.set_cons_succ]
    refine wpAnyH_take (i := 1) (oi := { dst := some 150, op := Op.move (Operand.tmp 19), type := 28, pos := _, after := #[], guard := none }) (v := ?_) rfl (by kernel_rfl) (by kernel_rfl) (by kernel_rfl) (fun _ _ _ h => h) (Or.inl ⟨by rfl, ?_⟩) (by assumption) ?_
    rotate_left
    · ((intro w hSw); (try dsimp only at hSw); go_simp; (try with_reducible rfl))
    try simp only [Act.put, List.setIfInBounds_toArray, List.set_cons_zero, List.set_cons_succ]
    refine wpAnyH_take (i := 2) (oi := { dst := some 151, op := Op.fieldAddr 30 (Operand.tmp 16) 1, type := 0, pos := _, after := #[], guard := none }) (v := ?_) rfl (by kernel_rfl) (by kernel_rfl) (by kernel_rfl) (fun _ _ _ h => h) (Or.inl ⟨by rfl, ?_⟩) (by assumption) ?_
    rotate_left
    · ((intro w hSw); (try dsimp only at hSw); go_simp; (try with_reducible rfl))
    try simp only [Act.put, List.setIfInBounds_toArray, List.set_cons_zero, List.set_cons_succ]
    refine wpAnyH_take (i := 3) (oi := { dst := some 152, op := Op.load 28 (Operand.tmp 151), type := 28, pos := _, after := #[{ on := 2, ground := Ground.data }], guard := none }) (v := ?_) rfl (by kernel_rfl) (by kernel_rfl) (by kernel_rfl) (fun _ _ _ h => h) (Or.inl ⟨by rfl, ?_⟩) (by assumption) ?_
    rotate_left
    · ((intro w hSw); (try dsimp only at hSw); go_simp; (try with_reducible rfl))
    try simp only [Act.put, List.setIfInBounds_toArray, List.set_cons_zero, List.set_cons_succ]
    refine wpAnyH_take (i := 4) (oi := { dst := some 153, op := Op.binOp BinOp.mul 28 (Operand.tmp 150) (Operand.tmp 152) 28, type := 28, pos := _, after := #[{ on := 1, ground := Ground.data }, { on := 3, ground := Ground.data }], guard := none }) (v := ?_) rfl (by kernel_rfl) (by kernel_rfl) (by kernel_rfl) (fun _ _ _ h => h) (Or.inl ⟨by rfl, ?_⟩) (by assumption) ?_
    rotate_left
    · ((intro w hSw); (try dsimp only at hSw); go_simp; (try with_reducible rfl))
    try simp only [Act.put, List.setIfInBounds_toArray, List.set_cons_zero, List.set_cons_succ]
    refine wpAnyH_take (i := 5) (oi := { dst := some 154, op := Op.fieldAddr 30 (Operand.tmp 14) 1, type := 0, pos := _, after := #[], guard := none }) (v := ?_) rfl (by kernel_rfl) (by kernel_rfl) (by kernel_rfl) (fun _ _ _ h => h) (Or.inl ⟨by rfl, ?_⟩) (by assumption) ?_
    rotate_left
    · ((intro w hSw); (try dsimp only at hSw); go_simp; (try with_reducible rfl))
    try simp only [Act.put, List.setIfInBounds_toArray, List.set_cons_zero, List.set_cons_succ]
    refine wpAnyH_take (i := 6) (oi := { dst := some 155, op := Op.load 28 (Operand.tmp 154), type := 28, pos := _, after := #[{ on := 5, ground := Ground.data }], guard := none }) (v := ?_) rfl (by kernel_rfl) (by kernel_rfl) (by kernel_rfl) (fun _ _ _ h => h) (Or.inl ⟨by rfl, ?_⟩) (by assumption) ?_
    rotate_left
    · ((intro w hSw); (try dsimp only at hSw); go_simp; (try with_reducible rfl))
    try simp only [Act.put, List.setIfInBounds_toArray, List.set_cons_zero, List.set_cons_succ]
    refine wpAnyH_take (i := 7) (oi := { dst := some 156, op := Op.binOp BinOp.quo 28 (Operand.tmp 153) (Operand.tmp 155) 28, type := 28, pos := _, after := #[{ on := 4, ground := Ground.data }, { on := 6, ground := Ground.data }], guard := none }) (v := ?_) rfl (by kernel_rfl) (by kernel_rfl) (by kernel_rfl) (fun _ _ _ h => h) (Or.inl ⟨by rfl, ?_⟩) (by assumption) ?_
    rotate_left
    · ((intro w hSw); (try dsimp only at hSw); go_simp; (try with_reducible rfl))
    try simp only [Act.put, List.setIfInBounds_toArray, List.set_cons_zero, List.set_cons_succ]
    refine wpAnyH_take (i := 8) (oi := { dst := some 157, op := Op.load 30 (Operand.tmp 16), type := 30, pos := _, after := #[], guard := none }) (v := ?_) rfl (by kernel_rfl) (by kernel_rfl) (by kernel_rfl) (fun _ _ _ h => h) (Or.inl ⟨by rfl, ?_⟩) (by assumption) ?_
    rotate_left
    · ((intro w hSw); (try dsimp only at hSw); go_simp; (try with_reducible rfl))
    try simp only [Act.put, List.setIfInBounds_toArray, List.set_cons_zero, List.set_cons_succ]
    refine wpAnyH_ready (rs := [9]) (by kernel_rfl) (by simp) ?_
    refine (AllReadyH.cons (o := { dst := some 158, op := Op.call { callee := Callee.value (Operand.func 22), args := #[Operand.tmp 149, Operand.tmp 156, Operand.tmp 157], argTypes := #[28, 28, 30] }, type := 57, pos := _, after := #[{ on := 0, ground := Ground.data }, { on := 7, ground := Ground.data }, { on := 8, ground := Ground.data }], guard := none }) rfl (fun K hK => ?_) AllReadyH.nil)
    go_simp
    (refine (CV.out _).mono ?_; rintro e v7 ⟨rfl, f19⟩; have hD19 := hD18.then_ f19; have hX19 := hX18.then_ f19; have hW19 := below_next hW18 f19)
    go_wp2_with fail
    refine hK.out _ _ ?_ (fun hHeld => ?_)
    · ((try dsimp only); exact ⟨hX19.a.c0, hX19.a.c1, hX19.b.c0, hX19.b.c1⟩)
    clear hK K
    try simp only [Act.put, List.setIfInBounds_toArray, List.set_cons_zero, List.set_cons_succ]
    refine wpAnyH_take (i := 10) (oi := { dst := some 148, op := Op.move (Operand.tmp 158), type := 57, pos := _, after := #[{ on := 9, ground := Ground.data }], guard := none }) (v := ?_) rfl (by kernel_rfl) (by kernel_rfl) (by kernel_rfl) (fun _ _ _ h => h) (Or.inl ⟨by rfl, ?_⟩) (by assumption) ?_
    rotate_left
    · ((intro w hSw); (try dsimp only at hSw); go_simp; (try with_reducible rfl))
    try simp only [Act.put, List.setIfInBounds_toArray, List.set_cons_zero, List.set_cons_succ]
    refine wpAnyH_take (i := 11) (oi := { dst := some 159, op := Op.extract (Operand.tmp 148) 0, type := 28, pos := _, after := #[{ on := 10, ground := Ground.data }], guard := none }) (v := ?_) rfl (by kernel_rfl) (by kernel_rfl) (by kernel_rfl) (fun _ _ _ h => h) (Or.inl ⟨by rfl, ?_⟩) (by assumption) ?_
    rotate_left
    · ((intro w hSw); (try dsimp only at hSw); go_simp; (try with_reducible rfl))
    try simp only [Act.put, List.setIfInBounds_toArray, List.set_cons_zero, List.set_cons_succ]
    refine wpAnyH_take (i := 12) (oi := { dst := some 160, op := Op.extract (Operand.tmp 148) 1, type := 28, pos := _, after := #[{ on := 10, ground := Ground.data }, { on := 14, ground := Ground.gcOnly Departure.lateStores }], guard := none }) (v := ?_) rfl (by kernel_rfl) (by kernel_rfl) (by kernel_rfl) (fun _ _ _ h => h) (Or.inl ⟨by rfl, ?_⟩) (by assumption) ?_
    rotate_left
    · ((intro w hSw); (try dsimp only at hSw); go_simp; (try with_reducible rfl))
    try simp only [Act.put, List.setIfInBounds_toArray, List.set_cons_zero, List.set_cons_succ]
    refine wpAnyH_take (i := 13) (oi := { dst := some 161, op := Op.extract (Operand.tmp 148) 2, type := 32, pos := _, after := #[{ on := 10, ground := Ground.data }, { on := 15, ground := Ground.gcOnly Departure.lateStores }], guard := none }) (v := ?_) rfl (by kernel_rfl) (by kernel_rfl) (by kernel_rfl) (fun _ _ _ h => h) (Or.inl ⟨by rfl, ?_⟩) (by assumption) ?_
    rotate_left
    · ((intro w hSw); (try dsimp only at hSw); go_simp; (try with_reducible rfl))
    try simp only [Act.put, List.setIfInBounds_toArray, List.set_cons_zero, List.set_cons_succ]
    refine wpAnyH_take (i := 14) (oi := { dst := some 21, op := Op.assign (Operand.tmp 159), type := 28, pos := _, after := #[{ on := 11, ground := Ground.data }, { on := 9, ground := Ground.chain }, { on := 0, ground := Ground.phase }, { on := 1, ground := Ground.phase }, { on := 2, ground := Ground.phase }, { on := 3, ground := Ground.phase }, { on := 4, ground := Ground.phase }, { on := 5, ground := Ground.phase }, { on := 6, ground := Ground.phase }, { on := 7, ground := Ground.phase }, { on := 8, ground := Ground.phase }, { on := 9, ground := Ground.phase }, { on := 10, ground := Ground.phase }, { on := 11, ground := Ground.phase }, { on := 12, ground := Ground.textOnly Departure.lateStores }, { on := 13, ground := Ground.textOnly Departure.lateStores }], guard := none }) (v := ?_) rfl (by kernel_rfl) (by kernel_rfl) (by kernel_rfl) (fun _ _ _ h => h) (Or.inl ⟨by rfl, ?_⟩) (by assumption) ?_
    rotate_left
    · ((intro w hSw); (try dsimp only at hSw); go_simp; (try with_reducible rfl))
    try simp only [Act.put, List.setIfInBounds_toArray, List.set_cons_zero, List.set_cons_succ]
    refine wpAnyH_take (i := 15) (oi := { dst := some 22, op := Op.assign (Operand.tmp 160), type := 28, pos := _, after := #[{ on := 12, ground := Ground.data }, { on := 14, ground := Ground.chain }, { on := 0, ground := Ground.phase }, { on := 1, ground := Ground.phase }, { on := 2, ground := Ground.phase }, { on := 3, ground := Ground.phase }, { on := 4, ground := Ground.phase }, { on := 5, ground := Ground.phase }, { on := 6, ground := Ground.phase }, { on := 7, ground := Ground.phase }, { on := 8, ground := Ground.phase }, { on := 9, ground := Ground.phase }, { on := 10, ground := Ground.phase }, { on := 11, ground := Ground.phase }, { on := 12, ground := Ground.phase }, { on := 13, ground := Ground.textOnly Departure.lateStores }, { on := 14, ground := Ground.phase }], guard := none }) (v := ?_) rfl (by kernel_rfl) (by kernel_rfl) (by kernel_rfl) (fun _ _ _ h => h) (Or.inl ⟨by rfl, ?_⟩) (by assumption) ?_
    rotate_left
    · ((intro w hSw); (try dsimp only at hSw); go_simp; (try with_reducible rfl))
    try simp only [Act.put, List.setIfInBounds_toArray, List.set_cons_zero, List.set_cons_succ]
    refine wpAnyH_take (i := 16) (oi := { dst := some 23, op := Op.assign (Operand.tmp 161), type := 32, pos := _, after := #[{ on := 13, ground := Ground.data }, { on := 15, ground := Ground.chain }, { on := 0, ground := Ground.phase }, { on := 1, ground := Ground.phase }, { on := 2, ground := Ground.phase }, { on := 3, ground := Ground.phase }, { on := 4, ground := Ground.phase }, { on := 5, ground := Ground.phase }, { on := 6, ground := Ground.phase }, { on := 7, ground := Ground.phase }, { on := 8, ground := Ground.phase }, { on := 9, ground := Ground.phase }, { on := 10, ground := Ground.phase }, { on := 11, ground := Ground.phase }, { on := 12, ground := Ground.phase }, { on := 13, ground := Ground.phase }, { on := 14, ground := Ground.phase }, { on := 15, ground := Ground.phase }], guard := none }) (v := ?_) rfl (by kernel_rfl) (by kernel_rfl) (by kernel_rfl) (fun _ _ _ h => h) (Or.inl ⟨by rfl, ?_⟩) (by assumption) ?_
    rotate_left
    · ((intro w hSw); (try dsimp only at hSw); go_simp; (try with_reducible rfl))
    try simp only [Act.put, List.setIfInBounds_toArray, List.set_cons_zero, List.set_cons_succ]
    refine wpAnyH_done (by kernel_rfl) ?_ _
    skip
    clear hX18 hD18 hW18 hHeld
    go_wp2_with fail
    refine (CX.out _ _ _ hD19).mono ?_
    rintro e w20 ⟨rfl, hD20, hf⟩
    have hW20 := hf.below hW19 yp yq
    clear hf hD19 hW19 hX19
    go_wp2_with fail
    refine (HF.out _ (HT.out.then_ hW20)).mono ?_
    rintro e w21 ⟨rfl, hb21⟩
    have hD21 := hD20.then_ hb21
    have hW21 := below_next hW20 hb21
    rcases hlast with ⟨hmin, HLP⟩ | ⟨hmin, HLP⟩
    all_goals
      go_wp2_with fail
      refine (posC hD21).mono ?_
      rw [HLP.out]
      rintro e w22 ⟨rfl, rfl⟩
      go_wp2
      go_ret
      exact ⟨rfl, hW21⟩
  all_goals
    have HM4 := Lib.hid hm4
    have HP4 := Lib.hid hp4
    first
      | (have g1 : (hi : Int) < (F : Int) := by omega
         have g2 : decide ((hi : Int) ≤ (F : Int)) = true := decide_eq_true (by omega)
         have g3 : decide (hi ≤ F) = true := decide_eq_true (by omega))
      | skip
    clear hm4 hp4
    go_wp2_with fail
    refine (posC hD13).mono ?_
    rw [HP4.out]
    rintro e w14 ⟨rfl, rfl⟩
    go_wp2_with fail
    refine (modeC hD13).mono ?_
    rw [HM4.out]
    rintro e w14 ⟨rfl, rfl⟩
    go_wp2_with fail
    refine (modeC hD13).mono ?_
    rw [HM4.out]
    rintro e w14 ⟨rfl, rfl⟩
    go_wp2_with fail
    refine (HF.out _ (HT.out.then_ hW13)).mono ?_
    rintro e w15 ⟨rfl, hb15⟩
    go_wp2
    go_ret
    exact ⟨rfl, below_next hW13 hb15⟩
theorem walkT (now hi x more : Int) (y z : Nat) (W : World) (w0 : (Lit.int .u64 now).wf = true) (w1 : (Lit.int .u64 hi).wf = true) (w2 : (Lit.int .u64 x).wf = true) (w3 : (Lit.int .u64 more).wf = true) (w4 : (Lit.float .f64 y).wf = true) (w5 : (Lit.float .f64 z).wf = true)
    (hT : Lib.TabIs Tryd.prog W "math/bits.deBruijn64tab" .u8 [0, 1, 56, 2, 57, 49, 28, 3, 61, 58, 42, 50, 38, 29, 17, 4, 62, 47, 59, 36, 45, 43, 51, 22, 53, 39, 33, 30, 24, 18, 12, 5, 63, 55, 48, 27, 60, 41, 37, 16, 46, 35, 44, 21, 52, 32, 23, 11, 54, 26, 40, 15, 34, 20, 31, 10, 25, 14, 19, 9, 13, 8, 7, 6]) :
    Calls Tryd.prog 6 #[.int .u64 now, .int .u64 hi, .int .u64 x, .int .u64 more, .float .f64 y, .float .f64 z] W fun e w' => e = .returned (.bool true) ∧ Below W.heap.size W w' := by
  have hT' := DkTab.tabZ hT
  obtain ⟨now, rfl⟩ := Int.eq_ofNat_of_zero_le (AirW.in64 w0).1
  obtain ⟨hi, rfl⟩ := Int.eq_ofNat_of_zero_le (AirW.in64 w1).1
  obtain ⟨x, rfl⟩ := Int.eq_ofNat_of_zero_le (AirW.in64 w2).1
  obtain ⟨more, rfl⟩ := Int.eq_ofNat_of_zero_le (AirW.in64 w3).1
  by_cases h : (ofN y).2.2 = 0 ∧ (ofN z).2.2 = 0 ∧ hi ≤ 1099511627776 ∧ now ≤ 1099511627776 ∧ more ≤ 1073741824 ∧ x ≤ hi
  · exact main now hi x more y z W hT' (inF w4) (inF w5) h.1 h.2.1 h.2.2.1 h.2.2.2.1 h.2.2.2.2.1 h.2.2.2.2.2
  · refine out now hi x more y z W hT' (inF w4) (inF w5) _ _ _ _ _ _ rfl rfl rfl rfl rfl rfl ?_
    simp only [Bool.or_eq_true, decide_eq_true_eq, bne_iff_ne, ne_eq]
    omega
end Go.Proofs.YtkogmjbiedpbnaaDoor.RatesW
