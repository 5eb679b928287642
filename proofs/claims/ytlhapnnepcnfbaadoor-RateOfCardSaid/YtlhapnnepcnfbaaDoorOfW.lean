/- tiklaw1.RateOf: the walk. -/
import Derived.Test.YtlhapnnepcnfbaaDoorOfD
import Derived.Test.YtlhapnnepcnfbaaDoorScales
import Derived.Test.YtlhapnnepcnfbaaDoorOrder
set_option linter.unusedVariables false
namespace Go.Proofs.YtlhapnnepcnfbaaDoor.OfW
open Go Go.RowKit Kit Nums Rate0 Rate1 RateFirst Scale Scale2 Scales Steps Tz OfA OfB OfR OfD

theorem below_next {w W W1 : World} (h : Below w.heap.size w W) (k : Below W.heap.size W W1) : Below w.heap.size w W1 := below_then h k h.size
theorem below_al {w W : World} {o : Obj} (h : Below w.heap.size w W) : Below w.heap.size w (W.alloc o) := h.alloc h.size _
theorem new_cell {w : World} {a b : Int} {T : TypeId} : (w.alloc (.cells #[.int .u64 a, .int .u64 b] T)).cell? ⟨w.heap.size, 0, none⟩ = some (.int .u64 a) ∧ (w.alloc (.cells #[.int .u64 a, .int .u64 b] T)).cell? ⟨w.heap.size, 1, none⟩ = some (.int .u64 b) :=
  ⟨by rw [World.cell?_alloc_new]; rfl, by rw [World.cell?_alloc_new]; rfl⟩
set_option maxRecDepth 100000 in
set_option maxHeartbeats 8000000 in
theorem walk (b : Int) (x y : Nat) (w : World) (hb : In64 b) (hx : In64 x) (hy : In64 y) (hTZ : TabZ w) (hT : w.cell? ⟨4, 58, none⟩ = some (.int .u8 19)) :
    Calls Tryd.prog 3 #[.int .u64 b, .float .f64 x, .float .f64 y] w fun e w' => e = .returned (.bool true) ∧ Below w.heap.size w w' := by
  obtain ⟨A, hA⟩ : ∃ A, (oneN b).toNat = A := ⟨_, rfl⟩
  have hA64 : In64 (A : Int) := by obtain ⟨h0, h1⟩ := oneN_in hb; exact ⟨by omega, by omega⟩
  obtain ⟨A2, hA2⟩ : ∃ A2, oneN (A : Int) = A2 := ⟨_, rfl⟩
  obtain ⟨X, hX⟩ : ∃ X, oneN (x : Int) = X := ⟨_, rfl⟩
  obtain ⟨O, hO⟩ : ∃ O, ordZ (rankZ (x : Int)) (rankZ (y : Int)) = O := ⟨_, rfl⟩
  have hO2 : ordZ (rrankZ (x : Int)) (rrankZ (y : Int)) = O := by rw [← ord_same hx hy]; exact hO
  have C1 := Lib.hid (fun w (h : TabZ w) => ofC A w hA64 h)
  have C2 := Lib.hid (fun w => ofR A w hA64)
  have C3 := Lib.hid (fun w (h : TabZ w) => ofC x w hx h)
  have C4 := Lib.hid (fun w => ofR x w hx)
  unfold OfP at C1 C2 C3 C4
  generalize ofN A = P at *
  generalize ofN x = Q at *
  have hp : (P.2.2 == P.2.2) = true := by simp
  have hq : (Q.2.2 == Q.2.2) = true := by simp
  have hAA : (A2 == A2) = true := by simp
  have hXX : (X == X) = true := by simp
  have hOO : (O == O) = true := by simp
  have HA := Lib.hid hA64
  go_enter Tryd.func3, Tryd.ntmps3
  go_wp2_with fail
  refine (first _ hT).mono ?_
  rintro e w1 ⟨rfl, hb1⟩
  have ht1 := hTZ.then_ hb1
  go_wp2_with fail
  refine (fromC b _ hb).mono ?_
  rw [hA]
  rintro e w2 ⟨rfl, rfl⟩
  go_wp2_with fail
  refine (C1.out _ ht1).mono ?_
  rintro e w2 ⟨rfl, hb2⟩
  have hb2' := below_next hb1 hb2
  clear hb2
  go_wp2_with fail
  obtain ⟨a0, a1⟩ := new_cell (w := w2) (a := P.1) (b := P.2.1) (T := 26)
  have hb3 : Below w.heap.size w (w2.alloc (.cells #[.int .u64 (P.1 : Int), .int .u64 (P.2.1 : Int)] 26)) := below_al hb2'
  generalize w2.alloc (.cells #[.int .u64 (P.1 : Int), .int .u64 (P.2.1 : Int)] 26) = w3 at *
  generalize w2.heap.size = B1 at *
  refine (rFrom b _ hb).mono ?_
  rw [hA]
  rintro e w4 ⟨rfl, rfl⟩
  go_wp2_with fail
  refine (C2.out _).mono ?_
  rintro e w4 ⟨rfl, hb4⟩
  replace a0 := cell_then hb4 (Nat.le_refl _) a0
  replace a1 := cell_then hb4 (Nat.le_refl _) a1
  replace hb4 := below_next hb3 hb4
  clear hb3 hb2'
  go_wp2_with fail
  obtain ⟨c0, c1⟩ := new_cell (w := w4) (a := P.1) (b := P.2.1) (T := 31)
  have hb5 : Below w.heap.size w (w4.alloc (.cells #[.int .u64 (P.1 : Int), .int .u64 (P.2.1 : Int)] 31)) := below_al hb4
  replace a0 := past_alloc (o := .cells #[.int .u64 (P.1 : Int), .int .u64 (P.2.1 : Int)] 31) a0
  replace a1 := past_alloc (o := .cells #[.int .u64 (P.1 : Int), .int .u64 (P.2.1 : Int)] 31) a1
  generalize w4.alloc (.cells #[.int .u64 (P.1 : Int), .int .u64 (P.2.1 : Int)] 31) = w5 at *
  generalize w4.heap.size = B2 at *
  refine (C3.out _ (hTZ.then_ hb5)).mono ?_
  rintro e w6 ⟨rfl, hb6⟩
  replace a0 := cell_then hb6 (Nat.le_refl _) a0
  replace a1 := cell_then hb6 (Nat.le_refl _) a1
  replace c0 := cell_then hb6 (Nat.le_refl _) c0
  replace c1 := cell_then hb6 (Nat.le_refl _) c1
  replace hb6 := below_next hb5 hb6
  clear hb5 hb4
  go_wp2_with fail
  obtain ⟨d0, d1⟩ := new_cell (w := w6) (a := Q.1) (b := Q.2.1) (T := 26)
  have hb7 : Below w.heap.size w (w6.alloc (.cells #[.int .u64 (Q.1 : Int), .int .u64 (Q.2.1 : Int)] 26)) := below_al hb6
  replace a0 := past_alloc (o := .cells #[.int .u64 (Q.1 : Int), .int .u64 (Q.2.1 : Int)] 26) a0
  replace a1 := past_alloc (o := .cells #[.int .u64 (Q.1 : Int), .int .u64 (Q.2.1 : Int)] 26) a1
  replace c0 := past_alloc (o := .cells #[.int .u64 (Q.1 : Int), .int .u64 (Q.2.1 : Int)] 26) c0
  replace c1 := past_alloc (o := .cells #[.int .u64 (Q.1 : Int), .int .u64 (Q.2.1 : Int)] 26) c1
  generalize w6.alloc (.cells #[.int .u64 (Q.1 : Int), .int .u64 (Q.2.1 : Int)] 26) = w7 at *
  generalize w6.heap.size = B3 at *
  refine (C4.out _).mono ?_
  rintro e w8 ⟨rfl, hb8⟩
  replace a0 := cell_then hb8 (Nat.le_refl _) a0
  replace a1 := cell_then hb8 (Nat.le_refl _) a1
  replace c0 := cell_then hb8 (Nat.le_refl _) c0
  replace c1 := cell_then hb8 (Nat.le_refl _) c1
  replace d0 := cell_then hb8 (Nat.le_refl _) d0
  replace d1 := cell_then hb8 (Nat.le_refl _) d1
  replace hb8 := below_next hb7 hb8
  clear hb7 hb6
  go_wp2_with fail
  obtain ⟨k6, k7⟩ := new_cell (w := w8) (a := Q.1) (b := Q.2.1) (T := 31)
  replace hb8 : Below w.heap.size w (w8.alloc (.cells #[.int .u64 (Q.1 : Int), .int .u64 (Q.2.1 : Int)] 31)) := below_al hb8
  have k0 := past_alloc (o := .cells #[.int .u64 (Q.1 : Int), .int .u64 (Q.2.1 : Int)] 31) a0
  have k1 := past_alloc (o := .cells #[.int .u64 (Q.1 : Int), .int .u64 (Q.2.1 : Int)] 31) a1
  have k2 := past_alloc (o := .cells #[.int .u64 (Q.1 : Int), .int .u64 (Q.2.1 : Int)] 31) c0
  have k3 := past_alloc (o := .cells #[.int .u64 (Q.1 : Int), .int .u64 (Q.2.1 : Int)] 31) c1
  have k4 := past_alloc (o := .cells #[.int .u64 (Q.1 : Int), .int .u64 (Q.2.1 : Int)] 31) d0
  have k5 := past_alloc (o := .cells #[.int .u64 (Q.1 : Int), .int .u64 (Q.2.1 : Int)] 31) d1
  clear a0 a1 c0 c1 d0 d1
  generalize w8.alloc (.cells #[.int .u64 (Q.1 : Int), .int .u64 (Q.2.1 : Int)] 31) = w9 at *
  generalize w8.heap.size = B4 at *
  clear w8
  have hT8 : w9.drew.cell? ⟨4, 58, none⟩ = some (.int .u8 19) := cell_then hb8 (Nat.le_refl _) hT
  clear C1 C2 C3 C4 ht1 hb1
  refine wp_region_held_drew (S := (fun W => W.cell? ⟨B1, 0, none⟩ = some (.int .u64 (P.1 : Int)) ∧ W.cell? ⟨B1, 1, none⟩ = some (.int .u64 (P.2.1 : Int)) ∧ W.cell? ⟨B2, 0, none⟩ = some (.int .u64 (P.1 : Int)) ∧ W.cell? ⟨B2, 1, none⟩ = some (.int .u64 (P.2.1 : Int)) ∧ W.cell? ⟨B3, 0, none⟩ = some (.int .u64 (Q.1 : Int)) ∧ W.cell? ⟨B3, 1, none⟩ = some (.int .u64 (Q.2.1 : Int)) ∧ W.cell? ⟨B4, 0, none⟩ = some (.int .u64 (Q.1 : Int)) ∧ W.cell? ⟨B4, 1, none⟩ = some (.int .u64 (Q.2.1 : Int)))) (by kernel_rfl) ?_ (fun hHeld => ?_)
  · ((try dsimp only); exact ⟨past_drew k0, past_drew k1, past_drew k2, past_drew k3, past_drew k4, past_drew k5, past_drew k6, past_drew k7⟩)
  refine wpAnyH_ready (rs := [0]) (by kernel_rfl) (by simp) ?_
  refine (AllReadyH.cons (o := { dst := some 39, op := Op.call { callee := Callee.value (Operand.func 15), args := #[], argTypes := #[] }, type := 4, pos := _, after := #[], guard := none }) rfl (fun K hK => ?_) AllReadyH.nil)
  go_simp
  (refine (first _ hT8).mono ?_; rintro e v1 ⟨rfl, g1⟩; have g1 : Below w9.heap.size w9 v1 := below_next (Below.refl _ _).drew g1)
  go_wp2_with fail
  refine hK.out _ _ ?_ (fun hHeld => ?_)
  · ((try dsimp only); exact ⟨cell_then g1 (Nat.le_refl _) k0, cell_then g1 (Nat.le_refl _) k1, cell_then g1 (Nat.le_refl _) k2, cell_then g1 (Nat.le_refl _) k3, cell_then g1 (Nat.le_refl _) k4, cell_then g1 (Nat.le_refl _) k5, cell_then g1 (Nat.le_refl _) k6, cell_then g1 (Nat.le_refl _) k7⟩)
  clear hK K
  try simp only [Act.put, List.setIfInBounds_toArray, List.set_cons_zero, List.set_cons_succ]
  refine wpAnyH_take (i := 1) (oi := { dst := some 40, op := Op.move (Operand.tmp 39), type := 4, pos := _, after := #[{ on := 0, ground := Ground.data }, { on := 0, ground := Ground.chain }], guard := none }) (v := ?_) rfl (by kernel_rfl) (by kernel_rfl) (by kernel_rfl) (fun _ _ _ h => h) (Or.inl ⟨by rfl, ?_⟩) (by assumption) ?_
  rotate_left
  · ((intro w hSw); (try dsimp only at hSw); go_simp; (try with_reducible rfl))
  try simp only [Act.put, List.setIfInBounds_toArray, List.set_cons_zero, List.set_cons_succ]
  refine wpAnyH_take (i := 2) (oi := { dst := some 41, op := Op.load 26 (Operand.tmp 7), type := 26, pos := _, after := #[{ on := 1, ground := Ground.guard }], guard := some (1, true) }) (v := ?_) rfl (by kernel_rfl) (by kernel_rfl) (by kernel_rfl) (fun _ _ _ h => h) (Or.inl ⟨by rfl, ?_⟩) (by assumption) ?_
  rotate_left
  · ((intro w hSw); (try dsimp only at hSw); go_simp; (try with_reducible rfl))
  try simp only [Act.put, List.setIfInBounds_toArray, List.set_cons_zero, List.set_cons_succ]
  refine wpAnyH_take (i := 4) (oi := { dst := some 43, op := Op.load 31 (Operand.tmp 9), type := 31, pos := _, after := #[{ on := 1, ground := Ground.guard }], guard := some (1, true) }) (v := ?_) rfl (by kernel_rfl) (by kernel_rfl) (by kernel_rfl) (fun _ _ _ h => h) (Or.inl ⟨by rfl, ?_⟩) (by assumption) ?_
  rotate_left
  · ((intro w hSw); (try dsimp only at hSw); go_simp; (try with_reducible rfl))
  try simp only [Act.put, List.setIfInBounds_toArray, List.set_cons_zero, List.set_cons_succ]
  refine wpAnyH_ready (rs := [3]) (by kernel_rfl) (by simp) ?_
  refine (AllReadyH.cons (o := { dst := some 42, op := Op.call { callee := Callee.value (Operand.func 20), args := #[Operand.tmp 41], argTypes := #[26] }, type := 31, pos := _, after := #[{ on := 2, ground := Ground.data }, { on := 1, ground := Ground.chain }, { on := 1, ground := Ground.guard }], guard := some (1, true) }) rfl (fun K hK => ?_) AllReadyH.nil)
  go_simp
  (refine (plainC _ _ v1).mono ?_; rintro e v2 ⟨rfl, g2⟩; replace g2 := below_next g1 g2)
  go_wp2_with fail
  refine hK.out _ _ ?_ (fun hHeld => ?_)
  · ((try dsimp only); exact ⟨cell_then g2 (Nat.le_refl _) k0, cell_then g2 (Nat.le_refl _) k1, cell_then g2 (Nat.le_refl _) k2, cell_then g2 (Nat.le_refl _) k3, cell_then g2 (Nat.le_refl _) k4, cell_then g2 (Nat.le_refl _) k5, cell_then g2 (Nat.le_refl _) k6, cell_then g2 (Nat.le_refl _) k7⟩)
  clear hK K
  try simp only [Act.put, List.setIfInBounds_toArray, List.set_cons_zero, List.set_cons_succ]
  refine wpAnyH_take (i := 5) (oi := { dst := some 44, op := Op.binOp BinOp.eql 31 (Operand.tmp 42) (Operand.tmp 43) 31, type := 4, pos := _, after := #[{ on := 3, ground := Ground.data }, { on := 4, ground := Ground.data }, { on := 1, ground := Ground.guard }], guard := some (1, true) }) (v := ?_) rfl (by kernel_rfl) (by kernel_rfl) (by kernel_rfl) (fun _ _ _ h => h) (Or.inl ⟨by rfl, ?_⟩) (by assumption) ?_
  rotate_left
  · ((intro w hSw); (try dsimp only at hSw); go_simp; (try with_reducible rfl))
  try simp only [Act.put, List.setIfInBounds_toArray, List.set_cons_zero, List.set_cons_succ]
  refine wpAnyH_take (i := 6) (oi := { dst := some 45, op := Op.pick (Operand.tmp 40) (Operand.tmp 44) (Operand.const (Value.bool false)), type := 4, pos := _, after := #[{ on := 1, ground := Ground.data }, { on := 5, ground := Ground.data }], guard := none }) (v := ?_) rfl (by kernel_rfl) (by kernel_rfl) (by kernel_rfl) (fun _ _ _ h => h) (Or.inl ⟨by rfl, ?_⟩) (by assumption) ?_
  rotate_left
  · ((intro w hSw); (try dsimp only at hSw); go_simp; (try with_reducible rfl))
  try simp only [Act.put, List.setIfInBounds_toArray, List.set_cons_zero, List.set_cons_succ]
  refine wpAnyH_take (i := 7) (oi := { dst := some 46, op := Op.move (Operand.tmp 45), type := 4, pos := _, after := #[{ on := 6, ground := Ground.data }, { on := 3, ground := Ground.chain }], guard := none }) (v := ?_) rfl (by kernel_rfl) (by kernel_rfl) (by kernel_rfl) (fun _ _ _ h => h) (Or.inl ⟨by rfl, ?_⟩) (by assumption) ?_
  rotate_left
  · ((intro w hSw); (try dsimp only at hSw); go_simp; (try with_reducible rfl))
  try simp only [Act.put, List.setIfInBounds_toArray, List.set_cons_zero, List.set_cons_succ]
  refine wpAnyH_take (i := 8) (oi := { dst := some 47, op := Op.move (Operand.tmp 8), type := 27, pos := _, after := #[{ on := 7, ground := Ground.guard }], guard := some (7, true) }) (v := ?_) rfl (by kernel_rfl) (by kernel_rfl) (by kernel_rfl) (fun _ _ _ h => h) (Or.inl ⟨by rfl, ?_⟩) (by assumption) ?_
  rotate_left
  · ((intro w hSw); (try dsimp only at hSw); go_simp; (try with_reducible rfl))
  try simp only [Act.put, List.setIfInBounds_toArray, List.set_cons_zero, List.set_cons_succ]
  refine wpAnyH_take (i := 9) (oi := { dst := some 48, op := Op.move (Operand.tmp 10), type := 27, pos := _, after := #[{ on := 7, ground := Ground.guard }], guard := some (7, true) }) (v := ?_) rfl (by kernel_rfl) (by kernel_rfl) (by kernel_rfl) (fun _ _ _ h => h) (Or.inl ⟨by rfl, ?_⟩) (by assumption) ?_
  rotate_left
  · ((intro w hSw); (try dsimp only at hSw); go_simp; (try with_reducible rfl))
  try simp only [Act.put, List.setIfInBounds_toArray, List.set_cons_zero, List.set_cons_succ]
  refine wpAnyH_take (i := 10) (oi := { dst := some 49, op := Op.binOp BinOp.eql 27 (Operand.tmp 47) (Operand.tmp 48) 27, type := 4, pos := _, after := #[{ on := 8, ground := Ground.data }, { on := 9, ground := Ground.data }, { on := 7, ground := Ground.guard }], guard := some (7, true) }) (v := ?_) rfl (by kernel_rfl) (by kernel_rfl) (by kernel_rfl) (fun _ _ _ h => h) (Or.inl ⟨by rfl, ?_⟩) (by assumption) ?_
  rotate_left
  · ((intro w hSw); (try dsimp only at hSw); go_simp; (try with_reducible rfl))
  try simp only [Act.put, List.setIfInBounds_toArray, List.set_cons_zero, List.set_cons_succ]
  refine wpAnyH_take (i := 11) (oi := { dst := some 50, op := Op.pick (Operand.tmp 46) (Operand.tmp 49) (Operand.const (Value.bool false)), type := 4, pos := _, after := #[{ on := 7, ground := Ground.data }, { on := 10, ground := Ground.data }], guard := none }) (v := ?_) rfl (by kernel_rfl) (by kernel_rfl) (by kernel_rfl) (fun _ _ _ h => h) (Or.inl ⟨by rfl, ?_⟩) (by assumption) ?_
  rotate_left
  · ((intro w hSw); (try dsimp only at hSw); go_simp; (try with_reducible rfl))
  try simp only [Act.put, List.setIfInBounds_toArray, List.set_cons_zero, List.set_cons_succ]
  refine wpAnyH_take (i := 12) (oi := { dst := some 51, op := Op.move (Operand.tmp 50), type := 4, pos := _, after := #[{ on := 11, ground := Ground.data }, { on := 7, ground := Ground.chain }], guard := none }) (v := ?_) rfl (by kernel_rfl) (by kernel_rfl) (by kernel_rfl) (fun _ _ _ h => h) (Or.inl ⟨by rfl, ?_⟩) (by assumption) ?_
  rotate_left
  · ((intro w hSw); (try dsimp only at hSw); go_simp; (try with_reducible rfl))
  try simp only [Act.put, List.setIfInBounds_toArray, List.set_cons_zero, List.set_cons_succ]
  refine wpAnyH_take (i := 13) (oi := { dst := some 52, op := Op.load 26 (Operand.tmp 11), type := 26, pos := _, after := #[{ on := 12, ground := Ground.guard }], guard := some (12, true) }) (v := ?_) rfl (by kernel_rfl) (by kernel_rfl) (by kernel_rfl) (fun _ _ _ h => h) (Or.inl ⟨by rfl, ?_⟩) (by assumption) ?_
  rotate_left
  · ((intro w hSw); (try dsimp only at hSw); go_simp; (try with_reducible rfl))
  try simp only [Act.put, List.setIfInBounds_toArray, List.set_cons_zero, List.set_cons_succ]
  refine wpAnyH_take (i := 15) (oi := { dst := some 54, op := Op.load 31 (Operand.tmp 13), type := 31, pos := _, after := #[{ on := 12, ground := Ground.guard }], guard := some (12, true) }) (v := ?_) rfl (by kernel_rfl) (by kernel_rfl) (by kernel_rfl) (fun _ _ _ h => h) (Or.inl ⟨by rfl, ?_⟩) (by assumption) ?_
  rotate_left
  · ((intro w hSw); (try dsimp only at hSw); go_simp; (try with_reducible rfl))
  try simp only [Act.put, List.setIfInBounds_toArray, List.set_cons_zero, List.set_cons_succ]
  refine wpAnyH_ready (rs := [14]) (by kernel_rfl) (by simp) ?_
  refine (AllReadyH.cons (o := { dst := some 53, op := Op.call { callee := Callee.value (Operand.func 20), args := #[Operand.tmp 52], argTypes := #[26] }, type := 31, pos := _, after := #[{ on := 13, ground := Ground.data }, { on := 12, ground := Ground.chain }, { on := 12, ground := Ground.guard }], guard := some (12, true) }) rfl (fun K hK => ?_) AllReadyH.nil)
  go_simp
  (refine (plainC _ _ v2).mono ?_; rintro e v3 ⟨rfl, g3⟩; replace g3 := below_next g2 g3)
  go_wp2_with fail
  refine hK.out _ _ ?_ (fun hHeld => ?_)
  · ((try dsimp only); exact ⟨cell_then g3 (Nat.le_refl _) k0, cell_then g3 (Nat.le_refl _) k1, cell_then g3 (Nat.le_refl _) k2, cell_then g3 (Nat.le_refl _) k3, cell_then g3 (Nat.le_refl _) k4, cell_then g3 (Nat.le_refl _) k5, cell_then g3 (Nat.le_refl _) k6, cell_then g3 (Nat.le_refl _) k7⟩)
  clear hK K
  try simp only [Act.put, List.setIfInBounds_toArray, List.set_cons_zero, List.set_cons_succ]
  refine wpAnyH_take (i := 16) (oi := { dst := some 55, op := Op.binOp BinOp.eql 31 (Operand.tmp 53) (Operand.tmp 54) 31, type := 4, pos := _, after := #[{ on := 14, ground := Ground.data }, { on := 15, ground := Ground.data }, { on := 12, ground := Ground.guard }], guard := some (12, true) }) (v := ?_) rfl (by kernel_rfl) (by kernel_rfl) (by kernel_rfl) (fun _ _ _ h => h) (Or.inl ⟨by rfl, ?_⟩) (by assumption) ?_
  rotate_left
  · ((intro w hSw); (try dsimp only at hSw); go_simp; (try with_reducible rfl))
  try simp only [Act.put, List.setIfInBounds_toArray, List.set_cons_zero, List.set_cons_succ]
  refine wpAnyH_take (i := 17) (oi := { dst := some 56, op := Op.pick (Operand.tmp 51) (Operand.tmp 55) (Operand.const (Value.bool false)), type := 4, pos := _, after := #[{ on := 12, ground := Ground.data }, { on := 16, ground := Ground.data }], guard := none }) (v := ?_) rfl (by kernel_rfl) (by kernel_rfl) (by kernel_rfl) (fun _ _ _ h => h) (Or.inl ⟨by rfl, ?_⟩) (by assumption) ?_
  rotate_left
  · ((intro w hSw); (try dsimp only at hSw); go_simp; (try with_reducible rfl))
  try simp only [Act.put, List.setIfInBounds_toArray, List.set_cons_zero, List.set_cons_succ]
  refine wpAnyH_take (i := 18) (oi := { dst := some 57, op := Op.move (Operand.tmp 56), type := 4, pos := _, after := #[{ on := 17, ground := Ground.data }, { on := 14, ground := Ground.chain }], guard := none }) (v := ?_) rfl (by kernel_rfl) (by kernel_rfl) (by kernel_rfl) (fun _ _ _ h => h) (Or.inl ⟨by rfl, ?_⟩) (by assumption) ?_
  rotate_left
  · ((intro w hSw); (try dsimp only at hSw); go_simp; (try with_reducible rfl))
  try simp only [Act.put, List.setIfInBounds_toArray, List.set_cons_zero, List.set_cons_succ]
  refine wpAnyH_take (i := 19) (oi := { dst := some 58, op := Op.move (Operand.tmp 12), type := 27, pos := _, after := #[{ on := 18, ground := Ground.guard }], guard := some (18, true) }) (v := ?_) rfl (by kernel_rfl) (by kernel_rfl) (by kernel_rfl) (fun _ _ _ h => h) (Or.inl ⟨by rfl, ?_⟩) (by assumption) ?_
  rotate_left
  · ((intro w hSw); (try dsimp only at hSw); go_simp; (try with_reducible rfl))
  try simp only [Act.put, List.setIfInBounds_toArray, List.set_cons_zero, List.set_cons_succ]
  refine wpAnyH_take (i := 20) (oi := { dst := some 59, op := Op.move (Operand.tmp 14), type := 27, pos := _, after := #[{ on := 18, ground := Ground.guard }], guard := some (18, true) }) (v := ?_) rfl (by kernel_rfl) (by kernel_rfl) (by kernel_rfl) (fun _ _ _ h => h) (Or.inl ⟨by rfl, ?_⟩) (by assumption) ?_
  rotate_left
  · ((intro w hSw); (try dsimp only at hSw); go_simp; (try with_reducible rfl))
  try simp only [Act.put, List.setIfInBounds_toArray, List.set_cons_zero, List.set_cons_succ]
  refine wpAnyH_take (i := 21) (oi := { dst := some 60, op := Op.binOp BinOp.eql 27 (Operand.tmp 58) (Operand.tmp 59) 27, type := 4, pos := _, after := #[{ on := 19, ground := Ground.data }, { on := 20, ground := Ground.data }, { on := 18, ground := Ground.guard }], guard := some (18, true) }) (v := ?_) rfl (by kernel_rfl) (by kernel_rfl) (by kernel_rfl) (fun _ _ _ h => h) (Or.inl ⟨by rfl, ?_⟩) (by assumption) ?_
  rotate_left
  · ((intro w hSw); (try dsimp only at hSw); go_simp; (try with_reducible rfl))
  try simp only [Act.put, List.setIfInBounds_toArray, List.set_cons_zero, List.set_cons_succ]
  refine wpAnyH_take (i := 22) (oi := { dst := some 61, op := Op.pick (Operand.tmp 57) (Operand.tmp 60) (Operand.const (Value.bool false)), type := 4, pos := _, after := #[{ on := 18, ground := Ground.data }, { on := 21, ground := Ground.data }], guard := none }) (v := ?_) rfl (by kernel_rfl) (by kernel_rfl) (by kernel_rfl) (fun _ _ _ h => h) (Or.inl ⟨by rfl, ?_⟩) (by assumption) ?_
  rotate_left
  · ((intro w hSw); (try dsimp only at hSw); go_simp; (try with_reducible rfl))
  try simp only [Act.put, List.setIfInBounds_toArray, List.set_cons_zero, List.set_cons_succ]
  refine wpAnyH_take (i := 23) (oi := { dst := some 62, op := Op.move (Operand.tmp 61), type := 4, pos := _, after := #[{ on := 22, ground := Ground.data }, { on := 18, ground := Ground.chain }], guard := none }) (v := ?_) rfl (by kernel_rfl) (by kernel_rfl) (by kernel_rfl) (fun _ _ _ h => h) (Or.inl ⟨by rfl, ?_⟩) (by assumption) ?_
  rotate_left
  · ((intro w hSw); (try dsimp only at hSw); go_simp; (try with_reducible rfl))
  try simp only [Act.put, List.setIfInBounds_toArray, List.set_cons_zero, List.set_cons_succ]
  refine wpAnyH_take (i := 24) (oi := { dst := some 63, op := Op.move (Operand.tmp 0), type := 22, pos := _, after := #[{ on := 23, ground := Ground.guard }], guard := some (23, true) }) (v := ?_) rfl (by kernel_rfl) (by kernel_rfl) (by kernel_rfl) (fun _ _ _ h => h) (Or.inl ⟨by rfl, ?_⟩) (by assumption) ?_
  rotate_left
  · ((intro w hSw); (try dsimp only at hSw); go_simp; (try with_reducible rfl))
  try simp only [Act.put, List.setIfInBounds_toArray, List.set_cons_zero, List.set_cons_succ]
  refine wpAnyH_take (i := 27) (oi := { dst := some 66, op := Op.move (Operand.tmp 0), type := 22, pos := _, after := #[{ on := 23, ground := Ground.guard }], guard := some (23, true) }) (v := ?_) rfl (by kernel_rfl) (by kernel_rfl) (by kernel_rfl) (fun _ _ _ h => h) (Or.inl ⟨by rfl, ?_⟩) (by assumption) ?_
  rotate_left
  · ((intro w hSw); (try dsimp only at hSw); go_simp; (try with_reducible rfl))
  try simp only [Act.put, List.setIfInBounds_toArray, List.set_cons_zero, List.set_cons_succ]
  refine wpAnyH_ready (rs := [25]) (by kernel_rfl) (by simp) ?_
  refine (AllReadyH.cons (o := { dst := some 64, op := Op.call { callee := Callee.value (Operand.func 17), args := #[Operand.tmp 63], argTypes := #[22] }, type := 23, pos := _, after := #[{ on := 24, ground := Ground.data }, { on := 23, ground := Ground.chain }, { on := 23, ground := Ground.guard }], guard := some (23, true) }) rfl (fun K hK => ?_) AllReadyH.nil)
  go_simp
  (refine (fromC b v3 hb).mono ?_; rw [hA]; rintro e v4 ⟨rfl, rfl⟩)
  go_wp2_with fail
  refine hK.out _ _ ?_ (fun hHeld => ?_)
  · ((try dsimp only); exact ⟨cell_then g3 (Nat.le_refl _) k0, cell_then g3 (Nat.le_refl _) k1, cell_then g3 (Nat.le_refl _) k2, cell_then g3 (Nat.le_refl _) k3, cell_then g3 (Nat.le_refl _) k4, cell_then g3 (Nat.le_refl _) k5, cell_then g3 (Nat.le_refl _) k6, cell_then g3 (Nat.le_refl _) k7⟩)
  clear hK K
  try simp only [Act.put, List.setIfInBounds_toArray, List.set_cons_zero, List.set_cons_succ]
  refine wpAnyH_ready (rs := [26]) (by kernel_rfl) (by simp) ?_
  refine (AllReadyH.cons (o := { dst := some 65, op := Op.call { callee := Callee.value (Operand.func 21), args := #[Operand.tmp 64], argTypes := #[23] }, type := 22, pos := _, after := #[{ on := 25, ground := Ground.data }, { on := 25, ground := Ground.chain }, { on := 23, ground := Ground.guard }], guard := some (23, true) }) rfl (fun K hK => ?_) AllReadyH.nil)
  go_simp
  (refine (bitsC A v3 hA64).mono ?_; rw [hA2]; rintro e v4 ⟨rfl, rfl⟩)
  go_wp2_with fail
  refine hK.out _ _ ?_ (fun hHeld => ?_)
  · ((try dsimp only); exact ⟨cell_then g3 (Nat.le_refl _) k0, cell_then g3 (Nat.le_refl _) k1, cell_then g3 (Nat.le_refl _) k2, cell_then g3 (Nat.le_refl _) k3, cell_then g3 (Nat.le_refl _) k4, cell_then g3 (Nat.le_refl _) k5, cell_then g3 (Nat.le_refl _) k6, cell_then g3 (Nat.le_refl _) k7⟩)
  clear hK K
  try simp only [Act.put, List.setIfInBounds_toArray, List.set_cons_zero, List.set_cons_succ]
  refine wpAnyH_ready (rs := [28]) (by kernel_rfl) (by simp) ?_
  refine (AllReadyH.cons (o := { dst := some 67, op := Op.call { callee := Callee.value (Operand.func 19), args := #[Operand.tmp 66], argTypes := #[22] }, type := 23, pos := _, after := #[{ on := 27, ground := Ground.data }, { on := 26, ground := Ground.chain }, { on := 23, ground := Ground.guard }], guard := some (23, true) }) rfl (fun K hK => ?_) AllReadyH.nil)
  go_simp
  (refine (rFrom b v3 hb).mono ?_; rw [hA]; rintro e v4 ⟨rfl, rfl⟩)
  go_wp2_with fail
  refine hK.out _ _ ?_ (fun hHeld => ?_)
  · ((try dsimp only); exact ⟨cell_then g3 (Nat.le_refl _) k0, cell_then g3 (Nat.le_refl _) k1, cell_then g3 (Nat.le_refl _) k2, cell_then g3 (Nat.le_refl _) k3, cell_then g3 (Nat.le_refl _) k4, cell_then g3 (Nat.le_refl _) k5, cell_then g3 (Nat.le_refl _) k6, cell_then g3 (Nat.le_refl _) k7⟩)
  clear hK K
  try simp only [Act.put, List.setIfInBounds_toArray, List.set_cons_zero, List.set_cons_succ]
  refine wpAnyH_ready (rs := [29]) (by kernel_rfl) (by simp) ?_
  refine (AllReadyH.cons (o := { dst := some 68, op := Op.call { callee := Callee.value (Operand.func 22), args := #[Operand.tmp 67], argTypes := #[23] }, type := 22, pos := _, after := #[{ on := 28, ground := Ground.data }, { on := 28, ground := Ground.chain }, { on := 23, ground := Ground.guard }], guard := some (23, true) }) rfl (fun K hK => ?_) AllReadyH.nil)
  go_simp
  (refine (rBits A v3 hA64).mono ?_; rw [hA2]; rintro e v4 ⟨rfl, rfl⟩)
  go_wp2_with fail
  refine hK.out _ _ ?_ (fun hHeld => ?_)
  · ((try dsimp only); exact ⟨cell_then g3 (Nat.le_refl _) k0, cell_then g3 (Nat.le_refl _) k1, cell_then g3 (Nat.le_refl _) k2, cell_then g3 (Nat.le_refl _) k3, cell_then g3 (Nat.le_refl _) k4, cell_then g3 (Nat.le_refl _) k5, cell_then g3 (Nat.le_refl _) k6, cell_then g3 (Nat.le_refl _) k7⟩)
  clear hK K
  try simp only [Act.put, List.setIfInBounds_toArray, List.set_cons_zero, List.set_cons_succ]
  refine wpAnyH_take (i := 30) (oi := { dst := some 69, op := Op.binOp BinOp.eql 22 (Operand.tmp 65) (Operand.tmp 68) 22, type := 4, pos := _, after := #[{ on := 26, ground := Ground.data }, { on := 29, ground := Ground.data }, { on := 23, ground := Ground.guard }], guard := some (23, true) }) (v := ?_) rfl (by kernel_rfl) (by kernel_rfl) (by kernel_rfl) (fun _ _ _ h => h) (Or.inl ⟨by rfl, ?_⟩) (by assumption) ?_
  rotate_left
  · ((intro w hSw); (try dsimp only at hSw); go_simp; (try with_reducible rfl))
  try simp only [Act.put, List.setIfInBounds_toArray, List.set_cons_zero, List.set_cons_succ]
  refine wpAnyH_take (i := 31) (oi := { dst := some 70, op := Op.pick (Operand.tmp 62) (Operand.tmp 69) (Operand.const (Value.bool false)), type := 4, pos := _, after := #[{ on := 23, ground := Ground.data }, { on := 30, ground := Ground.data }], guard := none }) (v := ?_) rfl (by kernel_rfl) (by kernel_rfl) (by kernel_rfl) (fun _ _ _ h => h) (Or.inl ⟨by rfl, ?_⟩) (by assumption) ?_
  rotate_left
  · ((intro w hSw); (try dsimp only at hSw); go_simp; (try with_reducible rfl))
  try simp only [Act.put, List.setIfInBounds_toArray, List.set_cons_zero, List.set_cons_succ]
  refine wpAnyH_take (i := 32) (oi := { dst := some 71, op := Op.move (Operand.tmp 70), type := 4, pos := _, after := #[{ on := 31, ground := Ground.data }, { on := 29, ground := Ground.chain }], guard := none }) (v := ?_) rfl (by kernel_rfl) (by kernel_rfl) (by kernel_rfl) (fun _ _ _ h => h) (Or.inl ⟨by rfl, ?_⟩) (by assumption) ?_
  rotate_left
  · ((intro w hSw); (try dsimp only at hSw); go_simp; (try with_reducible rfl))
  try simp only [Act.put, List.setIfInBounds_toArray, List.set_cons_zero, List.set_cons_succ]
  refine wpAnyH_take (i := 33) (oi := { dst := some 72, op := Op.move (Operand.tmp 1), type := 23, pos := _, after := #[{ on := 32, ground := Ground.guard }], guard := some (32, true) }) (v := ?_) rfl (by kernel_rfl) (by kernel_rfl) (by kernel_rfl) (fun _ _ _ h => h) (Or.inl ⟨by rfl, ?_⟩) (by assumption) ?_
  rotate_left
  · ((intro w hSw); (try dsimp only at hSw); go_simp; (try with_reducible rfl))
  try simp only [Act.put, List.setIfInBounds_toArray, List.set_cons_zero, List.set_cons_succ]
  refine wpAnyH_take (i := 35) (oi := { dst := some 74, op := Op.move (Operand.tmp 1), type := 23, pos := _, after := #[{ on := 32, ground := Ground.guard }], guard := some (32, true) }) (v := ?_) rfl (by kernel_rfl) (by kernel_rfl) (by kernel_rfl) (fun _ _ _ h => h) (Or.inl ⟨by rfl, ?_⟩) (by assumption) ?_
  rotate_left
  · ((intro w hSw); (try dsimp only at hSw); go_simp; (try with_reducible rfl))
  try simp only [Act.put, List.setIfInBounds_toArray, List.set_cons_zero, List.set_cons_succ]
  refine wpAnyH_ready (rs := [34]) (by kernel_rfl) (by simp) ?_
  refine (AllReadyH.cons (o := { dst := some 73, op := Op.call { callee := Callee.value (Operand.func 21), args := #[Operand.tmp 72], argTypes := #[23] }, type := 22, pos := _, after := #[{ on := 33, ground := Ground.data }, { on := 32, ground := Ground.chain }, { on := 32, ground := Ground.guard }], guard := some (32, true) }) rfl (fun K hK => ?_) AllReadyH.nil)
  go_simp
  (refine (bitsC x v3 hx).mono ?_; rw [hX]; rintro e v4 ⟨rfl, rfl⟩)
  go_wp2_with fail
  refine hK.out _ _ ?_ (fun hHeld => ?_)
  · ((try dsimp only); exact ⟨cell_then g3 (Nat.le_refl _) k0, cell_then g3 (Nat.le_refl _) k1, cell_then g3 (Nat.le_refl _) k2, cell_then g3 (Nat.le_refl _) k3, cell_then g3 (Nat.le_refl _) k4, cell_then g3 (Nat.le_refl _) k5, cell_then g3 (Nat.le_refl _) k6, cell_then g3 (Nat.le_refl _) k7⟩)
  clear hK K
  try simp only [Act.put, List.setIfInBounds_toArray, List.set_cons_zero, List.set_cons_succ]
  refine wpAnyH_ready (rs := [36]) (by kernel_rfl) (by simp) ?_
  refine (AllReadyH.cons (o := { dst := some 75, op := Op.call { callee := Callee.value (Operand.func 22), args := #[Operand.tmp 74], argTypes := #[23] }, type := 22, pos := _, after := #[{ on := 35, ground := Ground.data }, { on := 34, ground := Ground.chain }, { on := 32, ground := Ground.guard }], guard := some (32, true) }) rfl (fun K hK => ?_) AllReadyH.nil)
  go_simp
  (refine (rBits x v3 hx).mono ?_; rw [hX]; rintro e v4 ⟨rfl, rfl⟩)
  go_wp2_with fail
  refine hK.out _ _ ?_ (fun hHeld => ?_)
  · ((try dsimp only); exact ⟨cell_then g3 (Nat.le_refl _) k0, cell_then g3 (Nat.le_refl _) k1, cell_then g3 (Nat.le_refl _) k2, cell_then g3 (Nat.le_refl _) k3, cell_then g3 (Nat.le_refl _) k4, cell_then g3 (Nat.le_refl _) k5, cell_then g3 (Nat.le_refl _) k6, cell_then g3 (Nat.le_refl _) k7⟩)
  clear hK K
  try simp only [Act.put, List.setIfInBounds_toArray, List.set_cons_zero, List.set_cons_succ]
  refine wpAnyH_take (i := 37) (oi := { dst := some 76, op := Op.binOp BinOp.eql 22 (Operand.tmp 73) (Operand.tmp 75) 22, type := 4, pos := _, after := #[{ on := 34, ground := Ground.data }, { on := 36, ground := Ground.data }, { on := 32, ground := Ground.guard }], guard := some (32, true) }) (v := ?_) rfl (by kernel_rfl) (by kernel_rfl) (by kernel_rfl) (fun _ _ _ h => h) (Or.inl ⟨by rfl, ?_⟩) (by assumption) ?_
  rotate_left
  · ((intro w hSw); (try dsimp only at hSw); go_simp; (try with_reducible rfl))
  try simp only [Act.put, List.setIfInBounds_toArray, List.set_cons_zero, List.set_cons_succ]
  refine wpAnyH_take (i := 38) (oi := { dst := some 77, op := Op.pick (Operand.tmp 71) (Operand.tmp 76) (Operand.const (Value.bool false)), type := 4, pos := _, after := #[{ on := 32, ground := Ground.data }, { on := 37, ground := Ground.data }], guard := none }) (v := ?_) rfl (by kernel_rfl) (by kernel_rfl) (by kernel_rfl) (fun _ _ _ h => h) (Or.inl ⟨by rfl, ?_⟩) (by assumption) ?_
  rotate_left
  · ((intro w hSw); (try dsimp only at hSw); go_simp; (try with_reducible rfl))
  try simp only [Act.put, List.setIfInBounds_toArray, List.set_cons_zero, List.set_cons_succ]
  refine wpAnyH_take (i := 39) (oi := { dst := some 78, op := Op.move (Operand.tmp 77), type := 4, pos := _, after := #[{ on := 38, ground := Ground.data }, { on := 36, ground := Ground.chain }], guard := none }) (v := ?_) rfl (by kernel_rfl) (by kernel_rfl) (by kernel_rfl) (fun _ _ _ h => h) (Or.inl ⟨by rfl, ?_⟩) (by assumption) ?_
  rotate_left
  · ((intro w hSw); (try dsimp only at hSw); go_simp; (try with_reducible rfl))
  try simp only [Act.put, List.setIfInBounds_toArray, List.set_cons_zero, List.set_cons_succ]
  refine wpAnyH_take (i := 40) (oi := { dst := some 79, op := Op.move (Operand.tmp 1), type := 23, pos := _, after := #[{ on := 39, ground := Ground.guard }], guard := some (39, true) }) (v := ?_) rfl (by kernel_rfl) (by kernel_rfl) (by kernel_rfl) (fun _ _ _ h => h) (Or.inl ⟨by rfl, ?_⟩) (by assumption) ?_
  rotate_left
  · ((intro w hSw); (try dsimp only at hSw); go_simp; (try with_reducible rfl))
  try simp only [Act.put, List.setIfInBounds_toArray, List.set_cons_zero, List.set_cons_succ]
  refine wpAnyH_take (i := 41) (oi := { dst := some 80, op := Op.move (Operand.tmp 2), type := 23, pos := _, after := #[{ on := 39, ground := Ground.guard }], guard := some (39, true) }) (v := ?_) rfl (by kernel_rfl) (by kernel_rfl) (by kernel_rfl) (fun _ _ _ h => h) (Or.inl ⟨by rfl, ?_⟩) (by assumption) ?_
  rotate_left
  · ((intro w hSw); (try dsimp only at hSw); go_simp; (try with_reducible rfl))
  try simp only [Act.put, List.setIfInBounds_toArray, List.set_cons_zero, List.set_cons_succ]
  refine wpAnyH_take (i := 43) (oi := { dst := some 82, op := Op.move (Operand.tmp 1), type := 23, pos := _, after := #[{ on := 39, ground := Ground.guard }], guard := some (39, true) }) (v := ?_) rfl (by kernel_rfl) (by kernel_rfl) (by kernel_rfl) (fun _ _ _ h => h) (Or.inl ⟨by rfl, ?_⟩) (by assumption) ?_
  rotate_left
  · ((intro w hSw); (try dsimp only at hSw); go_simp; (try with_reducible rfl))
  try simp only [Act.put, List.setIfInBounds_toArray, List.set_cons_zero, List.set_cons_succ]
  refine wpAnyH_take (i := 44) (oi := { dst := some 83, op := Op.move (Operand.tmp 2), type := 23, pos := _, after := #[{ on := 39, ground := Ground.guard }], guard := some (39, true) }) (v := ?_) rfl (by kernel_rfl) (by kernel_rfl) (by kernel_rfl) (fun _ _ _ h => h) (Or.inl ⟨by rfl, ?_⟩) (by assumption) ?_
  rotate_left
  · ((intro w hSw); (try dsimp only at hSw); go_simp; (try with_reducible rfl))
  try simp only [Act.put, List.setIfInBounds_toArray, List.set_cons_zero, List.set_cons_succ]
  refine wpAnyH_ready (rs := [42]) (by kernel_rfl) (by simp) ?_
  refine (AllReadyH.cons (o := { dst := some 81, op := Op.call { callee := Callee.value (Operand.func 23), args := #[Operand.tmp 79, Operand.tmp 80], argTypes := #[23, 23] }, type := 3, pos := _, after := #[{ on := 40, ground := Ground.data }, { on := 41, ground := Ground.data }, { on := 39, ground := Ground.chain }, { on := 39, ground := Ground.guard }], guard := some (39, true) }) rfl (fun K hK => ?_) AllReadyH.nil)
  go_simp
  (refine (orderC x y v3 hx hy).mono ?_; rw [hO]; rintro e v4 ⟨rfl, rfl⟩)
  go_wp2_with fail
  refine hK.out _ _ ?_ (fun hHeld => ?_)
  · ((try dsimp only); exact ⟨cell_then g3 (Nat.le_refl _) k0, cell_then g3 (Nat.le_refl _) k1, cell_then g3 (Nat.le_refl _) k2, cell_then g3 (Nat.le_refl _) k3, cell_then g3 (Nat.le_refl _) k4, cell_then g3 (Nat.le_refl _) k5, cell_then g3 (Nat.le_refl _) k6, cell_then g3 (Nat.le_refl _) k7⟩)
  clear hK K
  try simp only [Act.put, List.setIfInBounds_toArray, List.set_cons_zero, List.set_cons_succ]
  refine wpAnyH_ready (rs := [45]) (by kernel_rfl) (by simp) ?_
  refine (AllReadyH.cons (o := { dst := some 84, op := Op.call { callee := Callee.value (Operand.func 24), args := #[Operand.tmp 82, Operand.tmp 83], argTypes := #[23, 23] }, type := 3, pos := _, after := #[{ on := 43, ground := Ground.data }, { on := 44, ground := Ground.data }, { on := 42, ground := Ground.chain }, { on := 39, ground := Ground.guard }], guard := some (39, true) }) rfl (fun K hK => ?_) AllReadyH.nil)
  go_simp
  (refine (rOrder x y v3 hx hy).mono ?_; rw [hO2]; rintro e v4 ⟨rfl, rfl⟩)
  go_wp2_with fail
  refine hK.out _ _ ?_ (fun hHeld => ?_)
  · ((try dsimp only); exact ⟨cell_then g3 (Nat.le_refl _) k0, cell_then g3 (Nat.le_refl _) k1, cell_then g3 (Nat.le_refl _) k2, cell_then g3 (Nat.le_refl _) k3, cell_then g3 (Nat.le_refl _) k4, cell_then g3 (Nat.le_refl _) k5, cell_then g3 (Nat.le_refl _) k6, cell_then g3 (Nat.le_refl _) k7⟩)
  clear hK K
  try simp only [Act.put, List.setIfInBounds_toArray, List.set_cons_zero, List.set_cons_succ]
  refine wpAnyH_take (i := 46) (oi := { dst := some 85, op := Op.binOp BinOp.eql 3 (Operand.tmp 81) (Operand.tmp 84) 3, type := 4, pos := _, after := #[{ on := 42, ground := Ground.data }, { on := 45, ground := Ground.data }, { on := 39, ground := Ground.guard }], guard := some (39, true) }) (v := ?_) rfl (by kernel_rfl) (by kernel_rfl) (by kernel_rfl) (fun _ _ _ h => h) (Or.inl ⟨by rfl, ?_⟩) (by assumption) ?_
  rotate_left
  · ((intro w hSw); (try dsimp only at hSw); go_simp; (try with_reducible rfl))
  try simp only [Act.put, List.setIfInBounds_toArray, List.set_cons_zero, List.set_cons_succ]
  refine wpAnyH_take (i := 47) (oi := { dst := some 86, op := Op.pick (Operand.tmp 78) (Operand.tmp 85) (Operand.const (Value.bool false)), type := 4, pos := _, after := #[{ on := 39, ground := Ground.data }, { on := 46, ground := Ground.data }], guard := none }) (v := ?_) rfl (by kernel_rfl) (by kernel_rfl) (by kernel_rfl) (fun _ _ _ h => h) (Or.inl ⟨by rfl, ?_⟩) (by assumption) ?_
  rotate_left
  · ((intro w hSw); (try dsimp only at hSw); go_simp; (try with_reducible rfl))
  try simp only [Act.put, List.setIfInBounds_toArray, List.set_cons_zero, List.set_cons_succ]
  refine wpAnyH_take (i := 48) (oi := { dst := some 6, op := Op.assign (Operand.tmp 86), type := 4, pos := _, after := #[{ on := 47, ground := Ground.data }, { on := 45, ground := Ground.chain }, { on := 0, ground := Ground.phase }, { on := 1, ground := Ground.phase }, { on := 2, ground := Ground.phase }, { on := 3, ground := Ground.phase }, { on := 4, ground := Ground.phase }, { on := 5, ground := Ground.phase }, { on := 6, ground := Ground.phase }, { on := 7, ground := Ground.phase }, { on := 8, ground := Ground.phase }, { on := 9, ground := Ground.phase }, { on := 10, ground := Ground.phase }, { on := 11, ground := Ground.phase }, { on := 12, ground := Ground.phase }, { on := 13, ground := Ground.phase }, { on := 14, ground := Ground.phase }, { on := 15, ground := Ground.phase }, { on := 16, ground := Ground.phase }, { on := 17, ground := Ground.phase }, { on := 18, ground := Ground.phase }, { on := 19, ground := Ground.phase }, { on := 20, ground := Ground.phase }, { on := 21, ground := Ground.phase }, { on := 22, ground := Ground.phase }, { on := 23, ground := Ground.phase }, { on := 24, ground := Ground.phase }, { on := 25, ground := Ground.phase }, { on := 26, ground := Ground.phase }, { on := 27, ground := Ground.phase }, { on := 28, ground := Ground.phase }, { on := 29, ground := Ground.phase }, { on := 30, ground := Ground.phase }, { on := 31, ground := Ground.phase }, { on := 32, ground := Ground.phase }, { on := 33, ground := Ground.phase }, { on := 34, ground := Ground.phase }, { on := 35, ground := Ground.phase }, { on := 36, ground := Ground.phase }, { on := 37, ground := Ground.phase }, { on := 38, ground := Ground.phase }, { on := 39, ground := Ground.phase }, { on := 40, ground := Ground.phase }, { on := 41, ground := Ground.phase }, { on := 42, ground := Ground.phase }, { on := 43, ground := Ground.phase }, { on := 44, ground := Ground.phase }, { on := 45, ground := Ground.phase }, { on := 46, ground := Ground.phase }, { on := 47, ground := Ground.phase }], guard := none }) (v := ?_) rfl (by kernel_rfl) (by kernel_rfl) (by kernel_rfl) (fun _ _ _ h => h) (Or.inl ⟨by rfl, ?_⟩) (by assumption) ?_
  rotate_left
  · ((intro w hSw); (try dsimp only at hSw); go_simp; (try with_reducible rfl))
  try simp only [Act.put, List.setIfInBounds_toArray, List.set_cons_zero, List.set_cons_succ]
  refine wpAnyH_done (by kernel_rfl) ?_ _
  go_wp2
  go_ret
  exact ⟨rfl, below_next hb8 g3⟩
theorem tab_places : ∀ c, c ≤ 40 → placeN c < 64 ∧ ([0, 1, 56, 2, 57, 49, 28, 3, 61, 58, 42, 50, 38, 29, 17, 4, 62, 47, 59, 36, 45, 43, 51, 22, 53, 39, 33, 30, 24, 18, 12, 5, 63, 55, 48, 27, 60, 41, 37, 16, 46, 35, 44, 21, 52, 32, 23, 11, 54, 26, 40, 15, 34, 20, 31, 10, 25, 14, 19, 9, 13, 8, 7, 6] : List Int).getD (placeN c) 0 = (c : Int) := by decide
theorem tabZ {W : World} (h : Lib.TabIs Tryd.prog W "math/bits.deBruijn64tab" .u8 [0, 1, 56, 2, 57, 49, 28, 3, 61, 58, 42, 50, 38, 29, 17, 4, 62, 47, 59, 36, 45, 43, 51, 22, 53, 39, 33, 30, 24, 18, 12, 5, 63, 55, 48, 27, 60, 41, 37, 16, 46, 35, 44, 21, 52, 32, 23, 11, 54, 26, 40, 15, 34, 20, 31, 10, 25, 14, 19, 9, 13, 8, 7, 6]) : TabZ W := by
  intro c hc
  obtain ⟨h1, h2⟩ := tab_places c hc
  have := h.cell (show Tryd.prog.globalNamed "math/bits.deBruijn64tab" = some 4 by kernel_rfl) (placeN c) h1
  rw [h2] at this
  exact this
theorem walkT (b : Int) (x y : Nat) (w : World) (wb : (Lit.int .u64 b).wf = true) (wx : (Lit.float .f64 x).wf = true) (wy : (Lit.float .f64 y).wf = true) (hT : Lib.TabIs Tryd.prog w "math/bits.deBruijn64tab" .u8 [0, 1, 56, 2, 57, 49, 28, 3, 61, 58, 42, 50, 38, 29, 17, 4, 62, 47, 59, 36, 45, 43, 51, 22, 53, 39, 33, 30, 24, 18, 12, 5, 63, 55, 48, 27, 60, 41, 37, 16, 46, 35, 44, 21, 52, 32, 23, 11, 54, 26, 40, 15, 34, 20, 31, 10, 25, 14, 19, 9, 13, 8, 7, 6]) :
    Calls Tryd.prog 3 #[.int .u64 b, .float .f64 x, .float .f64 y] w fun e w' => e = .returned (.bool true) ∧ Below w.heap.size w w' :=
  walk b x y w (Seconds.in64 wb) (Seconds.inF wx) (Seconds.inF wy) (tabZ hT) (Seconds.tz58 hT)
end Go.Proofs.YtlhapnnepcnfbaaDoor.OfW
