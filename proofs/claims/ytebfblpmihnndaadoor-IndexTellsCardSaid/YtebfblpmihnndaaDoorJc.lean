/- The document's numbers of an entry (tikref18.one). -/
import Derived.Test.YtebfblpmihnndaaDoorIr
import Derived.Test.YtebfblpmihnndaaDoorRef2
set_option linter.unusedVariables false
namespace Go.Proofs.YtebfblpmihnndaaDoor.Jc
open Go Go.RowKit Kit Crc Var Get Ref2 Ref3 Copy Bytes Bx Ia Ib Ic Ir

/-- a slice's bytes behind a row of one's own, as a step. -/
theorem wp_app {o : Oper} {a : Act} {w : World} {K : Act → World → Prop} {Q : Exit → Act → World → Prop} (s x : Operand)
    (ho : o.op = .call { callee := .builtin .append, args := #[s, x], argTypes := #[23, 23] }) (base : Nat) (v : Value) (l : List Nat) (hs : a.eval s = v) (hown : Rb w base v l)
    (ad : Option Addr) (n cap : Nat) (m : List Nat) (hx : a.eval x = .slice ad n cap) (hn : n = m.length) (h0 : ad = none → False) (hm : Sl w ad m) (hlen : l.length + m.length ≤ 1000000) (hbase : base ≤ w.heap.size)
    (h : ∀ v' w', Rb w' base v' (l ++ m) → (∀ B W0, B ≤ base → Below B W0 w → Below B W0 w') → K (a.put o.dst v') w') : o.wp Tryd.prog a w K Q := by
  subst hn
  obtain ⟨i0, hi, hz0, hz1, hz2⟩ := info_parts info5
  cases ad with
  | none => exact (h0 rfl).elim
  | some y =>
    refine wp_append_own w s x 23 ho base 5 i0 (.int .u8 0) 1 1 Tryd.underlying23 hi hz0 hz1 hz2 rfl (by decide) v _ _ hs hown y m.length cap (cellsOf m) hx (by simp [cellsOf]) (sl_cells hm) cellsOf_one (by unfold maxLen; omega) (by omega) hbase ?_
    intro v' w' h2 h3 _
    refine h v' w' ?_ (fun B W0 hB hb => hb.grown h3 (Nat.le_trans hB hbase) (fun j hj => Nat.le_trans hB (hown.lt j hj).1))
    rw [cellsOf_app] at h2
    exact rb_of h2 (by simp) rfl
theorem vpos (n : Nat) : 0 < (varL n).length := by
  by_cases h : n < 128
  · rw [varL_small h]; simp
  · rw [varL_more h]; simp
set_option maxRecDepth 100000 in
set_option maxHeartbeats 4000000 in
theorem oneC (e : En) (w : World) (h : EnOk e) :
    Calls Tryd.prog 18 #[evA e] w fun x w' => ∃ v, x = .returned v ∧ Rb w' w.heap.size v (numL e) ∧ Below w.heap.size w w' := by
  obtain ⟨s, t, n, a⟩ := e
  obtain ⟨h1, h2⟩ := h
  dsimp only at h1 h2
  have u1 := uZ_wrap n
  have u2 := uZ_wrap a
  have Gs := Lib.hid h1
  have Gt := Lib.hid h2
  have Gx := Lib.hid (uZ_lt n)
  have Gy := Lib.hid (uZ_lt a)
  have HNL := Lib.hid (show numL ⟨s, t, n, a⟩ = varL s ++ varL t ++ varL (uZ n) ++ varL (uZ a) from rfl)
  have Ls := Lib.hid (varL_ten h1)
  have Lt := Lib.hid (varL_ten h2)
  have Lx := Lib.hid (varL_ten (uZ_lt n))
  have Ly := Lib.hid (varL_ten (uZ_lt a))
  generalize hx : uZ n = x at *
  generalize hy : uZ a = y at *
  clear h1 h2 hx hy
  have hb0 : Below w.heap.size w (w.alloc (.cells #[.int .u64 (s : Int), .int .u64 (t : Int), .int .i64 n, .int .i64 a] 45)) := (Below.refl _ w).alloc (Nat.le_refl _) _
  have hl0 : (w.alloc (.cells #[.int .u64 (s : Int), .int .u64 (t : Int), .int .i64 n, .int .i64 a] 45)).heap[w.heap.size]? = some (.cells #[.int .u64 (s : Int), .int .u64 (t : Int), .int .i64 n, .int .i64 a] 45 (0, 0)) := heap_alloc_last w _
  generalize hw0 : w.alloc (.cells #[.int .u64 (s : Int), .int .u64 (t : Int), .int .i64 n, .int .i64 a] 45) = w0 at *
  have HB0 := Lib.hid hb0
  have c0 : w0.cell? ⟨w.heap.size, 0, none⟩ = some (.int .u64 (s : Int)) := by simp [World.cell?, hl0]
  have c1 : w0.cell? ⟨w.heap.size, 1, none⟩ = some (.int .u64 (t : Int)) := by simp [World.cell?, hl0]
  have c2 : w0.cell? ⟨w.heap.size, 2, none⟩ = some (.int .i64 n) := by simp [World.cell?, hl0]
  have c3 : w0.cell? ⟨w.heap.size, 3, none⟩ = some (.int .i64 a) := by simp [World.cell?, hl0]
  clear hb0 hl0
  go_enter Tryd.func18, Tryd.ntmps18
  go_wp2
  refine wp_region_held_drew (S := (fun W => W.cell? ⟨w.heap.size, 0, none⟩ = some (.int .u64 (s : Int)) ∧ W.cell? ⟨w.heap.size, 1, none⟩ = some (.int .u64 (t : Int)) ∧ W.cell? ⟨w.heap.size, 2, none⟩ = some (.int .i64 n) ∧ W.cell? ⟨w.heap.size, 3, none⟩ = some (.int .i64 a))) (by kernel_rfl) ?_ (fun hHeld => ?_)
  · ((try dsimp only); exact ⟨c0, c1, c2, c3⟩)
  refine wpAnyH_take (i := 0) (oi := { dst := some 4, op := Op.fieldAddr 45 (Operand.tmp 1) 0, type := 0, pos := _, after := #[], guard := none }) (v := ?_) rfl (by kernel_rfl) (by kernel_rfl) (by kernel_rfl) (fun _ _ _ h => h) (Or.inl ⟨by rfl, ?_⟩) (by assumption) ?_
  rotate_left
  · ((intro w hSw); (try dsimp only at hSw); go_simp; (try with_reducible rfl))
  try simp only [Act.put, List.setIfInBounds_toArray, List.set_cons_zero, List.set_cons_succ]
  refine wpAnyH_take (i := 1) (oi := { dst := some 5, op := Op.load 24 (Operand.tmp 4), type := 24, pos := _, after := #[{ on := 0, ground := Ground.data }], guard := none }) (v := ?_) rfl (by kernel_rfl) (by kernel_rfl) (by kernel_rfl) (fun _ _ _ h => h) (Or.inl ⟨by rfl, ?_⟩) (by assumption) ?_
  rotate_left
  · ((intro w hSw); (try dsimp only at hSw); go_simp; (try with_reducible rfl))
  try simp only [Act.put, List.setIfInBounds_toArray, List.set_cons_zero, List.set_cons_succ]
  refine wpAnyH_take (i := 3) (oi := { dst := some 7, op := Op.fieldAddr 45 (Operand.tmp 1) 1, type := 0, pos := _, after := #[], guard := none }) (v := ?_) rfl (by kernel_rfl) (by kernel_rfl) (by kernel_rfl) (fun _ _ _ h => h) (Or.inl ⟨by rfl, ?_⟩) (by assumption) ?_
  rotate_left
  · ((intro w hSw); (try dsimp only at hSw); go_simp; (try with_reducible rfl))
  try simp only [Act.put, List.setIfInBounds_toArray, List.set_cons_zero, List.set_cons_succ]
  refine wpAnyH_take (i := 4) (oi := { dst := some 8, op := Op.load 24 (Operand.tmp 7), type := 24, pos := _, after := #[{ on := 3, ground := Ground.data }], guard := none }) (v := ?_) rfl (by kernel_rfl) (by kernel_rfl) (by kernel_rfl) (fun _ _ _ h => h) (Or.inl ⟨by rfl, ?_⟩) (by assumption) ?_
  rotate_left
  · ((intro w hSw); (try dsimp only at hSw); go_simp; (try with_reducible rfl))
  try simp only [Act.put, List.setIfInBounds_toArray, List.set_cons_zero, List.set_cons_succ]
  refine wpAnyH_ready (rs := [2]) (by kernel_rfl) (by simp) ?_
  refine (AllReadyH.cons (o := { dst := some 6, op := Op.call { callee := Callee.value (Operand.func 26), args := #[Operand.tmp 5], argTypes := #[24] }, type := 23, pos := _, after := #[{ on := 1, ground := Ground.data }], guard := none }) rfl (fun K hK => ?_) AllReadyH.nil)
  go_simp
  refine (rVarC s w0.drew Gs.out).mono ?_
  rintro x w1 ⟨v1, rfl, hr1, hb1⟩
  have HB1 := Lib.hid (below_then (drw (Below.refl w0.heap.size w0)) hb1 ((drw (Below.refl w0.heap.size w0))).size)
  have HR1 := Lib.hid (rb_base (show Rb w1 _ v1 (varL s) from hr1) ((drw (Below.refl w0.heap.size w0))).size)
  clear hr1 hb1
  go_wp2_with fail
  refine hK.out _ _ ?_ (fun hHeld => ?_)
  · ((try dsimp only); exact ⟨cell_then HB1.out (Nat.le_refl _) c0, cell_then HB1.out (Nat.le_refl _) c1, cell_then HB1.out (Nat.le_refl _) c2, cell_then HB1.out (Nat.le_refl _) c3⟩)
  clear hK K
  try simp only [Act.put, List.setIfInBounds_toArray, List.set_cons_zero, List.set_cons_succ]
  refine wpAnyH_ready (rs := [5]) (by kernel_rfl) (by simp) ?_
  refine (AllReadyH.cons (o := { dst := some 9, op := Op.call { callee := Callee.value (Operand.func 26), args := #[Operand.tmp 8], argTypes := #[24] }, type := 23, pos := _, after := #[{ on := 4, ground := Ground.data }, { on := 2, ground := Ground.chain }], guard := none }) rfl (fun K hK => ?_) AllReadyH.nil)
  go_simp
  refine (rVarC t w1 Gt.out).mono ?_
  rintro x w2 ⟨v2, rfl, hr2, hb2⟩
  have HB2 := Lib.hid (below_then HB1.out hb2 (HB1.out).size)
  have HT2 := Lib.hid (rb_then HR1.out hb2 (Nat.le_refl _))
  obtain ⟨g2, k2, rfl, hc2, _, _⟩ := rb_own (show Rb w2 _ v2 (varL t) from hr2) (vpos t)
  have HQ2 := Lib.hid (show Sl w2 (some ⟨g2, 0, none⟩) (varL t) from by obtain ⟨a, c, e, _, hs, _⟩ := rb_sl (show Rb w2 _ _ (varL t) from hr2); injection e with e1; rw [e1]; exact hs)
  clear hc2
  clear hr2 hb2
  go_wp2_with fail
  refine hK.out _ _ ?_ (fun hHeld => ?_)
  · ((try dsimp only); exact ⟨cell_then HB2.out (Nat.le_refl _) c0, cell_then HB2.out (Nat.le_refl _) c1, cell_then HB2.out (Nat.le_refl _) c2, cell_then HB2.out (Nat.le_refl _) c3⟩)
  clear hK K
  try simp only [Act.put, List.setIfInBounds_toArray, List.set_cons_zero, List.set_cons_succ]
  refine wpAnyH_ready (rs := [6]) (by kernel_rfl) (by simp) ?_
  refine (AllReadyH.cons (o := { dst := some 10, op := Op.call { callee := Callee.builtin Builtin.append, args := #[Operand.tmp 6, Operand.tmp 9], argTypes := #[23, 23] }, type := 23, pos := _, after := #[{ on := 2, ground := Ground.data }, { on := 5, ground := Ground.data }, { on := 5, ground := Ground.chain }], guard := none }) rfl (fun K hK => ?_) AllReadyH.nil)
  rw [if_pos (by rfl)]
  refine wp_app _ _ rfl w0.heap.size _ (varL s) rfl HT2.out (some ⟨g2, 0, none⟩) _ k2 (varL t) rfl rfl (fun h => by cases h) HQ2.out (by (try simp only [List.length_append]); have := Ls.out; have := Lt.out; have := Lx.out; have := Ly.out; omega) HB2.out.size ?_
  intro v3 w3 ho3 hb3
  have HB3 := Lib.hid (hb3 _ _ (Nat.le_refl _) HB2.out)
  have HR3 := Lib.hid ho3
  clear ho3 hb3
  refine hK.out _ _ ?_ (fun hHeld => ?_)
  · ((try dsimp only); exact ⟨cell_then HB3.out (Nat.le_refl _) c0, cell_then HB3.out (Nat.le_refl _) c1, cell_then HB3.out (Nat.le_refl _) c2, cell_then HB3.out (Nat.le_refl _) c3⟩)
  clear hK K
  try simp only [Act.put, List.setIfInBounds_toArray, List.set_cons_zero, List.set_cons_succ]
  refine wpAnyH_take (i := 7) (oi := { dst := some 3, op := Op.assign (Operand.tmp 10), type := 23, pos := _, after := #[{ on := 6, ground := Ground.data }, { on := 6, ground := Ground.chain }, { on := 0, ground := Ground.phase }, { on := 1, ground := Ground.phase }, { on := 2, ground := Ground.phase }, { on := 3, ground := Ground.phase }, { on := 4, ground := Ground.phase }, { on := 5, ground := Ground.phase }, { on := 6, ground := Ground.phase }], guard := none }) (v := ?_) rfl (by kernel_rfl) (by kernel_rfl) (by kernel_rfl) (fun _ _ _ h => h) (Or.inl ⟨by rfl, ?_⟩) (by assumption) ?_
  rotate_left
  · ((intro w hSw); (try dsimp only at hSw); go_simp; (try with_reducible rfl))
  try simp only [Act.put, List.setIfInBounds_toArray, List.set_cons_zero, List.set_cons_succ]
  refine wpAnyH_done (by kernel_rfl) ?_ _
  have HR3d := Lib.hid (show Rb w3.drew w0.heap.size v3 (varL s ++ varL t) from HR3.out)
  go_wp2
  refine wp_region_held_drew (S := (fun W => W.cell? ⟨w.heap.size, 0, none⟩ = some (.int .u64 (s : Int)) ∧ W.cell? ⟨w.heap.size, 1, none⟩ = some (.int .u64 (t : Int)) ∧ W.cell? ⟨w.heap.size, 2, none⟩ = some (.int .i64 n) ∧ W.cell? ⟨w.heap.size, 3, none⟩ = some (.int .i64 a))) (by kernel_rfl) ?_ (fun hHeld => ?_)
  · ((try dsimp only); exact ⟨cell_then HB3.out (Nat.le_refl _) c0, cell_then HB3.out (Nat.le_refl _) c1, cell_then HB3.out (Nat.le_refl _) c2, cell_then HB3.out (Nat.le_refl _) c3⟩)
  refine wpAnyH_take (i := 0) (oi := { dst := some 11, op := Op.move (Operand.tmp 3), type := 23, pos := _, after := #[], guard := none }) (v := ?_) rfl (by kernel_rfl) (by kernel_rfl) (by kernel_rfl) (fun _ _ _ h => h) (Or.inl ⟨by rfl, ?_⟩) (by assumption) ?_
  rotate_left
  · ((intro w hSw); (try dsimp only at hSw); go_simp; (try with_reducible rfl))
  try simp only [Act.put, List.setIfInBounds_toArray, List.set_cons_zero, List.set_cons_succ]
  refine wpAnyH_take (i := 1) (oi := { dst := some 12, op := Op.fieldAddr 45 (Operand.tmp 1) 2, type := 0, pos := _, after := #[], guard := none }) (v := ?_) rfl (by kernel_rfl) (by kernel_rfl) (by kernel_rfl) (fun _ _ _ h => h) (Or.inl ⟨by rfl, ?_⟩) (by assumption) ?_
  rotate_left
  · ((intro w hSw); (try dsimp only at hSw); go_simp; (try with_reducible rfl))
  try simp only [Act.put, List.setIfInBounds_toArray, List.set_cons_zero, List.set_cons_succ]
  refine wpAnyH_take (i := 2) (oi := { dst := some 13, op := Op.load 3 (Operand.tmp 12), type := 3, pos := _, after := #[{ on := 1, ground := Ground.data }], guard := none }) (v := ?_) rfl (by kernel_rfl) (by kernel_rfl) (by kernel_rfl) (fun _ _ _ h => h) (Or.inl ⟨by rfl, ?_⟩) (by assumption) ?_
  rotate_left
  · ((intro w hSw); (try dsimp only at hSw); go_simp; (try with_reducible rfl))
  try simp only [Act.put, List.setIfInBounds_toArray, List.set_cons_zero, List.set_cons_succ]
  refine wpAnyH_take (i := 3) (oi := { dst := some 14, op := Op.convert 3 24 (Operand.tmp 13), type := 24, pos := _, after := #[{ on := 2, ground := Ground.data }], guard := none }) (v := ?_) rfl (by kernel_rfl) (by kernel_rfl) (by kernel_rfl) (fun _ _ _ h => h) (Or.inl ⟨by rfl, ?_⟩) (by assumption) ?_
  rotate_left
  · ((intro w hSw); (try dsimp only at hSw); go_simp; (try with_reducible rfl))
  try simp only [Act.put, List.setIfInBounds_toArray, List.set_cons_zero, List.set_cons_succ]
  refine wpAnyH_take (i := 6) (oi := { dst := some 17, op := Op.fieldAddr 45 (Operand.tmp 1) 3, type := 0, pos := _, after := #[], guard := none }) (v := ?_) rfl (by kernel_rfl) (by kernel_rfl) (by kernel_rfl) (fun _ _ _ h => h) (Or.inl ⟨by rfl, ?_⟩) (by assumption) ?_
  rotate_left
  · ((intro w hSw); (try dsimp only at hSw); go_simp; (try with_reducible rfl))
  try simp only [Act.put, List.setIfInBounds_toArray, List.set_cons_zero, List.set_cons_succ]
  refine wpAnyH_take (i := 7) (oi := { dst := some 18, op := Op.load 3 (Operand.tmp 17), type := 3, pos := _, after := #[{ on := 6, ground := Ground.data }], guard := none }) (v := ?_) rfl (by kernel_rfl) (by kernel_rfl) (by kernel_rfl) (fun _ _ _ h => h) (Or.inl ⟨by rfl, ?_⟩) (by assumption) ?_
  rotate_left
  · ((intro w hSw); (try dsimp only at hSw); go_simp; (try with_reducible rfl))
  try simp only [Act.put, List.setIfInBounds_toArray, List.set_cons_zero, List.set_cons_succ]
  refine wpAnyH_take (i := 8) (oi := { dst := some 19, op := Op.convert 3 24 (Operand.tmp 18), type := 24, pos := _, after := #[{ on := 7, ground := Ground.data }], guard := none }) (v := ?_) rfl (by kernel_rfl) (by kernel_rfl) (by kernel_rfl) (fun _ _ _ h => h) (Or.inl ⟨by rfl, ?_⟩) (by assumption) ?_
  rotate_left
  · ((intro w hSw); (try dsimp only at hSw); go_simp; (try with_reducible rfl))
  try simp only [Act.put, List.setIfInBounds_toArray, List.set_cons_zero, List.set_cons_succ]
  refine wpAnyH_ready (rs := [4]) (by kernel_rfl) (by simp) ?_
  refine (AllReadyH.cons (o := { dst := some 15, op := Op.call { callee := Callee.value (Operand.func 26), args := #[Operand.tmp 14], argTypes := #[24] }, type := 23, pos := _, after := #[{ on := 3, ground := Ground.data }], guard := none }) rfl (fun K hK => ?_) AllReadyH.nil)
  go_simp
  refine (rVarC x w3.drew Gx.out).mono ?_
  rintro x w4 ⟨v4, rfl, hr4, hb4⟩
  have HB4 := Lib.hid (below_then (drw HB3.out) hb4 ((drw HB3.out)).size)
  have HT4 := Lib.hid (rb_then HR3d.out hb4 (Nat.le_refl _))
  obtain ⟨g4, k4, rfl, hc4, _, _⟩ := rb_own (show Rb w4 _ v4 (varL x) from hr4) (vpos x)
  have HQ4 := Lib.hid (show Sl w4 (some ⟨g4, 0, none⟩) (varL x) from by obtain ⟨a, c, e, _, hs, _⟩ := rb_sl (show Rb w4 _ _ (varL x) from hr4); injection e with e1; rw [e1]; exact hs)
  clear hc4
  clear hr4 hb4
  go_wp2_with fail
  refine hK.out _ _ ?_ (fun hHeld => ?_)
  · ((try dsimp only); exact ⟨cell_then HB4.out (Nat.le_refl _) c0, cell_then HB4.out (Nat.le_refl _) c1, cell_then HB4.out (Nat.le_refl _) c2, cell_then HB4.out (Nat.le_refl _) c3⟩)
  clear hK K
  try simp only [Act.put, List.setIfInBounds_toArray, List.set_cons_zero, List.set_cons_succ]
  refine wpAnyH_ready (rs := [5]) (by kernel_rfl) (by simp) ?_
  refine (AllReadyH.cons (o := { dst := some 16, op := Op.call { callee := Callee.builtin Builtin.append, args := #[Operand.tmp 11, Operand.tmp 15], argTypes := #[23, 23] }, type := 23, pos := _, after := #[{ on := 0, ground := Ground.data }, { on := 4, ground := Ground.data }, { on := 4, ground := Ground.chain }], guard := none }) rfl (fun K hK => ?_) AllReadyH.nil)
  rw [if_pos (by rfl)]
  refine wp_app _ _ rfl w0.heap.size _ (varL s ++ varL t) rfl HT4.out (some ⟨g4, 0, none⟩) _ k4 (varL x) rfl rfl (fun h => by cases h) HQ4.out (by (try simp only [List.length_append]); have := Ls.out; have := Lt.out; have := Lx.out; have := Ly.out; omega) HB4.out.size ?_
  intro v5 w5 ho5 hb5
  have HB5 := Lib.hid (hb5 _ _ (Nat.le_refl _) HB4.out)
  have HR5 := Lib.hid ho5
  clear ho5 hb5
  refine hK.out _ _ ?_ (fun hHeld => ?_)
  · ((try dsimp only); exact ⟨cell_then HB5.out (Nat.le_refl _) c0, cell_then HB5.out (Nat.le_refl _) c1, cell_then HB5.out (Nat.le_refl _) c2, cell_then HB5.out (Nat.le_refl _) c3⟩)
  clear hK K
  try simp only [Act.put, List.setIfInBounds_toArray, List.set_cons_zero, List.set_cons_succ]
  refine wpAnyH_ready (rs := [9]) (by kernel_rfl) (by simp) ?_
  refine (AllReadyH.cons (o := { dst := some 20, op := Op.call { callee := Callee.value (Operand.func 26), args := #[Operand.tmp 19], argTypes := #[24] }, type := 23, pos := _, after := #[{ on := 8, ground := Ground.data }, { on := 5, ground := Ground.chain }], guard := none }) rfl (fun K hK => ?_) AllReadyH.nil)
  go_simp
  refine (rVarC y w5 Gy.out).mono ?_
  rintro x w6 ⟨v6, rfl, hr6, hb6⟩
  have HB6 := Lib.hid (below_then HB5.out hb6 (HB5.out).size)
  have HT6 := Lib.hid (rb_then HR5.out hb6 (Nat.le_refl _))
  obtain ⟨g6, k6, rfl, hc6, _, _⟩ := rb_own (show Rb w6 _ v6 (varL y) from hr6) (vpos y)
  have HQ6 := Lib.hid (show Sl w6 (some ⟨g6, 0, none⟩) (varL y) from by obtain ⟨a, c, e, _, hs, _⟩ := rb_sl (show Rb w6 _ _ (varL y) from hr6); injection e with e1; rw [e1]; exact hs)
  clear hc6
  clear hr6 hb6
  go_wp2_with fail
  refine hK.out _ _ ?_ (fun hHeld => ?_)
  · ((try dsimp only); exact ⟨cell_then HB6.out (Nat.le_refl _) c0, cell_then HB6.out (Nat.le_refl _) c1, cell_then HB6.out (Nat.le_refl _) c2, cell_then HB6.out (Nat.le_refl _) c3⟩)
  clear hK K
  try simp only [Act.put, List.setIfInBounds_toArray, List.set_cons_zero, List.set_cons_succ]
  refine wpAnyH_ready (rs := [10]) (by kernel_rfl) (by simp) ?_
  refine (AllReadyH.cons (o := { dst := some 21, op := Op.call { callee := Callee.builtin Builtin.append, args := #[Operand.tmp 16, Operand.tmp 20], argTypes := #[23, 23] }, type := 23, pos := _, after := #[{ on := 5, ground := Ground.data }, { on := 9, ground := Ground.data }, { on := 9, ground := Ground.chain }], guard := none }) rfl (fun K hK => ?_) AllReadyH.nil)
  rw [if_pos (by rfl)]
  refine wp_app _ _ rfl w0.heap.size _ (varL s ++ varL t ++ varL x) rfl HT6.out (some ⟨g6, 0, none⟩) _ k6 (varL y) rfl rfl (fun h => by cases h) HQ6.out (by (try simp only [List.length_append]); have := Ls.out; have := Lt.out; have := Lx.out; have := Ly.out; omega) HB6.out.size ?_
  intro v7 w7 ho7 hb7
  have HB7 := Lib.hid (hb7 _ _ (Nat.le_refl _) HB6.out)
  have HR7 := Lib.hid ho7
  clear ho7 hb7
  refine hK.out _ _ ?_ (fun hHeld => ?_)
  · ((try dsimp only); exact ⟨cell_then HB7.out (Nat.le_refl _) c0, cell_then HB7.out (Nat.le_refl _) c1, cell_then HB7.out (Nat.le_refl _) c2, cell_then HB7.out (Nat.le_refl _) c3⟩)
  clear hK K
  try simp only [Act.put, List.setIfInBounds_toArray, List.set_cons_zero, List.set_cons_succ]
  refine wpAnyH_take (i := 11) (oi := { dst := some 2, op := Op.assign (Operand.tmp 21), type := 23, pos := _, after := #[{ on := 10, ground := Ground.data }, { on := 10, ground := Ground.chain }, { on := 0, ground := Ground.phase }, { on := 1, ground := Ground.phase }, { on := 2, ground := Ground.phase }, { on := 3, ground := Ground.phase }, { on := 4, ground := Ground.phase }, { on := 5, ground := Ground.phase }, { on := 6, ground := Ground.phase }, { on := 7, ground := Ground.phase }, { on := 8, ground := Ground.phase }, { on := 9, ground := Ground.phase }, { on := 10, ground := Ground.phase }], guard := none }) (v := ?_) rfl (by kernel_rfl) (by kernel_rfl) (by kernel_rfl) (fun _ _ _ h => h) (Or.inl ⟨by rfl, ?_⟩) (by assumption) ?_
  rotate_left
  · ((intro w hSw); (try dsimp only at hSw); go_simp; (try with_reducible rfl))
  try simp only [Act.put, List.setIfInBounds_toArray, List.set_cons_zero, List.set_cons_succ]
  refine wpAnyH_done (by kernel_rfl) ?_ _
  go_wp2
  go_ret
  exact ⟨_, rfl, by rw [HNL.out]; exact rb_base HR7.out HB0.out.size, below_then HB0.out HB7.out HB0.out.size⟩
end Go.Proofs.YtebfblpmihnndaaDoor.Jc
