/- An operation on both grids. -/
import Derived.Test.YtfdjmlncdbpkgaaYa
set_option linter.unusedVariables false
namespace Go.Proofs.Ytfdjmlncdbpkgaa.Yb
open Go Go.RowKit Kit Gm Gv Fl Me Cp Sl Gg Gh Gq Gk Gs Gt Gu Lw Xa Og Ya

theorem ite_self (v : Bool) : (Value.bool (v == v)) = Value.bool true := by cases v <;> rfl
set_option maxRecDepth 100000 in
set_option maxHeartbeats 4000000 in
theorem doesC (W0 w : World) (z : Cps) (p b R C : Nat) (L : List Ce) (q d : Nat) (g : GO) (h : Bo W0 w z p b R C L q d R C L) :
    Calls Try.prog 14 #[.pointer (some ⟨p, 0, none⟩), .pointer (some ⟨q, 0, none⟩), ovA g] w fun e w' => e = .returned (.bool true) ∧ ∃ b' d' R' C' L', Bo W0 w' z p b' R' C' L' q d' R' C' L' := by
  obtain ⟨gk, gr, gc, gn, ⟨xr, xf, xg, xb, xw⟩⟩ := g
  have HB0 := Lib.hid (h.then_ (below_one w (.cells (ov ⟨gk, gr, gc, gn, ⟨xr, xf, xg, xb, xw⟩⟩).toArray 39)))
  have HF0 := Lib.hid (h.fresh (k := w.heap.size) (Nat.le_refl _))
  have HO0 := Lib.hid (show OpB (w.alloc (.cells (ov ⟨gk, gr, gc, gn, ⟨xr, xf, xg, xb, xw⟩⟩).toArray 39)) w.heap.size ⟨gk, gr, gc, gn, ⟨xr, xf, xg, xb, xw⟩⟩ from heap_alloc_last w _)
  have hw0 : w.alloc (.cells #[.int .i64 gk, .int .i64 gr, .int .i64 gc, .int .i64 gn, .int .i32 xr, .int .i64 xf, .int .i64 xg, .int .i64 xb, .int .i64 xw] 39) = w.alloc (.cells (ov ⟨gk, gr, gc, gn, ⟨xr, xf, xg, xb, xw⟩⟩).toArray 39) := rfl
  generalize w.alloc (.cells (ov ⟨gk, gr, gc, gn, ⟨xr, xf, xg, xb, xw⟩⟩).toArray 39) = w0 at *
  obtain ⟨k0, k1, k2, k3, k4, k5, k6, k7, k8⟩ := HO0.out.nine
  dsimp only at k0 k1 k2 k3 k4 k5 k6 k7 k8
  clear h
  by_cases e0 : gk = 0
  · subst e0
    go_enter Try.func14, Try.ntmps14
    go_wp2
    refine wp_region_held_drew (S := (fun W => W.cell? ⟨w.heap.size, 0, none⟩ = some (.int .i64 0) ∧ W.cell? ⟨w.heap.size, 1, none⟩ = some (.int .i64 gr) ∧ W.cell? ⟨w.heap.size, 2, none⟩ = some (.int .i64 gc) ∧ W.cell? ⟨w.heap.size, 3, none⟩ = some (.int .i64 gn) ∧ W.cell? ⟨w.heap.size, 4, none⟩ = some (.int .i32 xr) ∧ W.cell? ⟨w.heap.size, 5, none⟩ = some (.int .i64 xf) ∧ W.cell? ⟨w.heap.size, 6, none⟩ = some (.int .i64 xg) ∧ W.cell? ⟨w.heap.size, 7, none⟩ = some (.int .i64 xb) ∧ W.cell? ⟨w.heap.size, 8, none⟩ = some (.int .i64 xw))) (by kernel_rfl) ?_ (fun hHeld => ?_)
    · ((try dsimp only); exact ⟨k0, k1, k2, k3, k4, k5, k6, k7, k8⟩)
    refine wpAnyH_take (i := 0) (oi := { dst := some 11, op := Op.move (Operand.tmp 0), type := 24, pos := _, after := #[], guard := none }) (v := ?_) rfl (by kernel_rfl) (by kernel_rfl) (by kernel_rfl) (fun _ _ _ h => h) (Or.inl ⟨by rfl, ?_⟩) (by assumption) ?_
    rotate_left
    · ((intro w hSw); (try dsimp only at hSw); go_simp; (try with_reducible rfl))
    try simp only [Act.put, List.setIfInBounds_toArray, List.set_cons_zero, List.set_cons_succ]
    refine wpAnyH_take (i := 1) (oi := { dst := some 12, op := Op.fieldAddr 39 (Operand.tmp 5) 1, type := 0, pos := _, after := #[], guard := none }) (v := ?_) rfl (by kernel_rfl) (by kernel_rfl) (by kernel_rfl) (fun _ _ _ h => h) (Or.inl ⟨by rfl, ?_⟩) (by assumption) ?_
    rotate_left
    · ((intro w hSw); (try dsimp only at hSw); go_simp; (try with_reducible rfl))
    try simp only [Act.put, List.setIfInBounds_toArray, List.set_cons_zero, List.set_cons_succ]
    refine wpAnyH_take (i := 2) (oi := { dst := some 13, op := Op.load 3 (Operand.tmp 12), type := 3, pos := _, after := #[{ on := 1, ground := Ground.data }], guard := none }) (v := ?_) rfl (by kernel_rfl) (by kernel_rfl) (by kernel_rfl) (fun _ _ _ h => h) (Or.inl ⟨by rfl, ?_⟩) (by assumption) ?_
    rotate_left
    · ((intro w hSw); (try dsimp only at hSw); go_simp; (try with_reducible rfl))
    try simp only [Act.put, List.setIfInBounds_toArray, List.set_cons_zero, List.set_cons_succ]
    refine wpAnyH_take (i := 3) (oi := { dst := some 14, op := Op.fieldAddr 39 (Operand.tmp 5) 2, type := 0, pos := _, after := #[], guard := none }) (v := ?_) rfl (by kernel_rfl) (by kernel_rfl) (by kernel_rfl) (fun _ _ _ h => h) (Or.inl ⟨by rfl, ?_⟩) (by assumption) ?_
    rotate_left
    · ((intro w hSw); (try dsimp only at hSw); go_simp; (try with_reducible rfl))
    try simp only [Act.put, List.setIfInBounds_toArray, List.set_cons_zero, List.set_cons_succ]
    refine wpAnyH_take (i := 4) (oi := { dst := some 15, op := Op.load 3 (Operand.tmp 14), type := 3, pos := _, after := #[{ on := 3, ground := Ground.data }], guard := none }) (v := ?_) rfl (by kernel_rfl) (by kernel_rfl) (by kernel_rfl) (fun _ _ _ h => h) (Or.inl ⟨by rfl, ?_⟩) (by assumption) ?_
    rotate_left
    · ((intro w hSw); (try dsimp only at hSw); go_simp; (try with_reducible rfl))
    try simp only [Act.put, List.setIfInBounds_toArray, List.set_cons_zero, List.set_cons_succ]
    refine wpAnyH_take (i := 5) (oi := { dst := some 16, op := Op.fieldAddr 39 (Operand.tmp 5) 4, type := 0, pos := _, after := #[], guard := none }) (v := ?_) rfl (by kernel_rfl) (by kernel_rfl) (by kernel_rfl) (fun _ _ _ h => h) (Or.inl ⟨by rfl, ?_⟩) (by assumption) ?_
    rotate_left
    · ((intro w hSw); (try dsimp only at hSw); go_simp; (try with_reducible rfl))
    try simp only [Act.put, List.setIfInBounds_toArray, List.set_cons_zero, List.set_cons_succ]
    refine wpAnyH_take (i := 6) (oi := { dst := some 17, op := Op.load 37 (Operand.tmp 16), type := 37, pos := _, after := #[{ on := 5, ground := Ground.data }], guard := none }) (v := ?_) rfl (by kernel_rfl) (by kernel_rfl) (by kernel_rfl) (fun _ _ _ h => h) (Or.inl ⟨by rfl, ?_⟩) (by assumption) ?_
    rotate_left
    · ((intro w hSw); (try dsimp only at hSw); go_simp; (try with_reducible rfl))
    try simp only [Act.put, List.setIfInBounds_toArray, List.set_cons_zero, List.set_cons_succ]
    refine wpAnyH_take (i := 8) (oi := { dst := some 19, op := Op.move (Operand.tmp 1), type := 28, pos := _, after := #[], guard := none }) (v := ?_) rfl (by kernel_rfl) (by kernel_rfl) (by kernel_rfl) (fun _ _ _ h => h) (Or.inl ⟨by rfl, ?_⟩) (by assumption) ?_
    rotate_left
    · ((intro w hSw); (try dsimp only at hSw); go_simp; (try with_reducible rfl))
    try simp only [Act.put, List.setIfInBounds_toArray, List.set_cons_zero, List.set_cons_succ]
    refine wpAnyH_take (i := 9) (oi := { dst := some 20, op := Op.fieldAddr 39 (Operand.tmp 5) 1, type := 0, pos := _, after := #[], guard := none }) (v := ?_) rfl (by kernel_rfl) (by kernel_rfl) (by kernel_rfl) (fun _ _ _ h => h) (Or.inl ⟨by rfl, ?_⟩) (by assumption) ?_
    rotate_left
    · ((intro w hSw); (try dsimp only at hSw); go_simp; (try with_reducible rfl))
    try simp only [Act.put, List.setIfInBounds_toArray, List.set_cons_zero, List.set_cons_succ]
    refine wpAnyH_take (i := 10) (oi := { dst := some 21, op := Op.load 3 (Operand.tmp 20), type := 3, pos := _, after := #[{ on := 9, ground := Ground.data }], guard := none }) (v := ?_) rfl (by kernel_rfl) (by kernel_rfl) (by kernel_rfl) (fun _ _ _ h => h) (Or.inl ⟨by rfl, ?_⟩) (by assumption) ?_
    rotate_left
    · ((intro w hSw); (try dsimp only at hSw); go_simp; (try with_reducible rfl))
    try simp only [Act.put, List.setIfInBounds_toArray, List.set_cons_zero, List.set_cons_succ]
    refine wpAnyH_take (i := 11) (oi := { dst := some 22, op := Op.fieldAddr 39 (Operand.tmp 5) 2, type := 0, pos := _, after := #[], guard := none }) (v := ?_) rfl (by kernel_rfl) (by kernel_rfl) (by kernel_rfl) (fun _ _ _ h => h) (Or.inl ⟨by rfl, ?_⟩) (by assumption) ?_
    rotate_left
    · ((intro w hSw); (try dsimp only at hSw); go_simp; (try with_reducible rfl))
    try simp only [Act.put, List.setIfInBounds_toArray, List.set_cons_zero, List.set_cons_succ]
    refine wpAnyH_take (i := 12) (oi := { dst := some 23, op := Op.load 3 (Operand.tmp 22), type := 3, pos := _, after := #[{ on := 11, ground := Ground.data }], guard := none }) (v := ?_) rfl (by kernel_rfl) (by kernel_rfl) (by kernel_rfl) (fun _ _ _ h => h) (Or.inl ⟨by rfl, ?_⟩) (by assumption) ?_
    rotate_left
    · ((intro w hSw); (try dsimp only at hSw); go_simp; (try with_reducible rfl))
    try simp only [Act.put, List.setIfInBounds_toArray, List.set_cons_zero, List.set_cons_succ]
    refine wpAnyH_take (i := 13) (oi := { dst := some 24, op := Op.fieldAddr 39 (Operand.tmp 5) 4, type := 0, pos := _, after := #[], guard := none }) (v := ?_) rfl (by kernel_rfl) (by kernel_rfl) (by kernel_rfl) (fun _ _ _ h => h) (Or.inl ⟨by rfl, ?_⟩) (by assumption) ?_
    rotate_left
    · ((intro w hSw); (try dsimp only at hSw); go_simp; (try with_reducible rfl))
    try simp only [Act.put, List.setIfInBounds_toArray, List.set_cons_zero, List.set_cons_succ]
    refine wpAnyH_take (i := 14) (oi := { dst := some 25, op := Op.load 37 (Operand.tmp 24), type := 37, pos := _, after := #[{ on := 13, ground := Ground.data }], guard := none }) (v := ?_) rfl (by kernel_rfl) (by kernel_rfl) (by kernel_rfl) (fun _ _ _ h => h) (Or.inl ⟨by rfl, ?_⟩) (by assumption) ?_
    rotate_left
    · ((intro w hSw); (try dsimp only at hSw); go_simp; (try with_reducible rfl))
    try simp only [Act.put, List.setIfInBounds_toArray, List.set_cons_zero, List.set_cons_succ]
    refine wpAnyH_ready (rs := [7]) (by kernel_rfl) (by simp) ?_
    refine (AllReadyH.cons (o := { dst := some 18, op := Op.call { callee := Callee.value (Operand.func 21), args := #[Operand.tmp 11, Operand.tmp 13, Operand.tmp 15, Operand.tmp 17], argTypes := #[24, 3, 3, 37] }, type := 4, pos := _, after := #[{ on := 0, ground := Ground.data }, { on := 2, ground := Ground.data }, { on := 4, ground := Ground.data }, { on := 6, ground := Ground.data }], guard := none }) rfl (fun K hK => ?_) AllReadyH.nil)
    go_simp
    refine (putGB W0 w0.drew z p b R C L q d R C L w.heap.size ⟨0, gr, gc, gn, ⟨xr, xf, xg, xb, xw⟩⟩ (HB0.out.drewN 1) HF0.out HO0.out gr gc ⟨xr, xf, xg, xb, xw⟩).mono ?_
    rintro e w1 ⟨rfl, b1, hb1, hf1, ho1⟩
    have HB1 := Lib.hid hb1
    have HF1 := Lib.hid hf1
    have HO1 := Lib.hid ho1
    clear hb1 hf1 ho1
    go_wp2_with fail
    refine hK.out _ _ ?_ (fun hHeld => ?_)
    · ((try dsimp only); exact HO1.out.nine)
    clear hK K
    try simp only [Act.put, List.setIfInBounds_toArray, List.set_cons_zero, List.set_cons_succ]
    refine wpAnyH_ready (rs := [15]) (by kernel_rfl) (by simp) ?_
    refine (AllReadyH.cons (o := { dst := some 26, op := Op.call { callee := Callee.value (Operand.func 37), args := #[Operand.tmp 19, Operand.tmp 21, Operand.tmp 23, Operand.tmp 25], argTypes := #[28, 3, 3, 37] }, type := 4, pos := _, after := #[{ on := 8, ground := Ground.data }, { on := 10, ground := Ground.data }, { on := 12, ground := Ground.data }, { on := 14, ground := Ground.data }, { on := 7, ground := Ground.chain }], guard := none }) rfl (fun K hK => ?_) AllReadyH.nil)
    go_simp
    refine (putXB W0 _ z p b1 _ _ _ q d R C L w.heap.size ⟨0, gr, gc, gn, ⟨xr, xf, xg, xb, xw⟩⟩ HB1.out HF1.out HO1.out gr gc ⟨xr, xf, xg, xb, xw⟩).mono ?_
    rintro e w2 ⟨rfl, d1, hb2, hf2, ho2⟩
    have HB2 := Lib.hid hb2
    clear hb2 hf2
    have HO2 := Lib.hid ho2
    clear ho2
    go_wp2_with fail
    refine hK.out _ _ ?_ (fun hHeld => ?_)
    · ((try dsimp only); exact HO2.out.nine)
    clear hK K
    try simp only [Act.put, List.setIfInBounds_toArray, List.set_cons_zero, List.set_cons_succ]
    refine wpAnyH_take (i := 16) (oi := { dst := some 27, op := Op.binOp BinOp.eql 4 (Operand.tmp 18) (Operand.tmp 26) 4, type := 4, pos := _, after := #[{ on := 7, ground := Ground.data }, { on := 15, ground := Ground.data }], guard := none }) (v := ?_) rfl (by kernel_rfl) (by kernel_rfl) (by kernel_rfl) (fun _ _ _ h => h) (Or.inl ⟨by rfl, ?_⟩) (by assumption) ?_
    rotate_left
    · ((intro w hSw); (try dsimp only at hSw); go_simp; (try with_reducible rfl))
    try simp only [Act.put, List.setIfInBounds_toArray, List.set_cons_zero, List.set_cons_succ]
    refine wpAnyH_take (i := 17) (oi := { dst := some 6, op := Op.assign (Operand.tmp 27), type := 4, pos := _, after := #[{ on := 16, ground := Ground.data }, { on := 15, ground := Ground.chain }, { on := 0, ground := Ground.phase }, { on := 1, ground := Ground.phase }, { on := 2, ground := Ground.phase }, { on := 3, ground := Ground.phase }, { on := 4, ground := Ground.phase }, { on := 5, ground := Ground.phase }, { on := 6, ground := Ground.phase }, { on := 7, ground := Ground.phase }, { on := 8, ground := Ground.phase }, { on := 9, ground := Ground.phase }, { on := 10, ground := Ground.phase }, { on := 11, ground := Ground.phase }, { on := 12, ground := Ground.phase }, { on := 13, ground := Ground.phase }, { on := 14, ground := Ground.phase }, { on := 15, ground := Ground.phase }, { on := 16, ground := Ground.phase }], guard := none }) (v := ?_) rfl (by kernel_rfl) (by kernel_rfl) (by kernel_rfl) (fun _ _ _ h => h) (Or.inl ⟨by rfl, ?_⟩) (by assumption) ?_
    rotate_left
    · ((intro w hSw); (try dsimp only at hSw); go_simp; (try with_reducible rfl))
    try simp only [Act.put, List.setIfInBounds_toArray, List.set_cons_zero, List.set_cons_succ]
    refine wpAnyH_done (by kernel_rfl) ?_ _
    go_wp2
    go_ret
    exact ⟨by simp, _, _, _, _, _, HB2.out⟩
  · have d0 : (gk == 0) = false := by simpa using e0
    clear e0
    by_cases e1 : gk = 1
    · subst e1
      go_enter Try.func14, Try.ntmps14
      go_wp2_with (first
        | (go_at_call 22; (with_reducible refine (eraseGB W0 _ z p b R C L q d R C L w.heap.size ⟨1, gr, gc, gn, ⟨xr, xf, xg, xb, xw⟩⟩ HB0.out HF0.out HO0.out gr gc gn xf xg xb).mono ?_); rintro e w1 ⟨rfl, b1, hb1, hf1, ho1⟩; have HB1 := Lib.hid hb1; have HF1 := Lib.hid hf1; have HO1 := Lib.hid ho1; clear hb1 hf1 ho1 k0 k1 k2 k3 k4 k5 k6 k7 k8; obtain ⟨k0, k1, k2, k3, k4, k5, k6, k7, k8⟩ := HO1.out.nine)
        | (go_at_call 38; (with_reducible refine (eraseXB W0 _ z p b1 _ _ _ q d R C L w.heap.size ⟨1, gr, gc, gn, ⟨xr, xf, xg, xb, xw⟩⟩ HB1.out HF1.out HO1.out gr gc gn xf xg xb).mono ?_); rintro e w2 ⟨rfl, d1, hb2, hf2, ho2⟩; have HB2 := Lib.hid hb2; clear hb2 hf2 ho2))
      go_ret
      exact ⟨rfl, _, _, _, _, _, HB2.out⟩
    · have d1 : (gk == 1) = false := by simpa using e1
      clear e1
      by_cases e2 : gk = 2
      · subst e2
        go_enter Try.func14, Try.ntmps14
        go_wp2_with (first
          | (go_at_call 23; (with_reducible refine (shiftGB W0 _ z p b R C L q d R C L w.heap.size ⟨2, gr, gc, gn, ⟨xr, xf, xg, xb, xw⟩⟩ HB0.out HF0.out HO0.out gr gc gn xf xg xb).mono ?_); rintro e w1 ⟨rfl, b1, hb1, hf1, ho1⟩; have HB1 := Lib.hid hb1; have HF1 := Lib.hid hf1; have HO1 := Lib.hid ho1; clear hb1 hf1 ho1 k0 k1 k2 k3 k4 k5 k6 k7 k8; obtain ⟨k0, k1, k2, k3, k4, k5, k6, k7, k8⟩ := HO1.out.nine)
          | (go_at_call 39; (with_reducible refine (shiftXB W0 _ z p b1 _ _ _ q d R C L w.heap.size ⟨2, gr, gc, gn, ⟨xr, xf, xg, xb, xw⟩⟩ HB1.out HF1.out HO1.out gr gc gn xf xg xb).mono ?_); rintro e w2 ⟨rfl, d1, hb2, hf2, ho2⟩; have HB2 := Lib.hid hb2; clear hb2 hf2 ho2))
        go_ret
        exact ⟨rfl, _, _, _, _, _, HB2.out⟩
      · have d2 : (gk == 2) = false := by simpa using e2
        clear e2
        by_cases e3 : gk = 3
        · subst e3
          go_enter Try.func14, Try.ntmps14
          go_wp2_with (first
            | (go_at_call 24; (with_reducible refine (scrollGB W0 _ z p b R C L q d R C L w.heap.size ⟨3, gr, gc, gn, ⟨xr, xf, xg, xb, xw⟩⟩ HB0.out HF0.out HO0.out gr gc gn xf xg xb).mono ?_); rintro e w1 ⟨rfl, b1, hb1, hf1, ho1⟩; have HB1 := Lib.hid hb1; have HF1 := Lib.hid hf1; have HO1 := Lib.hid ho1; clear hb1 hf1 ho1 k0 k1 k2 k3 k4 k5 k6 k7 k8; obtain ⟨k0, k1, k2, k3, k4, k5, k6, k7, k8⟩ := HO1.out.nine)
            | (go_at_call 40; (with_reducible refine (scrollXB W0 _ z p b1 _ _ _ q d R C L w.heap.size ⟨3, gr, gc, gn, ⟨xr, xf, xg, xb, xw⟩⟩ HB1.out HF1.out HO1.out gr gc gn xf xg xb).mono ?_); rintro e w2 ⟨rfl, d1, hb2, hf2, ho2⟩; have HB2 := Lib.hid hb2; clear hb2 hf2 ho2))
          go_ret
          exact ⟨rfl, _, _, _, _, _, HB2.out⟩
        · have d3 : (gk == 3) = false := by simpa using e3
          clear e3
          by_cases e4 : gk = 4
          · subst e4
            go_enter Try.func14, Try.ntmps14
            go_wp2
            refine wp_region_held_drew (S := (fun W => W.cell? ⟨w.heap.size, 0, none⟩ = some (.int .i64 4) ∧ W.cell? ⟨w.heap.size, 1, none⟩ = some (.int .i64 gr) ∧ W.cell? ⟨w.heap.size, 2, none⟩ = some (.int .i64 gc) ∧ W.cell? ⟨w.heap.size, 3, none⟩ = some (.int .i64 gn) ∧ W.cell? ⟨w.heap.size, 4, none⟩ = some (.int .i32 xr) ∧ W.cell? ⟨w.heap.size, 5, none⟩ = some (.int .i64 xf) ∧ W.cell? ⟨w.heap.size, 6, none⟩ = some (.int .i64 xg) ∧ W.cell? ⟨w.heap.size, 7, none⟩ = some (.int .i64 xb) ∧ W.cell? ⟨w.heap.size, 8, none⟩ = some (.int .i64 xw))) (by kernel_rfl) ?_ (fun hHeld => ?_)
            · ((try dsimp only); exact ⟨k0, k1, k2, k3, k4, k5, k6, k7, k8⟩)
            refine wpAnyH_take (i := 0) (oi := { dst := some 102, op := Op.move (Operand.tmp 0), type := 24, pos := _, after := #[], guard := none }) (v := ?_) rfl (by kernel_rfl) (by kernel_rfl) (by kernel_rfl) (fun _ _ _ h => h) (Or.inl ⟨by rfl, ?_⟩) (by assumption) ?_
            rotate_left
            · ((intro w hSw); (try dsimp only at hSw); go_simp; (try with_reducible rfl))
            try simp only [Act.put, List.setIfInBounds_toArray, List.set_cons_zero, List.set_cons_succ]
            refine wpAnyH_take (i := 1) (oi := { dst := some 103, op := Op.fieldAddr 39 (Operand.tmp 5) 1, type := 0, pos := _, after := #[], guard := none }) (v := ?_) rfl (by kernel_rfl) (by kernel_rfl) (by kernel_rfl) (fun _ _ _ h => h) (Or.inl ⟨by rfl, ?_⟩) (by assumption) ?_
            rotate_left
            · ((intro w hSw); (try dsimp only at hSw); go_simp; (try with_reducible rfl))
            try simp only [Act.put, List.setIfInBounds_toArray, List.set_cons_zero, List.set_cons_succ]
            refine wpAnyH_take (i := 2) (oi := { dst := some 104, op := Op.load 3 (Operand.tmp 103), type := 3, pos := _, after := #[{ on := 1, ground := Ground.data }], guard := none }) (v := ?_) rfl (by kernel_rfl) (by kernel_rfl) (by kernel_rfl) (fun _ _ _ h => h) (Or.inl ⟨by rfl, ?_⟩) (by assumption) ?_
            rotate_left
            · ((intro w hSw); (try dsimp only at hSw); go_simp; (try with_reducible rfl))
            try simp only [Act.put, List.setIfInBounds_toArray, List.set_cons_zero, List.set_cons_succ]
            refine wpAnyH_take (i := 3) (oi := { dst := some 105, op := Op.fieldAddr 39 (Operand.tmp 5) 2, type := 0, pos := _, after := #[], guard := none }) (v := ?_) rfl (by kernel_rfl) (by kernel_rfl) (by kernel_rfl) (fun _ _ _ h => h) (Or.inl ⟨by rfl, ?_⟩) (by assumption) ?_
            rotate_left
            · ((intro w hSw); (try dsimp only at hSw); go_simp; (try with_reducible rfl))
            try simp only [Act.put, List.setIfInBounds_toArray, List.set_cons_zero, List.set_cons_succ]
            refine wpAnyH_take (i := 4) (oi := { dst := some 106, op := Op.load 3 (Operand.tmp 105), type := 3, pos := _, after := #[{ on := 3, ground := Ground.data }], guard := none }) (v := ?_) rfl (by kernel_rfl) (by kernel_rfl) (by kernel_rfl) (fun _ _ _ h => h) (Or.inl ⟨by rfl, ?_⟩) (by assumption) ?_
            rotate_left
            · ((intro w hSw); (try dsimp only at hSw); go_simp; (try with_reducible rfl))
            try simp only [Act.put, List.setIfInBounds_toArray, List.set_cons_zero, List.set_cons_succ]
            refine wpAnyH_take (i := 6) (oi := { dst := some 108, op := Op.move (Operand.tmp 1), type := 28, pos := _, after := #[], guard := none }) (v := ?_) rfl (by kernel_rfl) (by kernel_rfl) (by kernel_rfl) (fun _ _ _ h => h) (Or.inl ⟨by rfl, ?_⟩) (by assumption) ?_
            rotate_left
            · ((intro w hSw); (try dsimp only at hSw); go_simp; (try with_reducible rfl))
            try simp only [Act.put, List.setIfInBounds_toArray, List.set_cons_zero, List.set_cons_succ]
            refine wpAnyH_take (i := 7) (oi := { dst := some 109, op := Op.fieldAddr 39 (Operand.tmp 5) 1, type := 0, pos := _, after := #[], guard := none }) (v := ?_) rfl (by kernel_rfl) (by kernel_rfl) (by kernel_rfl) (fun _ _ _ h => h) (Or.inl ⟨by rfl, ?_⟩) (by assumption) ?_
            rotate_left
            · ((intro w hSw); (try dsimp only at hSw); go_simp; (try with_reducible rfl))
            try simp only [Act.put, List.setIfInBounds_toArray, List.set_cons_zero, List.set_cons_succ]
            refine wpAnyH_take (i := 8) (oi := { dst := some 110, op := Op.load 3 (Operand.tmp 109), type := 3, pos := _, after := #[{ on := 7, ground := Ground.data }], guard := none }) (v := ?_) rfl (by kernel_rfl) (by kernel_rfl) (by kernel_rfl) (fun _ _ _ h => h) (Or.inl ⟨by rfl, ?_⟩) (by assumption) ?_
            rotate_left
            · ((intro w hSw); (try dsimp only at hSw); go_simp; (try with_reducible rfl))
            try simp only [Act.put, List.setIfInBounds_toArray, List.set_cons_zero, List.set_cons_succ]
            refine wpAnyH_take (i := 9) (oi := { dst := some 111, op := Op.fieldAddr 39 (Operand.tmp 5) 2, type := 0, pos := _, after := #[], guard := none }) (v := ?_) rfl (by kernel_rfl) (by kernel_rfl) (by kernel_rfl) (fun _ _ _ h => h) (Or.inl ⟨by rfl, ?_⟩) (by assumption) ?_
            rotate_left
            · ((intro w hSw); (try dsimp only at hSw); go_simp; (try with_reducible rfl))
            try simp only [Act.put, List.setIfInBounds_toArray, List.set_cons_zero, List.set_cons_succ]
            refine wpAnyH_take (i := 10) (oi := { dst := some 112, op := Op.load 3 (Operand.tmp 111), type := 3, pos := _, after := #[{ on := 9, ground := Ground.data }], guard := none }) (v := ?_) rfl (by kernel_rfl) (by kernel_rfl) (by kernel_rfl) (fun _ _ _ h => h) (Or.inl ⟨by rfl, ?_⟩) (by assumption) ?_
            rotate_left
            · ((intro w hSw); (try dsimp only at hSw); go_simp; (try with_reducible rfl))
            try simp only [Act.put, List.setIfInBounds_toArray, List.set_cons_zero, List.set_cons_succ]
            refine wpAnyH_ready (rs := [5]) (by kernel_rfl) (by simp) ?_
            refine (AllReadyH.cons (o := { dst := some 107, op := Op.call { callee := Callee.value (Operand.func 25), args := #[Operand.tmp 102, Operand.tmp 104, Operand.tmp 106], argTypes := #[24, 3, 3] }, type := 25, pos := _, after := #[{ on := 0, ground := Ground.data }, { on := 2, ground := Ground.data }, { on := 4, ground := Ground.data }], guard := none }) rfl (fun K hK => ?_) AllReadyH.nil)
            go_simp
            refine (resizeGB W0 w0.drew z p b R C L q d R C L w.heap.size ⟨4, gr, gc, gn, ⟨xr, xf, xg, xb, xw⟩⟩ (HB0.out.drewN 1) HF0.out HO0.out gr gc).mono ?_
            rintro e w1 ⟨rfl, b1, hb1, hf1, ho1⟩
            have HB1 := Lib.hid hb1
            have HF1 := Lib.hid hf1
            have HO1 := Lib.hid ho1
            clear hb1 hf1 ho1
            go_wp2_with fail
            refine hK.out _ _ ?_ (fun hHeld => ?_)
            · ((try dsimp only); exact HO1.out.nine)
            clear hK K
            try simp only [Act.put, List.setIfInBounds_toArray, List.set_cons_zero, List.set_cons_succ]
            refine wpAnyH_ready (rs := [11]) (by kernel_rfl) (by simp) ?_
            refine (AllReadyH.cons (o := { dst := some 113, op := Op.call { callee := Callee.value (Operand.func 41), args := #[Operand.tmp 108, Operand.tmp 110, Operand.tmp 112], argTypes := #[28, 3, 3] }, type := 25, pos := _, after := #[{ on := 6, ground := Ground.data }, { on := 8, ground := Ground.data }, { on := 10, ground := Ground.data }, { on := 5, ground := Ground.chain }], guard := none }) rfl (fun K hK => ?_) AllReadyH.nil)
            go_simp
            refine (resizeXB W0 _ z p b1 _ _ _ q d R C L w.heap.size ⟨4, gr, gc, gn, ⟨xr, xf, xg, xb, xw⟩⟩ HB1.out HF1.out HO1.out gr gc).mono ?_
            rintro e w2 ⟨rfl, d1, hb2, hf2, ho2⟩
            have HB2 := Lib.hid hb2
            clear hb2 hf2
            have HO2 := Lib.hid ho2
            clear ho2
            go_wp2_with fail
            refine hK.out _ _ ?_ (fun hHeld => ?_)
            · ((try dsimp only); exact HO2.out.nine)
            clear hK K
            try simp only [Act.put, List.setIfInBounds_toArray, List.set_cons_zero, List.set_cons_succ]
            refine wpAnyH_take (i := 12) (oi := { dst := some 114, op := Op.binOp BinOp.eql 25 (Operand.tmp 107) (Operand.tmp 113) 25, type := 4, pos := _, after := #[{ on := 5, ground := Ground.data }, { on := 11, ground := Ground.data }], guard := none }) (v := ?_) rfl (by kernel_rfl) (by kernel_rfl) (by kernel_rfl) (fun _ _ _ h => h) (Or.inl ⟨by rfl, ?_⟩) (by assumption) ?_
            rotate_left
            · ((intro w hSw); (try dsimp only at hSw); go_simp; (try with_reducible rfl))
            try simp only [Act.put, List.setIfInBounds_toArray, List.set_cons_zero, List.set_cons_succ]
            refine wpAnyH_take (i := 13) (oi := { dst := some 6, op := Op.assign (Operand.tmp 114), type := 4, pos := _, after := #[{ on := 12, ground := Ground.data }, { on := 11, ground := Ground.chain }, { on := 0, ground := Ground.phase }, { on := 1, ground := Ground.phase }, { on := 2, ground := Ground.phase }, { on := 3, ground := Ground.phase }, { on := 4, ground := Ground.phase }, { on := 5, ground := Ground.phase }, { on := 6, ground := Ground.phase }, { on := 7, ground := Ground.phase }, { on := 8, ground := Ground.phase }, { on := 9, ground := Ground.phase }, { on := 10, ground := Ground.phase }, { on := 11, ground := Ground.phase }, { on := 12, ground := Ground.phase }], guard := none }) (v := ?_) rfl (by kernel_rfl) (by kernel_rfl) (by kernel_rfl) (fun _ _ _ h => h) (Or.inl ⟨by rfl, ?_⟩) (by assumption) ?_
            rotate_left
            · ((intro w hSw); (try dsimp only at hSw); go_simp; (try with_reducible rfl))
            try simp only [Act.put, List.setIfInBounds_toArray, List.set_cons_zero, List.set_cons_succ]
            refine wpAnyH_done (by kernel_rfl) ?_ _
            go_wp2
            go_ret
            exact ⟨by simp, _, _, _, _, _, HB2.out⟩
          · have d4 : (gk == 4) = false := by simpa using e4
            clear e4
            by_cases e5 : gk = 5
            · subst e5
              go_enter Try.func14, Try.ntmps14
              go_wp2_with (first
                | (go_at_call 26; (with_reducible refine (fillGB W0 _ z p b R C L q d R C L w.heap.size ⟨5, gr, gc, gn, ⟨xr, xf, xg, xb, xw⟩⟩ HB0.out HF0.out HO0.out ⟨xr, xf, xg, xb, xw⟩).mono ?_); rintro e w1 ⟨rfl, b1, hb1, hf1, ho1⟩; have HB1 := Lib.hid hb1; have HF1 := Lib.hid hf1; have HO1 := Lib.hid ho1; clear hb1 hf1 ho1 k0 k1 k2 k3 k4 k5 k6 k7 k8; obtain ⟨k0, k1, k2, k3, k4, k5, k6, k7, k8⟩ := HO1.out.nine)
                | (go_at_call 42; (with_reducible refine (fillXB W0 _ z p b1 _ _ _ q d R C L w.heap.size ⟨5, gr, gc, gn, ⟨xr, xf, xg, xb, xw⟩⟩ HB1.out HF1.out HO1.out ⟨xr, xf, xg, xb, xw⟩).mono ?_); rintro e w2 ⟨rfl, d1, hb2, hf2, ho2⟩; have HB2 := Lib.hid hb2; clear hb2 hf2 ho2))
              go_ret
              exact ⟨rfl, _, _, _, _, _, HB2.out⟩
            · have d5 : (gk == 5) = false := by simpa using e5
              clear e5
              go_enter Try.func14, Try.ntmps14
              go_wp2
              go_ret
              exact ⟨rfl, _, _, _, _, _, HB0.out⟩
end Go.Proofs.Ytfdjmlncdbpkgaa.Yb
