/- The document's mend. -/
import Derived.Test.YtfdjmlncdbpkgaaXb
import Derived.Deep.RegionHeld3
set_option linter.unusedVariables false
namespace Go.Proofs.Ytfdjmlncdbpkgaa.Xm
open Go Go.RowKit Kit Gm Gv Fl Me Cp Sl Gg Gh Gp Gq Gk Xa Xb

theorem row_src {w : World} {b : Nat} {A X Z : List Ce} (h : RB w b (A ++ X ++ Z)) (q : Nat) (hq : q = A.length * 5) : ∀ j v, (flat X)[j]? = some v → w.cell? ((⟨b, q, none⟩ : Addr).add j) = some v := part_src h q hq
theorem cs_kept {w w' : World} {b b2 : Nat} {M : List Ce} (h : CS w b2 M) (hk : Kp b b w w') (hne : b2 ≠ b) (hl : b2 < w.heap.size) : CS w' b2 M := fun j hj i hi => by
  have e := hk.block b2 hl hne hne
  rw [← h j hj i hi]; simp [World.cell?, e]
theorem cs_lt {w : World} {b : Nat} {M : List Ce} (h : CS w b M) (h0 : 0 < M.length) : b < w.heap.size :=
  World.block_lt_of_cell? w _ (show w.cell? ⟨b, 0 * 5 + 0, none⟩ = some (.int .i32 (M[0]).r) from h 0 h0 0 (by omega))
theorem cs_fives {w : World} {b : Nat} {L : List Ce} (h : CS w b L) (j : Nat) (c : Ce) (e : L[j]? = some c) : w.cell? ⟨b, j * 5, none⟩ = some (.int .i32 c.r) ∧ w.cell? ⟨b, j * 5 + 1, none⟩ = some (.int .i64 c.fl) ∧ w.cell? ⟨b, j * 5 + 2, none⟩ = some (.int .i64 c.fg) ∧ w.cell? ⟨b, j * 5 + 3, none⟩ = some (.int .i64 c.bg) ∧ w.cell? ⟨b, j * 5 + 4, none⟩ = some (.int .i64 c.wd) := by
  obtain ⟨hj, rfl⟩ := List.getElem?_eq_some_iff.1 e
  exact ⟨h j hj 0 (by omega), h j hj 1 (by omega), h j hj 2 (by omega), h j hj 3 (by omega), h j hj 4 (by omega)⟩
theorem mid_get {M P T : List Ce} {c : Ce} {k : Nat} (h : M = P ++ c :: T) (hp : P.length = k) : M[k]? = some c := by subst h hp; simp
theorem mid_get2 {M P T : List Ce} {c d : Ce} {k : Nat} (h : M = P ++ c :: d :: T) (hp : P.length = k) : M[k + 1]? = some d := by
  subst h hp; rw [List.getElem?_append_right (by omega)]; simp
set_option maxRecDepth 100000 in
set_option maxHeartbeats 4000000 in
theorem mendX (p b R C r : Nat) (A M Z : List Ce) (w : World) (h : X w p b R C (A ++ M ++ Z)) (hr : r < R) (hA : A.length = r * C) (hM : M.length = C) (hwd : ∀ c ∈ M, c.wd = 0 ∨ c.wd = 1 ∨ c.wd = 2) :
    Calls Try.prog 55 #[.pointer (some ⟨p, 0, none⟩), .int .i64 (r : Int)] w (RowP b (A ++ mend M ++ Z) w) := by
  have hs := h.small
  have hlen := h.len
  have hr0 := h.row
  have hc1 := h.c1
  have hc2 := h.c2
  have hne := h.ne
  obtain ⟨c0, c1, c2⟩ := three h.obj
  have hobj := h.obj
  have HMn := Lib.hid hM.symm
  have hcapn : (A ++ M ++ Z).length = A.length + C + Z.length := by rw [List.length_append, List.length_append, hM]
  have hE := em_mend M.length M (Nat.le_refl _) hwd 0 (by intro e; exact absurd e (by decide))
  have HE := Lib.hid hE
  rw [hA] at hcapn
  generalize hn : (A ++ M ++ Z).length = n at *
  obtain ⟨q, hq⟩ : ∃ q, q = r * C := ⟨_, rfl⟩
  rw [← hq] at hcapn hA
  have hqI : (r : Int) * (C : Int) = (q : Int) := by rw [hq]; exact (Int.natCast_mul r C).symm
  obtain ⟨s, hss⟩ : ∃ s, s = q + C := ⟨_, rfl⟩
  have e4 : ¬ n = q := by omega
  have e5 : q ≤ s := by omega
  have e6 : s ≤ n := by omega
  have e7 : s - q = C := by omega
  have e8 : n - q ≠ 0 := by omega
  have b1 : (q : Int) ≤ 1000000 := by omega
  have b2 : (s : Int) ≤ 1000000 := by omega
  have b3 : (q : Int) + (C : Int) = (s : Int) := by omega
  have hw1 := wr_of (x := (r : Int) * (C : Int)) (y := (q : Int)) (by rw [hqI]; exact Int.natCast_nonneg _) (by rw [hqI]; exact b1) hqI
  have hw2 := wr_of (x := (q : Int) + (C : Int)) (y := (s : Int)) (by rw [b3]; exact Int.natCast_nonneg _) (by rw [b3]; exact b2) b3
  have HC0 := Lib.hid (show 0 < C from hc1)
  have HC1 := Lib.hid (show C ≤ 12000 from Nat.le_trans hc2 (by decide))
  obtain ⟨e1, e1'⟩ := hw1
  obtain ⟨e2, e2'⟩ := hw2
  have HQ5 := Lib.hid (show q * 5 = A.length * 5 by rw [hA])
  have HSN := Lib.hid (show s = q + C ∧ s ≤ n ∧ n ≤ 12000 from ⟨hss, e6, hs⟩)
  have HAL := Lib.hid hA
  have HNE := Lib.hid hne
  have HRW := Lib.hid hr0
  have hd1 : (w.alloc (.cells #[] 37)).cell? ⟨p, 1, none⟩ = some (.int .i64 (C : Int)) := cell_then (below_one w (.cells #[] 37)) (Nat.le_refl _) c1
  have hd2 : (w.alloc (.cells #[] 37)).cell? ⟨p, 2, none⟩ = some (.slice (some ⟨b, 0, none⟩) n n) := cell_then (below_one w (.cells #[] 37)) (Nat.le_refl _) c2
  have HB1 := Lib.hid (below_one w (.cells #[] 37))
  have HRB1 := Lib.hid (hr0.alloc (.cells #[] 37))
  have HSRC := Lib.hid (row_src (HRB1.out) _ HQ5.out)
  have HPB := Lib.hid (show p < w.heap.size from h.p_lt)
  have HWD := Lib.hid hwd
  clear h hlen hr0 hM hA hE hcapn hwd hobj hqI hq hss hs hne hn b1 b2 b3 hr
  generalize hw1 : w.alloc (.cells #[] 37) = w1 at *
  have d1 := hd1
  have d2 := hd2
  clear hd1 hd2 c0
  go_enter Try.func55, Try.ntmps55
  go_wp2
  refine wp_region_held_drew (S := (fun W => W.cell? ⟨p, 1, none⟩ = some (.int .i64 (C : Int)) ∧ W.cell? ⟨p, 2, none⟩ = some (.slice (some ⟨b, 0, none⟩) n n))) (by kernel_rfl) ?_ (fun hHeld => ?_)
  · ((try dsimp only); exact ⟨c1, c2⟩)
  refine wpAnyH_take (i := 1) (oi := { dst := some 9, op := Op.move (Operand.tmp 0), type := 28, pos := _, after := #[], guard := none }) (v := ?_) rfl (by kernel_rfl) (by kernel_rfl) (by kernel_rfl) (fun _ _ _ h => h) (Or.inl ⟨by rfl, ?_⟩) (by assumption) ?_
  rotate_left
  · ((intro w hSw); (try dsimp only at hSw); go_simp; (try with_reducible rfl))
  try simp only [Act.put, List.setIfInBounds_toArray, List.set_cons_zero, List.set_cons_succ]
  refine wpAnyH_take (i := 2) (oi := { dst := some 10, op := Op.nilCheck (Operand.tmp 9), type := 0, pos := _, after := #[{ on := 1, ground := Ground.data }], guard := none }) (v := ?_) rfl (by kernel_rfl) (by kernel_rfl) (by kernel_rfl) (fun _ _ _ h => h) (Or.inl ⟨by rfl, ?_⟩) (by assumption) ?_
  rotate_left
  · ((intro w hSw); (try dsimp only at hSw); go_simp; (try with_reducible rfl))
  try simp only [Act.put, List.setIfInBounds_toArray, List.set_cons_zero, List.set_cons_succ]
  refine wpAnyH_take (i := 3) (oi := { dst := some 11, op := Op.fieldAddr 43 (Operand.tmp 10) 2, type := 0, pos := _, after := #[{ on := 2, ground := Ground.data }], guard := none }) (v := ?_) rfl (by kernel_rfl) (by kernel_rfl) (by kernel_rfl) (fun _ _ _ h => h) (Or.inl ⟨by rfl, ?_⟩) (by assumption) ?_
  rotate_left
  · ((intro w hSw); (try dsimp only at hSw); go_simp; (try with_reducible rfl))
  try simp only [Act.put, List.setIfInBounds_toArray, List.set_cons_zero, List.set_cons_succ]
  refine wpAnyH_take (i := 4) (oi := { dst := some 12, op := Op.load 41 (Operand.tmp 11), type := 41, pos := _, after := #[{ on := 3, ground := Ground.data }], guard := none }) (v := ?_) rfl (by kernel_rfl) (by kernel_rfl) (by kernel_rfl) (fun _ _ _ h => h) (Or.inl ⟨by rfl, ?_⟩) (by assumption) ?_
  rotate_left
  · ((intro w hSw); (try dsimp only at hSw); go_simp; (try with_reducible rfl))
  try simp only [Act.put, List.setIfInBounds_toArray, List.set_cons_zero, List.set_cons_succ]
  refine wpAnyH_take (i := 5) (oi := { dst := some 13, op := Op.move (Operand.tmp 1), type := 3, pos := _, after := #[], guard := none }) (v := ?_) rfl (by kernel_rfl) (by kernel_rfl) (by kernel_rfl) (fun _ _ _ h => h) (Or.inl ⟨by rfl, ?_⟩) (by assumption) ?_
  rotate_left
  · ((intro w hSw); (try dsimp only at hSw); go_simp; (try with_reducible rfl))
  try simp only [Act.put, List.setIfInBounds_toArray, List.set_cons_zero, List.set_cons_succ]
  refine wpAnyH_take (i := 6) (oi := { dst := some 14, op := Op.move (Operand.tmp 0), type := 28, pos := _, after := #[], guard := none }) (v := ?_) rfl (by kernel_rfl) (by kernel_rfl) (by kernel_rfl) (fun _ _ _ h => h) (Or.inl ⟨by rfl, ?_⟩) (by assumption) ?_
  rotate_left
  · ((intro w hSw); (try dsimp only at hSw); go_simp; (try with_reducible rfl))
  try simp only [Act.put, List.setIfInBounds_toArray, List.set_cons_zero, List.set_cons_succ]
  refine wpAnyH_take (i := 7) (oi := { dst := some 15, op := Op.nilCheck (Operand.tmp 14), type := 0, pos := _, after := #[{ on := 6, ground := Ground.data }], guard := none }) (v := ?_) rfl (by kernel_rfl) (by kernel_rfl) (by kernel_rfl) (fun _ _ _ h => h) (Or.inl ⟨by rfl, ?_⟩) (by assumption) ?_
  rotate_left
  · ((intro w hSw); (try dsimp only at hSw); go_simp; (try with_reducible rfl))
  try simp only [Act.put, List.setIfInBounds_toArray, List.set_cons_zero, List.set_cons_succ]
  refine wpAnyH_take (i := 8) (oi := { dst := some 16, op := Op.fieldAddr 43 (Operand.tmp 15) 1, type := 0, pos := _, after := #[{ on := 7, ground := Ground.data }], guard := none }) (v := ?_) rfl (by kernel_rfl) (by kernel_rfl) (by kernel_rfl) (fun _ _ _ h => h) (Or.inl ⟨by rfl, ?_⟩) (by assumption) ?_
  rotate_left
  · ((intro w hSw); (try dsimp only at hSw); go_simp; (try with_reducible rfl))
  try simp only [Act.put, List.setIfInBounds_toArray, List.set_cons_zero, List.set_cons_succ]
  refine wpAnyH_take (i := 9) (oi := { dst := some 17, op := Op.load 3 (Operand.tmp 16), type := 3, pos := _, after := #[{ on := 8, ground := Ground.data }], guard := none }) (v := ?_) rfl (by kernel_rfl) (by kernel_rfl) (by kernel_rfl) (fun _ _ _ h => h) (Or.inl ⟨by rfl, ?_⟩) (by assumption) ?_
  rotate_left
  · ((intro w hSw); (try dsimp only at hSw); go_simp; (try with_reducible rfl))
  try simp only [Act.put, List.setIfInBounds_toArray, List.set_cons_zero, List.set_cons_succ]
  refine wpAnyH_take (i := 10) (oi := { dst := some 18, op := Op.binOp BinOp.mul 3 (Operand.tmp 13) (Operand.tmp 17) 3, type := 3, pos := _, after := #[{ on := 5, ground := Ground.data }, { on := 9, ground := Ground.data }], guard := none }) (v := ?_) rfl (by kernel_rfl) (by kernel_rfl) (by kernel_rfl) (fun _ _ _ h => h) (Or.inl ⟨by rfl, ?_⟩) (by assumption) ?_
  rotate_left
  · ((intro w hSw); (try dsimp only at hSw); go_simp; (try with_reducible rfl))
  try simp only [Act.put, List.setIfInBounds_toArray, List.set_cons_zero, List.set_cons_succ]
  refine wpAnyH_take (i := 11) (oi := { dst := some 19, op := Op.move (Operand.tmp 1), type := 3, pos := _, after := #[], guard := none }) (v := ?_) rfl (by kernel_rfl) (by kernel_rfl) (by kernel_rfl) (fun _ _ _ h => h) (Or.inl ⟨by rfl, ?_⟩) (by assumption) ?_
  rotate_left
  · ((intro w hSw); (try dsimp only at hSw); go_simp; (try with_reducible rfl))
  try simp only [Act.put, List.setIfInBounds_toArray, List.set_cons_zero, List.set_cons_succ]
  refine wpAnyH_take (i := 12) (oi := { dst := some 20, op := Op.move (Operand.tmp 0), type := 28, pos := _, after := #[], guard := none }) (v := ?_) rfl (by kernel_rfl) (by kernel_rfl) (by kernel_rfl) (fun _ _ _ h => h) (Or.inl ⟨by rfl, ?_⟩) (by assumption) ?_
  rotate_left
  · ((intro w hSw); (try dsimp only at hSw); go_simp; (try with_reducible rfl))
  try simp only [Act.put, List.setIfInBounds_toArray, List.set_cons_zero, List.set_cons_succ]
  refine wpAnyH_take (i := 13) (oi := { dst := some 21, op := Op.nilCheck (Operand.tmp 20), type := 0, pos := _, after := #[{ on := 12, ground := Ground.data }], guard := none }) (v := ?_) rfl (by kernel_rfl) (by kernel_rfl) (by kernel_rfl) (fun _ _ _ h => h) (Or.inl ⟨by rfl, ?_⟩) (by assumption) ?_
  rotate_left
  · ((intro w hSw); (try dsimp only at hSw); go_simp; (try with_reducible rfl))
  try simp only [Act.put, List.setIfInBounds_toArray, List.set_cons_zero, List.set_cons_succ]
  refine wpAnyH_take (i := 14) (oi := { dst := some 22, op := Op.fieldAddr 43 (Operand.tmp 21) 1, type := 0, pos := _, after := #[{ on := 13, ground := Ground.data }], guard := none }) (v := ?_) rfl (by kernel_rfl) (by kernel_rfl) (by kernel_rfl) (fun _ _ _ h => h) (Or.inl ⟨by rfl, ?_⟩) (by assumption) ?_
  rotate_left
  · ((intro w hSw); (try dsimp only at hSw); go_simp; (try with_reducible rfl))
  try simp only [Act.put, List.setIfInBounds_toArray, List.set_cons_zero, List.set_cons_succ]
  refine wpAnyH_take (i := 15) (oi := { dst := some 23, op := Op.load 3 (Operand.tmp 22), type := 3, pos := _, after := #[{ on := 14, ground := Ground.data }], guard := none }) (v := ?_) rfl (by kernel_rfl) (by kernel_rfl) (by kernel_rfl) (fun _ _ _ h => h) (Or.inl ⟨by rfl, ?_⟩) (by assumption) ?_
  rotate_left
  · ((intro w hSw); (try dsimp only at hSw); go_simp; (try with_reducible rfl))
  try simp only [Act.put, List.setIfInBounds_toArray, List.set_cons_zero, List.set_cons_succ]
  refine wpAnyH_take (i := 16) (oi := { dst := some 24, op := Op.binOp BinOp.mul 3 (Operand.tmp 19) (Operand.tmp 23) 3, type := 3, pos := _, after := #[{ on := 11, ground := Ground.data }, { on := 15, ground := Ground.data }], guard := none }) (v := ?_) rfl (by kernel_rfl) (by kernel_rfl) (by kernel_rfl) (fun _ _ _ h => h) (Or.inl ⟨by rfl, ?_⟩) (by assumption) ?_
  rotate_left
  · ((intro w hSw); (try dsimp only at hSw); go_simp; (try with_reducible rfl))
  try simp only [Act.put, List.setIfInBounds_toArray, List.set_cons_zero, List.set_cons_succ]
  refine wpAnyH_take (i := 17) (oi := { dst := some 25, op := Op.move (Operand.tmp 0), type := 28, pos := _, after := #[], guard := none }) (v := ?_) rfl (by kernel_rfl) (by kernel_rfl) (by kernel_rfl) (fun _ _ _ h => h) (Or.inl ⟨by rfl, ?_⟩) (by assumption) ?_
  rotate_left
  · ((intro w hSw); (try dsimp only at hSw); go_simp; (try with_reducible rfl))
  try simp only [Act.put, List.setIfInBounds_toArray, List.set_cons_zero, List.set_cons_succ]
  refine wpAnyH_take (i := 18) (oi := { dst := some 26, op := Op.nilCheck (Operand.tmp 25), type := 0, pos := _, after := #[{ on := 17, ground := Ground.data }], guard := none }) (v := ?_) rfl (by kernel_rfl) (by kernel_rfl) (by kernel_rfl) (fun _ _ _ h => h) (Or.inl ⟨by rfl, ?_⟩) (by assumption) ?_
  rotate_left
  · ((intro w hSw); (try dsimp only at hSw); go_simp; (try with_reducible rfl))
  try simp only [Act.put, List.setIfInBounds_toArray, List.set_cons_zero, List.set_cons_succ]
  refine wpAnyH_take (i := 19) (oi := { dst := some 27, op := Op.fieldAddr 43 (Operand.tmp 26) 1, type := 0, pos := _, after := #[{ on := 18, ground := Ground.data }], guard := none }) (v := ?_) rfl (by kernel_rfl) (by kernel_rfl) (by kernel_rfl) (fun _ _ _ h => h) (Or.inl ⟨by rfl, ?_⟩) (by assumption) ?_
  rotate_left
  · ((intro w hSw); (try dsimp only at hSw); go_simp; (try with_reducible rfl))
  try simp only [Act.put, List.setIfInBounds_toArray, List.set_cons_zero, List.set_cons_succ]
  refine wpAnyH_take (i := 20) (oi := { dst := some 28, op := Op.load 3 (Operand.tmp 27), type := 3, pos := _, after := #[{ on := 19, ground := Ground.data }], guard := none }) (v := ?_) rfl (by kernel_rfl) (by kernel_rfl) (by kernel_rfl) (fun _ _ _ h => h) (Or.inl ⟨by rfl, ?_⟩) (by assumption) ?_
  rotate_left
  · ((intro w hSw); (try dsimp only at hSw); go_simp; (try with_reducible rfl))
  try simp only [Act.put, List.setIfInBounds_toArray, List.set_cons_zero, List.set_cons_succ]
  refine wpAnyH_take (i := 21) (oi := { dst := some 29, op := Op.binOp BinOp.add 3 (Operand.tmp 24) (Operand.tmp 28) 3, type := 3, pos := _, after := #[{ on := 16, ground := Ground.data }, { on := 20, ground := Ground.data }], guard := none }) (v := ?_) rfl (by kernel_rfl) (by kernel_rfl) (by kernel_rfl) (fun _ _ _ h => h) (Or.inl ⟨by rfl, ?_⟩) (by assumption) ?_
  rotate_left
  · ((intro w hSw); (try dsimp only at hSw); go_simp; (try with_reducible rfl))
  try simp only [Act.put, List.setIfInBounds_toArray, List.set_cons_zero, List.set_cons_succ]
  refine wpAnyH_take (i := 22) (oi := { dst := some 30, op := Op.slice 41 (Operand.tmp 12) (some (Operand.tmp 18)) (some (Operand.tmp 29)) none, type := 41, pos := _, after := #[{ on := 4, ground := Ground.data }, { on := 10, ground := Ground.data }, { on := 21, ground := Ground.data }], guard := none }) (v := ?_) rfl (by kernel_rfl) (by kernel_rfl) (by kernel_rfl) (fun _ _ _ h => h) (Or.inl ⟨by rfl, ?_⟩) (by assumption) ?_
  rotate_left
  · ((intro w hSw); (try dsimp only at hSw); go_simp; (try with_reducible rfl))
  try simp only [Act.put, List.setIfInBounds_toArray, List.set_cons_zero, List.set_cons_succ]
  refine wpAnyH_ready (rs := [0]) (by kernel_rfl) (by simp) ?_
  refine (AllReadyH.cons (o := { dst := some 8, op := Op.buildSlice 41 0 #[], type := 41, pos := _, after := #[], guard := none }) rfl (fun K hK => ?_) AllReadyH.nil)
  go_simp
  refine hK.out _ _ ?_ (fun hHeld => ?_)
  · ((try dsimp only); exact ⟨d1, d2⟩)
  clear hK K
  try simp only [Act.put, List.setIfInBounds_toArray, List.set_cons_zero, List.set_cons_succ]
  refine wpAnyH_ready (rs := [23]) (by kernel_rfl) (by simp) ?_
  refine (AllReadyH.cons (o := { dst := some 31, op := Op.call { callee := Callee.builtin Builtin.append, args := #[Operand.tmp 8, Operand.tmp 30], argTypes := #[41, 41] }, type := 41, pos := _, after := #[{ on := 0, ground := Ground.data }, { on := 22, ground := Ground.data }], guard := none }) rfl (fun K hK => ?_) AllReadyH.nil)
  rw [if_pos (by rfl)]
  refine wp_append_fresh _ _ rfl _ _ _ _ rfl rfl M HMn.out HC0.out HC1.out ?_ ?_
  · exact HSRC.out
  intro cap2 w2 hcs hb2 hcap2
  have HCS := Lib.hid (show CS w2 w1.heap.size M from hcs)
  have HB2 := Lib.hid (show Below w1.heap.size w1 w2 from below_undrew hb2)
  have HCAP := Lib.hid hcap2
  clear hcs hb2 hcap2
  refine hK.out _ _ ?_ (fun hHeld => ?_)
  · ((try dsimp only); exact ⟨cell_then HB2.out (Nat.le_refl _) d1, cell_then HB2.out (Nat.le_refl _) d2⟩)
  clear hK K
  try simp only [Act.put, List.setIfInBounds_toArray, List.set_cons_zero, List.set_cons_succ]
  refine wpAnyH_take (i := 24) (oi := { dst := some 4, op := Op.assign (Operand.tmp 31), type := 41, pos := _, after := #[{ on := 23, ground := Ground.data }, { on := 23, ground := Ground.chain }, { on := 0, ground := Ground.phase }, { on := 1, ground := Ground.phase }, { on := 2, ground := Ground.phase }, { on := 3, ground := Ground.phase }, { on := 4, ground := Ground.phase }, { on := 5, ground := Ground.phase }, { on := 6, ground := Ground.phase }, { on := 7, ground := Ground.phase }, { on := 8, ground := Ground.phase }, { on := 9, ground := Ground.phase }, { on := 10, ground := Ground.phase }, { on := 11, ground := Ground.phase }, { on := 12, ground := Ground.phase }, { on := 13, ground := Ground.phase }, { on := 14, ground := Ground.phase }, { on := 15, ground := Ground.phase }, { on := 16, ground := Ground.phase }, { on := 17, ground := Ground.phase }, { on := 18, ground := Ground.phase }, { on := 19, ground := Ground.phase }, { on := 20, ground := Ground.phase }, { on := 21, ground := Ground.phase }, { on := 22, ground := Ground.phase }, { on := 23, ground := Ground.phase }], guard := none }) (v := ?_) rfl (by kernel_rfl) (by kernel_rfl) (by kernel_rfl) (fun _ _ _ h => h) (Or.inl ⟨by rfl, ?_⟩) (by assumption) ?_
  rotate_left
  · ((intro w hSw); (try dsimp only at hSw); go_simp; (try with_reducible rfl))
  try simp only [Act.put, List.setIfInBounds_toArray, List.set_cons_zero, List.set_cons_succ]
  refine wpAnyH_done (by kernel_rfl) ?_ _
  have HKP2 := Lib.hid (below_then HB1.out HB2.out HB1.out.size)
  have HS1 := Lib.hid HB1.out.size
  have HS2 := Lib.hid HB2.out.size
  have HD1 := Lib.hid (cell_then HB2.out (Nat.le_refl _) d1)
  have HD2 := Lib.hid (cell_then HB2.out (Nat.le_refl _) d2)
  have HRB2 := Lib.hid (HRB1.out.then_ HB2.out (Nat.le_refl _))
  have HN2 := Lib.hid (show w1.heap.size ≠ b from fun e => by have := HRB1.out.lt; omega)
  have HL2 := Lib.hid (show w1.heap.size < w2.heap.size from cs_lt HCS.out (by rw [← HMn.out]; exact HC0.out))
  have HCP := Lib.hid (show C ≤ cap2 from HCAP.out)
  obtain ⟨b2, hb2⟩ : ∃ b2, b2 = w1.heap.size := ⟨_, rfl⟩
  rw [← hb2] at HN2 HL2 HCS
  rw [← hb2]
  rw [show w1.drew.heap.size = b2 from hb2.symm]
  clear d1 d2 HB2 HRB1 HSRC HCAP HRW hb2
  go_wp2
  go_loopw [5] (fun s5 wr => ∃ (k : Nat) (pr : Int) (P T D : List Ce), k + T.length = C ∧ s5 = .int .i64 k ∧ Hid (M = P ++ T) ∧ Hid (P.length = k) ∧ Hid (D.length = k) ∧ Hid (mend M = D ++ em pr T) ∧ Hid (∀ j, k = j + 1 → ∃ x, M[j]? = some x ∧ x.wd = pr) ∧ Hid (RB wr b (A ++ D ++ T ++ Z)) ∧ Hid (Kp b b w2 wr) ∧ Hid (k = 0 → ¬ pr = 1)) (fun s5 _ => C - (intOf s5).toNat)
  case atStart => exact ⟨0, 0, [], M, [], by have := HMn.out; omega, rfl, Lib.hid rfl, Lib.hid rfl, Lib.hid rfl, Lib.hid (by rw [HE.out]; rfl), Lib.hid (fun j h => by omega), Lib.hid (by simpa using HRB2.out), Lib.hid (Kp.refl _ _ _), Lib.hid (fun _ => by decide)⟩
  case round =>
    obtain ⟨k, pr, P, T, D, hk, rfl, HMP, HPL, HDL, HEM, HPR, HR, HK, HP0⟩ := hrel
    have d1 := cell_kept HK.out HD1.out HNE.out HNE.out
    have d2 := cell_kept HK.out HD2.out HNE.out HNE.out
    have hcs := cs_kept HCS.out HK.out HN2.out HL2.out
    cases T with
    | nil =>
      obtain rfl : k = C := by simpa using hk
      clear d1 d2 hcs
      have d1 := cell_kept HK.out HD1.out HNE.out HNE.out
      go_wp2
      go_end0
      have hr := HR.out
      have he := HEM.out
      exact ⟨rfl, by rw [he]; simpa [em] using hr, (Kp.of HKP2.out).trans HK.out (.inl rfl)⟩
    | cons c t =>
      have hlt : k < C := by simp only [List.length_cons] at hk; omega
      have hMk := mid_get HMP.out HPL.out
      obtain ⟨x0, x1, x2, x3, x4⟩ := cs_fives hcs k c hMk
      have HWc := Lib.hid (HWD.out c (List.mem_of_getElem? hMk))
      have HMP2 := Lib.hid (show M = (P ++ [c]) ++ t by rw [HMP.out]; simp)
      have HPL2 := Lib.hid (show (P ++ [c]).length = k + 1 by rw [List.length_append, HPL.out]; rfl)
      have HPR2 := Lib.hid (show ∀ j, k + 1 = j + 1 → ∃ x, M[j]? = some x ∧ x.wd = c.wd from fun j hj => by
        obtain rfl : k = j := by omega
        exact ⟨c, hMk, rfl⟩)
      have hcp : k < cap2 := Nat.lt_of_lt_of_le hlt HCP.out
      have hk2 : k + 1 + t.length = C := by simp only [List.length_cons] at hk; omega
      have HHK := Lib.hid hk2
      have HHM := Lib.hid (show C - (k + 1) < C - k by omega)
      clear x0 hk
      have hkeep : emC pr c t = c → Hid ((D ++ [c]).length = k + 1) ∧ Hid (mend M = (D ++ [c]) ++ em c.wd t) ∧ Hid (RB wr b (A ++ (D ++ [c]) ++ t ++ Z)) := fun e =>
        ⟨Lib.hid (by rw [List.length_append, HDL.out]; rfl), Lib.hid (by rw [HEM.out]; simp [em, e]), Lib.hid (by have := HR.out; simpa using this)⟩
      have HKEEP := Lib.hid hkeep
      clear hkeep hMk
      have hput : emC pr c t = ⟨32, c.fl, c.fg, c.bg, 0⟩ → Hid ((D ++ [(⟨32, c.fl, c.fg, c.bg, 0⟩ : Ce)]).length = k + 1) ∧ Hid (mend M = (D ++ [⟨32, c.fl, c.fg, c.bg, 0⟩]) ++ em c.wd t) ∧ (∀ w5 : World, RB w5 b ((A ++ D) ++ c :: (t ++ Z)) → Hid (RB (putR w5 b ((A ++ D) ++ ⟨32, c.fl, c.fg, c.bg, 0⟩ :: (t ++ Z))) b (A ++ (D ++ [⟨32, c.fl, c.fg, c.bg, 0⟩]) ++ t ++ Z))) := fun e =>
        ⟨Lib.hid (by rw [List.length_append, HDL.out]; rfl), Lib.hid (by rw [HEM.out]; simp [em, e]), fun w5 h5 => Lib.hid (mid_put h5 _ rfl)⟩
      have HPUT := Lib.hid hput
      have HRm := Lib.hid (show RB wr b ((A ++ D) ++ c :: (t ++ Z)) by have := HR.out; simpa using this)
      have HR4 : ∀ w4, Hid (Below wr.heap.size wr w4) → Hid (RB w4 b ((A ++ D) ++ c :: (t ++ Z))) := fun w4 h4 => Lib.hid (HRm.out.then_ h4.out (Nat.le_refl _))
      have HK4 := Lib.hid (show ∀ w4, Hid (Below wr.heap.size wr w4) → Hid (Kp b b w2 (putR w4 b ((A ++ D) ++ ⟨32, c.fl, c.fg, c.bg, 0⟩ :: (t ++ Z)))) from fun w4 h4 => Lib.hid ((HK.out.trans (Kp.of h4.out) (.inl rfl)).put _))
      have hST : ∀ w4, Hid (Below wr.heap.size wr w4) → Kp b b wr (putR w4 b ((A ++ D) ++ ⟨32, c.fl, c.fg, c.bg, 0⟩ :: (t ++ Z))) := fun w4 h4 => (show Kp b b wr (putR w4 b ((A ++ D) ++ ⟨32, c.fl, c.fg, c.bg, 0⟩ :: (t ++ Z))) from (Kp.of h4.out).put _)
      have HST := Lib.hid hST
      have HN2' := HN2
      have HQ := Lib.hid (show (q + k) * 5 = (A ++ D).length * 5 by rw [List.length_append, HAL.out, HDL.out])
      have hsn := HSN.out
      obtain ⟨u, hu⟩ : ∃ u, u = q + k := ⟨_, rfl⟩
      have hu1 : u < n := by omega
      have hu2 : (q : Int) + (k : Int) = (u : Int) := by omega
      have hu3 := wr_of (x := (q : Int) + (k : Int)) (y := (u : Int)) (by omega) (by omega) hu2
      rw [← hu] at HQ
      clear hput hsn hu hu2 hST
      obtain ⟨f1, f2⟩ := hu3
      rcases HWc.out with hw | hw | hw
      · rw [hw] at x4
        obtain ⟨h1, h2, h3⟩ := HKEEP.out (by unfold emC; rw [if_neg]; omega)
        clear hw f1 f2 hu1 HR4
        go_wp2
        exact ⟨⟨k + 1, c.wd, P ++ [c], t, D ++ [c], HHK.out, by go_num, HMP2, HPL2, h1, h2, HPR2, h3, HK, Lib.hid (fun e => by omega)⟩, by simp only [intOf]; exact HHM.out⟩
      · cases t with
        | nil =>
          rw [hw] at x4
          obtain ⟨h1, h2, h3⟩ := HPUT.out (by unfold emC; exact if_pos (.inl ⟨hw, by simp⟩))
          have z1 : ((k : Int) + 1 == (C : Int)) = true := by have := HHK.out; simp at this ⊢; omega
          clear hw
          go_wp2
          refine wp_region_held_drew (S := (fun W => W.cell? ⟨p, 1, none⟩ = some (.int .i64 (C : Int)) ∧ W.cell? ⟨p, 2, none⟩ = some (.slice (some ⟨b, 0, none⟩) n n) ∧ W.cell? ⟨b2, k * 5 + 1, none⟩ = some (.int .i64 c.fl) ∧ W.cell? ⟨b2, k * 5 + 2, none⟩ = some (.int .i64 c.fg) ∧ W.cell? ⟨b2, k * 5 + 3, none⟩ = some (.int .i64 c.bg))) (by kernel_rfl) ?_ (fun hHeld => ?_)
          · ((try dsimp only); exact ⟨d1, d2, x1, x2, x3⟩)
          refine wpAnyH_take (i := 0) (oi := { dst := some 87, op := Op.move (Operand.tmp 0), type := 28, pos := _, after := #[], guard := none }) (v := ?_) rfl (by kernel_rfl) (by kernel_rfl) (by kernel_rfl) (fun _ _ _ h => h) (Or.inl ⟨by rfl, ?_⟩) (by assumption) ?_
          rotate_left
          · ((intro w hSw); (try dsimp only at hSw); go_simp; (try with_reducible rfl))
          try simp only [Act.put, List.setIfInBounds_toArray, List.set_cons_zero, List.set_cons_succ]
          refine wpAnyH_take (i := 1) (oi := { dst := some 88, op := Op.nilCheck (Operand.tmp 87), type := 0, pos := _, after := #[{ on := 0, ground := Ground.data }], guard := none }) (v := ?_) rfl (by kernel_rfl) (by kernel_rfl) (by kernel_rfl) (fun _ _ _ h => h) (Or.inl ⟨by rfl, ?_⟩) (by assumption) ?_
          rotate_left
          · ((intro w hSw); (try dsimp only at hSw); go_simp; (try with_reducible rfl))
          try simp only [Act.put, List.setIfInBounds_toArray, List.set_cons_zero, List.set_cons_succ]
          refine wpAnyH_take (i := 2) (oi := { dst := some 89, op := Op.fieldAddr 43 (Operand.tmp 88) 2, type := 0, pos := _, after := #[{ on := 1, ground := Ground.data }], guard := none }) (v := ?_) rfl (by kernel_rfl) (by kernel_rfl) (by kernel_rfl) (fun _ _ _ h => h) (Or.inl ⟨by rfl, ?_⟩) (by assumption) ?_
          rotate_left
          · ((intro w hSw); (try dsimp only at hSw); go_simp; (try with_reducible rfl))
          try simp only [Act.put, List.setIfInBounds_toArray, List.set_cons_zero, List.set_cons_succ]
          refine wpAnyH_take (i := 3) (oi := { dst := some 90, op := Op.load 41 (Operand.tmp 89), type := 41, pos := _, after := #[{ on := 2, ground := Ground.data }], guard := none }) (v := ?_) rfl (by kernel_rfl) (by kernel_rfl) (by kernel_rfl) (fun _ _ _ h => h) (Or.inl ⟨by rfl, ?_⟩) (by assumption) ?_
          rotate_left
          · ((intro w hSw); (try dsimp only at hSw); go_simp; (try with_reducible rfl))
          try simp only [Act.put, List.setIfInBounds_toArray, List.set_cons_zero, List.set_cons_succ]
          refine wpAnyH_take (i := 4) (oi := { dst := some 91, op := Op.move (Operand.tmp 1), type := 3, pos := _, after := #[], guard := none }) (v := ?_) rfl (by kernel_rfl) (by kernel_rfl) (by kernel_rfl) (fun _ _ _ h => h) (Or.inl ⟨by rfl, ?_⟩) (by assumption) ?_
          rotate_left
          · ((intro w hSw); (try dsimp only at hSw); go_simp; (try with_reducible rfl))
          try simp only [Act.put, List.setIfInBounds_toArray, List.set_cons_zero, List.set_cons_succ]
          refine wpAnyH_take (i := 5) (oi := { dst := some 92, op := Op.move (Operand.tmp 0), type := 28, pos := _, after := #[], guard := none }) (v := ?_) rfl (by kernel_rfl) (by kernel_rfl) (by kernel_rfl) (fun _ _ _ h => h) (Or.inl ⟨by rfl, ?_⟩) (by assumption) ?_
          rotate_left
          · ((intro w hSw); (try dsimp only at hSw); go_simp; (try with_reducible rfl))
          try simp only [Act.put, List.setIfInBounds_toArray, List.set_cons_zero, List.set_cons_succ]
          refine wpAnyH_take (i := 6) (oi := { dst := some 93, op := Op.nilCheck (Operand.tmp 92), type := 0, pos := _, after := #[{ on := 5, ground := Ground.data }], guard := none }) (v := ?_) rfl (by kernel_rfl) (by kernel_rfl) (by kernel_rfl) (fun _ _ _ h => h) (Or.inl ⟨by rfl, ?_⟩) (by assumption) ?_
          rotate_left
          · ((intro w hSw); (try dsimp only at hSw); go_simp; (try with_reducible rfl))
          try simp only [Act.put, List.setIfInBounds_toArray, List.set_cons_zero, List.set_cons_succ]
          refine wpAnyH_take (i := 7) (oi := { dst := some 94, op := Op.fieldAddr 43 (Operand.tmp 93) 1, type := 0, pos := _, after := #[{ on := 6, ground := Ground.data }], guard := none }) (v := ?_) rfl (by kernel_rfl) (by kernel_rfl) (by kernel_rfl) (fun _ _ _ h => h) (Or.inl ⟨by rfl, ?_⟩) (by assumption) ?_
          rotate_left
          · ((intro w hSw); (try dsimp only at hSw); go_simp; (try with_reducible rfl))
          try simp only [Act.put, List.setIfInBounds_toArray, List.set_cons_zero, List.set_cons_succ]
          refine wpAnyH_take (i := 8) (oi := { dst := some 95, op := Op.load 3 (Operand.tmp 94), type := 3, pos := _, after := #[{ on := 7, ground := Ground.data }], guard := none }) (v := ?_) rfl (by kernel_rfl) (by kernel_rfl) (by kernel_rfl) (fun _ _ _ h => h) (Or.inl ⟨by rfl, ?_⟩) (by assumption) ?_
          rotate_left
          · ((intro w hSw); (try dsimp only at hSw); go_simp; (try with_reducible rfl))
          try simp only [Act.put, List.setIfInBounds_toArray, List.set_cons_zero, List.set_cons_succ]
          refine wpAnyH_take (i := 9) (oi := { dst := some 96, op := Op.binOp BinOp.mul 3 (Operand.tmp 91) (Operand.tmp 95) 3, type := 3, pos := _, after := #[{ on := 4, ground := Ground.data }, { on := 8, ground := Ground.data }], guard := none }) (v := ?_) rfl (by kernel_rfl) (by kernel_rfl) (by kernel_rfl) (fun _ _ _ h => h) (Or.inl ⟨by rfl, ?_⟩) (by assumption) ?_
          rotate_left
          · ((intro w hSw); (try dsimp only at hSw); go_simp; (try with_reducible rfl))
          try simp only [Act.put, List.setIfInBounds_toArray, List.set_cons_zero, List.set_cons_succ]
          refine wpAnyH_take (i := 10) (oi := { dst := some 97, op := Op.move (Operand.tmp 5), type := 3, pos := _, after := #[], guard := none }) (v := ?_) rfl (by kernel_rfl) (by kernel_rfl) (by kernel_rfl) (fun _ _ _ h => h) (Or.inl ⟨by rfl, ?_⟩) (by assumption) ?_
          rotate_left
          · ((intro w hSw); (try dsimp only at hSw); go_simp; (try with_reducible rfl))
          try simp only [Act.put, List.setIfInBounds_toArray, List.set_cons_zero, List.set_cons_succ]
          refine wpAnyH_take (i := 11) (oi := { dst := some 98, op := Op.binOp BinOp.add 3 (Operand.tmp 96) (Operand.tmp 97) 3, type := 3, pos := _, after := #[{ on := 9, ground := Ground.data }, { on := 10, ground := Ground.data }], guard := none }) (v := ?_) rfl (by kernel_rfl) (by kernel_rfl) (by kernel_rfl) (fun _ _ _ h => h) (Or.inl ⟨by rfl, ?_⟩) (by assumption) ?_
          rotate_left
          · ((intro w hSw); (try dsimp only at hSw); go_simp; (try with_reducible rfl))
          try simp only [Act.put, List.setIfInBounds_toArray, List.set_cons_zero, List.set_cons_succ]
          refine wpAnyH_take (i := 12) (oi := { dst := some 99, op := Op.move (Operand.tmp 4), type := 41, pos := _, after := #[], guard := none }) (v := ?_) rfl (by kernel_rfl) (by kernel_rfl) (by kernel_rfl) (fun _ _ _ h => h) (Or.inl ⟨by rfl, ?_⟩) (by assumption) ?_
          rotate_left
          · ((intro w hSw); (try dsimp only at hSw); go_simp; (try with_reducible rfl))
          try simp only [Act.put, List.setIfInBounds_toArray, List.set_cons_zero, List.set_cons_succ]
          refine wpAnyH_take (i := 13) (oi := { dst := some 100, op := Op.move (Operand.tmp 5), type := 3, pos := _, after := #[], guard := none }) (v := ?_) rfl (by kernel_rfl) (by kernel_rfl) (by kernel_rfl) (fun _ _ _ h => h) (Or.inl ⟨by rfl, ?_⟩) (by assumption) ?_
          rotate_left
          · ((intro w hSw); (try dsimp only at hSw); go_simp; (try with_reducible rfl))
          try simp only [Act.put, List.setIfInBounds_toArray, List.set_cons_zero, List.set_cons_succ]
          refine wpAnyH_take (i := 14) (oi := { dst := some 101, op := Op.indexAddr 41 (Operand.tmp 99) (Operand.tmp 100), type := 0, pos := _, after := #[{ on := 12, ground := Ground.data }, { on := 13, ground := Ground.data }], guard := none }) (v := ?_) rfl (by kernel_rfl) (by kernel_rfl) (by kernel_rfl) (fun _ _ _ h => h) (Or.inl ⟨by rfl, ?_⟩) (by assumption) ?_
          rotate_left
          · ((intro w hSw); (try dsimp only at hSw); go_simp; (try with_reducible rfl))
          try simp only [Act.put, List.setIfInBounds_toArray, List.set_cons_zero, List.set_cons_succ]
          refine wpAnyH_take (i := 15) (oi := { dst := some 102, op := Op.fieldAddr 37 (Operand.tmp 101) 1, type := 0, pos := _, after := #[{ on := 14, ground := Ground.data }], guard := none }) (v := ?_) rfl (by kernel_rfl) (by kernel_rfl) (by kernel_rfl) (fun _ _ _ h => h) (Or.inl ⟨by rfl, ?_⟩) (by assumption) ?_
          rotate_left
          · ((intro w hSw); (try dsimp only at hSw); go_simp; (try with_reducible rfl))
          try simp only [Act.put, List.setIfInBounds_toArray, List.set_cons_zero, List.set_cons_succ]
          refine wpAnyH_take (i := 16) (oi := { dst := some 103, op := Op.load 35 (Operand.tmp 102), type := 35, pos := _, after := #[{ on := 15, ground := Ground.data }], guard := none }) (v := ?_) rfl (by kernel_rfl) (by kernel_rfl) (by kernel_rfl) (fun _ _ _ h => h) (Or.inl ⟨by rfl, ?_⟩) (by assumption) ?_
          rotate_left
          · ((intro w hSw); (try dsimp only at hSw); go_simp; (try with_reducible rfl))
          try simp only [Act.put, List.setIfInBounds_toArray, List.set_cons_zero, List.set_cons_succ]
          refine wpAnyH_ready (rs := [17]) (by kernel_rfl) (by simp) ?_
          refine (AllReadyH.cons (o := { dst := some 104, op := Op.call { callee := Callee.value (Operand.func 58), args := #[Operand.tmp 103], argTypes := #[35] }, type := 37, pos := _, after := #[{ on := 16, ground := Ground.data }], guard := none }) rfl (fun K hK => ?_) AllReadyH.nil)
          go_simp
          refine (spaceB _ _ _ _).mono ?_
          rintro e w4 ⟨rfl, hb4⟩
          have HB4 := Lib.hid (show Below wr.heap.size wr w4 from (by first | exact hb4 | exact below_undrew hb4))
          clear hb4
          go_wp2_with fail
          refine hK.out _ _ ?_ (fun hHeld => ?_)
          · ((try dsimp only); exact ⟨cell_then HB4.out (Nat.le_refl _) d1, cell_then HB4.out (Nat.le_refl _) d2, cell_then HB4.out (Nat.le_refl _) x1, cell_then HB4.out (Nat.le_refl _) x2, cell_then HB4.out (Nat.le_refl _) x3⟩)
          clear hK K
          try simp only [Act.put, List.setIfInBounds_toArray, List.set_cons_zero, List.set_cons_succ]
          refine wpAnyH_take (i := 18) (oi := { dst := some 105, op := Op.indexAddr 41 (Operand.tmp 90) (Operand.tmp 98), type := 0, pos := _, after := #[{ on := 3, ground := Ground.data }, { on := 11, ground := Ground.data }, { on := 0, ground := Ground.phase }, { on := 1, ground := Ground.phase }, { on := 2, ground := Ground.phase }, { on := 3, ground := Ground.phase }, { on := 4, ground := Ground.phase }, { on := 5, ground := Ground.phase }, { on := 6, ground := Ground.phase }, { on := 7, ground := Ground.phase }, { on := 8, ground := Ground.phase }, { on := 9, ground := Ground.phase }, { on := 10, ground := Ground.phase }, { on := 11, ground := Ground.phase }, { on := 12, ground := Ground.phase }, { on := 13, ground := Ground.phase }, { on := 14, ground := Ground.phase }, { on := 15, ground := Ground.phase }, { on := 16, ground := Ground.phase }, { on := 17, ground := Ground.phase }], guard := none }) (v := ?_) rfl (by kernel_rfl) (by kernel_rfl) (by kernel_rfl) (fun _ _ _ h => h) (Or.inl ⟨by rfl, ?_⟩) (by assumption) ?_
          rotate_left
          · ((intro w hSw); (try dsimp only at hSw); go_simp; (try with_reducible rfl))
          try simp only [Act.put, List.setIfInBounds_toArray, List.set_cons_zero, List.set_cons_succ]
          refine wpAnyH_ready (rs := [19]) (by kernel_rfl) (by simp) ?_
          refine (AllReadyH.cons (o := { dst := none, op := Op.store 37 (Operand.tmp 105) (Operand.tmp 104), type := 0, pos := _, after := #[{ on := 18, ground := Ground.data }, { on := 17, ground := Ground.data }, { on := 17, ground := Ground.chain }, { on := 0, ground := Ground.phase }, { on := 1, ground := Ground.phase }, { on := 2, ground := Ground.phase }, { on := 3, ground := Ground.phase }, { on := 4, ground := Ground.phase }, { on := 5, ground := Ground.phase }, { on := 6, ground := Ground.phase }, { on := 7, ground := Ground.phase }, { on := 8, ground := Ground.phase }, { on := 9, ground := Ground.phase }, { on := 10, ground := Ground.phase }, { on := 11, ground := Ground.phase }, { on := 12, ground := Ground.phase }, { on := 13, ground := Ground.phase }, { on := 14, ground := Ground.phase }, { on := 15, ground := Ground.phase }, { on := 16, ground := Ground.phase }, { on := 17, ground := Ground.phase }], guard := none }) rfl (fun K hK => ?_) AllReadyH.nil)
          rw [if_pos (by rfl)]
          refine wp_store_cell2 _ _ rfl b _ ⟨32, c.fl, c.fg, c.bg, 0⟩ rfl rfl (A := A ++ D) (Z := [] ++ Z) (c := c) (HR4 w4 HB4).out HQ.out ?_
          intro w5 hw5
          have HR5 := h3 w4 (HR4 w4 HB4).out
          have HK5 := HK4.out w4 HB4
          have HS5 := Lib.hid (HST.out w4 HB4)
          rw [hw5] at HR5 HK5 HS5
          clear hw5
          refine hK.out _ _ ?_ (fun hHeld => ?_)
          · ((try dsimp only); exact ⟨cell_kept HS5.out d1 HNE.out HNE.out, cell_kept HS5.out d2 HNE.out HNE.out, cell_kept HS5.out x1 HN2.out HN2.out, cell_kept HS5.out x2 HN2.out HN2.out, cell_kept HS5.out x3 HN2.out HN2.out⟩)
          clear hK K
          try simp only [Act.put]
          refine wpAnyH_done (by kernel_rfl) ?_ _
          go_wp2
          go_roundw
          · exact ⟨k + 1, c.wd, P ++ [c], [], D ++ [⟨32, c.fl, c.fg, c.bg, 0⟩], HHK.out, by go_num, HMP2, HPL2, h1, h2, HPR2, HR5, HK5, Lib.hid (fun e => by omega)⟩
          · simp only [intOf]; exact HHM.out
        | cons d t =>
          by_cases hd : d.wd = 2
          · obtain ⟨y0, y1, y2, y3, y4⟩ := cs_fives hcs (k + 1) d (mid_get2 HMP.out HPL.out)
            rw [hd] at y4
            rw [hw] at x4
            obtain ⟨h1, h2, h3⟩ := HKEEP.out (by unfold emC; rw [if_neg]; simp [hw, hd])
            have hk1 : k + 1 < C := by have := HHK.out; simp only [List.length_cons] at this; omega
            have hk1c : k + 1 < cap2 := Nat.lt_of_lt_of_le hk1 HCP.out
            have z1 : ((k : Int) + 1 == (C : Int)) = false := by simp; omega
            clear hw f1 f2 hu1 HR4 y0 y1 y2 y3 hd
            go_wp2
            exact ⟨⟨k + 1, c.wd, P ++ [c], d :: t, D ++ [c], HHK.out, by go_num, HMP2, HPL2, h1, h2, HPR2, h3, HK, Lib.hid (fun e => by omega)⟩, by simp only [intOf]; exact HHM.out⟩
          · obtain ⟨y0, y1, y2, y3, y4⟩ := cs_fives hcs (k + 1) d (mid_get2 HMP.out HPL.out)
            have z2 : (d.wd != 2) = true := by simpa using hd
            rw [hw] at x4
            obtain ⟨h1, h2, h3⟩ := HPUT.out (by unfold emC; exact if_pos (.inl ⟨hw, by simpa using hd⟩))
            have hk1 : k + 1 < C := by have := HHK.out; simp only [List.length_cons] at this; omega
            have hk1c : k + 1 < cap2 := Nat.lt_of_lt_of_le hk1 HCP.out
            have z1 : ((k : Int) + 1 == (C : Int)) = false := by simp; omega
            clear hw y0 y1 y2 y3 hd
            go_wp2
            refine wp_region_held_drew (S := (fun W => W.cell? ⟨p, 1, none⟩ = some (.int .i64 (C : Int)) ∧ W.cell? ⟨p, 2, none⟩ = some (.slice (some ⟨b, 0, none⟩) n n) ∧ W.cell? ⟨b2, k * 5 + 1, none⟩ = some (.int .i64 c.fl) ∧ W.cell? ⟨b2, k * 5 + 2, none⟩ = some (.int .i64 c.fg) ∧ W.cell? ⟨b2, k * 5 + 3, none⟩ = some (.int .i64 c.bg))) (by kernel_rfl) ?_ (fun hHeld => ?_)
            · ((try dsimp only); exact ⟨d1, d2, x1, x2, x3⟩)
            refine wpAnyH_take (i := 0) (oi := { dst := some 87, op := Op.move (Operand.tmp 0), type := 28, pos := _, after := #[], guard := none }) (v := ?_) rfl (by kernel_rfl) (by kernel_rfl) (by kernel_rfl) (fun _ _ _ h => h) (Or.inl ⟨by rfl, ?_⟩) (by assumption) ?_
            rotate_left
            · ((intro w hSw); (try dsimp only at hSw); go_simp; (try with_reducible rfl))
            try simp only [Act.put, List.setIfInBounds_toArray, List.set_cons_zero, List.set_cons_succ]
            refine wpAnyH_take (i := 1) (oi := { dst := some 88, op := Op.nilCheck (Operand.tmp 87), type := 0, pos := _, after := #[{ on := 0, ground := Ground.data }], guard := none }) (v := ?_) rfl (by kernel_rfl) (by kernel_rfl) (by kernel_rfl) (fun _ _ _ h => h) (Or.inl ⟨by rfl, ?_⟩) (by assumption) ?_
            rotate_left
            · ((intro w hSw); (try dsimp only at hSw); go_simp; (try with_reducible rfl))
            try simp only [Act.put, List.setIfInBounds_toArray, List.set_cons_zero, List.set_cons_succ]
            refine wpAnyH_take (i := 2) (oi := { dst := some 89, op := Op.fieldAddr 43 (Operand.tmp 88) 2, type := 0, pos := _, after := #[{ on := 1, ground := Ground.data }], guard := none }) (v := ?_) rfl (by kernel_rfl) (by kernel_rfl) (by kernel_rfl) (fun _ _ _ h => h) (Or.inl ⟨by rfl, ?_⟩) (by assumption) ?_
            rotate_left
            · ((intro w hSw); (try dsimp only at hSw); go_simp; (try with_reducible rfl))
            try simp only [Act.put, List.setIfInBounds_toArray, List.set_cons_zero, List.set_cons_succ]
            refine wpAnyH_take (i := 3) (oi := { dst := some 90, op := Op.load 41 (Operand.tmp 89), type := 41, pos := _, after := #[{ on := 2, ground := Ground.data }], guard := none }) (v := ?_) rfl (by kernel_rfl) (by kernel_rfl) (by kernel_rfl) (fun _ _ _ h => h) (Or.inl ⟨by rfl, ?_⟩) (by assumption) ?_
            rotate_left
            · ((intro w hSw); (try dsimp only at hSw); go_simp; (try with_reducible rfl))
            try simp only [Act.put, List.setIfInBounds_toArray, List.set_cons_zero, List.set_cons_succ]
            refine wpAnyH_take (i := 4) (oi := { dst := some 91, op := Op.move (Operand.tmp 1), type := 3, pos := _, after := #[], guard := none }) (v := ?_) rfl (by kernel_rfl) (by kernel_rfl) (by kernel_rfl) (fun _ _ _ h => h) (Or.inl ⟨by rfl, ?_⟩) (by assumption) ?_
            rotate_left
            · ((intro w hSw); (try dsimp only at hSw); go_simp; (try with_reducible rfl))
            try simp only [Act.put, List.setIfInBounds_toArray, List.set_cons_zero, List.set_cons_succ]
            refine wpAnyH_take (i := 5) (oi := { dst := some 92, op := Op.move (Operand.tmp 0), type := 28, pos := _, after := #[], guard := none }) (v := ?_) rfl (by kernel_rfl) (by kernel_rfl) (by kernel_rfl) (fun _ _ _ h => h) (Or.inl ⟨by rfl, ?_⟩) (by assumption) ?_
            rotate_left
            · ((intro w hSw); (try dsimp only at hSw); go_simp; (try with_reducible rfl))
            try simp only [Act.put, List.setIfInBounds_toArray, List.set_cons_zero, List.set_cons_succ]
            refine wpAnyH_take (i := 6) (oi := { dst := some 93, op := Op.nilCheck (Operand.tmp 92), type := 0, pos := _, after := #[{ on := 5, ground := Ground.data }], guard := none }) (v := ?_) rfl (by kernel_rfl) (by kernel_rfl) (by kernel_rfl) (fun _ _ _ h => h) (Or.inl ⟨by rfl, ?_⟩) (by assumption) ?_
            rotate_left
            · ((intro w hSw); (try dsimp only at hSw); go_simp; (try with_reducible rfl))
            try simp only [Act.put, List.setIfInBounds_toArray, List.set_cons_zero, List.set_cons_succ]
            refine wpAnyH_take (i := 7) (oi := { dst := some 94, op := Op.fieldAddr 43 (Operand.tmp 93) 1, type := 0, pos := _, after := #[{ on := 6, ground := Ground.data }], guard := none }) (v := ?_) rfl (by kernel_rfl) (by kernel_rfl) (by kernel_rfl) (fun _ _ _ h => h) (Or.inl ⟨by rfl, ?_⟩) (by assumption) ?_
            rotate_left
            · ((intro w hSw); (try dsimp only at hSw); go_simp; (try with_reducible rfl))
            try simp only [Act.put, List.setIfInBounds_toArray, List.set_cons_zero, List.set_cons_succ]
            refine wpAnyH_take (i := 8) (oi := { dst := some 95, op := Op.load 3 (Operand.tmp 94), type := 3, pos := _, after := #[{ on := 7, ground := Ground.data }], guard := none }) (v := ?_) rfl (by kernel_rfl) (by kernel_rfl) (by kernel_rfl) (fun _ _ _ h => h) (Or.inl ⟨by rfl, ?_⟩) (by assumption) ?_
            rotate_left
            · ((intro w hSw); (try dsimp only at hSw); go_simp; (try with_reducible rfl))
            try simp only [Act.put, List.setIfInBounds_toArray, List.set_cons_zero, List.set_cons_succ]
            refine wpAnyH_take (i := 9) (oi := { dst := some 96, op := Op.binOp BinOp.mul 3 (Operand.tmp 91) (Operand.tmp 95) 3, type := 3, pos := _, after := #[{ on := 4, ground := Ground.data }, { on := 8, ground := Ground.data }], guard := none }) (v := ?_) rfl (by kernel_rfl) (by kernel_rfl) (by kernel_rfl) (fun _ _ _ h => h) (Or.inl ⟨by rfl, ?_⟩) (by assumption) ?_
            rotate_left
            · ((intro w hSw); (try dsimp only at hSw); go_simp; (try with_reducible rfl))
            try simp only [Act.put, List.setIfInBounds_toArray, List.set_cons_zero, List.set_cons_succ]
            refine wpAnyH_take (i := 10) (oi := { dst := some 97, op := Op.move (Operand.tmp 5), type := 3, pos := _, after := #[], guard := none }) (v := ?_) rfl (by kernel_rfl) (by kernel_rfl) (by kernel_rfl) (fun _ _ _ h => h) (Or.inl ⟨by rfl, ?_⟩) (by assumption) ?_
            rotate_left
            · ((intro w hSw); (try dsimp only at hSw); go_simp; (try with_reducible rfl))
            try simp only [Act.put, List.setIfInBounds_toArray, List.set_cons_zero, List.set_cons_succ]
            refine wpAnyH_take (i := 11) (oi := { dst := some 98, op := Op.binOp BinOp.add 3 (Operand.tmp 96) (Operand.tmp 97) 3, type := 3, pos := _, after := #[{ on := 9, ground := Ground.data }, { on := 10, ground := Ground.data }], guard := none }) (v := ?_) rfl (by kernel_rfl) (by kernel_rfl) (by kernel_rfl) (fun _ _ _ h => h) (Or.inl ⟨by rfl, ?_⟩) (by assumption) ?_
            rotate_left
            · ((intro w hSw); (try dsimp only at hSw); go_simp; (try with_reducible rfl))
            try simp only [Act.put, List.setIfInBounds_toArray, List.set_cons_zero, List.set_cons_succ]
            refine wpAnyH_take (i := 12) (oi := { dst := some 99, op := Op.move (Operand.tmp 4), type := 41, pos := _, after := #[], guard := none }) (v := ?_) rfl (by kernel_rfl) (by kernel_rfl) (by kernel_rfl) (fun _ _ _ h => h) (Or.inl ⟨by rfl, ?_⟩) (by assumption) ?_
            rotate_left
            · ((intro w hSw); (try dsimp only at hSw); go_simp; (try with_reducible rfl))
            try simp only [Act.put, List.setIfInBounds_toArray, List.set_cons_zero, List.set_cons_succ]
            refine wpAnyH_take (i := 13) (oi := { dst := some 100, op := Op.move (Operand.tmp 5), type := 3, pos := _, after := #[], guard := none }) (v := ?_) rfl (by kernel_rfl) (by kernel_rfl) (by kernel_rfl) (fun _ _ _ h => h) (Or.inl ⟨by rfl, ?_⟩) (by assumption) ?_
            rotate_left
            · ((intro w hSw); (try dsimp only at hSw); go_simp; (try with_reducible rfl))
            try simp only [Act.put, List.setIfInBounds_toArray, List.set_cons_zero, List.set_cons_succ]
            refine wpAnyH_take (i := 14) (oi := { dst := some 101, op := Op.indexAddr 41 (Operand.tmp 99) (Operand.tmp 100), type := 0, pos := _, after := #[{ on := 12, ground := Ground.data }, { on := 13, ground := Ground.data }], guard := none }) (v := ?_) rfl (by kernel_rfl) (by kernel_rfl) (by kernel_rfl) (fun _ _ _ h => h) (Or.inl ⟨by rfl, ?_⟩) (by assumption) ?_
            rotate_left
            · ((intro w hSw); (try dsimp only at hSw); go_simp; (try with_reducible rfl))
            try simp only [Act.put, List.setIfInBounds_toArray, List.set_cons_zero, List.set_cons_succ]
            refine wpAnyH_take (i := 15) (oi := { dst := some 102, op := Op.fieldAddr 37 (Operand.tmp 101) 1, type := 0, pos := _, after := #[{ on := 14, ground := Ground.data }], guard := none }) (v := ?_) rfl (by kernel_rfl) (by kernel_rfl) (by kernel_rfl) (fun _ _ _ h => h) (Or.inl ⟨by rfl, ?_⟩) (by assumption) ?_
            rotate_left
            · ((intro w hSw); (try dsimp only at hSw); go_simp; (try with_reducible rfl))
            try simp only [Act.put, List.setIfInBounds_toArray, List.set_cons_zero, List.set_cons_succ]
            refine wpAnyH_take (i := 16) (oi := { dst := some 103, op := Op.load 35 (Operand.tmp 102), type := 35, pos := _, after := #[{ on := 15, ground := Ground.data }], guard := none }) (v := ?_) rfl (by kernel_rfl) (by kernel_rfl) (by kernel_rfl) (fun _ _ _ h => h) (Or.inl ⟨by rfl, ?_⟩) (by assumption) ?_
            rotate_left
            · ((intro w hSw); (try dsimp only at hSw); go_simp; (try with_reducible rfl))
            try simp only [Act.put, List.setIfInBounds_toArray, List.set_cons_zero, List.set_cons_succ]
            refine wpAnyH_ready (rs := [17]) (by kernel_rfl) (by simp) ?_
            refine (AllReadyH.cons (o := { dst := some 104, op := Op.call { callee := Callee.value (Operand.func 58), args := #[Operand.tmp 103], argTypes := #[35] }, type := 37, pos := _, after := #[{ on := 16, ground := Ground.data }], guard := none }) rfl (fun K hK => ?_) AllReadyH.nil)
            go_simp
            refine (spaceB _ _ _ _).mono ?_
            rintro e w4 ⟨rfl, hb4⟩
            have HB4 := Lib.hid (show Below wr.heap.size wr w4 from (by first | exact hb4 | exact below_undrew hb4))
            clear hb4
            go_wp2_with fail
            refine hK.out _ _ ?_ (fun hHeld => ?_)
            · ((try dsimp only); exact ⟨cell_then HB4.out (Nat.le_refl _) d1, cell_then HB4.out (Nat.le_refl _) d2, cell_then HB4.out (Nat.le_refl _) x1, cell_then HB4.out (Nat.le_refl _) x2, cell_then HB4.out (Nat.le_refl _) x3⟩)
            clear hK K
            try simp only [Act.put, List.setIfInBounds_toArray, List.set_cons_zero, List.set_cons_succ]
            refine wpAnyH_take (i := 18) (oi := { dst := some 105, op := Op.indexAddr 41 (Operand.tmp 90) (Operand.tmp 98), type := 0, pos := _, after := #[{ on := 3, ground := Ground.data }, { on := 11, ground := Ground.data }, { on := 0, ground := Ground.phase }, { on := 1, ground := Ground.phase }, { on := 2, ground := Ground.phase }, { on := 3, ground := Ground.phase }, { on := 4, ground := Ground.phase }, { on := 5, ground := Ground.phase }, { on := 6, ground := Ground.phase }, { on := 7, ground := Ground.phase }, { on := 8, ground := Ground.phase }, { on := 9, ground := Ground.phase }, { on := 10, ground := Ground.phase }, { on := 11, ground := Ground.phase }, { on := 12, ground := Ground.phase }, { on := 13, ground := Ground.phase }, { on := 14, ground := Ground.phase }, { on := 15, ground := Ground.phase }, { on := 16, ground := Ground.phase }, { on := 17, ground := Ground.phase }], guard := none }) (v := ?_) rfl (by kernel_rfl) (by kernel_rfl) (by kernel_rfl) (fun _ _ _ h => h) (Or.inl ⟨by rfl, ?_⟩) (by assumption) ?_
            rotate_left
            · ((intro w hSw); (try dsimp only at hSw); go_simp; (try with_reducible rfl))
            try simp only [Act.put, List.setIfInBounds_toArray, List.set_cons_zero, List.set_cons_succ]
            refine wpAnyH_ready (rs := [19]) (by kernel_rfl) (by simp) ?_
            refine (AllReadyH.cons (o := { dst := none, op := Op.store 37 (Operand.tmp 105) (Operand.tmp 104), type := 0, pos := _, after := #[{ on := 18, ground := Ground.data }, { on := 17, ground := Ground.data }, { on := 17, ground := Ground.chain }, { on := 0, ground := Ground.phase }, { on := 1, ground := Ground.phase }, { on := 2, ground := Ground.phase }, { on := 3, ground := Ground.phase }, { on := 4, ground := Ground.phase }, { on := 5, ground := Ground.phase }, { on := 6, ground := Ground.phase }, { on := 7, ground := Ground.phase }, { on := 8, ground := Ground.phase }, { on := 9, ground := Ground.phase }, { on := 10, ground := Ground.phase }, { on := 11, ground := Ground.phase }, { on := 12, ground := Ground.phase }, { on := 13, ground := Ground.phase }, { on := 14, ground := Ground.phase }, { on := 15, ground := Ground.phase }, { on := 16, ground := Ground.phase }, { on := 17, ground := Ground.phase }], guard := none }) rfl (fun K hK => ?_) AllReadyH.nil)
            rw [if_pos (by rfl)]
            refine wp_store_cell2 _ _ rfl b _ ⟨32, c.fl, c.fg, c.bg, 0⟩ rfl rfl (A := A ++ D) (Z := (d :: t) ++ Z) (c := c) (HR4 w4 HB4).out HQ.out ?_
            intro w5 hw5
            have HR5 := h3 w4 (HR4 w4 HB4).out
            have HK5 := HK4.out w4 HB4
            have HS5 := Lib.hid (HST.out w4 HB4)
            rw [hw5] at HR5 HK5 HS5
            clear hw5
            refine hK.out _ _ ?_ (fun hHeld => ?_)
            · ((try dsimp only); exact ⟨cell_kept HS5.out d1 HNE.out HNE.out, cell_kept HS5.out d2 HNE.out HNE.out, cell_kept HS5.out x1 HN2.out HN2.out, cell_kept HS5.out x2 HN2.out HN2.out, cell_kept HS5.out x3 HN2.out HN2.out⟩)
            clear hK K
            try simp only [Act.put]
            refine wpAnyH_done (by kernel_rfl) ?_ _
            go_wp2
            go_roundw
            · exact ⟨k + 1, c.wd, P ++ [c], d :: t, D ++ [⟨32, c.fl, c.fg, c.bg, 0⟩], HHK.out, by go_num, HMP2, HPL2, h1, h2, HPR2, HR5, HK5, Lib.hid (fun e => by omega)⟩
            · simp only [intOf]; exact HHM.out
      · rcases Nat.eq_zero_or_pos k with hk0 | hk0
        · rw [hw] at x4
          have hpr : ¬ pr = 1 := HP0.out hk0
          have z1 : ((k : Int) == 0) = true := by simp; omega
          obtain ⟨h1, h2, h3⟩ := HPUT.out (by unfold emC; exact if_pos (.inr ⟨hw, hpr⟩))
          clear hw hpr hk0
          go_wp2
          refine wp_region_held_drew (S := (fun W => W.cell? ⟨p, 1, none⟩ = some (.int .i64 (C : Int)) ∧ W.cell? ⟨p, 2, none⟩ = some (.slice (some ⟨b, 0, none⟩) n n) ∧ W.cell? ⟨b2, k * 5 + 1, none⟩ = some (.int .i64 c.fl) ∧ W.cell? ⟨b2, k * 5 + 2, none⟩ = some (.int .i64 c.fg) ∧ W.cell? ⟨b2, k * 5 + 3, none⟩ = some (.int .i64 c.bg))) (by kernel_rfl) ?_ (fun hHeld => ?_)
          · ((try dsimp only); exact ⟨d1, d2, x1, x2, x3⟩)
          refine wpAnyH_take (i := 0) (oi := { dst := some 87, op := Op.move (Operand.tmp 0), type := 28, pos := _, after := #[], guard := none }) (v := ?_) rfl (by kernel_rfl) (by kernel_rfl) (by kernel_rfl) (fun _ _ _ h => h) (Or.inl ⟨by rfl, ?_⟩) (by assumption) ?_
          rotate_left
          · ((intro w hSw); (try dsimp only at hSw); go_simp; (try with_reducible rfl))
          try simp only [Act.put, List.setIfInBounds_toArray, List.set_cons_zero, List.set_cons_succ]
          refine wpAnyH_take (i := 1) (oi := { dst := some 88, op := Op.nilCheck (Operand.tmp 87), type := 0, pos := _, after := #[{ on := 0, ground := Ground.data }], guard := none }) (v := ?_) rfl (by kernel_rfl) (by kernel_rfl) (by kernel_rfl) (fun _ _ _ h => h) (Or.inl ⟨by rfl, ?_⟩) (by assumption) ?_
          rotate_left
          · ((intro w hSw); (try dsimp only at hSw); go_simp; (try with_reducible rfl))
          try simp only [Act.put, List.setIfInBounds_toArray, List.set_cons_zero, List.set_cons_succ]
          refine wpAnyH_take (i := 2) (oi := { dst := some 89, op := Op.fieldAddr 43 (Operand.tmp 88) 2, type := 0, pos := _, after := #[{ on := 1, ground := Ground.data }], guard := none }) (v := ?_) rfl (by kernel_rfl) (by kernel_rfl) (by kernel_rfl) (fun _ _ _ h => h) (Or.inl ⟨by rfl, ?_⟩) (by assumption) ?_
          rotate_left
          · ((intro w hSw); (try dsimp only at hSw); go_simp; (try with_reducible rfl))
          try simp only [Act.put, List.setIfInBounds_toArray, List.set_cons_zero, List.set_cons_succ]
          refine wpAnyH_take (i := 3) (oi := { dst := some 90, op := Op.load 41 (Operand.tmp 89), type := 41, pos := _, after := #[{ on := 2, ground := Ground.data }], guard := none }) (v := ?_) rfl (by kernel_rfl) (by kernel_rfl) (by kernel_rfl) (fun _ _ _ h => h) (Or.inl ⟨by rfl, ?_⟩) (by assumption) ?_
          rotate_left
          · ((intro w hSw); (try dsimp only at hSw); go_simp; (try with_reducible rfl))
          try simp only [Act.put, List.setIfInBounds_toArray, List.set_cons_zero, List.set_cons_succ]
          refine wpAnyH_take (i := 4) (oi := { dst := some 91, op := Op.move (Operand.tmp 1), type := 3, pos := _, after := #[], guard := none }) (v := ?_) rfl (by kernel_rfl) (by kernel_rfl) (by kernel_rfl) (fun _ _ _ h => h) (Or.inl ⟨by rfl, ?_⟩) (by assumption) ?_
          rotate_left
          · ((intro w hSw); (try dsimp only at hSw); go_simp; (try with_reducible rfl))
          try simp only [Act.put, List.setIfInBounds_toArray, List.set_cons_zero, List.set_cons_succ]
          refine wpAnyH_take (i := 5) (oi := { dst := some 92, op := Op.move (Operand.tmp 0), type := 28, pos := _, after := #[], guard := none }) (v := ?_) rfl (by kernel_rfl) (by kernel_rfl) (by kernel_rfl) (fun _ _ _ h => h) (Or.inl ⟨by rfl, ?_⟩) (by assumption) ?_
          rotate_left
          · ((intro w hSw); (try dsimp only at hSw); go_simp; (try with_reducible rfl))
          try simp only [Act.put, List.setIfInBounds_toArray, List.set_cons_zero, List.set_cons_succ]
          refine wpAnyH_take (i := 6) (oi := { dst := some 93, op := Op.nilCheck (Operand.tmp 92), type := 0, pos := _, after := #[{ on := 5, ground := Ground.data }], guard := none }) (v := ?_) rfl (by kernel_rfl) (by kernel_rfl) (by kernel_rfl) (fun _ _ _ h => h) (Or.inl ⟨by rfl, ?_⟩) (by assumption) ?_
          rotate_left
          · ((intro w hSw); (try dsimp only at hSw); go_simp; (try with_reducible rfl))
          try simp only [Act.put, List.setIfInBounds_toArray, List.set_cons_zero, List.set_cons_succ]
          refine wpAnyH_take (i := 7) (oi := { dst := some 94, op := Op.fieldAddr 43 (Operand.tmp 93) 1, type := 0, pos := _, after := #[{ on := 6, ground := Ground.data }], guard := none }) (v := ?_) rfl (by kernel_rfl) (by kernel_rfl) (by kernel_rfl) (fun _ _ _ h => h) (Or.inl ⟨by rfl, ?_⟩) (by assumption) ?_
          rotate_left
          · ((intro w hSw); (try dsimp only at hSw); go_simp; (try with_reducible rfl))
          try simp only [Act.put, List.setIfInBounds_toArray, List.set_cons_zero, List.set_cons_succ]
          refine wpAnyH_take (i := 8) (oi := { dst := some 95, op := Op.load 3 (Operand.tmp 94), type := 3, pos := _, after := #[{ on := 7, ground := Ground.data }], guard := none }) (v := ?_) rfl (by kernel_rfl) (by kernel_rfl) (by kernel_rfl) (fun _ _ _ h => h) (Or.inl ⟨by rfl, ?_⟩) (by assumption) ?_
          rotate_left
          · ((intro w hSw); (try dsimp only at hSw); go_simp; (try with_reducible rfl))
          try simp only [Act.put, List.setIfInBounds_toArray, List.set_cons_zero, List.set_cons_succ]
          refine wpAnyH_take (i := 9) (oi := { dst := some 96, op := Op.binOp BinOp.mul 3 (Operand.tmp 91) (Operand.tmp 95) 3, type := 3, pos := _, after := #[{ on := 4, ground := Ground.data }, { on := 8, ground := Ground.data }], guard := none }) (v := ?_) rfl (by kernel_rfl) (by kernel_rfl) (by kernel_rfl) (fun _ _ _ h => h) (Or.inl ⟨by rfl, ?_⟩) (by assumption) ?_
          rotate_left
          · ((intro w hSw); (try dsimp only at hSw); go_simp; (try with_reducible rfl))
          try simp only [Act.put, List.setIfInBounds_toArray, List.set_cons_zero, List.set_cons_succ]
          refine wpAnyH_take (i := 10) (oi := { dst := some 97, op := Op.move (Operand.tmp 5), type := 3, pos := _, after := #[], guard := none }) (v := ?_) rfl (by kernel_rfl) (by kernel_rfl) (by kernel_rfl) (fun _ _ _ h => h) (Or.inl ⟨by rfl, ?_⟩) (by assumption) ?_
          rotate_left
          · ((intro w hSw); (try dsimp only at hSw); go_simp; (try with_reducible rfl))
          try simp only [Act.put, List.setIfInBounds_toArray, List.set_cons_zero, List.set_cons_succ]
          refine wpAnyH_take (i := 11) (oi := { dst := some 98, op := Op.binOp BinOp.add 3 (Operand.tmp 96) (Operand.tmp 97) 3, type := 3, pos := _, after := #[{ on := 9, ground := Ground.data }, { on := 10, ground := Ground.data }], guard := none }) (v := ?_) rfl (by kernel_rfl) (by kernel_rfl) (by kernel_rfl) (fun _ _ _ h => h) (Or.inl ⟨by rfl, ?_⟩) (by assumption) ?_
          rotate_left
          · ((intro w hSw); (try dsimp only at hSw); go_simp; (try with_reducible rfl))
          try simp only [Act.put, List.setIfInBounds_toArray, List.set_cons_zero, List.set_cons_succ]
          refine wpAnyH_take (i := 12) (oi := { dst := some 99, op := Op.move (Operand.tmp 4), type := 41, pos := _, after := #[], guard := none }) (v := ?_) rfl (by kernel_rfl) (by kernel_rfl) (by kernel_rfl) (fun _ _ _ h => h) (Or.inl ⟨by rfl, ?_⟩) (by assumption) ?_
          rotate_left
          · ((intro w hSw); (try dsimp only at hSw); go_simp; (try with_reducible rfl))
          try simp only [Act.put, List.setIfInBounds_toArray, List.set_cons_zero, List.set_cons_succ]
          refine wpAnyH_take (i := 13) (oi := { dst := some 100, op := Op.move (Operand.tmp 5), type := 3, pos := _, after := #[], guard := none }) (v := ?_) rfl (by kernel_rfl) (by kernel_rfl) (by kernel_rfl) (fun _ _ _ h => h) (Or.inl ⟨by rfl, ?_⟩) (by assumption) ?_
          rotate_left
          · ((intro w hSw); (try dsimp only at hSw); go_simp; (try with_reducible rfl))
          try simp only [Act.put, List.setIfInBounds_toArray, List.set_cons_zero, List.set_cons_succ]
          refine wpAnyH_take (i := 14) (oi := { dst := some 101, op := Op.indexAddr 41 (Operand.tmp 99) (Operand.tmp 100), type := 0, pos := _, after := #[{ on := 12, ground := Ground.data }, { on := 13, ground := Ground.data }], guard := none }) (v := ?_) rfl (by kernel_rfl) (by kernel_rfl) (by kernel_rfl) (fun _ _ _ h => h) (Or.inl ⟨by rfl, ?_⟩) (by assumption) ?_
          rotate_left
          · ((intro w hSw); (try dsimp only at hSw); go_simp; (try with_reducible rfl))
          try simp only [Act.put, List.setIfInBounds_toArray, List.set_cons_zero, List.set_cons_succ]
          refine wpAnyH_take (i := 15) (oi := { dst := some 102, op := Op.fieldAddr 37 (Operand.tmp 101) 1, type := 0, pos := _, after := #[{ on := 14, ground := Ground.data }], guard := none }) (v := ?_) rfl (by kernel_rfl) (by kernel_rfl) (by kernel_rfl) (fun _ _ _ h => h) (Or.inl ⟨by rfl, ?_⟩) (by assumption) ?_
          rotate_left
          · ((intro w hSw); (try dsimp only at hSw); go_simp; (try with_reducible rfl))
          try simp only [Act.put, List.setIfInBounds_toArray, List.set_cons_zero, List.set_cons_succ]
          refine wpAnyH_take (i := 16) (oi := { dst := some 103, op := Op.load 35 (Operand.tmp 102), type := 35, pos := _, after := #[{ on := 15, ground := Ground.data }], guard := none }) (v := ?_) rfl (by kernel_rfl) (by kernel_rfl) (by kernel_rfl) (fun _ _ _ h => h) (Or.inl ⟨by rfl, ?_⟩) (by assumption) ?_
          rotate_left
          · ((intro w hSw); (try dsimp only at hSw); go_simp; (try with_reducible rfl))
          try simp only [Act.put, List.setIfInBounds_toArray, List.set_cons_zero, List.set_cons_succ]
          refine wpAnyH_ready (rs := [17]) (by kernel_rfl) (by simp) ?_
          refine (AllReadyH.cons (o := { dst := some 104, op := Op.call { callee := Callee.value (Operand.func 58), args := #[Operand.tmp 103], argTypes := #[35] }, type := 37, pos := _, after := #[{ on := 16, ground := Ground.data }], guard := none }) rfl (fun K hK => ?_) AllReadyH.nil)
          go_simp
          refine (spaceB _ _ _ _).mono ?_
          rintro e w4 ⟨rfl, hb4⟩
          have HB4 := Lib.hid (show Below wr.heap.size wr w4 from (by first | exact hb4 | exact below_undrew hb4))
          clear hb4
          go_wp2_with fail
          refine hK.out _ _ ?_ (fun hHeld => ?_)
          · ((try dsimp only); exact ⟨cell_then HB4.out (Nat.le_refl _) d1, cell_then HB4.out (Nat.le_refl _) d2, cell_then HB4.out (Nat.le_refl _) x1, cell_then HB4.out (Nat.le_refl _) x2, cell_then HB4.out (Nat.le_refl _) x3⟩)
          clear hK K
          try simp only [Act.put, List.setIfInBounds_toArray, List.set_cons_zero, List.set_cons_succ]
          refine wpAnyH_take (i := 18) (oi := { dst := some 105, op := Op.indexAddr 41 (Operand.tmp 90) (Operand.tmp 98), type := 0, pos := _, after := #[{ on := 3, ground := Ground.data }, { on := 11, ground := Ground.data }, { on := 0, ground := Ground.phase }, { on := 1, ground := Ground.phase }, { on := 2, ground := Ground.phase }, { on := 3, ground := Ground.phase }, { on := 4, ground := Ground.phase }, { on := 5, ground := Ground.phase }, { on := 6, ground := Ground.phase }, { on := 7, ground := Ground.phase }, { on := 8, ground := Ground.phase }, { on := 9, ground := Ground.phase }, { on := 10, ground := Ground.phase }, { on := 11, ground := Ground.phase }, { on := 12, ground := Ground.phase }, { on := 13, ground := Ground.phase }, { on := 14, ground := Ground.phase }, { on := 15, ground := Ground.phase }, { on := 16, ground := Ground.phase }, { on := 17, ground := Ground.phase }], guard := none }) (v := ?_) rfl (by kernel_rfl) (by kernel_rfl) (by kernel_rfl) (fun _ _ _ h => h) (Or.inl ⟨by rfl, ?_⟩) (by assumption) ?_
          rotate_left
          · ((intro w hSw); (try dsimp only at hSw); go_simp; (try with_reducible rfl))
          try simp only [Act.put, List.setIfInBounds_toArray, List.set_cons_zero, List.set_cons_succ]
          refine wpAnyH_ready (rs := [19]) (by kernel_rfl) (by simp) ?_
          refine (AllReadyH.cons (o := { dst := none, op := Op.store 37 (Operand.tmp 105) (Operand.tmp 104), type := 0, pos := _, after := #[{ on := 18, ground := Ground.data }, { on := 17, ground := Ground.data }, { on := 17, ground := Ground.chain }, { on := 0, ground := Ground.phase }, { on := 1, ground := Ground.phase }, { on := 2, ground := Ground.phase }, { on := 3, ground := Ground.phase }, { on := 4, ground := Ground.phase }, { on := 5, ground := Ground.phase }, { on := 6, ground := Ground.phase }, { on := 7, ground := Ground.phase }, { on := 8, ground := Ground.phase }, { on := 9, ground := Ground.phase }, { on := 10, ground := Ground.phase }, { on := 11, ground := Ground.phase }, { on := 12, ground := Ground.phase }, { on := 13, ground := Ground.phase }, { on := 14, ground := Ground.phase }, { on := 15, ground := Ground.phase }, { on := 16, ground := Ground.phase }, { on := 17, ground := Ground.phase }], guard := none }) rfl (fun K hK => ?_) AllReadyH.nil)
          rw [if_pos (by rfl)]
          refine wp_store_cell2 _ _ rfl b _ ⟨32, c.fl, c.fg, c.bg, 0⟩ rfl rfl (A := A ++ D) (Z := t ++ Z) (c := c) (HR4 w4 HB4).out HQ.out ?_
          intro w5 hw5
          have HR5 := h3 w4 (HR4 w4 HB4).out
          have HK5 := HK4.out w4 HB4
          have HS5 := Lib.hid (HST.out w4 HB4)
          rw [hw5] at HR5 HK5 HS5
          clear hw5
          refine hK.out _ _ ?_ (fun hHeld => ?_)
          · ((try dsimp only); exact ⟨cell_kept HS5.out d1 HNE.out HNE.out, cell_kept HS5.out d2 HNE.out HNE.out, cell_kept HS5.out x1 HN2.out HN2.out, cell_kept HS5.out x2 HN2.out HN2.out, cell_kept HS5.out x3 HN2.out HN2.out⟩)
          clear hK K
          try simp only [Act.put]
          refine wpAnyH_done (by kernel_rfl) ?_ _
          go_wp2
          go_roundw
          · exact ⟨k + 1, c.wd, P ++ [c], t, D ++ [⟨32, c.fl, c.fg, c.bg, 0⟩], HHK.out, by go_num, HMP2, HPL2, h1, h2, HPR2, HR5, HK5, Lib.hid (fun e => by omega)⟩
          · simp only [intOf]; exact HHM.out
        · obtain ⟨j, hj⟩ : ∃ j, k = j + 1 := ⟨k - 1, by omega⟩
          subst hj
          have hjc : j < C := by omega
          have hjc2 : j < cap2 := Nat.lt_of_lt_of_le hjc HCP.out
          by_cases hp1 : pr = 1
          · obtain ⟨x', hx', hx2⟩ := HPR.out j rfl
            obtain ⟨y0, y1, y2, y3, y4⟩ := cs_fives hcs j x' hx'
            rw [hx2, hp1] at y4
            rw [hw] at x4
            obtain ⟨h1, h2, h3⟩ := HKEEP.out (by unfold emC; rw [if_neg]; simp [hw, hp1])
            have z1 : ((j : Int) + 1 == 0) = false := by simp; omega
            clear hw f1 f2 hu1 HR4 y0 y1 y2 y3 hk0 hjc
            go_wp2
            exact ⟨⟨j + 1 + 1, c.wd, P ++ [c], t, D ++ [c], HHK.out, by go_num, HMP2, HPL2, h1, h2, HPR2, h3, HK, Lib.hid (fun e => by omega)⟩, by simp only [intOf]; exact HHM.out⟩
          · obtain ⟨x', hx', hx2⟩ := HPR.out j rfl
            obtain ⟨y0, y1, y2, y3, y4⟩ := cs_fives hcs j x' hx'
            rw [hx2] at y4
            rw [hw] at x4
            obtain ⟨h1, h2, h3⟩ := HPUT.out (by unfold emC; exact if_pos (.inr ⟨hw, hp1⟩))
            have z1 : ((j : Int) + 1 == 0) = false := by simp; omega
            have z2 : (pr != 1) = true := by simpa using hp1
            rw [show ((j + 1 : Nat) : Int) = (j : Int) + 1 by omega] at f1 f2
            have hj0 : (0 : Int) ≤ (j : Int) + 1 := by omega
            clear hw y0 y1 y2 y3 hp1 hk0 hjc
            go_wp2
            refine wp_region_held_drew (S := (fun W => W.cell? ⟨p, 1, none⟩ = some (.int .i64 (C : Int)) ∧ W.cell? ⟨p, 2, none⟩ = some (.slice (some ⟨b, 0, none⟩) n n) ∧ W.cell? ⟨b2, (j + 1) * 5 + 1, none⟩ = some (.int .i64 c.fl) ∧ W.cell? ⟨b2, (j + 1) * 5 + 2, none⟩ = some (.int .i64 c.fg) ∧ W.cell? ⟨b2, (j + 1) * 5 + 3, none⟩ = some (.int .i64 c.bg))) (by kernel_rfl) ?_ (fun hHeld => ?_)
            · ((try dsimp only); exact ⟨d1, d2, x1, x2, x3⟩)
            refine wpAnyH_take (i := 0) (oi := { dst := some 87, op := Op.move (Operand.tmp 0), type := 28, pos := _, after := #[], guard := none }) (v := ?_) rfl (by kernel_rfl) (by kernel_rfl) (by kernel_rfl) (fun _ _ _ h => h) (Or.inl ⟨by rfl, ?_⟩) (by assumption) ?_
            rotate_left
            · ((intro w hSw); (try dsimp only at hSw); go_simp; (try with_reducible rfl))
            try simp only [Act.put, List.setIfInBounds_toArray, List.set_cons_zero, List.set_cons_succ]
            refine wpAnyH_take (i := 1) (oi := { dst := some 88, op := Op.nilCheck (Operand.tmp 87), type := 0, pos := _, after := #[{ on := 0, ground := Ground.data }], guard := none }) (v := ?_) rfl (by kernel_rfl) (by kernel_rfl) (by kernel_rfl) (fun _ _ _ h => h) (Or.inl ⟨by rfl, ?_⟩) (by assumption) ?_
            rotate_left
            · ((intro w hSw); (try dsimp only at hSw); go_simp; (try with_reducible rfl))
            try simp only [Act.put, List.setIfInBounds_toArray, List.set_cons_zero, List.set_cons_succ]
            refine wpAnyH_take (i := 2) (oi := { dst := some 89, op := Op.fieldAddr 43 (Operand.tmp 88) 2, type := 0, pos := _, after := #[{ on := 1, ground := Ground.data }], guard := none }) (v := ?_) rfl (by kernel_rfl) (by kernel_rfl) (by kernel_rfl) (fun _ _ _ h => h) (Or.inl ⟨by rfl, ?_⟩) (by assumption) ?_
            rotate_left
            · ((intro w hSw); (try dsimp only at hSw); go_simp; (try with_reducible rfl))
            try simp only [Act.put, List.setIfInBounds_toArray, List.set_cons_zero, List.set_cons_succ]
            refine wpAnyH_take (i := 3) (oi := { dst := some 90, op := Op.load 41 (Operand.tmp 89), type := 41, pos := _, after := #[{ on := 2, ground := Ground.data }], guard := none }) (v := ?_) rfl (by kernel_rfl) (by kernel_rfl) (by kernel_rfl) (fun _ _ _ h => h) (Or.inl ⟨by rfl, ?_⟩) (by assumption) ?_
            rotate_left
            · ((intro w hSw); (try dsimp only at hSw); go_simp; (try with_reducible rfl))
            try simp only [Act.put, List.setIfInBounds_toArray, List.set_cons_zero, List.set_cons_succ]
            refine wpAnyH_take (i := 4) (oi := { dst := some 91, op := Op.move (Operand.tmp 1), type := 3, pos := _, after := #[], guard := none }) (v := ?_) rfl (by kernel_rfl) (by kernel_rfl) (by kernel_rfl) (fun _ _ _ h => h) (Or.inl ⟨by rfl, ?_⟩) (by assumption) ?_
            rotate_left
            · ((intro w hSw); (try dsimp only at hSw); go_simp; (try with_reducible rfl))
            try simp only [Act.put, List.setIfInBounds_toArray, List.set_cons_zero, List.set_cons_succ]
            refine wpAnyH_take (i := 5) (oi := { dst := some 92, op := Op.move (Operand.tmp 0), type := 28, pos := _, after := #[], guard := none }) (v := ?_) rfl (by kernel_rfl) (by kernel_rfl) (by kernel_rfl) (fun _ _ _ h => h) (Or.inl ⟨by rfl, ?_⟩) (by assumption) ?_
            rotate_left
            · ((intro w hSw); (try dsimp only at hSw); go_simp; (try with_reducible rfl))
            try simp only [Act.put, List.setIfInBounds_toArray, List.set_cons_zero, List.set_cons_succ]
            refine wpAnyH_take (i := 6) (oi := { dst := some 93, op := Op.nilCheck (Operand.tmp 92), type := 0, pos := _, after := #[{ on := 5, ground := Ground.data }], guard := none }) (v := ?_) rfl (by kernel_rfl) (by kernel_rfl) (by kernel_rfl) (fun _ _ _ h => h) (Or.inl ⟨by rfl, ?_⟩) (by assumption) ?_
            rotate_left
            · ((intro w hSw); (try dsimp only at hSw); go_simp; (try with_reducible rfl))
            try simp only [Act.put, List.setIfInBounds_toArray, List.set_cons_zero, List.set_cons_succ]
            refine wpAnyH_take (i := 7) (oi := { dst := some 94, op := Op.fieldAddr 43 (Operand.tmp 93) 1, type := 0, pos := _, after := #[{ on := 6, ground := Ground.data }], guard := none }) (v := ?_) rfl (by kernel_rfl) (by kernel_rfl) (by kernel_rfl) (fun _ _ _ h => h) (Or.inl ⟨by rfl, ?_⟩) (by assumption) ?_
            rotate_left
            · ((intro w hSw); (try dsimp only at hSw); go_simp; (try with_reducible rfl))
            try simp only [Act.put, List.setIfInBounds_toArray, List.set_cons_zero, List.set_cons_succ]
            refine wpAnyH_take (i := 8) (oi := { dst := some 95, op := Op.load 3 (Operand.tmp 94), type := 3, pos := _, after := #[{ on := 7, ground := Ground.data }], guard := none }) (v := ?_) rfl (by kernel_rfl) (by kernel_rfl) (by kernel_rfl) (fun _ _ _ h => h) (Or.inl ⟨by rfl, ?_⟩) (by assumption) ?_
            rotate_left
            · ((intro w hSw); (try dsimp only at hSw); go_simp; (try with_reducible rfl))
            try simp only [Act.put, List.setIfInBounds_toArray, List.set_cons_zero, List.set_cons_succ]
            refine wpAnyH_take (i := 9) (oi := { dst := some 96, op := Op.binOp BinOp.mul 3 (Operand.tmp 91) (Operand.tmp 95) 3, type := 3, pos := _, after := #[{ on := 4, ground := Ground.data }, { on := 8, ground := Ground.data }], guard := none }) (v := ?_) rfl (by kernel_rfl) (by kernel_rfl) (by kernel_rfl) (fun _ _ _ h => h) (Or.inl ⟨by rfl, ?_⟩) (by assumption) ?_
            rotate_left
            · ((intro w hSw); (try dsimp only at hSw); go_simp; (try with_reducible rfl))
            try simp only [Act.put, List.setIfInBounds_toArray, List.set_cons_zero, List.set_cons_succ]
            refine wpAnyH_take (i := 10) (oi := { dst := some 97, op := Op.move (Operand.tmp 5), type := 3, pos := _, after := #[], guard := none }) (v := ?_) rfl (by kernel_rfl) (by kernel_rfl) (by kernel_rfl) (fun _ _ _ h => h) (Or.inl ⟨by rfl, ?_⟩) (by assumption) ?_
            rotate_left
            · ((intro w hSw); (try dsimp only at hSw); go_simp; (try with_reducible rfl))
            try simp only [Act.put, List.setIfInBounds_toArray, List.set_cons_zero, List.set_cons_succ]
            refine wpAnyH_take (i := 11) (oi := { dst := some 98, op := Op.binOp BinOp.add 3 (Operand.tmp 96) (Operand.tmp 97) 3, type := 3, pos := _, after := #[{ on := 9, ground := Ground.data }, { on := 10, ground := Ground.data }], guard := none }) (v := ?_) rfl (by kernel_rfl) (by kernel_rfl) (by kernel_rfl) (fun _ _ _ h => h) (Or.inl ⟨by rfl, ?_⟩) (by assumption) ?_
            rotate_left
            · ((intro w hSw); (try dsimp only at hSw); go_simp; (try with_reducible rfl))
            try simp only [Act.put, List.setIfInBounds_toArray, List.set_cons_zero, List.set_cons_succ]
            refine wpAnyH_take (i := 12) (oi := { dst := some 99, op := Op.move (Operand.tmp 4), type := 41, pos := _, after := #[], guard := none }) (v := ?_) rfl (by kernel_rfl) (by kernel_rfl) (by kernel_rfl) (fun _ _ _ h => h) (Or.inl ⟨by rfl, ?_⟩) (by assumption) ?_
            rotate_left
            · ((intro w hSw); (try dsimp only at hSw); go_simp; (try with_reducible rfl))
            try simp only [Act.put, List.setIfInBounds_toArray, List.set_cons_zero, List.set_cons_succ]
            refine wpAnyH_take (i := 13) (oi := { dst := some 100, op := Op.move (Operand.tmp 5), type := 3, pos := _, after := #[], guard := none }) (v := ?_) rfl (by kernel_rfl) (by kernel_rfl) (by kernel_rfl) (fun _ _ _ h => h) (Or.inl ⟨by rfl, ?_⟩) (by assumption) ?_
            rotate_left
            · ((intro w hSw); (try dsimp only at hSw); go_simp; (try with_reducible rfl))
            try simp only [Act.put, List.setIfInBounds_toArray, List.set_cons_zero, List.set_cons_succ]
            refine wpAnyH_take (i := 14) (oi := { dst := some 101, op := Op.indexAddr 41 (Operand.tmp 99) (Operand.tmp 100), type := 0, pos := _, after := #[{ on := 12, ground := Ground.data }, { on := 13, ground := Ground.data }], guard := none }) (v := ?_) rfl (by kernel_rfl) (by kernel_rfl) (by kernel_rfl) (fun _ _ _ h => h) (Or.inl ⟨by rfl, ?_⟩) (by assumption) ?_
            rotate_left
            · ((intro w hSw); (try dsimp only at hSw); go_simp; (try with_reducible rfl))
            try simp only [Act.put, List.setIfInBounds_toArray, List.set_cons_zero, List.set_cons_succ]
            refine wpAnyH_take (i := 15) (oi := { dst := some 102, op := Op.fieldAddr 37 (Operand.tmp 101) 1, type := 0, pos := _, after := #[{ on := 14, ground := Ground.data }], guard := none }) (v := ?_) rfl (by kernel_rfl) (by kernel_rfl) (by kernel_rfl) (fun _ _ _ h => h) (Or.inl ⟨by rfl, ?_⟩) (by assumption) ?_
            rotate_left
            · ((intro w hSw); (try dsimp only at hSw); go_simp; (try with_reducible rfl))
            try simp only [Act.put, List.setIfInBounds_toArray, List.set_cons_zero, List.set_cons_succ]
            refine wpAnyH_take (i := 16) (oi := { dst := some 103, op := Op.load 35 (Operand.tmp 102), type := 35, pos := _, after := #[{ on := 15, ground := Ground.data }], guard := none }) (v := ?_) rfl (by kernel_rfl) (by kernel_rfl) (by kernel_rfl) (fun _ _ _ h => h) (Or.inl ⟨by rfl, ?_⟩) (by assumption) ?_
            rotate_left
            · ((intro w hSw); (try dsimp only at hSw); go_simp; (try with_reducible rfl))
            try simp only [Act.put, List.setIfInBounds_toArray, List.set_cons_zero, List.set_cons_succ]
            refine wpAnyH_ready (rs := [17]) (by kernel_rfl) (by simp) ?_
            refine (AllReadyH.cons (o := { dst := some 104, op := Op.call { callee := Callee.value (Operand.func 58), args := #[Operand.tmp 103], argTypes := #[35] }, type := 37, pos := _, after := #[{ on := 16, ground := Ground.data }], guard := none }) rfl (fun K hK => ?_) AllReadyH.nil)
            go_simp
            refine (spaceB _ _ _ _).mono ?_
            rintro e w4 ⟨rfl, hb4⟩
            have HB4 := Lib.hid (show Below wr.heap.size wr w4 from (by first | exact hb4 | exact below_undrew hb4))
            clear hb4
            go_wp2_with fail
            refine hK.out _ _ ?_ (fun hHeld => ?_)
            · ((try dsimp only); exact ⟨cell_then HB4.out (Nat.le_refl _) d1, cell_then HB4.out (Nat.le_refl _) d2, cell_then HB4.out (Nat.le_refl _) x1, cell_then HB4.out (Nat.le_refl _) x2, cell_then HB4.out (Nat.le_refl _) x3⟩)
            clear hK K
            try simp only [Act.put, List.setIfInBounds_toArray, List.set_cons_zero, List.set_cons_succ]
            refine wpAnyH_take (i := 18) (oi := { dst := some 105, op := Op.indexAddr 41 (Operand.tmp 90) (Operand.tmp 98), type := 0, pos := _, after := #[{ on := 3, ground := Ground.data }, { on := 11, ground := Ground.data }, { on := 0, ground := Ground.phase }, { on := 1, ground := Ground.phase }, { on := 2, ground := Ground.phase }, { on := 3, ground := Ground.phase }, { on := 4, ground := Ground.phase }, { on := 5, ground := Ground.phase }, { on := 6, ground := Ground.phase }, { on := 7, ground := Ground.phase }, { on := 8, ground := Ground.phase }, { on := 9, ground := Ground.phase }, { on := 10, ground := Ground.phase }, { on := 11, ground := Ground.phase }, { on := 12, ground := Ground.phase }, { on := 13, ground := Ground.phase }, { on := 14, ground := Ground.phase }, { on := 15, ground := Ground.phase }, { on := 16, ground := Ground.phase }, { on := 17, ground := Ground.phase }], guard := none }) (v := ?_) rfl (by kernel_rfl) (by kernel_rfl) (by kernel_rfl) (fun _ _ _ h => h) (Or.inl ⟨by rfl, ?_⟩) (by assumption) ?_
            rotate_left
            · ((intro w hSw); (try dsimp only at hSw); go_simp; (try with_reducible rfl))
            try simp only [Act.put, List.setIfInBounds_toArray, List.set_cons_zero, List.set_cons_succ]
            refine wpAnyH_ready (rs := [19]) (by kernel_rfl) (by simp) ?_
            refine (AllReadyH.cons (o := { dst := none, op := Op.store 37 (Operand.tmp 105) (Operand.tmp 104), type := 0, pos := _, after := #[{ on := 18, ground := Ground.data }, { on := 17, ground := Ground.data }, { on := 17, ground := Ground.chain }, { on := 0, ground := Ground.phase }, { on := 1, ground := Ground.phase }, { on := 2, ground := Ground.phase }, { on := 3, ground := Ground.phase }, { on := 4, ground := Ground.phase }, { on := 5, ground := Ground.phase }, { on := 6, ground := Ground.phase }, { on := 7, ground := Ground.phase }, { on := 8, ground := Ground.phase }, { on := 9, ground := Ground.phase }, { on := 10, ground := Ground.phase }, { on := 11, ground := Ground.phase }, { on := 12, ground := Ground.phase }, { on := 13, ground := Ground.phase }, { on := 14, ground := Ground.phase }, { on := 15, ground := Ground.phase }, { on := 16, ground := Ground.phase }, { on := 17, ground := Ground.phase }], guard := none }) rfl (fun K hK => ?_) AllReadyH.nil)
            rw [if_pos (by rfl)]
            refine wp_store_cell2 _ _ rfl b _ ⟨32, c.fl, c.fg, c.bg, 0⟩ rfl rfl (A := A ++ D) (Z := t ++ Z) (c := c) (HR4 w4 HB4).out HQ.out ?_
            intro w5 hw5
            have HR5 := h3 w4 (HR4 w4 HB4).out
            have HK5 := HK4.out w4 HB4
            have HS5 := Lib.hid (HST.out w4 HB4)
            rw [hw5] at HR5 HK5 HS5
            clear hw5
            refine hK.out _ _ ?_ (fun hHeld => ?_)
            · ((try dsimp only); exact ⟨cell_kept HS5.out d1 HNE.out HNE.out, cell_kept HS5.out d2 HNE.out HNE.out, cell_kept HS5.out x1 HN2.out HN2.out, cell_kept HS5.out x2 HN2.out HN2.out, cell_kept HS5.out x3 HN2.out HN2.out⟩)
            clear hK K
            try simp only [Act.put]
            refine wpAnyH_done (by kernel_rfl) ?_ _
            go_wp2
            go_roundw
            · exact ⟨j + 1 + 1, c.wd, P ++ [c], t, D ++ [⟨32, c.fl, c.fg, c.bg, 0⟩], HHK.out, by go_num, HMP2, HPL2, h1, h2, HPR2, HR5, HK5, Lib.hid (fun e => by omega)⟩
            · simp only [intOf]; exact HHM.out
end Go.Proofs.Ytfdjmlncdbpkgaa.Xm
