/- tiklaw9.SgrOrder: the walk. -/
import Derived.Test.YtkpneocolbmnpaaSgrBackL
set_option linter.unusedVariables false
namespace Go.Proofs.Ytkpneocolbmnpaa.SgrOrderW
open Go Go.RowKit Kit Sgr Col Apply Cell Params SgrFirst SgrList SgrMath SgrCut SgrBackW

def OutP (w : World) (e : Ending) (w' : World) : Prop := e = .returned (.bool true) ∧ Below w.heap.size w w'
theorem own_one {base : Nat} (w : World) (x : Int) (n : Nat) (hn : n = w.heap.size) (hb : base ≤ w.heap.size) : (w.alloc (.cells #[.int .i64 x] 3)).ownsRow base 3 1 (.slice (some ⟨n, 0, none⟩) 1 1) 1 (cellsI [x]) := by
  subst hn; exact own_made w [x] hb (by show 1 ≤ maxLen; decide)
theorem own_then {W W' : World} {base : Nat} {v : Value} {n : Nat} {xs : List Value} (hb : Below W.heap.size W W') (h : W.ownsRow base 3 1 v n xs) : W'.ownsRow base 3 1 v n xs := by
  refine ⟨h.1, ?_⟩
  rcases h.2 with h2 | ⟨g, cap, cur, hv, hg, hh, r⟩
  · exact .inl h2
  · exact .inr ⟨g, cap, cur, hv, hg, (hb.block g (Array.getElem?_eq_some_iff.1 hh).1).trans hh, r⟩
theorem ss_then {w w1 W : World} {BA BB bm om : Nat} {f fg bg f2 fg2 bg2 : Int} {al : Option Addr} {l m : List Int} (hq : Below w1.heap.size w1 W)
    (h : Six w1 BA BB f fg bg f2 fg2 bg2 ∧ Ints w1 al l ∧ Ints w1 (some ⟨bm, om, none⟩) m ∧ Below w.heap.size w w1) :
    W.cell? ⟨BA, 0, none⟩ = some (.int .i64 f) ∧ W.cell? ⟨BA, 1, none⟩ = some (.int .i64 fg) ∧ W.cell? ⟨BA, 2, none⟩ = some (.int .i64 bg) ∧ W.cell? ⟨BB, 0, none⟩ = some (.int .i64 f2) ∧ W.cell? ⟨BB, 1, none⟩ = some (.int .i64 fg2) ∧ W.cell? ⟨BB, 2, none⟩ = some (.int .i64 bg2) ∧ Ints W al l ∧ Ints W (some ⟨bm, om, none⟩) m ∧ Below w.heap.size w W := by
  obtain ⟨h6, i1, i2, hb⟩ := h
  obtain ⟨a0, a1, a2, b0, b1, b2⟩ := h6
  exact ⟨Apply.cell_then hq (Nat.le_refl _) a0, Apply.cell_then hq (Nat.le_refl _) a1, Apply.cell_then hq (Nat.le_refl _) a2, Apply.cell_then hq (Nat.le_refl _) b0, Apply.cell_then hq (Nat.le_refl _) b1, Apply.cell_then hq (Nat.le_refl _) b2, ints_then hq (Nat.le_refl _) i1, ints_then hq (Nat.le_refl _) i2, below_then hb hq hb.size⟩
set_option maxRecDepth 100000 in
set_option maxHeartbeats 2000000 in
theorem out (f fg bg f2 fg2 bg2 : Int) (al am : Option Addr) (nl cl nm cm : Nat) (w : World) (h : 50 < nl ∨ 50 < nm ∨ nl = 0 ∨ nm = 0) (h1 : nl ≤ 9223372036854775807) (h2 : nm ≤ 9223372036854775807) :
    Calls Try.prog 8 #[.agg #[.int .i64 f, .int .i64 fg, .int .i64 bg], .agg #[.int .i64 f2, .int .i64 fg2, .int .i64 bg2], .slice al nl cl, .slice am nm cm] w (OutP w) := by
  rcases h with h | h | rfl | rfl
  all_goals
    go_enter Try.func8, Try.ntmps8
    go_wp2_with fail
    refine (SgrFirst.first _).mono ?_
    rintro e w1 ⟨rfl, hb1⟩
    have h1 : Below w.heap.size w w1 := below_then (((Below.refl _ _).alloc (Nat.le_refl _) _).alloc (by simp) _) hb1 (by simp; omega)
    clear hb1
    go_wp2_with fail
  all_goals
    refine (SgrFirst.first _).mono ?_
    rintro e w9 ⟨rfl, hb9⟩
    go_wp2
    go_ret
    exact ⟨rfl, SgrApart.below_next h1 hb9⟩
set_option maxRecDepth 100000 in
set_option maxHeartbeats 8000000 in
theorem main (f fg bg f2 fg2 bg2 : Int) (al : Option Addr) (l : List Int) (cap bm om : Nat) (m : List Int) (capm : Nat) (w : World) (hcap : l.length ≤ cap) (hcm : cap ≤ 9223372036854775807) (h0 : al = none → cap = 0) (hl : l.length ≤ 50) (hl0 : 0 < l.length) (hi : Ints w al l)
    (hcapm : m.length ≤ capm) (hcmm : capm ≤ 9223372036854775807) (hm : m.length ≤ 50) (hm0 : 0 < m.length) (hj : Ints w (some ⟨bm, om, none⟩) m) :
    Calls Try.prog 8 #[.agg #[.int .i64 f, .int .i64 fg, .int .i64 bg], .agg #[.int .i64 f2, .int .i64 fg2, .int .i64 bg2], .slice al l.length cap, .slice (some ⟨bm, om, none⟩) m.length capm] w (OutP w) := by
  obtain ⟨i0, hi0, hz0, hz1, hz2⟩ := info_parts info3
  obtain ⟨R0, hR0⟩ : ∃ R0, R0 = applyA (f, fg, bg) ([0] ++ m) := ⟨_, rfl⟩
  have HR0 := Lib.hid hR0.symm
  have HR1 := Lib.hid (show applyA (f2, fg2, bg2) ([-1] ++ m) = R0 from by rw [hR0, applyA, applyA, if_neg (by simp), if_neg (by simp)]; exact (apply_reset _ _ m).symm)
  obtain ⟨R1, hR1⟩ : ∃ R1, R1 = applyA (f, fg, bg) (l ++ m) := ⟨_, rfl⟩
  obtain ⟨R2, hR2⟩ : ∃ R2, R2 = applyA (f, fg, bg) l := ⟨_, rfl⟩
  have hln : l ≠ [] := by intro e; subst e; simp at hl0
  have hmn : m ≠ [] := by intro e; subst e; simp at hm0
  have HRA := Lib.hid hR1.symm
  have HRB := Lib.hid hR2.symm
  have HRC := Lib.hid (show cutL l = false → applyA R2 m = R1 from fun hc => by
    rw [hR1, hR2, applyA, applyA, applyA, if_neg hmn, if_neg hln, if_neg (by simp [hln])]
    exact (apply_app l.length _ l m (Nat.le_refl _) hc).symm)
  clear hR0 hR1 hR2 hln hmn
  have z1 : ((l.length : Int) == 0) = false := by rw [beq_eq_false_iff_ne]; omega
  have z2 : ((m.length : Int) == 0) = false := by rw [beq_eq_false_iff_ne]; omega
  go_enter Try.func8, Try.ntmps8
  go_wp2_with fail
  refine (SgrFirst.first _).mono ?_
  rintro e w1 ⟨rfl, hb1⟩
  have h1 : Below w.heap.size w w1 := below_then (((Below.refl _ _).alloc (Nat.le_refl _) _).alloc (by simp) _) hb1 (by simp; omega)
  have h6 : Six w1 w.heap.size (w.heap.size + 1) f fg bg f2 fg2 bg2 := ⟨Apply.cell_then hb1 (Nat.le_refl _) (by simp [go_sem]), Apply.cell_then hb1 (Nat.le_refl _) (by simp [go_sem]), Apply.cell_then hb1 (Nat.le_refl _) (by simp [go_sem]), Apply.cell_then hb1 (Nat.le_refl _) (by simp [go_sem]), Apply.cell_then hb1 (Nat.le_refl _) (by simp [go_sem]), Apply.cell_then hb1 (Nat.le_refl _) (by simp [go_sem])⟩
  have i1 : Ints w1 al l := ints_then h1 (Nat.le_refl _) hi
  have im : Ints w1 (some ⟨bm, om, none⟩) m := ints_then h1 (Nat.le_refl _) hj
  have hw1 := h1.size
  clear hb1 hi hj
  obtain ⟨BA, hBA⟩ : ∃ BA, BA = w.heap.size := ⟨_, rfl⟩
  obtain ⟨BB, hBB⟩ : ∃ BB, BB = BA + 1 := ⟨_, rfl⟩
  rw [← hBA, ← hBB] at h6
  rw [← hBA, ← hBB]
  have HBA := Lib.hid hBA
  clear hBA hBB
  have hSS : Six w1 BA BB f fg bg f2 fg2 bg2 ∧ Ints w1 al l ∧ Ints w1 (some ⟨bm, om, none⟩) m ∧ Below w.heap.size w w1 := ⟨h6, i1, im, h1⟩
  have hq : Below w1.heap.size w1 w1.drew := (Below.refl _ _).drew
  clear h6 i1 h1
  go_wp2_with fail
  refine wp_region_held_drew (S := (fun W => W.cell? ⟨BA, 0, none⟩ = some (.int .i64 f) ∧ W.cell? ⟨BA, 1, none⟩ = some (.int .i64 fg) ∧ W.cell? ⟨BA, 2, none⟩ = some (.int .i64 bg) ∧ W.cell? ⟨BB, 0, none⟩ = some (.int .i64 f2) ∧ W.cell? ⟨BB, 1, none⟩ = some (.int .i64 fg2) ∧ W.cell? ⟨BB, 2, none⟩ = some (.int .i64 bg2) ∧ Ints W al l ∧ Ints W (some ⟨bm, om, none⟩) m ∧ Below w.heap.size w W)) (by kernel_rfl) ?_ (fun hHeld => ?_)
  · ((try dsimp only); exact ss_then hq hSS)
  refine wpAnyH_take (i := 0) (oi := { dst := some 30, op := Op.load 23 (Operand.tmp 4), type := 23, pos := _, after := #[], guard := none }) (v := ?_) rfl (by kernel_rfl) (by kernel_rfl) (by kernel_rfl) (fun _ _ _ h => h) (Or.inl ⟨by rfl, ?_⟩) (by assumption) ?_
  rotate_left
  · ((intro w hSw); (try dsimp only at hSw); go_simp; (try with_reducible rfl))
  try simp only [Act.put, List.setIfInBounds_toArray, List.set_cons_zero, List.set_cons_succ]
  refine wpAnyH_take (i := 2) (oi := { dst := some 32, op := Op.move (Operand.tmp 3), type := 34, pos := _, after := #[], guard := none }) (v := ?_) rfl (by kernel_rfl) (by kernel_rfl) (by kernel_rfl) (fun _ _ _ h => h) (Or.inl ⟨by rfl, ?_⟩) (by assumption) ?_
  rotate_left
  · ((intro w hSw); (try dsimp only at hSw); go_simp; (try with_reducible rfl))
  try simp only [Act.put, List.setIfInBounds_toArray, List.set_cons_zero, List.set_cons_succ]
  refine wpAnyH_take (i := 5) (oi := { dst := some 35, op := Op.load 23 (Operand.tmp 5), type := 23, pos := _, after := #[], guard := none }) (v := ?_) rfl (by kernel_rfl) (by kernel_rfl) (by kernel_rfl) (fun _ _ _ h => h) (Or.inl ⟨by rfl, ?_⟩) (by assumption) ?_
  rotate_left
  · ((intro w hSw); (try dsimp only at hSw); go_simp; (try with_reducible rfl))
  try simp only [Act.put, List.setIfInBounds_toArray, List.set_cons_zero, List.set_cons_succ]
  refine wpAnyH_take (i := 7) (oi := { dst := some 37, op := Op.move (Operand.tmp 3), type := 34, pos := _, after := #[], guard := none }) (v := ?_) rfl (by kernel_rfl) (by kernel_rfl) (by kernel_rfl) (fun _ _ _ h => h) (Or.inl ⟨by rfl, ?_⟩) (by assumption) ?_
  rotate_left
  · ((intro w hSw); (try dsimp only at hSw); go_simp; (try with_reducible rfl))
  try simp only [Act.put, List.setIfInBounds_toArray, List.set_cons_zero, List.set_cons_succ]
  refine wpAnyH_ready (rs := [1, 6]) (by kernel_rfl) (by simp) ?_
  refine (AllReadyH.cons (o := { dst := some 31, op := Op.buildSlice 34 1 #[(0, Operand.const (Value.int IntKind.i64 0))], type := 34, pos := _, after := #[], guard := none }) rfl (fun K hK => ?_) (AllReadyH.cons (o := { dst := some 36, op := Op.buildSlice 34 1 #[(0, Operand.const (Value.int IntKind.i64 (-1)))], type := 34, pos := _, after := #[], guard := none }) rfl (fun K hK => ?_) AllReadyH.nil))
  · skip
    go_simp
    have hq1 := hq.alloc hq.size (.cells #[.int .i64 0] 3)
    refine hK.out _ _ ?_ (fun hHeld => ?_)
    · ((try dsimp only); exact ss_then hq1 hSS)
    clear hK K
    try simp only [Act.put, List.setIfInBounds_toArray, List.set_cons_zero, List.set_cons_succ]
    refine wpAnyH_ready (rs := [3, 6]) (by kernel_rfl) (by simp) ?_
    refine (AllReadyH.cons (o := { dst := some 33, op := Op.call { callee := Callee.builtin Builtin.append, args := #[Operand.tmp 31, Operand.tmp 32], argTypes := #[34, 34] }, type := 34, pos := _, after := #[{ on := 1, ground := Ground.data }, { on := 2, ground := Ground.data }], guard := none }) rfl (fun K hK => ?_) (AllReadyH.cons (o := { dst := some 36, op := Op.buildSlice 34 1 #[(0, Operand.const (Value.int IntKind.i64 (-1)))], type := 34, pos := _, after := #[], guard := none }) rfl (fun K hK => ?_) AllReadyH.nil))
    · skip
      rw [if_pos (by rfl)]
      have hr1 := (own_one (base := w.heap.size) w1.drew (0) (w1.heap.size) (by simp) (Nat.le_trans hw1 hq.size))
      refine wp_append_own _ _ _ 34 rfl w.heap.size 3 i0 (.int .i64 0) 1 8 Try.underlying34 hi0 hz0 hz1 hz2 rfl (by decide) _ _ _ rfl hr1 ⟨bm, om, none⟩ m.length capm (cellsI m) rfl (by simp [cellsI]) (cellsI_at (ints_then hq1 (Nat.le_refl _) im)) cellsI_one (by unfold maxLen; omega) (by omega) (Nat.le_trans hw1 hq1.size) ?_
      intro v3 w3 ho3 hg3 _
      rw [cellsI_app] at ho3
      replace hg3 : World.grownBy _ w3 (some (w1.heap.size)) := hg3
      have hq3 : Below w1.heap.size w1 w3 := hq1.grown hg3 hq1.size (fun j hj => by injection hj with hj; subst hj; first | exact Nat.le_refl _ | omega | (have := hq1.size; simp at this ⊢; omega))
      have hs3 := hq3.size
      have ht3 := hg3.size
      try simp at ht3
      obtain ⟨a3, cap3, rfl, ⟨hc3, hd3⟩, hi3, _⟩ := row_any ho3
      refine hK.out _ _ ?_ (fun hHeld => ?_)
      · ((try dsimp only); exact ss_then hq3 hSS)
      clear hK K
      try simp only [Act.put, List.setIfInBounds_toArray, List.set_cons_zero, List.set_cons_succ]
      refine wpAnyH_ready (rs := [4, 6]) (by kernel_rfl) (by simp) ?_
      refine (AllReadyH.cons (o := { dst := some 34, op := Op.call { callee := Callee.value (Operand.func 23), args := #[Operand.tmp 30, Operand.tmp 33], argTypes := #[23, 34] }, type := 23, pos := _, after := #[{ on := 0, ground := Ground.data }, { on := 3, ground := Ground.data }, { on := 3, ground := Ground.chain }], guard := none }) rfl (fun K hK => ?_) (AllReadyH.cons (o := { dst := some 36, op := Op.buildSlice 34 1 #[(0, Operand.const (Value.int IntKind.i64 (-1)))], type := 34, pos := _, after := #[], guard := none }) rfl (fun K hK => ?_) AllReadyH.nil))
      · skip
        go_simp
        rw [show m.length = m.length from rfl]
        refine (applyAny f fg bg a3 ([0] ++ m) cap3 _ hc3 hd3 (by simp; omega) hi3 _ HR0).mono ?_
        rintro e w4 ⟨rfl, h4⟩
        have hq4 := hq3.trans (h4.mono hq3.size)
        have hs4 := h4.size
        try simp only [World.size_alloc] at hs4
        go_wp2_with fail
        refine hK.out _ _ ?_ (fun hHeld => ?_)
        · ((try dsimp only); exact ss_then hq4 hSS)
        clear hK K
        try simp only [Act.put, List.setIfInBounds_toArray, List.set_cons_zero, List.set_cons_succ]
        refine wpAnyH_ready (rs := [6]) (by kernel_rfl) (by simp) ?_
        refine (AllReadyH.cons (o := { dst := some 36, op := Op.buildSlice 34 1 #[(0, Operand.const (Value.int IntKind.i64 (-1)))], type := 34, pos := _, after := #[], guard := none }) rfl (fun K hK => ?_) AllReadyH.nil)
        go_simp
        have hq6 := hq4.alloc hq4.size (.cells #[.int .i64 (-1)] 3)
        refine hK.out _ _ ?_ (fun hHeld => ?_)
        · ((try dsimp only); exact ss_then hq6 hSS)
        clear hK K
        try simp only [Act.put, List.setIfInBounds_toArray, List.set_cons_zero, List.set_cons_succ]
        refine wpAnyH_ready (rs := [8]) (by kernel_rfl) (by simp) ?_
        refine (AllReadyH.cons (o := { dst := some 38, op := Op.call { callee := Callee.builtin Builtin.append, args := #[Operand.tmp 36, Operand.tmp 37], argTypes := #[34, 34] }, type := 34, pos := _, after := #[{ on := 6, ground := Ground.data }, { on := 7, ground := Ground.data }, { on := 4, ground := Ground.chain }], guard := none }) rfl (fun K hK => ?_) AllReadyH.nil)
        rw [if_pos (by rfl)]
        have hr6 := (own_one (base := w.heap.size) w4 (-1) (w4.heap.size) (by simp) (Nat.le_trans hw1 hq4.size))
        refine wp_append_own _ _ _ 34 rfl w.heap.size 3 i0 (.int .i64 0) 1 8 Try.underlying34 hi0 hz0 hz1 hz2 rfl (by decide) _ _ _ rfl hr6 ⟨bm, om, none⟩ m.length capm (cellsI m) rfl (by simp [cellsI]) (cellsI_at (ints_then hq6 (Nat.le_refl _) im)) cellsI_one (by unfold maxLen; omega) (by omega) (Nat.le_trans hw1 hq6.size) ?_
        intro v8 w8 ho8 hg8 _
        rw [cellsI_app] at ho8
        replace hg8 : World.grownBy _ w8 (some (w4.heap.size)) := hg8
        have hq8 : Below w1.heap.size w1 w8 := hq6.grown hg8 hq6.size (fun j hj => by injection hj with hj; subst hj; first | exact Nat.le_refl _ | omega | (have := hq6.size; simp at this ⊢; omega))
        have hs8 := hq8.size
        have ht8 := hg8.size
        try simp at ht8
        obtain ⟨a8, cap8, rfl, ⟨hc8, hd8⟩, hi8, _⟩ := row_any ho8
        refine hK.out _ _ ?_ (fun hHeld => ?_)
        · ((try dsimp only); exact ss_then hq8 hSS)
        clear hK K
        try simp only [Act.put, List.setIfInBounds_toArray, List.set_cons_zero, List.set_cons_succ]
        refine wpAnyH_ready (rs := [9]) (by kernel_rfl) (by simp) ?_
        refine (AllReadyH.cons (o := { dst := some 39, op := Op.call { callee := Callee.value (Operand.func 23), args := #[Operand.tmp 35, Operand.tmp 38], argTypes := #[23, 34] }, type := 23, pos := _, after := #[{ on := 5, ground := Ground.data }, { on := 8, ground := Ground.data }, { on := 8, ground := Ground.chain }], guard := none }) rfl (fun K hK => ?_) AllReadyH.nil)
        go_simp
        rw [show m.length = m.length from rfl]
        refine (applyAny f2 fg2 bg2 a8 ([-1] ++ m) cap8 _ hc8 hd8 (by simp; omega) hi8 _ HR1).mono ?_
        rintro e w9 ⟨rfl, h9⟩
        have hq9 := hq8.trans (h9.mono hq8.size)
        have hs9 := h9.size
        try simp only [World.size_alloc] at hs9
        go_wp2_with fail
        refine hK.out _ _ ?_ (fun hHeld => ?_)
        · ((try dsimp only); exact ss_then hq9 hSS)
        clear hK K
        try simp only [Act.put, List.setIfInBounds_toArray, List.set_cons_zero, List.set_cons_succ]
        refine wpAnyH_take (i := 10) (oi := { dst := some 40, op := Op.binOp BinOp.neq 23 (Operand.tmp 34) (Operand.tmp 39) 23, type := 4, pos := _, after := #[{ on := 4, ground := Ground.data }, { on := 9, ground := Ground.data }], guard := none }) (v := ?_) rfl (by kernel_rfl) (by kernel_rfl) (by kernel_rfl) (fun _ _ _ h => h) (Or.inl ⟨by rfl, ?_⟩) (by assumption) ?_
        rotate_left
        · ((intro w hSw); (try dsimp only at hSw); go_simp; (try with_reducible rfl))
        try simp only [Act.put, List.setIfInBounds_toArray, List.set_cons_zero, List.set_cons_succ]
        refine wpAnyH_done (by kernel_rfl) ?_ _
        obtain ⟨a0, a1, a2, b0, b1, b2, j1, jm, j9⟩ := hHeld
        have jSS : Six w9 BA BB f fg bg f2 fg2 bg2 ∧ Ints w9 al l ∧ Ints w9 (some ⟨bm, om, none⟩) m ∧ Below w.heap.size w w9 := ⟨⟨a0, a1, a2, b0, b1, b2⟩, j1, jm, j9⟩
        have q : Below w9.heap.size w9 w9.drew := (Below.refl _ _).drew
        have HJ := Lib.hid j9
        clear a0 a1 a2 b0 b1 b2 j9
        go_wp2_with fail
        cases hc : cutL l
        · have HRD := Lib.hid (show applyA (R2.1, R2.2.1, R2.2.2) m = R1 from HRC.out hc)
          have HCT := Lib.hid (show ∀ W, Ints W al l → Calls Try.prog 24 #[.slice al l.length cap] W fun e w' => e = .returned (.bool false) ∧ W = w' from fun W hW => by have := cutC al l cap W (by omega) hW; rw [hc] at this; exact this)
          clear hc
          refine wp_region_held_drew (S := (fun W => W.cell? ⟨BA, 0, none⟩ = some (.int .i64 f) ∧ W.cell? ⟨BA, 1, none⟩ = some (.int .i64 fg) ∧ W.cell? ⟨BA, 2, none⟩ = some (.int .i64 bg) ∧ W.cell? ⟨BB, 0, none⟩ = some (.int .i64 f2) ∧ W.cell? ⟨BB, 1, none⟩ = some (.int .i64 fg2) ∧ W.cell? ⟨BB, 2, none⟩ = some (.int .i64 bg2) ∧ Ints W al l ∧ Ints W (some ⟨bm, om, none⟩) m ∧ Below w.heap.size w W)) (by kernel_rfl) ?_ (fun hHeld => ?_)
          · ((try dsimp only); exact ss_then q jSS)
          refine wpAnyH_ready (rs := [0]) (by kernel_rfl) (by simp) ?_
          refine (AllReadyH.cons (o := { dst := some 41, op := Op.call { callee := Callee.value (Operand.func 21), args := #[], argTypes := #[] }, type := 4, pos := _, after := #[], guard := none }) rfl (fun K hK => ?_) AllReadyH.nil)
          go_simp
          refine (SgrFirst.first _).mono ?_
          rintro e x0 ⟨rfl, g0⟩
          have q0 := q.trans (g0.mono q.size)
          go_wp2_with fail
          refine hK.out _ _ ?_ (fun hHeld => ?_)
          · ((try dsimp only); exact ss_then q0 jSS)
          clear hK K
          try simp only [Act.put, List.setIfInBounds_toArray, List.set_cons_zero, List.set_cons_succ]
          refine wpAnyH_take (i := 1) (oi := { dst := some 42, op := Op.move (Operand.tmp 41), type := 4, pos := _, after := #[{ on := 0, ground := Ground.data }, { on := 0, ground := Ground.chain }], guard := none }) (v := ?_) rfl (by kernel_rfl) (by kernel_rfl) (by kernel_rfl) (fun _ _ _ h => h) (Or.inl ⟨by rfl, ?_⟩) (by assumption) ?_
          rotate_left
          · ((intro w hSw); (try dsimp only at hSw); go_simp; (try with_reducible rfl))
          try simp only [Act.put, List.setIfInBounds_toArray, List.set_cons_zero, List.set_cons_succ]
          refine wpAnyH_take (i := 2) (oi := { dst := some 43, op := Op.move (Operand.tmp 2), type := 34, pos := _, after := #[{ on := 1, ground := Ground.guard }], guard := some (1, true) }) (v := ?_) rfl (by kernel_rfl) (by kernel_rfl) (by kernel_rfl) (fun _ _ _ h => h) (Or.inl ⟨by rfl, ?_⟩) (by assumption) ?_
          rotate_left
          · ((intro w hSw); (try dsimp only at hSw); go_simp; (try with_reducible rfl))
          try simp only [Act.put, List.setIfInBounds_toArray, List.set_cons_zero, List.set_cons_succ]
          refine wpAnyH_ready (rs := [3]) (by kernel_rfl) (by simp) ?_
          refine (AllReadyH.cons (o := { dst := some 44, op := Op.call { callee := Callee.value (Operand.func 24), args := #[Operand.tmp 43], argTypes := #[34] }, type := 4, pos := _, after := #[{ on := 2, ground := Ground.data }, { on := 1, ground := Ground.chain }, { on := 1, ground := Ground.guard }], guard := some (1, true) }) rfl (fun K hK => ?_) AllReadyH.nil)
          go_simp
          refine (HCT.out _ (ints_then q0 (Nat.le_refl _) j1)).mono ?_
          rintro e x3 ⟨rfl, rfl⟩
          have q3 := q0
          go_wp2_with fail
          refine hK.out _ _ ?_ (fun hHeld => ?_)
          · ((try dsimp only); exact ss_then q3 jSS)
          clear hK K
          try simp only [Act.put, List.setIfInBounds_toArray, List.set_cons_zero, List.set_cons_succ]
          refine wpAnyH_take (i := 4) (oi := { dst := some 45, op := Op.move (Operand.tmp 44), type := 4, pos := _, after := #[{ on := 3, ground := Ground.data }, { on := 3, ground := Ground.chain }, { on := 1, ground := Ground.guard }], guard := some (1, true) }) (v := ?_) rfl (by kernel_rfl) (by kernel_rfl) (by kernel_rfl) (fun _ _ _ h => h) (Or.inl ⟨by rfl, ?_⟩) (by assumption) ?_
          rotate_left
          · ((intro w hSw); (try dsimp only at hSw); go_simp; (try with_reducible rfl))
          try simp only [Act.put, List.setIfInBounds_toArray, List.set_cons_zero, List.set_cons_succ]
          refine wpAnyH_take (i := 5) (oi := { dst := some 46, op := Op.load 23 (Operand.tmp 4), type := 23, pos := _, after := #[{ on := 4, ground := Ground.guard }], guard := some (4, false) }) (v := ?_) rfl (by kernel_rfl) (by kernel_rfl) (by kernel_rfl) (fun _ _ _ h => h) (Or.inl ⟨by rfl, ?_⟩) (by assumption) ?_
          rotate_left
          · ((intro w hSw); (try dsimp only at hSw); go_simp; (try with_reducible rfl))
          try simp only [Act.put, List.setIfInBounds_toArray, List.set_cons_zero, List.set_cons_succ]
          refine wpAnyH_take (i := 6) (oi := { dst := some 47, op := Op.move (Operand.tmp 2), type := 34, pos := _, after := #[{ on := 4, ground := Ground.guard }], guard := some (4, false) }) (v := ?_) rfl (by kernel_rfl) (by kernel_rfl) (by kernel_rfl) (fun _ _ _ h => h) (Or.inl ⟨by rfl, ?_⟩) (by assumption) ?_
          rotate_left
          · ((intro w hSw); (try dsimp only at hSw); go_simp; (try with_reducible rfl))
          try simp only [Act.put, List.setIfInBounds_toArray, List.set_cons_zero, List.set_cons_succ]
          refine wpAnyH_take (i := 8) (oi := { dst := some 49, op := Op.move (Operand.tmp 3), type := 34, pos := _, after := #[{ on := 4, ground := Ground.guard }], guard := some (4, false) }) (v := ?_) rfl (by kernel_rfl) (by kernel_rfl) (by kernel_rfl) (fun _ _ _ h => h) (Or.inl ⟨by rfl, ?_⟩) (by assumption) ?_
          rotate_left
          · ((intro w hSw); (try dsimp only at hSw); go_simp; (try with_reducible rfl))
          try simp only [Act.put, List.setIfInBounds_toArray, List.set_cons_zero, List.set_cons_succ]
          refine wpAnyH_take (i := 11) (oi := { dst := some 52, op := Op.load 23 (Operand.tmp 4), type := 23, pos := _, after := #[{ on := 4, ground := Ground.guard }], guard := some (4, false) }) (v := ?_) rfl (by kernel_rfl) (by kernel_rfl) (by kernel_rfl) (fun _ _ _ h => h) (Or.inl ⟨by rfl, ?_⟩) (by assumption) ?_
          rotate_left
          · ((intro w hSw); (try dsimp only at hSw); go_simp; (try with_reducible rfl))
          try simp only [Act.put, List.setIfInBounds_toArray, List.set_cons_zero, List.set_cons_succ]
          refine wpAnyH_take (i := 12) (oi := { dst := some 53, op := Op.move (Operand.tmp 2), type := 34, pos := _, after := #[{ on := 4, ground := Ground.guard }], guard := some (4, false) }) (v := ?_) rfl (by kernel_rfl) (by kernel_rfl) (by kernel_rfl) (fun _ _ _ h => h) (Or.inl ⟨by rfl, ?_⟩) (by assumption) ?_
          rotate_left
          · ((intro w hSw); (try dsimp only at hSw); go_simp; (try with_reducible rfl))
          try simp only [Act.put, List.setIfInBounds_toArray, List.set_cons_zero, List.set_cons_succ]
          refine wpAnyH_take (i := 14) (oi := { dst := some 55, op := Op.move (Operand.tmp 3), type := 34, pos := _, after := #[{ on := 4, ground := Ground.guard }], guard := some (4, false) }) (v := ?_) rfl (by kernel_rfl) (by kernel_rfl) (by kernel_rfl) (fun _ _ _ h => h) (Or.inl ⟨by rfl, ?_⟩) (by assumption) ?_
          rotate_left
          · ((intro w hSw); (try dsimp only at hSw); go_simp; (try with_reducible rfl))
          try simp only [Act.put, List.setIfInBounds_toArray, List.set_cons_zero, List.set_cons_succ]
          refine wpAnyH_ready (rs := [7]) (by kernel_rfl) (by simp) ?_
          refine (AllReadyH.cons (o := { dst := some 48, op := Op.call { callee := Callee.value (Operand.func 25), args := #[Operand.tmp 47], argTypes := #[34] }, type := 34, pos := _, after := #[{ on := 6, ground := Ground.data }, { on := 4, ground := Ground.chain }, { on := 4, ground := Ground.guard }], guard := some (4, false) }) rfl (fun K hK => ?_) AllReadyH.nil)
          go_simp
          refine (copyC al l cap _ (by omega) h0 (ints_then q3 (Nat.le_refl _) j1)).mono ?_
          rintro e x7 ⟨v7, rfl, ho7, g7⟩
          have q7 := q3.trans (g7.mono q3.size)
          go_wp2_with fail
          refine hK.out _ _ ?_ (fun hHeld => ?_)
          · ((try dsimp only); exact ss_then q7 jSS)
          clear hK K
          try simp only [Act.put, List.setIfInBounds_toArray, List.set_cons_zero, List.set_cons_succ]
          refine wpAnyH_ready (rs := [9]) (by kernel_rfl) (by simp) ?_
          refine (AllReadyH.cons (o := { dst := some 50, op := Op.call { callee := Callee.builtin Builtin.append, args := #[Operand.tmp 48, Operand.tmp 49], argTypes := #[34, 34] }, type := 34, pos := _, after := #[{ on := 7, ground := Ground.data }, { on := 8, ground := Ground.data }, { on := 7, ground := Ground.chain }, { on := 4, ground := Ground.guard }], guard := some (4, false) }) rfl (fun K hK => ?_) AllReadyH.nil)
          rw [if_pos (by rfl)]
          refine wp_append_own _ _ _ 34 rfl _ 3 i0 (.int .i64 0) 1 8 Try.underlying34 hi0 hz0 hz1 hz2 rfl (by decide) _ _ _ rfl ho7 ⟨bm, om, none⟩ m.length capm (cellsI m) rfl (by simp [cellsI]) (cellsI_at (ints_then q7 (Nat.le_refl _) jm)) cellsI_one (by unfold maxLen; omega) (by omega) g7.size ?_
          intro v9 x9 ho9 hg9 _
          rw [cellsI_app] at ho9
          have q9 := q7.grown hg9 q7.size (fun j hj => Nat.le_trans q3.size ((ho7.lt j hj).1))
          obtain ⟨a9, cap9, rfl, ⟨hc9, hd9⟩, hi9, _⟩ := row_any ho9
          refine hK.out _ _ ?_ (fun hHeld => ?_)
          · ((try dsimp only); exact ss_then q9 jSS)
          clear hK K
          try simp only [Act.put, List.setIfInBounds_toArray, List.set_cons_zero, List.set_cons_succ]
          refine wpAnyH_ready (rs := [10]) (by kernel_rfl) (by simp) ?_
          refine (AllReadyH.cons (o := { dst := some 51, op := Op.call { callee := Callee.value (Operand.func 23), args := #[Operand.tmp 46, Operand.tmp 50], argTypes := #[23, 34] }, type := 23, pos := _, after := #[{ on := 5, ground := Ground.data }, { on := 9, ground := Ground.data }, { on := 9, ground := Ground.chain }, { on := 4, ground := Ground.guard }], guard := some (4, false) }) rfl (fun K hK => ?_) AllReadyH.nil)
          go_simp
          rw [← List.length_append]
          refine (applyAny f fg bg a9 (l ++ m) cap9 _ hc9 hd9 (by simp; omega) hi9 _ HRA).mono ?_
          rintro e x10 ⟨rfl, g10⟩
          have q10 := q9.trans (g10.mono q9.size)
          go_wp2_with fail
          refine hK.out _ _ ?_ (fun hHeld => ?_)
          · ((try dsimp only); exact ss_then q10 jSS)
          clear hK K
          try simp only [Act.put, List.setIfInBounds_toArray, List.set_cons_zero, List.set_cons_succ]
          refine wpAnyH_ready (rs := [13]) (by kernel_rfl) (by simp) ?_
          refine (AllReadyH.cons (o := { dst := some 54, op := Op.call { callee := Callee.value (Operand.func 23), args := #[Operand.tmp 52, Operand.tmp 53], argTypes := #[23, 34] }, type := 23, pos := _, after := #[{ on := 11, ground := Ground.data }, { on := 12, ground := Ground.data }, { on := 10, ground := Ground.chain }, { on := 4, ground := Ground.guard }], guard := some (4, false) }) rfl (fun K hK => ?_) AllReadyH.nil)
          go_simp
          refine (applyAny f fg bg al l cap _ hcap hcm (by omega) (ints_then q10 (Nat.le_refl _) j1) _ HRB).mono ?_
          rintro e x13 ⟨rfl, g13⟩
          have q13 := q10.trans (g13.mono q10.size)
          go_wp2_with fail
          refine hK.out _ _ ?_ (fun hHeld => ?_)
          · ((try dsimp only); exact ss_then q13 jSS)
          clear hK K
          try simp only [Act.put, List.setIfInBounds_toArray, List.set_cons_zero, List.set_cons_succ]
          refine wpAnyH_ready (rs := [15]) (by kernel_rfl) (by simp) ?_
          refine (AllReadyH.cons (o := { dst := some 56, op := Op.call { callee := Callee.value (Operand.func 23), args := #[Operand.tmp 54, Operand.tmp 55], argTypes := #[23, 34] }, type := 23, pos := _, after := #[{ on := 13, ground := Ground.data }, { on := 14, ground := Ground.data }, { on := 13, ground := Ground.chain }, { on := 4, ground := Ground.guard }], guard := some (4, false) }) rfl (fun K hK => ?_) AllReadyH.nil)
          go_simp
          refine (applyAny R2.1 R2.2.1 R2.2.2 (some ⟨bm, om, none⟩) m capm _ hcapm hcmm (by omega) (ints_then q13 (Nat.le_refl _) jm) _ HRD).mono ?_
          rintro e x15 ⟨rfl, g15⟩
          have q15 := q13.trans (g15.mono q13.size)
          go_wp2_with fail
          refine hK.out _ _ ?_ (fun hHeld => ?_)
          · ((try dsimp only); exact ss_then q15 jSS)
          clear hK K
          try simp only [Act.put, List.setIfInBounds_toArray, List.set_cons_zero, List.set_cons_succ]
          refine wpAnyH_take (i := 16) (oi := { dst := some 57, op := Op.binOp BinOp.eql 23 (Operand.tmp 51) (Operand.tmp 56) 23, type := 4, pos := _, after := #[{ on := 10, ground := Ground.data }, { on := 15, ground := Ground.data }, { on := 4, ground := Ground.guard }], guard := some (4, false) }) (v := ?_) rfl (by kernel_rfl) (by kernel_rfl) (by kernel_rfl) (fun _ _ _ h => h) (Or.inl ⟨by rfl, ?_⟩) (by assumption) ?_
          rotate_left
          · ((intro w hSw); (try dsimp only at hSw); go_simp; (try with_reducible rfl))
          try simp only [Act.put, List.setIfInBounds_toArray, List.set_cons_zero, List.set_cons_succ]
          refine wpAnyH_take (i := 17) (oi := { dst := some 58, op := Op.pick (Operand.tmp 45) (Operand.const (Value.bool true)) (Operand.tmp 57), type := 4, pos := _, after := #[{ on := 4, ground := Ground.data }, { on := 16, ground := Ground.data }, { on := 1, ground := Ground.guard }], guard := some (1, true) }) (v := ?_) rfl (by kernel_rfl) (by kernel_rfl) (by kernel_rfl) (fun _ _ _ h => h) (Or.inl ⟨by rfl, ?_⟩) (by assumption) ?_
          rotate_left
          · ((intro w hSw); (try dsimp only at hSw); go_simp; (try with_reducible rfl))
          try simp only [Act.put, List.setIfInBounds_toArray, List.set_cons_zero, List.set_cons_succ]
          refine wpAnyH_take (i := 18) (oi := { dst := some 59, op := Op.pick (Operand.tmp 42) (Operand.tmp 58) (Operand.const (Value.bool false)), type := 4, pos := _, after := #[{ on := 1, ground := Ground.data }, { on := 17, ground := Ground.data }], guard := none }) (v := ?_) rfl (by kernel_rfl) (by kernel_rfl) (by kernel_rfl) (fun _ _ _ h => h) (Or.inl ⟨by rfl, ?_⟩) (by assumption) ?_
          rotate_left
          · ((intro w hSw); (try dsimp only at hSw); go_simp; (try with_reducible rfl))
          try simp only [Act.put, List.setIfInBounds_toArray, List.set_cons_zero, List.set_cons_succ]
          refine wpAnyH_take (i := 19) (oi := { dst := some 8, op := Op.assign (Operand.tmp 59), type := 4, pos := _, after := #[{ on := 18, ground := Ground.data }, { on := 15, ground := Ground.chain }, { on := 0, ground := Ground.phase }, { on := 1, ground := Ground.phase }, { on := 2, ground := Ground.phase }, { on := 3, ground := Ground.phase }, { on := 4, ground := Ground.phase }, { on := 5, ground := Ground.phase }, { on := 6, ground := Ground.phase }, { on := 7, ground := Ground.phase }, { on := 8, ground := Ground.phase }, { on := 9, ground := Ground.phase }, { on := 10, ground := Ground.phase }, { on := 11, ground := Ground.phase }, { on := 12, ground := Ground.phase }, { on := 13, ground := Ground.phase }, { on := 14, ground := Ground.phase }, { on := 15, ground := Ground.phase }, { on := 16, ground := Ground.phase }, { on := 17, ground := Ground.phase }, { on := 18, ground := Ground.phase }], guard := none }) (v := ?_) rfl (by kernel_rfl) (by kernel_rfl) (by kernel_rfl) (fun _ _ _ h => h) (Or.inl ⟨by rfl, ?_⟩) (by assumption) ?_
          rotate_left
          · ((intro w hSw); (try dsimp only at hSw); go_simp; (try with_reducible rfl))
          try simp only [Act.put, List.setIfInBounds_toArray, List.set_cons_zero, List.set_cons_succ]
          refine wpAnyH_done (by kernel_rfl) ?_ _
          go_wp2
          go_ret
          exact ⟨rfl, SgrApart.below_next HJ.out q15⟩
        · have HCT := Lib.hid (show ∀ W, Ints W al l → Calls Try.prog 24 #[.slice al l.length cap] W fun e w' => e = .returned (.bool true) ∧ W = w' from fun W hW => by have := cutC al l cap W (by omega) hW; rw [hc] at this; exact this)
          clear hc
          refine wp_region_held_drew (S := (fun W => W.cell? ⟨BA, 0, none⟩ = some (.int .i64 f) ∧ W.cell? ⟨BA, 1, none⟩ = some (.int .i64 fg) ∧ W.cell? ⟨BA, 2, none⟩ = some (.int .i64 bg) ∧ W.cell? ⟨BB, 0, none⟩ = some (.int .i64 f2) ∧ W.cell? ⟨BB, 1, none⟩ = some (.int .i64 fg2) ∧ W.cell? ⟨BB, 2, none⟩ = some (.int .i64 bg2) ∧ Ints W al l ∧ Ints W (some ⟨bm, om, none⟩) m ∧ Below w.heap.size w W)) (by kernel_rfl) ?_ (fun hHeld => ?_)
          · ((try dsimp only); exact ss_then q jSS)
          refine wpAnyH_ready (rs := [0]) (by kernel_rfl) (by simp) ?_
          refine (AllReadyH.cons (o := { dst := some 41, op := Op.call { callee := Callee.value (Operand.func 21), args := #[], argTypes := #[] }, type := 4, pos := _, after := #[], guard := none }) rfl (fun K hK => ?_) AllReadyH.nil)
          go_simp
          refine (SgrFirst.first _).mono ?_
          rintro e x0 ⟨rfl, g0⟩
          have q0 := q.trans (g0.mono q.size)
          go_wp2_with fail
          refine hK.out _ _ ?_ (fun hHeld => ?_)
          · ((try dsimp only); exact ss_then q0 jSS)
          clear hK K
          try simp only [Act.put, List.setIfInBounds_toArray, List.set_cons_zero, List.set_cons_succ]
          refine wpAnyH_take (i := 1) (oi := { dst := some 42, op := Op.move (Operand.tmp 41), type := 4, pos := _, after := #[{ on := 0, ground := Ground.data }, { on := 0, ground := Ground.chain }], guard := none }) (v := ?_) rfl (by kernel_rfl) (by kernel_rfl) (by kernel_rfl) (fun _ _ _ h => h) (Or.inl ⟨by rfl, ?_⟩) (by assumption) ?_
          rotate_left
          · ((intro w hSw); (try dsimp only at hSw); go_simp; (try with_reducible rfl))
          try simp only [Act.put, List.setIfInBounds_toArray, List.set_cons_zero, List.set_cons_succ]
          refine wpAnyH_take (i := 2) (oi := { dst := some 43, op := Op.move (Operand.tmp 2), type := 34, pos := _, after := #[{ on := 1, ground := Ground.guard }], guard := some (1, true) }) (v := ?_) rfl (by kernel_rfl) (by kernel_rfl) (by kernel_rfl) (fun _ _ _ h => h) (Or.inl ⟨by rfl, ?_⟩) (by assumption) ?_
          rotate_left
          · ((intro w hSw); (try dsimp only at hSw); go_simp; (try with_reducible rfl))
          try simp only [Act.put, List.setIfInBounds_toArray, List.set_cons_zero, List.set_cons_succ]
          refine wpAnyH_ready (rs := [3]) (by kernel_rfl) (by simp) ?_
          refine (AllReadyH.cons (o := { dst := some 44, op := Op.call { callee := Callee.value (Operand.func 24), args := #[Operand.tmp 43], argTypes := #[34] }, type := 4, pos := _, after := #[{ on := 2, ground := Ground.data }, { on := 1, ground := Ground.chain }, { on := 1, ground := Ground.guard }], guard := some (1, true) }) rfl (fun K hK => ?_) AllReadyH.nil)
          go_simp
          refine (HCT.out _ (ints_then q0 (Nat.le_refl _) j1)).mono ?_
          rintro e x3 ⟨rfl, rfl⟩
          have q3 := q0
          go_wp2_with fail
          refine hK.out _ _ ?_ (fun hHeld => ?_)
          · ((try dsimp only); exact ss_then q3 jSS)
          clear hK K
          try simp only [Act.put, List.setIfInBounds_toArray, List.set_cons_zero, List.set_cons_succ]
          refine wpAnyH_take (i := 4) (oi := { dst := some 45, op := Op.move (Operand.tmp 44), type := 4, pos := _, after := #[{ on := 3, ground := Ground.data }, { on := 3, ground := Ground.chain }, { on := 1, ground := Ground.guard }], guard := some (1, true) }) (v := ?_) rfl (by kernel_rfl) (by kernel_rfl) (by kernel_rfl) (fun _ _ _ h => h) (Or.inl ⟨by rfl, ?_⟩) (by assumption) ?_
          rotate_left
          · ((intro w hSw); (try dsimp only at hSw); go_simp; (try with_reducible rfl))
          try simp only [Act.put, List.setIfInBounds_toArray, List.set_cons_zero, List.set_cons_succ]
          refine wpAnyH_take (i := 5) (oi := { dst := some 46, op := Op.load 23 (Operand.tmp 4), type := 23, pos := _, after := #[{ on := 4, ground := Ground.guard }], guard := some (4, false) }) (v := undef) rfl (by kernel_rfl) (by kernel_rfl) (by kernel_rfl) (fun _ _ _ h => h) (Or.inr ⟨by rfl, rfl⟩) (by assumption) ?_
          try simp only [Act.put, List.setIfInBounds_toArray, List.set_cons_zero, List.set_cons_succ]
          refine wpAnyH_take (i := 6) (oi := { dst := some 47, op := Op.move (Operand.tmp 2), type := 34, pos := _, after := #[{ on := 4, ground := Ground.guard }], guard := some (4, false) }) (v := undef) rfl (by kernel_rfl) (by kernel_rfl) (by kernel_rfl) (fun _ _ _ h => h) (Or.inr ⟨by rfl, rfl⟩) (by assumption) ?_
          try simp only [Act.put, List.setIfInBounds_toArray, List.set_cons_zero, List.set_cons_succ]
          refine wpAnyH_take (i := 7) (oi := { dst := some 48, op := Op.call { callee := Callee.value (Operand.func 25), args := #[Operand.tmp 47], argTypes := #[34] }, type := 34, pos := _, after := #[{ on := 6, ground := Ground.data }, { on := 4, ground := Ground.chain }, { on := 4, ground := Ground.guard }], guard := some (4, false) }) (v := undef) rfl (by kernel_rfl) (by kernel_rfl) (by kernel_rfl) (fun _ _ _ h => h) (Or.inr ⟨by rfl, rfl⟩) (by assumption) ?_
          try simp only [Act.put, List.setIfInBounds_toArray, List.set_cons_zero, List.set_cons_succ]
          refine wpAnyH_take (i := 8) (oi := { dst := some 49, op := Op.move (Operand.tmp 3), type := 34, pos := _, after := #[{ on := 4, ground := Ground.guard }], guard := some (4, false) }) (v := undef) rfl (by kernel_rfl) (by kernel_rfl) (by kernel_rfl) (fun _ _ _ h => h) (Or.inr ⟨by rfl, rfl⟩) (by assumption) ?_
          try simp only [Act.put, List.setIfInBounds_toArray, List.set_cons_zero, List.set_cons_succ]
          refine wpAnyH_take (i := 9) (oi := { dst := some 50, op := Op.call { callee := Callee.builtin Builtin.append, args := #[Operand.tmp 48, Operand.tmp 49], argTypes := #[34, 34] }, type := 34, pos := _, after := #[{ on := 7, ground := Ground.data }, { on := 8, ground := Ground.data }, { on := 7, ground := Ground.chain }, { on := 4, ground := Ground.guard }], guard := some (4, false) }) (v := undef) rfl (by kernel_rfl) (by kernel_rfl) (by kernel_rfl) (fun _ _ _ h => h) (Or.inr ⟨by rfl, rfl⟩) (by assumption) ?_
          try simp only [Act.put, List.setIfInBounds_toArray, List.set_cons_zero, List.set_cons_succ]
          refine wpAnyH_take (i := 10) (oi := { dst := some 51, op := Op.call { callee := Callee.value (Operand.func 23), args := #[Operand.tmp 46, Operand.tmp 50], argTypes := #[23, 34] }, type := 23, pos := _, after := #[{ on := 5, ground := Ground.data }, { on := 9, ground := Ground.data }, { on := 9, ground := Ground.chain }, { on := 4, ground := Ground.guard }], guard := some (4, false) }) (v := undef) rfl (by kernel_rfl) (by kernel_rfl) (by kernel_rfl) (fun _ _ _ h => h) (Or.inr ⟨by rfl, rfl⟩) (by assumption) ?_
          try simp only [Act.put, List.setIfInBounds_toArray, List.set_cons_zero, List.set_cons_succ]
          refine wpAnyH_take (i := 11) (oi := { dst := some 52, op := Op.load 23 (Operand.tmp 4), type := 23, pos := _, after := #[{ on := 4, ground := Ground.guard }], guard := some (4, false) }) (v := undef) rfl (by kernel_rfl) (by kernel_rfl) (by kernel_rfl) (fun _ _ _ h => h) (Or.inr ⟨by rfl, rfl⟩) (by assumption) ?_
          try simp only [Act.put, List.setIfInBounds_toArray, List.set_cons_zero, List.set_cons_succ]
          refine wpAnyH_take (i := 12) (oi := { dst := some 53, op := Op.move (Operand.tmp 2), type := 34, pos := _, after := #[{ on := 4, ground := Ground.guard }], guard := some (4, false) }) (v := undef) rfl (by kernel_rfl) (by kernel_rfl) (by kernel_rfl) (fun _ _ _ h => h) (Or.inr ⟨by rfl, rfl⟩) (by assumption) ?_
          try simp only [Act.put, List.setIfInBounds_toArray, List.set_cons_zero, List.set_cons_succ]
          refine wpAnyH_take (i := 13) (oi := { dst := some 54, op := Op.call { callee := Callee.value (Operand.func 23), args := #[Operand.tmp 52, Operand.tmp 53], argTypes := #[23, 34] }, type := 23, pos := _, after := #[{ on := 11, ground := Ground.data }, { on := 12, ground := Ground.data }, { on := 10, ground := Ground.chain }, { on := 4, ground := Ground.guard }], guard := some (4, false) }) (v := undef) rfl (by kernel_rfl) (by kernel_rfl) (by kernel_rfl) (fun _ _ _ h => h) (Or.inr ⟨by rfl, rfl⟩) (by assumption) ?_
          try simp only [Act.put, List.setIfInBounds_toArray, List.set_cons_zero, List.set_cons_succ]
          refine wpAnyH_take (i := 14) (oi := { dst := some 55, op := Op.move (Operand.tmp 3), type := 34, pos := _, after := #[{ on := 4, ground := Ground.guard }], guard := some (4, false) }) (v := undef) rfl (by kernel_rfl) (by kernel_rfl) (by kernel_rfl) (fun _ _ _ h => h) (Or.inr ⟨by rfl, rfl⟩) (by assumption) ?_
          try simp only [Act.put, List.setIfInBounds_toArray, List.set_cons_zero, List.set_cons_succ]
          refine wpAnyH_take (i := 15) (oi := { dst := some 56, op := Op.call { callee := Callee.value (Operand.func 23), args := #[Operand.tmp 54, Operand.tmp 55], argTypes := #[23, 34] }, type := 23, pos := _, after := #[{ on := 13, ground := Ground.data }, { on := 14, ground := Ground.data }, { on := 13, ground := Ground.chain }, { on := 4, ground := Ground.guard }], guard := some (4, false) }) (v := undef) rfl (by kernel_rfl) (by kernel_rfl) (by kernel_rfl) (fun _ _ _ h => h) (Or.inr ⟨by rfl, rfl⟩) (by assumption) ?_
          try simp only [Act.put, List.setIfInBounds_toArray, List.set_cons_zero, List.set_cons_succ]
          refine wpAnyH_take (i := 16) (oi := { dst := some 57, op := Op.binOp BinOp.eql 23 (Operand.tmp 51) (Operand.tmp 56) 23, type := 4, pos := _, after := #[{ on := 10, ground := Ground.data }, { on := 15, ground := Ground.data }, { on := 4, ground := Ground.guard }], guard := some (4, false) }) (v := undef) rfl (by kernel_rfl) (by kernel_rfl) (by kernel_rfl) (fun _ _ _ h => h) (Or.inr ⟨by rfl, rfl⟩) (by assumption) ?_
          try simp only [Act.put, List.setIfInBounds_toArray, List.set_cons_zero, List.set_cons_succ]
          refine wpAnyH_take (i := 17) (oi := { dst := some 58, op := Op.pick (Operand.tmp 45) (Operand.const (Value.bool true)) (Operand.tmp 57), type := 4, pos := _, after := #[{ on := 4, ground := Ground.data }, { on := 16, ground := Ground.data }, { on := 1, ground := Ground.guard }], guard := some (1, true) }) (v := ?_) rfl (by kernel_rfl) (by kernel_rfl) (by kernel_rfl) (fun _ _ _ h => h) (Or.inl ⟨by rfl, ?_⟩) (by assumption) ?_
          rotate_left
          · ((intro w hSw); (try dsimp only at hSw); go_simp; (try with_reducible rfl))
          try simp only [Act.put, List.setIfInBounds_toArray, List.set_cons_zero, List.set_cons_succ]
          refine wpAnyH_take (i := 18) (oi := { dst := some 59, op := Op.pick (Operand.tmp 42) (Operand.tmp 58) (Operand.const (Value.bool false)), type := 4, pos := _, after := #[{ on := 1, ground := Ground.data }, { on := 17, ground := Ground.data }], guard := none }) (v := ?_) rfl (by kernel_rfl) (by kernel_rfl) (by kernel_rfl) (fun _ _ _ h => h) (Or.inl ⟨by rfl, ?_⟩) (by assumption) ?_
          rotate_left
          · ((intro w hSw); (try dsimp only at hSw); go_simp; (try with_reducible rfl))
          try simp only [Act.put, List.setIfInBounds_toArray, List.set_cons_zero, List.set_cons_succ]
          refine wpAnyH_take (i := 19) (oi := { dst := some 8, op := Op.assign (Operand.tmp 59), type := 4, pos := _, after := #[{ on := 18, ground := Ground.data }, { on := 15, ground := Ground.chain }, { on := 0, ground := Ground.phase }, { on := 1, ground := Ground.phase }, { on := 2, ground := Ground.phase }, { on := 3, ground := Ground.phase }, { on := 4, ground := Ground.phase }, { on := 5, ground := Ground.phase }, { on := 6, ground := Ground.phase }, { on := 7, ground := Ground.phase }, { on := 8, ground := Ground.phase }, { on := 9, ground := Ground.phase }, { on := 10, ground := Ground.phase }, { on := 11, ground := Ground.phase }, { on := 12, ground := Ground.phase }, { on := 13, ground := Ground.phase }, { on := 14, ground := Ground.phase }, { on := 15, ground := Ground.phase }, { on := 16, ground := Ground.phase }, { on := 17, ground := Ground.phase }, { on := 18, ground := Ground.phase }], guard := none }) (v := ?_) rfl (by kernel_rfl) (by kernel_rfl) (by kernel_rfl) (fun _ _ _ h => h) (Or.inl ⟨by rfl, ?_⟩) (by assumption) ?_
          rotate_left
          · ((intro w hSw); (try dsimp only at hSw); go_simp; (try with_reducible rfl))
          try simp only [Act.put, List.setIfInBounds_toArray, List.set_cons_zero, List.set_cons_succ]
          refine wpAnyH_done (by kernel_rfl) ?_ _
          go_wp2
          go_ret
          exact ⟨rfl, SgrApart.below_next HJ.out q3⟩
      · skip
        go_simp
        have hq6 := hq3.alloc hq3.size (.cells #[.int .i64 (-1)] 3)
        refine hK.out _ _ ?_ (fun hHeld => ?_)
        · ((try dsimp only); exact ss_then hq6 hSS)
        clear hK K
        try simp only [Act.put, List.setIfInBounds_toArray, List.set_cons_zero, List.set_cons_succ]
        refine wpAnyH_ready (rs := [4]) (by kernel_rfl) (by simp) ?_
        refine (AllReadyH.cons (o := { dst := some 34, op := Op.call { callee := Callee.value (Operand.func 23), args := #[Operand.tmp 30, Operand.tmp 33], argTypes := #[23, 34] }, type := 23, pos := _, after := #[{ on := 0, ground := Ground.data }, { on := 3, ground := Ground.data }, { on := 3, ground := Ground.chain }], guard := none }) rfl (fun K hK => ?_) AllReadyH.nil)
        go_simp
        rw [show m.length = m.length from rfl]
        refine (applyAny f fg bg a3 ([0] ++ m) cap3 _ hc3 hd3 (by simp; omega) (ints_alloc hi3) _ HR0).mono ?_
        rintro e w4 ⟨rfl, h4⟩
        have hq4 := hq6.trans (h4.mono hq6.size)
        have hs4 := h4.size
        try simp only [World.size_alloc] at hs4
        go_wp2_with fail
        refine hK.out _ _ ?_ (fun hHeld => ?_)
        · ((try dsimp only); exact ss_then hq4 hSS)
        clear hK K
        try simp only [Act.put, List.setIfInBounds_toArray, List.set_cons_zero, List.set_cons_succ]
        refine wpAnyH_ready (rs := [8]) (by kernel_rfl) (by simp) ?_
        refine (AllReadyH.cons (o := { dst := some 38, op := Op.call { callee := Callee.builtin Builtin.append, args := #[Operand.tmp 36, Operand.tmp 37], argTypes := #[34, 34] }, type := 34, pos := _, after := #[{ on := 6, ground := Ground.data }, { on := 7, ground := Ground.data }, { on := 4, ground := Ground.chain }], guard := none }) rfl (fun K hK => ?_) AllReadyH.nil)
        rw [if_pos (by rfl)]
        have hr6 := (own_then h4 (own_one (base := w.heap.size) w3 (-1) (w3.heap.size) (by simp) (Nat.le_trans hw1 hq3.size)))
        refine wp_append_own _ _ _ 34 rfl w.heap.size 3 i0 (.int .i64 0) 1 8 Try.underlying34 hi0 hz0 hz1 hz2 rfl (by decide) _ _ _ rfl hr6 ⟨bm, om, none⟩ m.length capm (cellsI m) rfl (by simp [cellsI]) (cellsI_at (ints_then hq4 (Nat.le_refl _) im)) cellsI_one (by unfold maxLen; omega) (by omega) (Nat.le_trans hw1 hq4.size) ?_
        intro v8 w8 ho8 hg8 _
        rw [cellsI_app] at ho8
        replace hg8 : World.grownBy _ w8 (some (w3.heap.size)) := hg8
        have hq8 : Below w1.heap.size w1 w8 := hq4.grown hg8 hq4.size (fun j hj => by injection hj with hj; subst hj; first | exact Nat.le_refl _ | omega | (have := hq4.size; simp at this ⊢; omega))
        have hs8 := hq8.size
        have ht8 := hg8.size
        try simp at ht8
        obtain ⟨a8, cap8, rfl, ⟨hc8, hd8⟩, hi8, _⟩ := row_any ho8
        refine hK.out _ _ ?_ (fun hHeld => ?_)
        · ((try dsimp only); exact ss_then hq8 hSS)
        clear hK K
        try simp only [Act.put, List.setIfInBounds_toArray, List.set_cons_zero, List.set_cons_succ]
        refine wpAnyH_ready (rs := [9]) (by kernel_rfl) (by simp) ?_
        refine (AllReadyH.cons (o := { dst := some 39, op := Op.call { callee := Callee.value (Operand.func 23), args := #[Operand.tmp 35, Operand.tmp 38], argTypes := #[23, 34] }, type := 23, pos := _, after := #[{ on := 5, ground := Ground.data }, { on := 8, ground := Ground.data }, { on := 8, ground := Ground.chain }], guard := none }) rfl (fun K hK => ?_) AllReadyH.nil)
        go_simp
        rw [show m.length = m.length from rfl]
        refine (applyAny f2 fg2 bg2 a8 ([-1] ++ m) cap8 _ hc8 hd8 (by simp; omega) hi8 _ HR1).mono ?_
        rintro e w9 ⟨rfl, h9⟩
        have hq9 := hq8.trans (h9.mono hq8.size)
        have hs9 := h9.size
        try simp only [World.size_alloc] at hs9
        go_wp2_with fail
        refine hK.out _ _ ?_ (fun hHeld => ?_)
        · ((try dsimp only); exact ss_then hq9 hSS)
        clear hK K
        try simp only [Act.put, List.setIfInBounds_toArray, List.set_cons_zero, List.set_cons_succ]
        refine wpAnyH_take (i := 10) (oi := { dst := some 40, op := Op.binOp BinOp.neq 23 (Operand.tmp 34) (Operand.tmp 39) 23, type := 4, pos := _, after := #[{ on := 4, ground := Ground.data }, { on := 9, ground := Ground.data }], guard := none }) (v := ?_) rfl (by kernel_rfl) (by kernel_rfl) (by kernel_rfl) (fun _ _ _ h => h) (Or.inl ⟨by rfl, ?_⟩) (by assumption) ?_
        rotate_left
        · ((intro w hSw); (try dsimp only at hSw); go_simp; (try with_reducible rfl))
        try simp only [Act.put, List.setIfInBounds_toArray, List.set_cons_zero, List.set_cons_succ]
        refine wpAnyH_done (by kernel_rfl) ?_ _
        obtain ⟨a0, a1, a2, b0, b1, b2, j1, jm, j9⟩ := hHeld
        have jSS : Six w9 BA BB f fg bg f2 fg2 bg2 ∧ Ints w9 al l ∧ Ints w9 (some ⟨bm, om, none⟩) m ∧ Below w.heap.size w w9 := ⟨⟨a0, a1, a2, b0, b1, b2⟩, j1, jm, j9⟩
        have q : Below w9.heap.size w9 w9.drew := (Below.refl _ _).drew
        have HJ := Lib.hid j9
        clear a0 a1 a2 b0 b1 b2 j9
        go_wp2_with fail
        cases hc : cutL l
        · have HRD := Lib.hid (show applyA (R2.1, R2.2.1, R2.2.2) m = R1 from HRC.out hc)
          have HCT := Lib.hid (show ∀ W, Ints W al l → Calls Try.prog 24 #[.slice al l.length cap] W fun e w' => e = .returned (.bool false) ∧ W = w' from fun W hW => by have := cutC al l cap W (by omega) hW; rw [hc] at this; exact this)
          clear hc
          refine wp_region_held_drew (S := (fun W => W.cell? ⟨BA, 0, none⟩ = some (.int .i64 f) ∧ W.cell? ⟨BA, 1, none⟩ = some (.int .i64 fg) ∧ W.cell? ⟨BA, 2, none⟩ = some (.int .i64 bg) ∧ W.cell? ⟨BB, 0, none⟩ = some (.int .i64 f2) ∧ W.cell? ⟨BB, 1, none⟩ = some (.int .i64 fg2) ∧ W.cell? ⟨BB, 2, none⟩ = some (.int .i64 bg2) ∧ Ints W al l ∧ Ints W (some ⟨bm, om, none⟩) m ∧ Below w.heap.size w W)) (by kernel_rfl) ?_ (fun hHeld => ?_)
          · ((try dsimp only); exact ss_then q jSS)
          refine wpAnyH_ready (rs := [0]) (by kernel_rfl) (by simp) ?_
          refine (AllReadyH.cons (o := { dst := some 41, op := Op.call { callee := Callee.value (Operand.func 21), args := #[], argTypes := #[] }, type := 4, pos := _, after := #[], guard := none }) rfl (fun K hK => ?_) AllReadyH.nil)
          go_simp
          refine (SgrFirst.first _).mono ?_
          rintro e x0 ⟨rfl, g0⟩
          have q0 := q.trans (g0.mono q.size)
          go_wp2_with fail
          refine hK.out _ _ ?_ (fun hHeld => ?_)
          · ((try dsimp only); exact ss_then q0 jSS)
          clear hK K
          try simp only [Act.put, List.setIfInBounds_toArray, List.set_cons_zero, List.set_cons_succ]
          refine wpAnyH_take (i := 1) (oi := { dst := some 42, op := Op.move (Operand.tmp 41), type := 4, pos := _, after := #[{ on := 0, ground := Ground.data }, { on := 0, ground := Ground.chain }], guard := none }) (v := ?_) rfl (by kernel_rfl) (by kernel_rfl) (by kernel_rfl) (fun _ _ _ h => h) (Or.inl ⟨by rfl, ?_⟩) (by assumption) ?_
          rotate_left
          · ((intro w hSw); (try dsimp only at hSw); go_simp; (try with_reducible rfl))
          try simp only [Act.put, List.setIfInBounds_toArray, List.set_cons_zero, List.set_cons_succ]
          refine wpAnyH_take (i := 2) (oi := { dst := some 43, op := Op.move (Operand.tmp 2), type := 34, pos := _, after := #[{ on := 1, ground := Ground.guard }], guard := some (1, true) }) (v := ?_) rfl (by kernel_rfl) (by kernel_rfl) (by kernel_rfl) (fun _ _ _ h => h) (Or.inl ⟨by rfl, ?_⟩) (by assumption) ?_
          rotate_left
          · ((intro w hSw); (try dsimp only at hSw); go_simp; (try with_reducible rfl))
          try simp only [Act.put, List.setIfInBounds_toArray, List.set_cons_zero, List.set_cons_succ]
          refine wpAnyH_ready (rs := [3]) (by kernel_rfl) (by simp) ?_
          refine (AllReadyH.cons (o := { dst := some 44, op := Op.call { callee := Callee.value (Operand.func 24), args := #[Operand.tmp 43], argTypes := #[34] }, type := 4, pos := _, after := #[{ on := 2, ground := Ground.data }, { on := 1, ground := Ground.chain }, { on := 1, ground := Ground.guard }], guard := some (1, true) }) rfl (fun K hK => ?_) AllReadyH.nil)
          go_simp
          refine (HCT.out _ (ints_then q0 (Nat.le_refl _) j1)).mono ?_
          rintro e x3 ⟨rfl, rfl⟩
          have q3 := q0
          go_wp2_with fail
          refine hK.out _ _ ?_ (fun hHeld => ?_)
          · ((try dsimp only); exact ss_then q3 jSS)
          clear hK K
          try simp only [Act.put, List.setIfInBounds_toArray, List.set_cons_zero, List.set_cons_succ]
          refine wpAnyH_take (i := 4) (oi := { dst := some 45, op := Op.move (Operand.tmp 44), type := 4, pos := _, after := #[{ on := 3, ground := Ground.data }, { on := 3, ground := Ground.chain }, { on := 1, ground := Ground.guard }], guard := some (1, true) }) (v := ?_) rfl (by kernel_rfl) (by kernel_rfl) (by kernel_rfl) (fun _ _ _ h => h) (Or.inl ⟨by rfl, ?_⟩) (by assumption) ?_
          rotate_left
          · ((intro w hSw); (try dsimp only at hSw); go_simp; (try with_reducible rfl))
          try simp only [Act.put, List.setIfInBounds_toArray, List.set_cons_zero, List.set_cons_succ]
          refine wpAnyH_take (i := 5) (oi := { dst := some 46, op := Op.load 23 (Operand.tmp 4), type := 23, pos := _, after := #[{ on := 4, ground := Ground.guard }], guard := some (4, false) }) (v := ?_) rfl (by kernel_rfl) (by kernel_rfl) (by kernel_rfl) (fun _ _ _ h => h) (Or.inl ⟨by rfl, ?_⟩) (by assumption) ?_
          rotate_left
          · ((intro w hSw); (try dsimp only at hSw); go_simp; (try with_reducible rfl))
          try simp only [Act.put, List.setIfInBounds_toArray, List.set_cons_zero, List.set_cons_succ]
          refine wpAnyH_take (i := 6) (oi := { dst := some 47, op := Op.move (Operand.tmp 2), type := 34, pos := _, after := #[{ on := 4, ground := Ground.guard }], guard := some (4, false) }) (v := ?_) rfl (by kernel_rfl) (by kernel_rfl) (by kernel_rfl) (fun _ _ _ h => h) (Or.inl ⟨by rfl, ?_⟩) (by assumption) ?_
          rotate_left
          · ((intro w hSw); (try dsimp only at hSw); go_simp; (try with_reducible rfl))
          try simp only [Act.put, List.setIfInBounds_toArray, List.set_cons_zero, List.set_cons_succ]
          refine wpAnyH_take (i := 8) (oi := { dst := some 49, op := Op.move (Operand.tmp 3), type := 34, pos := _, after := #[{ on := 4, ground := Ground.guard }], guard := some (4, false) }) (v := ?_) rfl (by kernel_rfl) (by kernel_rfl) (by kernel_rfl) (fun _ _ _ h => h) (Or.inl ⟨by rfl, ?_⟩) (by assumption) ?_
          rotate_left
          · ((intro w hSw); (try dsimp only at hSw); go_simp; (try with_reducible rfl))
          try simp only [Act.put, List.setIfInBounds_toArray, List.set_cons_zero, List.set_cons_succ]
          refine wpAnyH_take (i := 11) (oi := { dst := some 52, op := Op.load 23 (Operand.tmp 4), type := 23, pos := _, after := #[{ on := 4, ground := Ground.guard }], guard := some (4, false) }) (v := ?_) rfl (by kernel_rfl) (by kernel_rfl) (by kernel_rfl) (fun _ _ _ h => h) (Or.inl ⟨by rfl, ?_⟩) (by assumption) ?_
          rotate_left
          · ((intro w hSw); (try dsimp only at hSw); go_simp; (try with_reducible rfl))
          try simp only [Act.put, List.setIfInBounds_toArray, List.set_cons_zero, List.set_cons_succ]
          refine wpAnyH_take (i := 12) (oi := { dst := some 53, op := Op.move (Operand.tmp 2), type := 34, pos := _, after := #[{ on := 4, ground := Ground.guard }], guard := some (4, false) }) (v := ?_) rfl (by kernel_rfl) (by kernel_rfl) (by kernel_rfl) (fun _ _ _ h => h) (Or.inl ⟨by rfl, ?_⟩) (by assumption) ?_
          rotate_left
          · ((intro w hSw); (try dsimp only at hSw); go_simp; (try with_reducible rfl))
          try simp only [Act.put, List.setIfInBounds_toArray, List.set_cons_zero, List.set_cons_succ]
          refine wpAnyH_take (i := 14) (oi := { dst := some 55, op := Op.move (Operand.tmp 3), type := 34, pos := _, after := #[{ on := 4, ground := Ground.guard }], guard := some (4, false) }) (v := ?_) rfl (by kernel_rfl) (by kernel_rfl) (by kernel_rfl) (fun _ _ _ h => h) (Or.inl ⟨by rfl, ?_⟩) (by assumption) ?_
          rotate_left
          · ((intro w hSw); (try dsimp only at hSw); go_simp; (try with_reducible rfl))
          try simp only [Act.put, List.setIfInBounds_toArray, List.set_cons_zero, List.set_cons_succ]
          refine wpAnyH_ready (rs := [7]) (by kernel_rfl) (by simp) ?_
          refine (AllReadyH.cons (o := { dst := some 48, op := Op.call { callee := Callee.value (Operand.func 25), args := #[Operand.tmp 47], argTypes := #[34] }, type := 34, pos := _, after := #[{ on := 6, ground := Ground.data }, { on := 4, ground := Ground.chain }, { on := 4, ground := Ground.guard }], guard := some (4, false) }) rfl (fun K hK => ?_) AllReadyH.nil)
          go_simp
          refine (copyC al l cap _ (by omega) h0 (ints_then q3 (Nat.le_refl _) j1)).mono ?_
          rintro e x7 ⟨v7, rfl, ho7, g7⟩
          have q7 := q3.trans (g7.mono q3.size)
          go_wp2_with fail
          refine hK.out _ _ ?_ (fun hHeld => ?_)
          · ((try dsimp only); exact ss_then q7 jSS)
          clear hK K
          try simp only [Act.put, List.setIfInBounds_toArray, List.set_cons_zero, List.set_cons_succ]
          refine wpAnyH_ready (rs := [9]) (by kernel_rfl) (by simp) ?_
          refine (AllReadyH.cons (o := { dst := some 50, op := Op.call { callee := Callee.builtin Builtin.append, args := #[Operand.tmp 48, Operand.tmp 49], argTypes := #[34, 34] }, type := 34, pos := _, after := #[{ on := 7, ground := Ground.data }, { on := 8, ground := Ground.data }, { on := 7, ground := Ground.chain }, { on := 4, ground := Ground.guard }], guard := some (4, false) }) rfl (fun K hK => ?_) AllReadyH.nil)
          rw [if_pos (by rfl)]
          refine wp_append_own _ _ _ 34 rfl _ 3 i0 (.int .i64 0) 1 8 Try.underlying34 hi0 hz0 hz1 hz2 rfl (by decide) _ _ _ rfl ho7 ⟨bm, om, none⟩ m.length capm (cellsI m) rfl (by simp [cellsI]) (cellsI_at (ints_then q7 (Nat.le_refl _) jm)) cellsI_one (by unfold maxLen; omega) (by omega) g7.size ?_
          intro v9 x9 ho9 hg9 _
          rw [cellsI_app] at ho9
          have q9 := q7.grown hg9 q7.size (fun j hj => Nat.le_trans q3.size ((ho7.lt j hj).1))
          obtain ⟨a9, cap9, rfl, ⟨hc9, hd9⟩, hi9, _⟩ := row_any ho9
          refine hK.out _ _ ?_ (fun hHeld => ?_)
          · ((try dsimp only); exact ss_then q9 jSS)
          clear hK K
          try simp only [Act.put, List.setIfInBounds_toArray, List.set_cons_zero, List.set_cons_succ]
          refine wpAnyH_ready (rs := [10]) (by kernel_rfl) (by simp) ?_
          refine (AllReadyH.cons (o := { dst := some 51, op := Op.call { callee := Callee.value (Operand.func 23), args := #[Operand.tmp 46, Operand.tmp 50], argTypes := #[23, 34] }, type := 23, pos := _, after := #[{ on := 5, ground := Ground.data }, { on := 9, ground := Ground.data }, { on := 9, ground := Ground.chain }, { on := 4, ground := Ground.guard }], guard := some (4, false) }) rfl (fun K hK => ?_) AllReadyH.nil)
          go_simp
          rw [← List.length_append]
          refine (applyAny f fg bg a9 (l ++ m) cap9 _ hc9 hd9 (by simp; omega) hi9 _ HRA).mono ?_
          rintro e x10 ⟨rfl, g10⟩
          have q10 := q9.trans (g10.mono q9.size)
          go_wp2_with fail
          refine hK.out _ _ ?_ (fun hHeld => ?_)
          · ((try dsimp only); exact ss_then q10 jSS)
          clear hK K
          try simp only [Act.put, List.setIfInBounds_toArray, List.set_cons_zero, List.set_cons_succ]
          refine wpAnyH_ready (rs := [13]) (by kernel_rfl) (by simp) ?_
          refine (AllReadyH.cons (o := { dst := some 54, op := Op.call { callee := Callee.value (Operand.func 23), args := #[Operand.tmp 52, Operand.tmp 53], argTypes := #[23, 34] }, type := 23, pos := _, after := #[{ on := 11, ground := Ground.data }, { on := 12, ground := Ground.data }, { on := 10, ground := Ground.chain }, { on := 4, ground := Ground.guard }], guard := some (4, false) }) rfl (fun K hK => ?_) AllReadyH.nil)
          go_simp
          refine (applyAny f fg bg al l cap _ hcap hcm (by omega) (ints_then q10 (Nat.le_refl _) j1) _ HRB).mono ?_
          rintro e x13 ⟨rfl, g13⟩
          have q13 := q10.trans (g13.mono q10.size)
          go_wp2_with fail
          refine hK.out _ _ ?_ (fun hHeld => ?_)
          · ((try dsimp only); exact ss_then q13 jSS)
          clear hK K
          try simp only [Act.put, List.setIfInBounds_toArray, List.set_cons_zero, List.set_cons_succ]
          refine wpAnyH_ready (rs := [15]) (by kernel_rfl) (by simp) ?_
          refine (AllReadyH.cons (o := { dst := some 56, op := Op.call { callee := Callee.value (Operand.func 23), args := #[Operand.tmp 54, Operand.tmp 55], argTypes := #[23, 34] }, type := 23, pos := _, after := #[{ on := 13, ground := Ground.data }, { on := 14, ground := Ground.data }, { on := 13, ground := Ground.chain }, { on := 4, ground := Ground.guard }], guard := some (4, false) }) rfl (fun K hK => ?_) AllReadyH.nil)
          go_simp
          refine (applyAny R2.1 R2.2.1 R2.2.2 (some ⟨bm, om, none⟩) m capm _ hcapm hcmm (by omega) (ints_then q13 (Nat.le_refl _) jm) _ HRD).mono ?_
          rintro e x15 ⟨rfl, g15⟩
          have q15 := q13.trans (g15.mono q13.size)
          go_wp2_with fail
          refine hK.out _ _ ?_ (fun hHeld => ?_)
          · ((try dsimp only); exact ss_then q15 jSS)
          clear hK K
          try simp only [Act.put, List.setIfInBounds_toArray, List.set_cons_zero, List.set_cons_succ]
          refine wpAnyH_take (i := 16) (oi := { dst := some 57, op := Op.binOp BinOp.eql 23 (Operand.tmp 51) (Operand.tmp 56) 23, type := 4, pos := _, after := #[{ on := 10, ground := Ground.data }, { on := 15, ground := Ground.data }, { on := 4, ground := Ground.guard }], guard := some (4, false) }) (v := ?_) rfl (by kernel_rfl) (by kernel_rfl) (by kernel_rfl) (fun _ _ _ h => h) (Or.inl ⟨by rfl, ?_⟩) (by assumption) ?_
          rotate_left
          · ((intro w hSw); (try dsimp only at hSw); go_simp; (try with_reducible rfl))
          try simp only [Act.put, List.setIfInBounds_toArray, List.set_cons_zero, List.set_cons_succ]
          refine wpAnyH_take (i := 17) (oi := { dst := some 58, op := Op.pick (Operand.tmp 45) (Operand.const (Value.bool true)) (Operand.tmp 57), type := 4, pos := _, after := #[{ on := 4, ground := Ground.data }, { on := 16, ground := Ground.data }, { on := 1, ground := Ground.guard }], guard := some (1, true) }) (v := ?_) rfl (by kernel_rfl) (by kernel_rfl) (by kernel_rfl) (fun _ _ _ h => h) (Or.inl ⟨by rfl, ?_⟩) (by assumption) ?_
          rotate_left
          · ((intro w hSw); (try dsimp only at hSw); go_simp; (try with_reducible rfl))
          try simp only [Act.put, List.setIfInBounds_toArray, List.set_cons_zero, List.set_cons_succ]
          refine wpAnyH_take (i := 18) (oi := { dst := some 59, op := Op.pick (Operand.tmp 42) (Operand.tmp 58) (Operand.const (Value.bool false)), type := 4, pos := _, after := #[{ on := 1, ground := Ground.data }, { on := 17, ground := Ground.data }], guard := none }) (v := ?_) rfl (by kernel_rfl) (by kernel_rfl) (by kernel_rfl) (fun _ _ _ h => h) (Or.inl ⟨by rfl, ?_⟩) (by assumption) ?_
          rotate_left
          · ((intro w hSw); (try dsimp only at hSw); go_simp; (try with_reducible rfl))
          try simp only [Act.put, List.setIfInBounds_toArray, List.set_cons_zero, List.set_cons_succ]
          refine wpAnyH_take (i := 19) (oi := { dst := some 8, op := Op.assign (Operand.tmp 59), type := 4, pos := _, after := #[{ on := 18, ground := Ground.data }, { on := 15, ground := Ground.chain }, { on := 0, ground := Ground.phase }, { on := 1, ground := Ground.phase }, { on := 2, ground := Ground.phase }, { on := 3, ground := Ground.phase }, { on := 4, ground := Ground.phase }, { on := 5, ground := Ground.phase }, { on := 6, ground := Ground.phase }, { on := 7, ground := Ground.phase }, { on := 8, ground := Ground.phase }, { on := 9, ground := Ground.phase }, { on := 10, ground := Ground.phase }, { on := 11, ground := Ground.phase }, { on := 12, ground := Ground.phase }, { on := 13, ground := Ground.phase }, { on := 14, ground := Ground.phase }, { on := 15, ground := Ground.phase }, { on := 16, ground := Ground.phase }, { on := 17, ground := Ground.phase }, { on := 18, ground := Ground.phase }], guard := none }) (v := ?_) rfl (by kernel_rfl) (by kernel_rfl) (by kernel_rfl) (fun _ _ _ h => h) (Or.inl ⟨by rfl, ?_⟩) (by assumption) ?_
          rotate_left
          · ((intro w hSw); (try dsimp only at hSw); go_simp; (try with_reducible rfl))
          try simp only [Act.put, List.setIfInBounds_toArray, List.set_cons_zero, List.set_cons_succ]
          refine wpAnyH_done (by kernel_rfl) ?_ _
          go_wp2
          go_ret
          exact ⟨rfl, SgrApart.below_next HJ.out q15⟩
        · have HCT := Lib.hid (show ∀ W, Ints W al l → Calls Try.prog 24 #[.slice al l.length cap] W fun e w' => e = .returned (.bool true) ∧ W = w' from fun W hW => by have := cutC al l cap W (by omega) hW; rw [hc] at this; exact this)
          clear hc
          refine wp_region_held_drew (S := (fun W => W.cell? ⟨BA, 0, none⟩ = some (.int .i64 f) ∧ W.cell? ⟨BA, 1, none⟩ = some (.int .i64 fg) ∧ W.cell? ⟨BA, 2, none⟩ = some (.int .i64 bg) ∧ W.cell? ⟨BB, 0, none⟩ = some (.int .i64 f2) ∧ W.cell? ⟨BB, 1, none⟩ = some (.int .i64 fg2) ∧ W.cell? ⟨BB, 2, none⟩ = some (.int .i64 bg2) ∧ Ints W al l ∧ Ints W (some ⟨bm, om, none⟩) m ∧ Below w.heap.size w W)) (by kernel_rfl) ?_ (fun hHeld => ?_)
          · ((try dsimp only); exact ss_then q jSS)
          refine wpAnyH_ready (rs := [0]) (by kernel_rfl) (by simp) ?_
          refine (AllReadyH.cons (o := { dst := some 41, op := Op.call { callee := Callee.value (Operand.func 21), args := #[], argTypes := #[] }, type := 4, pos := _, after := #[], guard := none }) rfl (fun K hK => ?_) AllReadyH.nil)
          go_simp
          refine (SgrFirst.first _).mono ?_
          rintro e x0 ⟨rfl, g0⟩
          have q0 := q.trans (g0.mono q.size)
          go_wp2_with fail
          refine hK.out _ _ ?_ (fun hHeld => ?_)
          · ((try dsimp only); exact ss_then q0 jSS)
          clear hK K
          try simp only [Act.put, List.setIfInBounds_toArray, List.set_cons_zero, List.set_cons_succ]
          refine wpAnyH_take (i := 1) (oi := { dst := some 42, op := Op.move (Operand.tmp 41), type := 4, pos := _, after := #[{ on := 0, ground := Ground.data }, { on := 0, ground := Ground.chain }], guard := none }) (v := ?_) rfl (by kernel_rfl) (by kernel_rfl) (by kernel_rfl) (fun _ _ _ h => h) (Or.inl ⟨by rfl, ?_⟩) (by assumption) ?_
          rotate_left
          · ((intro w hSw); (try dsimp only at hSw); go_simp; (try with_reducible rfl))
          try simp only [Act.put, List.setIfInBounds_toArray, List.set_cons_zero, List.set_cons_succ]
          refine wpAnyH_take (i := 2) (oi := { dst := some 43, op := Op.move (Operand.tmp 2), type := 34, pos := _, after := #[{ on := 1, ground := Ground.guard }], guard := some (1, true) }) (v := ?_) rfl (by kernel_rfl) (by kernel_rfl) (by kernel_rfl) (fun _ _ _ h => h) (Or.inl ⟨by rfl, ?_⟩) (by assumption) ?_
          rotate_left
          · ((intro w hSw); (try dsimp only at hSw); go_simp; (try with_reducible rfl))
          try simp only [Act.put, List.setIfInBounds_toArray, List.set_cons_zero, List.set_cons_succ]
          refine wpAnyH_ready (rs := [3]) (by kernel_rfl) (by simp) ?_
          refine (AllReadyH.cons (o := { dst := some 44, op := Op.call { callee := Callee.value (Operand.func 24), args := #[Operand.tmp 43], argTypes := #[34] }, type := 4, pos := _, after := #[{ on := 2, ground := Ground.data }, { on := 1, ground := Ground.chain }, { on := 1, ground := Ground.guard }], guard := some (1, true) }) rfl (fun K hK => ?_) AllReadyH.nil)
          go_simp
          refine (HCT.out _ (ints_then q0 (Nat.le_refl _) j1)).mono ?_
          rintro e x3 ⟨rfl, rfl⟩
          have q3 := q0
          go_wp2_with fail
          refine hK.out _ _ ?_ (fun hHeld => ?_)
          · ((try dsimp only); exact ss_then q3 jSS)
          clear hK K
          try simp only [Act.put, List.setIfInBounds_toArray, List.set_cons_zero, List.set_cons_succ]
          refine wpAnyH_take (i := 4) (oi := { dst := some 45, op := Op.move (Operand.tmp 44), type := 4, pos := _, after := #[{ on := 3, ground := Ground.data }, { on := 3, ground := Ground.chain }, { on := 1, ground := Ground.guard }], guard := some (1, true) }) (v := ?_) rfl (by kernel_rfl) (by kernel_rfl) (by kernel_rfl) (fun _ _ _ h => h) (Or.inl ⟨by rfl, ?_⟩) (by assumption) ?_
          rotate_left
          · ((intro w hSw); (try dsimp only at hSw); go_simp; (try with_reducible rfl))
          try simp only [Act.put, List.setIfInBounds_toArray, List.set_cons_zero, List.set_cons_succ]
          refine wpAnyH_take (i := 5) (oi := { dst := some 46, op := Op.load 23 (Operand.tmp 4), type := 23, pos := _, after := #[{ on := 4, ground := Ground.guard }], guard := some (4, false) }) (v := undef) rfl (by kernel_rfl) (by kernel_rfl) (by kernel_rfl) (fun _ _ _ h => h) (Or.inr ⟨by rfl, rfl⟩) (by assumption) ?_
          try simp only [Act.put, List.setIfInBounds_toArray, List.set_cons_zero, List.set_cons_succ]
          refine wpAnyH_take (i := 6) (oi := { dst := some 47, op := Op.move (Operand.tmp 2), type := 34, pos := _, after := #[{ on := 4, ground := Ground.guard }], guard := some (4, false) }) (v := undef) rfl (by kernel_rfl) (by kernel_rfl) (by kernel_rfl) (fun _ _ _ h => h) (Or.inr ⟨by rfl, rfl⟩) (by assumption) ?_
          try simp only [Act.put, List.setIfInBounds_toArray, List.set_cons_zero, List.set_cons_succ]
          refine wpAnyH_take (i := 7) (oi := { dst := some 48, op := Op.call { callee := Callee.value (Operand.func 25), args := #[Operand.tmp 47], argTypes := #[34] }, type := 34, pos := _, after := #[{ on := 6, ground := Ground.data }, { on := 4, ground := Ground.chain }, { on := 4, ground := Ground.guard }], guard := some (4, false) }) (v := undef) rfl (by kernel_rfl) (by kernel_rfl) (by kernel_rfl) (fun _ _ _ h => h) (Or.inr ⟨by rfl, rfl⟩) (by assumption) ?_
          try simp only [Act.put, List.setIfInBounds_toArray, List.set_cons_zero, List.set_cons_succ]
          refine wpAnyH_take (i := 8) (oi := { dst := some 49, op := Op.move (Operand.tmp 3), type := 34, pos := _, after := #[{ on := 4, ground := Ground.guard }], guard := some (4, false) }) (v := undef) rfl (by kernel_rfl) (by kernel_rfl) (by kernel_rfl) (fun _ _ _ h => h) (Or.inr ⟨by rfl, rfl⟩) (by assumption) ?_
          try simp only [Act.put, List.setIfInBounds_toArray, List.set_cons_zero, List.set_cons_succ]
          refine wpAnyH_take (i := 9) (oi := { dst := some 50, op := Op.call { callee := Callee.builtin Builtin.append, args := #[Operand.tmp 48, Operand.tmp 49], argTypes := #[34, 34] }, type := 34, pos := _, after := #[{ on := 7, ground := Ground.data }, { on := 8, ground := Ground.data }, { on := 7, ground := Ground.chain }, { on := 4, ground := Ground.guard }], guard := some (4, false) }) (v := undef) rfl (by kernel_rfl) (by kernel_rfl) (by kernel_rfl) (fun _ _ _ h => h) (Or.inr ⟨by rfl, rfl⟩) (by assumption) ?_
          try simp only [Act.put, List.setIfInBounds_toArray, List.set_cons_zero, List.set_cons_succ]
          refine wpAnyH_take (i := 10) (oi := { dst := some 51, op := Op.call { callee := Callee.value (Operand.func 23), args := #[Operand.tmp 46, Operand.tmp 50], argTypes := #[23, 34] }, type := 23, pos := _, after := #[{ on := 5, ground := Ground.data }, { on := 9, ground := Ground.data }, { on := 9, ground := Ground.chain }, { on := 4, ground := Ground.guard }], guard := some (4, false) }) (v := undef) rfl (by kernel_rfl) (by kernel_rfl) (by kernel_rfl) (fun _ _ _ h => h) (Or.inr ⟨by rfl, rfl⟩) (by assumption) ?_
          try simp only [Act.put, List.setIfInBounds_toArray, List.set_cons_zero, List.set_cons_succ]
          refine wpAnyH_take (i := 11) (oi := { dst := some 52, op := Op.load 23 (Operand.tmp 4), type := 23, pos := _, after := #[{ on := 4, ground := Ground.guard }], guard := some (4, false) }) (v := undef) rfl (by kernel_rfl) (by kernel_rfl) (by kernel_rfl) (fun _ _ _ h => h) (Or.inr ⟨by rfl, rfl⟩) (by assumption) ?_
          try simp only [Act.put, List.setIfInBounds_toArray, List.set_cons_zero, List.set_cons_succ]
          refine wpAnyH_take (i := 12) (oi := { dst := some 53, op := Op.move (Operand.tmp 2), type := 34, pos := _, after := #[{ on := 4, ground := Ground.guard }], guard := some (4, false) }) (v := undef) rfl (by kernel_rfl) (by kernel_rfl) (by kernel_rfl) (fun _ _ _ h => h) (Or.inr ⟨by rfl, rfl⟩) (by assumption) ?_
          try simp only [Act.put, List.setIfInBounds_toArray, List.set_cons_zero, List.set_cons_succ]
          refine wpAnyH_take (i := 13) (oi := { dst := some 54, op := Op.call { callee := Callee.value (Operand.func 23), args := #[Operand.tmp 52, Operand.tmp 53], argTypes := #[23, 34] }, type := 23, pos := _, after := #[{ on := 11, ground := Ground.data }, { on := 12, ground := Ground.data }, { on := 10, ground := Ground.chain }, { on := 4, ground := Ground.guard }], guard := some (4, false) }) (v := undef) rfl (by kernel_rfl) (by kernel_rfl) (by kernel_rfl) (fun _ _ _ h => h) (Or.inr ⟨by rfl, rfl⟩) (by assumption) ?_
          try simp only [Act.put, List.setIfInBounds_toArray, List.set_cons_zero, List.set_cons_succ]
          refine wpAnyH_take (i := 14) (oi := { dst := some 55, op := Op.move (Operand.tmp 3), type := 34, pos := _, after := #[{ on := 4, ground := Ground.guard }], guard := some (4, false) }) (v := undef) rfl (by kernel_rfl) (by kernel_rfl) (by kernel_rfl) (fun _ _ _ h => h) (Or.inr ⟨by rfl, rfl⟩) (by assumption) ?_
          try simp only [Act.put, List.setIfInBounds_toArray, List.set_cons_zero, List.set_cons_succ]
          refine wpAnyH_take (i := 15) (oi := { dst := some 56, op := Op.call { callee := Callee.value (Operand.func 23), args := #[Operand.tmp 54, Operand.tmp 55], argTypes := #[23, 34] }, type := 23, pos := _, after := #[{ on := 13, ground := Ground.data }, { on := 14, ground := Ground.data }, { on := 13, ground := Ground.chain }, { on := 4, ground := Ground.guard }], guard := some (4, false) }) (v := undef) rfl (by kernel_rfl) (by kernel_rfl) (by kernel_rfl) (fun _ _ _ h => h) (Or.inr ⟨by rfl, rfl⟩) (by assumption) ?_
          try simp only [Act.put, List.setIfInBounds_toArray, List.set_cons_zero, List.set_cons_succ]
          refine wpAnyH_take (i := 16) (oi := { dst := some 57, op := Op.binOp BinOp.eql 23 (Operand.tmp 51) (Operand.tmp 56) 23, type := 4, pos := _, after := #[{ on := 10, ground := Ground.data }, { on := 15, ground := Ground.data }, { on := 4, ground := Ground.guard }], guard := some (4, false) }) (v := undef) rfl (by kernel_rfl) (by kernel_rfl) (by kernel_rfl) (fun _ _ _ h => h) (Or.inr ⟨by rfl, rfl⟩) (by assumption) ?_
          try simp only [Act.put, List.setIfInBounds_toArray, List.set_cons_zero, List.set_cons_succ]
          refine wpAnyH_take (i := 17) (oi := { dst := some 58, op := Op.pick (Operand.tmp 45) (Operand.const (Value.bool true)) (Operand.tmp 57), type := 4, pos := _, after := #[{ on := 4, ground := Ground.data }, { on := 16, ground := Ground.data }, { on := 1, ground := Ground.guard }], guard := some (1, true) }) (v := ?_) rfl (by kernel_rfl) (by kernel_rfl) (by kernel_rfl) (fun _ _ _ h => h) (Or.inl ⟨by rfl, ?_⟩) (by assumption) ?_
          rotate_left
          · ((intro w hSw); (try dsimp only at hSw); go_simp; (try with_reducible rfl))
          try simp only [Act.put, List.setIfInBounds_toArray, List.set_cons_zero, List.set_cons_succ]
          refine wpAnyH_take (i := 18) (oi := { dst := some 59, op := Op.pick (Operand.tmp 42) (Operand.tmp 58) (Operand.const (Value.bool false)), type := 4, pos := _, after := #[{ on := 1, ground := Ground.data }, { on := 17, ground := Ground.data }], guard := none }) (v := ?_) rfl (by kernel_rfl) (by kernel_rfl) (by kernel_rfl) (fun _ _ _ h => h) (Or.inl ⟨by rfl, ?_⟩) (by assumption) ?_
          rotate_left
          · ((intro w hSw); (try dsimp only at hSw); go_simp; (try with_reducible rfl))
          try simp only [Act.put, List.setIfInBounds_toArray, List.set_cons_zero, List.set_cons_succ]
          refine wpAnyH_take (i := 19) (oi := { dst := some 8, op := Op.assign (Operand.tmp 59), type := 4, pos := _, after := #[{ on := 18, ground := Ground.data }, { on := 15, ground := Ground.chain }, { on := 0, ground := Ground.phase }, { on := 1, ground := Ground.phase }, { on := 2, ground := Ground.phase }, { on := 3, ground := Ground.phase }, { on := 4, ground := Ground.phase }, { on := 5, ground := Ground.phase }, { on := 6, ground := Ground.phase }, { on := 7, ground := Ground.phase }, { on := 8, ground := Ground.phase }, { on := 9, ground := Ground.phase }, { on := 10, ground := Ground.phase }, { on := 11, ground := Ground.phase }, { on := 12, ground := Ground.phase }, { on := 13, ground := Ground.phase }, { on := 14, ground := Ground.phase }, { on := 15, ground := Ground.phase }, { on := 16, ground := Ground.phase }, { on := 17, ground := Ground.phase }, { on := 18, ground := Ground.phase }], guard := none }) (v := ?_) rfl (by kernel_rfl) (by kernel_rfl) (by kernel_rfl) (fun _ _ _ h => h) (Or.inl ⟨by rfl, ?_⟩) (by assumption) ?_
          rotate_left
          · ((intro w hSw); (try dsimp only at hSw); go_simp; (try with_reducible rfl))
          try simp only [Act.put, List.setIfInBounds_toArray, List.set_cons_zero, List.set_cons_succ]
          refine wpAnyH_done (by kernel_rfl) ?_ _
          go_wp2
          go_ret
          exact ⟨rfl, SgrApart.below_next HJ.out q3⟩
    · skip
      go_simp
      have hq6 := hq1.alloc hq1.size (.cells #[.int .i64 (-1)] 3)
      refine hK.out _ _ ?_ (fun hHeld => ?_)
      · ((try dsimp only); exact ss_then hq6 hSS)
      clear hK K
      try simp only [Act.put, List.setIfInBounds_toArray, List.set_cons_zero, List.set_cons_succ]
      refine wpAnyH_ready (rs := [3]) (by kernel_rfl) (by simp) ?_
      refine (AllReadyH.cons (o := { dst := some 33, op := Op.call { callee := Callee.builtin Builtin.append, args := #[Operand.tmp 31, Operand.tmp 32], argTypes := #[34, 34] }, type := 34, pos := _, after := #[{ on := 1, ground := Ground.data }, { on := 2, ground := Ground.data }], guard := none }) rfl (fun K hK => ?_) AllReadyH.nil)
      rw [if_pos (by rfl)]
      have hr1 := ((own_one (base := w.heap.size) w1.drew (0) (w1.heap.size) (by simp) (Nat.le_trans hw1 hq.size)).alloc (.cells #[.int .i64 (-1)] 3))
      refine wp_append_own _ _ _ 34 rfl w.heap.size 3 i0 (.int .i64 0) 1 8 Try.underlying34 hi0 hz0 hz1 hz2 rfl (by decide) _ _ _ rfl hr1 ⟨bm, om, none⟩ m.length capm (cellsI m) rfl (by simp [cellsI]) (cellsI_at (ints_then hq6 (Nat.le_refl _) im)) cellsI_one (by unfold maxLen; omega) (by omega) (Nat.le_trans hw1 hq6.size) ?_
      intro v3 w3 ho3 hg3 _
      rw [cellsI_app] at ho3
      replace hg3 : World.grownBy _ w3 (some (w1.heap.size)) := hg3
      have hq3 : Below w1.heap.size w1 w3 := hq6.grown hg3 hq6.size (fun j hj => by injection hj with hj; subst hj; first | exact Nat.le_refl _ | omega | (have := hq6.size; simp at this ⊢; omega))
      have hs3 := hq3.size
      have ht3 := hg3.size
      try simp at ht3
      obtain ⟨a3, cap3, rfl, ⟨hc3, hd3⟩, hi3, _⟩ := row_any ho3
      refine hK.out _ _ ?_ (fun hHeld => ?_)
      · ((try dsimp only); exact ss_then hq3 hSS)
      clear hK K
      try simp only [Act.put, List.setIfInBounds_toArray, List.set_cons_zero, List.set_cons_succ]
      refine wpAnyH_ready (rs := [4]) (by kernel_rfl) (by simp) ?_
      refine (AllReadyH.cons (o := { dst := some 34, op := Op.call { callee := Callee.value (Operand.func 23), args := #[Operand.tmp 30, Operand.tmp 33], argTypes := #[23, 34] }, type := 23, pos := _, after := #[{ on := 0, ground := Ground.data }, { on := 3, ground := Ground.data }, { on := 3, ground := Ground.chain }], guard := none }) rfl (fun K hK => ?_) AllReadyH.nil)
      go_simp
      rw [show m.length = m.length from rfl]
      refine (applyAny f fg bg a3 ([0] ++ m) cap3 _ hc3 hd3 (by simp; omega) hi3 _ HR0).mono ?_
      rintro e w4 ⟨rfl, h4⟩
      have hq4 := hq3.trans (h4.mono hq3.size)
      have hs4 := h4.size
      try simp only [World.size_alloc] at hs4
      go_wp2_with fail
      refine hK.out _ _ ?_ (fun hHeld => ?_)
      · ((try dsimp only); exact ss_then hq4 hSS)
      clear hK K
      try simp only [Act.put, List.setIfInBounds_toArray, List.set_cons_zero, List.set_cons_succ]
      refine wpAnyH_ready (rs := [8]) (by kernel_rfl) (by simp) ?_
      refine (AllReadyH.cons (o := { dst := some 38, op := Op.call { callee := Callee.builtin Builtin.append, args := #[Operand.tmp 36, Operand.tmp 37], argTypes := #[34, 34] }, type := 34, pos := _, after := #[{ on := 6, ground := Ground.data }, { on := 7, ground := Ground.data }, { on := 4, ground := Ground.chain }], guard := none }) rfl (fun K hK => ?_) AllReadyH.nil)
      rw [if_pos (by rfl)]
      have hr6 := (own_then h4 ((own_one (base := w.heap.size) (w1.drew.alloc (.cells #[.int .i64 0] 3)) (-1) (w1.heap.size + 1) (by simp) (Nat.le_trans hw1 hq1.size)).kept hg3 (Or.inr (by show some _ ≠ some _; intro e; injection e with e; first | omega | (simp at e; omega) | (simp at e; done)))))
      refine wp_append_own _ _ _ 34 rfl w.heap.size 3 i0 (.int .i64 0) 1 8 Try.underlying34 hi0 hz0 hz1 hz2 rfl (by decide) _ _ _ rfl hr6 ⟨bm, om, none⟩ m.length capm (cellsI m) rfl (by simp [cellsI]) (cellsI_at (ints_then hq4 (Nat.le_refl _) im)) cellsI_one (by unfold maxLen; omega) (by omega) (Nat.le_trans hw1 hq4.size) ?_
      intro v8 w8 ho8 hg8 _
      rw [cellsI_app] at ho8
      replace hg8 : World.grownBy _ w8 (some (w1.heap.size + 1)) := hg8
      have hq8 : Below w1.heap.size w1 w8 := hq4.grown hg8 hq4.size (fun j hj => by injection hj with hj; subst hj; first | exact Nat.le_refl _ | omega | (have := hq4.size; simp at this ⊢; omega))
      have hs8 := hq8.size
      have ht8 := hg8.size
      try simp at ht8
      obtain ⟨a8, cap8, rfl, ⟨hc8, hd8⟩, hi8, _⟩ := row_any ho8
      refine hK.out _ _ ?_ (fun hHeld => ?_)
      · ((try dsimp only); exact ss_then hq8 hSS)
      clear hK K
      try simp only [Act.put, List.setIfInBounds_toArray, List.set_cons_zero, List.set_cons_succ]
      refine wpAnyH_ready (rs := [9]) (by kernel_rfl) (by simp) ?_
      refine (AllReadyH.cons (o := { dst := some 39, op := Op.call { callee := Callee.value (Operand.func 23), args := #[Operand.tmp 35, Operand.tmp 38], argTypes := #[23, 34] }, type := 23, pos := _, after := #[{ on := 5, ground := Ground.data }, { on := 8, ground := Ground.data }, { on := 8, ground := Ground.chain }], guard := none }) rfl (fun K hK => ?_) AllReadyH.nil)
      go_simp
      rw [show m.length = m.length from rfl]
      refine (applyAny f2 fg2 bg2 a8 ([-1] ++ m) cap8 _ hc8 hd8 (by simp; omega) hi8 _ HR1).mono ?_
      rintro e w9 ⟨rfl, h9⟩
      have hq9 := hq8.trans (h9.mono hq8.size)
      have hs9 := h9.size
      try simp only [World.size_alloc] at hs9
      go_wp2_with fail
      refine hK.out _ _ ?_ (fun hHeld => ?_)
      · ((try dsimp only); exact ss_then hq9 hSS)
      clear hK K
      try simp only [Act.put, List.setIfInBounds_toArray, List.set_cons_zero, List.set_cons_succ]
      refine wpAnyH_take (i := 10) (oi := { dst := some 40, op := Op.binOp BinOp.neq 23 (Operand.tmp 34) (Operand.tmp 39) 23, type := 4, pos := _, after := #[{ on := 4, ground := Ground.data }, { on := 9, ground := Ground.data }], guard := none }) (v := ?_) rfl (by kernel_rfl) (by kernel_rfl) (by kernel_rfl) (fun _ _ _ h => h) (Or.inl ⟨by rfl, ?_⟩) (by assumption) ?_
      rotate_left
      · ((intro w hSw); (try dsimp only at hSw); go_simp; (try with_reducible rfl))
      try simp only [Act.put, List.setIfInBounds_toArray, List.set_cons_zero, List.set_cons_succ]
      refine wpAnyH_done (by kernel_rfl) ?_ _
      obtain ⟨a0, a1, a2, b0, b1, b2, j1, jm, j9⟩ := hHeld
      have jSS : Six w9 BA BB f fg bg f2 fg2 bg2 ∧ Ints w9 al l ∧ Ints w9 (some ⟨bm, om, none⟩) m ∧ Below w.heap.size w w9 := ⟨⟨a0, a1, a2, b0, b1, b2⟩, j1, jm, j9⟩
      have q : Below w9.heap.size w9 w9.drew := (Below.refl _ _).drew
      have HJ := Lib.hid j9
      clear a0 a1 a2 b0 b1 b2 j9
      go_wp2_with fail
      cases hc : cutL l
      · have HRD := Lib.hid (show applyA (R2.1, R2.2.1, R2.2.2) m = R1 from HRC.out hc)
        have HCT := Lib.hid (show ∀ W, Ints W al l → Calls Try.prog 24 #[.slice al l.length cap] W fun e w' => e = .returned (.bool false) ∧ W = w' from fun W hW => by have := cutC al l cap W (by omega) hW; rw [hc] at this; exact this)
        clear hc
        refine wp_region_held_drew (S := (fun W => W.cell? ⟨BA, 0, none⟩ = some (.int .i64 f) ∧ W.cell? ⟨BA, 1, none⟩ = some (.int .i64 fg) ∧ W.cell? ⟨BA, 2, none⟩ = some (.int .i64 bg) ∧ W.cell? ⟨BB, 0, none⟩ = some (.int .i64 f2) ∧ W.cell? ⟨BB, 1, none⟩ = some (.int .i64 fg2) ∧ W.cell? ⟨BB, 2, none⟩ = some (.int .i64 bg2) ∧ Ints W al l ∧ Ints W (some ⟨bm, om, none⟩) m ∧ Below w.heap.size w W)) (by kernel_rfl) ?_ (fun hHeld => ?_)
        · ((try dsimp only); exact ss_then q jSS)
        refine wpAnyH_ready (rs := [0]) (by kernel_rfl) (by simp) ?_
        refine (AllReadyH.cons (o := { dst := some 41, op := Op.call { callee := Callee.value (Operand.func 21), args := #[], argTypes := #[] }, type := 4, pos := _, after := #[], guard := none }) rfl (fun K hK => ?_) AllReadyH.nil)
        go_simp
        refine (SgrFirst.first _).mono ?_
        rintro e x0 ⟨rfl, g0⟩
        have q0 := q.trans (g0.mono q.size)
        go_wp2_with fail
        refine hK.out _ _ ?_ (fun hHeld => ?_)
        · ((try dsimp only); exact ss_then q0 jSS)
        clear hK K
        try simp only [Act.put, List.setIfInBounds_toArray, List.set_cons_zero, List.set_cons_succ]
        refine wpAnyH_take (i := 1) (oi := { dst := some 42, op := Op.move (Operand.tmp 41), type := 4, pos := _, after := #[{ on := 0, ground := Ground.data }, { on := 0, ground := Ground.chain }], guard := none }) (v := ?_) rfl (by kernel_rfl) (by kernel_rfl) (by kernel_rfl) (fun _ _ _ h => h) (Or.inl ⟨by rfl, ?_⟩) (by assumption) ?_
        rotate_left
        · ((intro w hSw); (try dsimp only at hSw); go_simp; (try with_reducible rfl))
        try simp only [Act.put, List.setIfInBounds_toArray, List.set_cons_zero, List.set_cons_succ]
        refine wpAnyH_take (i := 2) (oi := { dst := some 43, op := Op.move (Operand.tmp 2), type := 34, pos := _, after := #[{ on := 1, ground := Ground.guard }], guard := some (1, true) }) (v := ?_) rfl (by kernel_rfl) (by kernel_rfl) (by kernel_rfl) (fun _ _ _ h => h) (Or.inl ⟨by rfl, ?_⟩) (by assumption) ?_
        rotate_left
        · ((intro w hSw); (try dsimp only at hSw); go_simp; (try with_reducible rfl))
        try simp only [Act.put, List.setIfInBounds_toArray, List.set_cons_zero, List.set_cons_succ]
        refine wpAnyH_ready (rs := [3]) (by kernel_rfl) (by simp) ?_
        refine (AllReadyH.cons (o := { dst := some 44, op := Op.call { callee := Callee.value (Operand.func 24), args := #[Operand.tmp 43], argTypes := #[34] }, type := 4, pos := _, after := #[{ on := 2, ground := Ground.data }, { on := 1, ground := Ground.chain }, { on := 1, ground := Ground.guard }], guard := some (1, true) }) rfl (fun K hK => ?_) AllReadyH.nil)
        go_simp
        refine (HCT.out _ (ints_then q0 (Nat.le_refl _) j1)).mono ?_
        rintro e x3 ⟨rfl, rfl⟩
        have q3 := q0
        go_wp2_with fail
        refine hK.out _ _ ?_ (fun hHeld => ?_)
        · ((try dsimp only); exact ss_then q3 jSS)
        clear hK K
        try simp only [Act.put, List.setIfInBounds_toArray, List.set_cons_zero, List.set_cons_succ]
        refine wpAnyH_take (i := 4) (oi := { dst := some 45, op := Op.move (Operand.tmp 44), type := 4, pos := _, after := #[{ on := 3, ground := Ground.data }, { on := 3, ground := Ground.chain }, { on := 1, ground := Ground.guard }], guard := some (1, true) }) (v := ?_) rfl (by kernel_rfl) (by kernel_rfl) (by kernel_rfl) (fun _ _ _ h => h) (Or.inl ⟨by rfl, ?_⟩) (by assumption) ?_
        rotate_left
        · ((intro w hSw); (try dsimp only at hSw); go_simp; (try with_reducible rfl))
        try simp only [Act.put, List.setIfInBounds_toArray, List.set_cons_zero, List.set_cons_succ]
        refine wpAnyH_take (i := 5) (oi := { dst := some 46, op := Op.load 23 (Operand.tmp 4), type := 23, pos := _, after := #[{ on := 4, ground := Ground.guard }], guard := some (4, false) }) (v := ?_) rfl (by kernel_rfl) (by kernel_rfl) (by kernel_rfl) (fun _ _ _ h => h) (Or.inl ⟨by rfl, ?_⟩) (by assumption) ?_
        rotate_left
        · ((intro w hSw); (try dsimp only at hSw); go_simp; (try with_reducible rfl))
        try simp only [Act.put, List.setIfInBounds_toArray, List.set_cons_zero, List.set_cons_succ]
        refine wpAnyH_take (i := 6) (oi := { dst := some 47, op := Op.move (Operand.tmp 2), type := 34, pos := _, after := #[{ on := 4, ground := Ground.guard }], guard := some (4, false) }) (v := ?_) rfl (by kernel_rfl) (by kernel_rfl) (by kernel_rfl) (fun _ _ _ h => h) (Or.inl ⟨by rfl, ?_⟩) (by assumption) ?_
        rotate_left
        · ((intro w hSw); (try dsimp only at hSw); go_simp; (try with_reducible rfl))
        try simp only [Act.put, List.setIfInBounds_toArray, List.set_cons_zero, List.set_cons_succ]
        refine wpAnyH_take (i := 8) (oi := { dst := some 49, op := Op.move (Operand.tmp 3), type := 34, pos := _, after := #[{ on := 4, ground := Ground.guard }], guard := some (4, false) }) (v := ?_) rfl (by kernel_rfl) (by kernel_rfl) (by kernel_rfl) (fun _ _ _ h => h) (Or.inl ⟨by rfl, ?_⟩) (by assumption) ?_
        rotate_left
        · ((intro w hSw); (try dsimp only at hSw); go_simp; (try with_reducible rfl))
        try simp only [Act.put, List.setIfInBounds_toArray, List.set_cons_zero, List.set_cons_succ]
        refine wpAnyH_take (i := 11) (oi := { dst := some 52, op := Op.load 23 (Operand.tmp 4), type := 23, pos := _, after := #[{ on := 4, ground := Ground.guard }], guard := some (4, false) }) (v := ?_) rfl (by kernel_rfl) (by kernel_rfl) (by kernel_rfl) (fun _ _ _ h => h) (Or.inl ⟨by rfl, ?_⟩) (by assumption) ?_
        rotate_left
        · ((intro w hSw); (try dsimp only at hSw); go_simp; (try with_reducible rfl))
        try simp only [Act.put, List.setIfInBounds_toArray, List.set_cons_zero, List.set_cons_succ]
        refine wpAnyH_take (i := 12) (oi := { dst := some 53, op := Op.move (Operand.tmp 2), type := 34, pos := _, after := #[{ on := 4, ground := Ground.guard }], guard := some (4, false) }) (v := ?_) rfl (by kernel_rfl) (by kernel_rfl) (by kernel_rfl) (fun _ _ _ h => h) (Or.inl ⟨by rfl, ?_⟩) (by assumption) ?_
        rotate_left
        · ((intro w hSw); (try dsimp only at hSw); go_simp; (try with_reducible rfl))
        try simp only [Act.put, List.setIfInBounds_toArray, List.set_cons_zero, List.set_cons_succ]
        refine wpAnyH_take (i := 14) (oi := { dst := some 55, op := Op.move (Operand.tmp 3), type := 34, pos := _, after := #[{ on := 4, ground := Ground.guard }], guard := some (4, false) }) (v := ?_) rfl (by kernel_rfl) (by kernel_rfl) (by kernel_rfl) (fun _ _ _ h => h) (Or.inl ⟨by rfl, ?_⟩) (by assumption) ?_
        rotate_left
        · ((intro w hSw); (try dsimp only at hSw); go_simp; (try with_reducible rfl))
        try simp only [Act.put, List.setIfInBounds_toArray, List.set_cons_zero, List.set_cons_succ]
        refine wpAnyH_ready (rs := [7]) (by kernel_rfl) (by simp) ?_
        refine (AllReadyH.cons (o := { dst := some 48, op := Op.call { callee := Callee.value (Operand.func 25), args := #[Operand.tmp 47], argTypes := #[34] }, type := 34, pos := _, after := #[{ on := 6, ground := Ground.data }, { on := 4, ground := Ground.chain }, { on := 4, ground := Ground.guard }], guard := some (4, false) }) rfl (fun K hK => ?_) AllReadyH.nil)
        go_simp
        refine (copyC al l cap _ (by omega) h0 (ints_then q3 (Nat.le_refl _) j1)).mono ?_
        rintro e x7 ⟨v7, rfl, ho7, g7⟩
        have q7 := q3.trans (g7.mono q3.size)
        go_wp2_with fail
        refine hK.out _ _ ?_ (fun hHeld => ?_)
        · ((try dsimp only); exact ss_then q7 jSS)
        clear hK K
        try simp only [Act.put, List.setIfInBounds_toArray, List.set_cons_zero, List.set_cons_succ]
        refine wpAnyH_ready (rs := [9]) (by kernel_rfl) (by simp) ?_
        refine (AllReadyH.cons (o := { dst := some 50, op := Op.call { callee := Callee.builtin Builtin.append, args := #[Operand.tmp 48, Operand.tmp 49], argTypes := #[34, 34] }, type := 34, pos := _, after := #[{ on := 7, ground := Ground.data }, { on := 8, ground := Ground.data }, { on := 7, ground := Ground.chain }, { on := 4, ground := Ground.guard }], guard := some (4, false) }) rfl (fun K hK => ?_) AllReadyH.nil)
        rw [if_pos (by rfl)]
        refine wp_append_own _ _ _ 34 rfl _ 3 i0 (.int .i64 0) 1 8 Try.underlying34 hi0 hz0 hz1 hz2 rfl (by decide) _ _ _ rfl ho7 ⟨bm, om, none⟩ m.length capm (cellsI m) rfl (by simp [cellsI]) (cellsI_at (ints_then q7 (Nat.le_refl _) jm)) cellsI_one (by unfold maxLen; omega) (by omega) g7.size ?_
        intro v9 x9 ho9 hg9 _
        rw [cellsI_app] at ho9
        have q9 := q7.grown hg9 q7.size (fun j hj => Nat.le_trans q3.size ((ho7.lt j hj).1))
        obtain ⟨a9, cap9, rfl, ⟨hc9, hd9⟩, hi9, _⟩ := row_any ho9
        refine hK.out _ _ ?_ (fun hHeld => ?_)
        · ((try dsimp only); exact ss_then q9 jSS)
        clear hK K
        try simp only [Act.put, List.setIfInBounds_toArray, List.set_cons_zero, List.set_cons_succ]
        refine wpAnyH_ready (rs := [10]) (by kernel_rfl) (by simp) ?_
        refine (AllReadyH.cons (o := { dst := some 51, op := Op.call { callee := Callee.value (Operand.func 23), args := #[Operand.tmp 46, Operand.tmp 50], argTypes := #[23, 34] }, type := 23, pos := _, after := #[{ on := 5, ground := Ground.data }, { on := 9, ground := Ground.data }, { on := 9, ground := Ground.chain }, { on := 4, ground := Ground.guard }], guard := some (4, false) }) rfl (fun K hK => ?_) AllReadyH.nil)
        go_simp
        rw [← List.length_append]
        refine (applyAny f fg bg a9 (l ++ m) cap9 _ hc9 hd9 (by simp; omega) hi9 _ HRA).mono ?_
        rintro e x10 ⟨rfl, g10⟩
        have q10 := q9.trans (g10.mono q9.size)
        go_wp2_with fail
        refine hK.out _ _ ?_ (fun hHeld => ?_)
        · ((try dsimp only); exact ss_then q10 jSS)
        clear hK K
        try simp only [Act.put, List.setIfInBounds_toArray, List.set_cons_zero, List.set_cons_succ]
        refine wpAnyH_ready (rs := [13]) (by kernel_rfl) (by simp) ?_
        refine (AllReadyH.cons (o := { dst := some 54, op := Op.call { callee := Callee.value (Operand.func 23), args := #[Operand.tmp 52, Operand.tmp 53], argTypes := #[23, 34] }, type := 23, pos := _, after := #[{ on := 11, ground := Ground.data }, { on := 12, ground := Ground.data }, { on := 10, ground := Ground.chain }, { on := 4, ground := Ground.guard }], guard := some (4, false) }) rfl (fun K hK => ?_) AllReadyH.nil)
        go_simp
        refine (applyAny f fg bg al l cap _ hcap hcm (by omega) (ints_then q10 (Nat.le_refl _) j1) _ HRB).mono ?_
        rintro e x13 ⟨rfl, g13⟩
        have q13 := q10.trans (g13.mono q10.size)
        go_wp2_with fail
        refine hK.out _ _ ?_ (fun hHeld => ?_)
        · ((try dsimp only); exact ss_then q13 jSS)
        clear hK K
        try simp only [Act.put, List.setIfInBounds_toArray, List.set_cons_zero, List.set_cons_succ]
        refine wpAnyH_ready (rs := [15]) (by kernel_rfl) (by simp) ?_
        refine (AllReadyH.cons (o := { dst := some 56, op := Op.call { callee := Callee.value (Operand.func 23), args := #[Operand.tmp 54, Operand.tmp 55], argTypes := #[23, 34] }, type := 23, pos := _, after := #[{ on := 13, ground := Ground.data }, { on := 14, ground := Ground.data }, { on := 13, ground := Ground.chain }, { on := 4, ground := Ground.guard }], guard := some (4, false) }) rfl (fun K hK => ?_) AllReadyH.nil)
        go_simp
        refine (applyAny R2.1 R2.2.1 R2.2.2 (some ⟨bm, om, none⟩) m capm _ hcapm hcmm (by omega) (ints_then q13 (Nat.le_refl _) jm) _ HRD).mono ?_
        rintro e x15 ⟨rfl, g15⟩
        have q15 := q13.trans (g15.mono q13.size)
        go_wp2_with fail
        refine hK.out _ _ ?_ (fun hHeld => ?_)
        · ((try dsimp only); exact ss_then q15 jSS)
        clear hK K
        try simp only [Act.put, List.setIfInBounds_toArray, List.set_cons_zero, List.set_cons_succ]
        refine wpAnyH_take (i := 16) (oi := { dst := some 57, op := Op.binOp BinOp.eql 23 (Operand.tmp 51) (Operand.tmp 56) 23, type := 4, pos := _, after := #[{ on := 10, ground := Ground.data }, { on := 15, ground := Ground.data }, { on := 4, ground := Ground.guard }], guard := some (4, false) }) (v := ?_) rfl (by kernel_rfl) (by kernel_rfl) (by kernel_rfl) (fun _ _ _ h => h) (Or.inl ⟨by rfl, ?_⟩) (by assumption) ?_
        rotate_left
        · ((intro w hSw); (try dsimp only at hSw); go_simp; (try with_reducible rfl))
        try simp only [Act.put, List.setIfInBounds_toArray, List.set_cons_zero, List.set_cons_succ]
        refine wpAnyH_take (i := 17) (oi := { dst := some 58, op := Op.pick (Operand.tmp 45) (Operand.const (Value.bool true)) (Operand.tmp 57), type := 4, pos := _, after := #[{ on := 4, ground := Ground.data }, { on := 16, ground := Ground.data }, { on := 1, ground := Ground.guard }], guard := some (1, true) }) (v := ?_) rfl (by kernel_rfl) (by kernel_rfl) (by kernel_rfl) (fun _ _ _ h => h) (Or.inl ⟨by rfl, ?_⟩) (by assumption) ?_
        rotate_left
        · ((intro w hSw); (try dsimp only at hSw); go_simp; (try with_reducible rfl))
        try simp only [Act.put, List.setIfInBounds_toArray, List.set_cons_zero, List.set_cons_succ]
        refine wpAnyH_take (i := 18) (oi := { dst := some 59, op := Op.pick (Operand.tmp 42) (Operand.tmp 58) (Operand.const (Value.bool false)), type := 4, pos := _, after := #[{ on := 1, ground := Ground.data }, { on := 17, ground := Ground.data }], guard := none }) (v := ?_) rfl (by kernel_rfl) (by kernel_rfl) (by kernel_rfl) (fun _ _ _ h => h) (Or.inl ⟨by rfl, ?_⟩) (by assumption) ?_
        rotate_left
        · ((intro w hSw); (try dsimp only at hSw); go_simp; (try with_reducible rfl))
        try simp only [Act.put, List.setIfInBounds_toArray, List.set_cons_zero, List.set_cons_succ]
        refine wpAnyH_take (i := 19) (oi := { dst := some 8, op := Op.assign (Operand.tmp 59), type := 4, pos := _, after := #[{ on := 18, ground := Ground.data }, { on := 15, ground := Ground.chain }, { on := 0, ground := Ground.phase }, { on := 1, ground := Ground.phase }, { on := 2, ground := Ground.phase }, { on := 3, ground := Ground.phase }, { on := 4, ground := Ground.phase }, { on := 5, ground := Ground.phase }, { on := 6, ground := Ground.phase }, { on := 7, ground := Ground.phase }, { on := 8, ground := Ground.phase }, { on := 9, ground := Ground.phase }, { on := 10, ground := Ground.phase }, { on := 11, ground := Ground.phase }, { on := 12, ground := Ground.phase }, { on := 13, ground := Ground.phase }, { on := 14, ground := Ground.phase }, { on := 15, ground := Ground.phase }, { on := 16, ground := Ground.phase }, { on := 17, ground := Ground.phase }, { on := 18, ground := Ground.phase }], guard := none }) (v := ?_) rfl (by kernel_rfl) (by kernel_rfl) (by kernel_rfl) (fun _ _ _ h => h) (Or.inl ⟨by rfl, ?_⟩) (by assumption) ?_
        rotate_left
        · ((intro w hSw); (try dsimp only at hSw); go_simp; (try with_reducible rfl))
        try simp only [Act.put, List.setIfInBounds_toArray, List.set_cons_zero, List.set_cons_succ]
        refine wpAnyH_done (by kernel_rfl) ?_ _
        go_wp2
        go_ret
        exact ⟨rfl, SgrApart.below_next HJ.out q15⟩
      · have HCT := Lib.hid (show ∀ W, Ints W al l → Calls Try.prog 24 #[.slice al l.length cap] W fun e w' => e = .returned (.bool true) ∧ W = w' from fun W hW => by have := cutC al l cap W (by omega) hW; rw [hc] at this; exact this)
        clear hc
        refine wp_region_held_drew (S := (fun W => W.cell? ⟨BA, 0, none⟩ = some (.int .i64 f) ∧ W.cell? ⟨BA, 1, none⟩ = some (.int .i64 fg) ∧ W.cell? ⟨BA, 2, none⟩ = some (.int .i64 bg) ∧ W.cell? ⟨BB, 0, none⟩ = some (.int .i64 f2) ∧ W.cell? ⟨BB, 1, none⟩ = some (.int .i64 fg2) ∧ W.cell? ⟨BB, 2, none⟩ = some (.int .i64 bg2) ∧ Ints W al l ∧ Ints W (some ⟨bm, om, none⟩) m ∧ Below w.heap.size w W)) (by kernel_rfl) ?_ (fun hHeld => ?_)
        · ((try dsimp only); exact ss_then q jSS)
        refine wpAnyH_ready (rs := [0]) (by kernel_rfl) (by simp) ?_
        refine (AllReadyH.cons (o := { dst := some 41, op := Op.call { callee := Callee.value (Operand.func 21), args := #[], argTypes := #[] }, type := 4, pos := _, after := #[], guard := none }) rfl (fun K hK => ?_) AllReadyH.nil)
        go_simp
        refine (SgrFirst.first _).mono ?_
        rintro e x0 ⟨rfl, g0⟩
        have q0 := q.trans (g0.mono q.size)
        go_wp2_with fail
        refine hK.out _ _ ?_ (fun hHeld => ?_)
        · ((try dsimp only); exact ss_then q0 jSS)
        clear hK K
        try simp only [Act.put, List.setIfInBounds_toArray, List.set_cons_zero, List.set_cons_succ]
        refine wpAnyH_take (i := 1) (oi := { dst := some 42, op := Op.move (Operand.tmp 41), type := 4, pos := _, after := #[{ on := 0, ground := Ground.data }, { on := 0, ground := Ground.chain }], guard := none }) (v := ?_) rfl (by kernel_rfl) (by kernel_rfl) (by kernel_rfl) (fun _ _ _ h => h) (Or.inl ⟨by rfl, ?_⟩) (by assumption) ?_
        rotate_left
        · ((intro w hSw); (try dsimp only at hSw); go_simp; (try with_reducible rfl))
        try simp only [Act.put, List.setIfInBounds_toArray, List.set_cons_zero, List.set_cons_succ]
        refine wpAnyH_take (i := 2) (oi := { dst := some 43, op := Op.move (Operand.tmp 2), type := 34, pos := _, after := #[{ on := 1, ground := Ground.guard }], guard := some (1, true) }) (v := ?_) rfl (by kernel_rfl) (by kernel_rfl) (by kernel_rfl) (fun _ _ _ h => h) (Or.inl ⟨by rfl, ?_⟩) (by assumption) ?_
        rotate_left
        · ((intro w hSw); (try dsimp only at hSw); go_simp; (try with_reducible rfl))
        try simp only [Act.put, List.setIfInBounds_toArray, List.set_cons_zero, List.set_cons_succ]
        refine wpAnyH_ready (rs := [3]) (by kernel_rfl) (by simp) ?_
        refine (AllReadyH.cons (o := { dst := some 44, op := Op.call { callee := Callee.value (Operand.func 24), args := #[Operand.tmp 43], argTypes := #[34] }, type := 4, pos := _, after := #[{ on := 2, ground := Ground.data }, { on := 1, ground := Ground.chain }, { on := 1, ground := Ground.guard }], guard := some (1, true) }) rfl (fun K hK => ?_) AllReadyH.nil)
        go_simp
        refine (HCT.out _ (ints_then q0 (Nat.le_refl _) j1)).mono ?_
        rintro e x3 ⟨rfl, rfl⟩
        have q3 := q0
        go_wp2_with fail
        refine hK.out _ _ ?_ (fun hHeld => ?_)
        · ((try dsimp only); exact ss_then q3 jSS)
        clear hK K
        try simp only [Act.put, List.setIfInBounds_toArray, List.set_cons_zero, List.set_cons_succ]
        refine wpAnyH_take (i := 4) (oi := { dst := some 45, op := Op.move (Operand.tmp 44), type := 4, pos := _, after := #[{ on := 3, ground := Ground.data }, { on := 3, ground := Ground.chain }, { on := 1, ground := Ground.guard }], guard := some (1, true) }) (v := ?_) rfl (by kernel_rfl) (by kernel_rfl) (by kernel_rfl) (fun _ _ _ h => h) (Or.inl ⟨by rfl, ?_⟩) (by assumption) ?_
        rotate_left
        · ((intro w hSw); (try dsimp only at hSw); go_simp; (try with_reducible rfl))
        try simp only [Act.put, List.setIfInBounds_toArray, List.set_cons_zero, List.set_cons_succ]
        refine wpAnyH_take (i := 5) (oi := { dst := some 46, op := Op.load 23 (Operand.tmp 4), type := 23, pos := _, after := #[{ on := 4, ground := Ground.guard }], guard := some (4, false) }) (v := undef) rfl (by kernel_rfl) (by kernel_rfl) (by kernel_rfl) (fun _ _ _ h => h) (Or.inr ⟨by rfl, rfl⟩) (by assumption) ?_
        try simp only [Act.put, List.setIfInBounds_toArray, List.set_cons_zero, List.set_cons_succ]
        refine wpAnyH_take (i := 6) (oi := { dst := some 47, op := Op.move (Operand.tmp 2), type := 34, pos := _, after := #[{ on := 4, ground := Ground.guard }], guard := some (4, false) }) (v := undef) rfl (by kernel_rfl) (by kernel_rfl) (by kernel_rfl) (fun _ _ _ h => h) (Or.inr ⟨by rfl, rfl⟩) (by assumption) ?_
        try simp only [Act.put, List.setIfInBounds_toArray, List.set_cons_zero, List.set_cons_succ]
        refine wpAnyH_take (i := 7) (oi := { dst := some 48, op := Op.call { callee := Callee.value (Operand.func 25), args := #[Operand.tmp 47], argTypes := #[34] }, type := 34, pos := _, after := #[{ on := 6, ground := Ground.data }, { on := 4, ground := Ground.chain }, { on := 4, ground := Ground.guard }], guard := some (4, false) }) (v := undef) rfl (by kernel_rfl) (by kernel_rfl) (by kernel_rfl) (fun _ _ _ h => h) (Or.inr ⟨by rfl, rfl⟩) (by assumption) ?_
        try simp only [Act.put, List.setIfInBounds_toArray, List.set_cons_zero, List.set_cons_succ]
        refine wpAnyH_take (i := 8) (oi := { dst := some 49, op := Op.move (Operand.tmp 3), type := 34, pos := _, after := #[{ on := 4, ground := Ground.guard }], guard := some (4, false) }) (v := undef) rfl (by kernel_rfl) (by kernel_rfl) (by kernel_rfl) (fun _ _ _ h => h) (Or.inr ⟨by rfl, rfl⟩) (by assumption) ?_
        try simp only [Act.put, List.setIfInBounds_toArray, List.set_cons_zero, List.set_cons_succ]
        refine wpAnyH_take (i := 9) (oi := { dst := some 50, op := Op.call { callee := Callee.builtin Builtin.append, args := #[Operand.tmp 48, Operand.tmp 49], argTypes := #[34, 34] }, type := 34, pos := _, after := #[{ on := 7, ground := Ground.data }, { on := 8, ground := Ground.data }, { on := 7, ground := Ground.chain }, { on := 4, ground := Ground.guard }], guard := some (4, false) }) (v := undef) rfl (by kernel_rfl) (by kernel_rfl) (by kernel_rfl) (fun _ _ _ h => h) (Or.inr ⟨by rfl, rfl⟩) (by assumption) ?_
        try simp only [Act.put, List.setIfInBounds_toArray, List.set_cons_zero, List.set_cons_succ]
        refine wpAnyH_take (i := 10) (oi := { dst := some 51, op := Op.call { callee := Callee.value (Operand.func 23), args := #[Operand.tmp 46, Operand.tmp 50], argTypes := #[23, 34] }, type := 23, pos := _, after := #[{ on := 5, ground := Ground.data }, { on := 9, ground := Ground.data }, { on := 9, ground := Ground.chain }, { on := 4, ground := Ground.guard }], guard := some (4, false) }) (v := undef) rfl (by kernel_rfl) (by kernel_rfl) (by kernel_rfl) (fun _ _ _ h => h) (Or.inr ⟨by rfl, rfl⟩) (by assumption) ?_
        try simp only [Act.put, List.setIfInBounds_toArray, List.set_cons_zero, List.set_cons_succ]
        refine wpAnyH_take (i := 11) (oi := { dst := some 52, op := Op.load 23 (Operand.tmp 4), type := 23, pos := _, after := #[{ on := 4, ground := Ground.guard }], guard := some (4, false) }) (v := undef) rfl (by kernel_rfl) (by kernel_rfl) (by kernel_rfl) (fun _ _ _ h => h) (Or.inr ⟨by rfl, rfl⟩) (by assumption) ?_
        try simp only [Act.put, List.setIfInBounds_toArray, List.set_cons_zero, List.set_cons_succ]
        refine wpAnyH_take (i := 12) (oi := { dst := some 53, op := Op.move (Operand.tmp 2), type := 34, pos := _, after := #[{ on := 4, ground := Ground.guard }], guard := some (4, false) }) (v := undef) rfl (by kernel_rfl) (by kernel_rfl) (by kernel_rfl) (fun _ _ _ h => h) (Or.inr ⟨by rfl, rfl⟩) (by assumption) ?_
        try simp only [Act.put, List.setIfInBounds_toArray, List.set_cons_zero, List.set_cons_succ]
        refine wpAnyH_take (i := 13) (oi := { dst := some 54, op := Op.call { callee := Callee.value (Operand.func 23), args := #[Operand.tmp 52, Operand.tmp 53], argTypes := #[23, 34] }, type := 23, pos := _, after := #[{ on := 11, ground := Ground.data }, { on := 12, ground := Ground.data }, { on := 10, ground := Ground.chain }, { on := 4, ground := Ground.guard }], guard := some (4, false) }) (v := undef) rfl (by kernel_rfl) (by kernel_rfl) (by kernel_rfl) (fun _ _ _ h => h) (Or.inr ⟨by rfl, rfl⟩) (by assumption) ?_
        try simp only [Act.put, List.setIfInBounds_toArray, List.set_cons_zero, List.set_cons_succ]
        refine wpAnyH_take (i := 14) (oi := { dst := some 55, op := Op.move (Operand.tmp 3), type := 34, pos := _, after := #[{ on := 4, ground := Ground.guard }], guard := some (4, false) }) (v := undef) rfl (by kernel_rfl) (by kernel_rfl) (by kernel_rfl) (fun _ _ _ h => h) (Or.inr ⟨by rfl, rfl⟩) (by assumption) ?_
        try simp only [Act.put, List.setIfInBounds_toArray, List.set_cons_zero, List.set_cons_succ]
        refine wpAnyH_take (i := 15) (oi := { dst := some 56, op := Op.call { callee := Callee.value (Operand.func 23), args := #[Operand.tmp 54, Operand.tmp 55], argTypes := #[23, 34] }, type := 23, pos := _, after := #[{ on := 13, ground := Ground.data }, { on := 14, ground := Ground.data }, { on := 13, ground := Ground.chain }, { on := 4, ground := Ground.guard }], guard := some (4, false) }) (v := undef) rfl (by kernel_rfl) (by kernel_rfl) (by kernel_rfl) (fun _ _ _ h => h) (Or.inr ⟨by rfl, rfl⟩) (by assumption) ?_
        try simp only [Act.put, List.setIfInBounds_toArray, List.set_cons_zero, List.set_cons_succ]
        refine wpAnyH_take (i := 16) (oi := { dst := some 57, op := Op.binOp BinOp.eql 23 (Operand.tmp 51) (Operand.tmp 56) 23, type := 4, pos := _, after := #[{ on := 10, ground := Ground.data }, { on := 15, ground := Ground.data }, { on := 4, ground := Ground.guard }], guard := some (4, false) }) (v := undef) rfl (by kernel_rfl) (by kernel_rfl) (by kernel_rfl) (fun _ _ _ h => h) (Or.inr ⟨by rfl, rfl⟩) (by assumption) ?_
        try simp only [Act.put, List.setIfInBounds_toArray, List.set_cons_zero, List.set_cons_succ]
        refine wpAnyH_take (i := 17) (oi := { dst := some 58, op := Op.pick (Operand.tmp 45) (Operand.const (Value.bool true)) (Operand.tmp 57), type := 4, pos := _, after := #[{ on := 4, ground := Ground.data }, { on := 16, ground := Ground.data }, { on := 1, ground := Ground.guard }], guard := some (1, true) }) (v := ?_) rfl (by kernel_rfl) (by kernel_rfl) (by kernel_rfl) (fun _ _ _ h => h) (Or.inl ⟨by rfl, ?_⟩) (by assumption) ?_
        rotate_left
        · ((intro w hSw); (try dsimp only at hSw); go_simp; (try with_reducible rfl))
        try simp only [Act.put, List.setIfInBounds_toArray, List.set_cons_zero, List.set_cons_succ]
        refine wpAnyH_take (i := 18) (oi := { dst := some 59, op := Op.pick (Operand.tmp 42) (Operand.tmp 58) (Operand.const (Value.bool false)), type := 4, pos := _, after := #[{ on := 1, ground := Ground.data }, { on := 17, ground := Ground.data }], guard := none }) (v := ?_) rfl (by kernel_rfl) (by kernel_rfl) (by kernel_rfl) (fun _ _ _ h => h) (Or.inl ⟨by rfl, ?_⟩) (by assumption) ?_
        rotate_left
        · ((intro w hSw); (try dsimp only at hSw); go_simp; (try with_reducible rfl))
        try simp only [Act.put, List.setIfInBounds_toArray, List.set_cons_zero, List.set_cons_succ]
        refine wpAnyH_take (i := 19) (oi := { dst := some 8, op := Op.assign (Operand.tmp 59), type := 4, pos := _, after := #[{ on := 18, ground := Ground.data }, { on := 15, ground := Ground.chain }, { on := 0, ground := Ground.phase }, { on := 1, ground := Ground.phase }, { on := 2, ground := Ground.phase }, { on := 3, ground := Ground.phase }, { on := 4, ground := Ground.phase }, { on := 5, ground := Ground.phase }, { on := 6, ground := Ground.phase }, { on := 7, ground := Ground.phase }, { on := 8, ground := Ground.phase }, { on := 9, ground := Ground.phase }, { on := 10, ground := Ground.phase }, { on := 11, ground := Ground.phase }, { on := 12, ground := Ground.phase }, { on := 13, ground := Ground.phase }, { on := 14, ground := Ground.phase }, { on := 15, ground := Ground.phase }, { on := 16, ground := Ground.phase }, { on := 17, ground := Ground.phase }, { on := 18, ground := Ground.phase }], guard := none }) (v := ?_) rfl (by kernel_rfl) (by kernel_rfl) (by kernel_rfl) (fun _ _ _ h => h) (Or.inl ⟨by rfl, ?_⟩) (by assumption) ?_
        rotate_left
        · ((intro w hSw); (try dsimp only at hSw); go_simp; (try with_reducible rfl))
        try simp only [Act.put, List.setIfInBounds_toArray, List.set_cons_zero, List.set_cons_succ]
        refine wpAnyH_done (by kernel_rfl) ?_ _
        go_wp2
        go_ret
        exact ⟨rfl, SgrApart.below_next HJ.out q3⟩
  · skip
    go_simp
    have hq6 := hq.alloc hq.size (.cells #[.int .i64 (-1)] 3)
    refine hK.out _ _ ?_ (fun hHeld => ?_)
    · ((try dsimp only); exact ss_then hq6 hSS)
    clear hK K
    try simp only [Act.put, List.setIfInBounds_toArray, List.set_cons_zero, List.set_cons_succ]
    refine wpAnyH_ready (rs := [1]) (by kernel_rfl) (by simp) ?_
    refine (AllReadyH.cons (o := { dst := some 31, op := Op.buildSlice 34 1 #[(0, Operand.const (Value.int IntKind.i64 0))], type := 34, pos := _, after := #[], guard := none }) rfl (fun K hK => ?_) AllReadyH.nil)
    go_simp
    have hq1 := hq6.alloc hq6.size (.cells #[.int .i64 0] 3)
    refine hK.out _ _ ?_ (fun hHeld => ?_)
    · ((try dsimp only); exact ss_then hq1 hSS)
    clear hK K
    try simp only [Act.put, List.setIfInBounds_toArray, List.set_cons_zero, List.set_cons_succ]
    refine wpAnyH_ready (rs := [3]) (by kernel_rfl) (by simp) ?_
    refine (AllReadyH.cons (o := { dst := some 33, op := Op.call { callee := Callee.builtin Builtin.append, args := #[Operand.tmp 31, Operand.tmp 32], argTypes := #[34, 34] }, type := 34, pos := _, after := #[{ on := 1, ground := Ground.data }, { on := 2, ground := Ground.data }], guard := none }) rfl (fun K hK => ?_) AllReadyH.nil)
    rw [if_pos (by rfl)]
    have hr1 := (own_one (base := w.heap.size) (w1.drew.alloc (.cells #[.int .i64 (-1)] 3)) (0) (w1.heap.size + 1) (by simp) (Nat.le_trans hw1 hq6.size))
    refine wp_append_own _ _ _ 34 rfl w.heap.size 3 i0 (.int .i64 0) 1 8 Try.underlying34 hi0 hz0 hz1 hz2 rfl (by decide) _ _ _ rfl hr1 ⟨bm, om, none⟩ m.length capm (cellsI m) rfl (by simp [cellsI]) (cellsI_at (ints_then hq1 (Nat.le_refl _) im)) cellsI_one (by unfold maxLen; omega) (by omega) (Nat.le_trans hw1 hq1.size) ?_
    intro v3 w3 ho3 hg3 _
    rw [cellsI_app] at ho3
    replace hg3 : World.grownBy _ w3 (some (w1.heap.size + 1)) := hg3
    have hq3 : Below w1.heap.size w1 w3 := hq1.grown hg3 hq1.size (fun j hj => by injection hj with hj; subst hj; first | exact Nat.le_refl _ | omega | (have := hq1.size; simp at this ⊢; omega))
    have hs3 := hq3.size
    have ht3 := hg3.size
    try simp at ht3
    obtain ⟨a3, cap3, rfl, ⟨hc3, hd3⟩, hi3, _⟩ := row_any ho3
    refine hK.out _ _ ?_ (fun hHeld => ?_)
    · ((try dsimp only); exact ss_then hq3 hSS)
    clear hK K
    try simp only [Act.put, List.setIfInBounds_toArray, List.set_cons_zero, List.set_cons_succ]
    refine wpAnyH_ready (rs := [4]) (by kernel_rfl) (by simp) ?_
    refine (AllReadyH.cons (o := { dst := some 34, op := Op.call { callee := Callee.value (Operand.func 23), args := #[Operand.tmp 30, Operand.tmp 33], argTypes := #[23, 34] }, type := 23, pos := _, after := #[{ on := 0, ground := Ground.data }, { on := 3, ground := Ground.data }, { on := 3, ground := Ground.chain }], guard := none }) rfl (fun K hK => ?_) AllReadyH.nil)
    go_simp
    rw [show m.length = m.length from rfl]
    refine (applyAny f fg bg a3 ([0] ++ m) cap3 _ hc3 hd3 (by simp; omega) hi3 _ HR0).mono ?_
    rintro e w4 ⟨rfl, h4⟩
    have hq4 := hq3.trans (h4.mono hq3.size)
    have hs4 := h4.size
    try simp only [World.size_alloc] at hs4
    go_wp2_with fail
    refine hK.out _ _ ?_ (fun hHeld => ?_)
    · ((try dsimp only); exact ss_then hq4 hSS)
    clear hK K
    try simp only [Act.put, List.setIfInBounds_toArray, List.set_cons_zero, List.set_cons_succ]
    refine wpAnyH_ready (rs := [8]) (by kernel_rfl) (by simp) ?_
    refine (AllReadyH.cons (o := { dst := some 38, op := Op.call { callee := Callee.builtin Builtin.append, args := #[Operand.tmp 36, Operand.tmp 37], argTypes := #[34, 34] }, type := 34, pos := _, after := #[{ on := 6, ground := Ground.data }, { on := 7, ground := Ground.data }, { on := 4, ground := Ground.chain }], guard := none }) rfl (fun K hK => ?_) AllReadyH.nil)
    rw [if_pos (by rfl)]
    have hr6 := (own_then h4 (((own_one (base := w.heap.size) w1.drew (-1) (w1.heap.size) (by simp) (Nat.le_trans hw1 hq.size)).alloc (.cells #[.int .i64 0] 3)).kept hg3 (Or.inr (by show some _ ≠ some _; intro e; injection e with e; first | omega | (simp at e; omega) | (simp at e; done)))))
    refine wp_append_own _ _ _ 34 rfl w.heap.size 3 i0 (.int .i64 0) 1 8 Try.underlying34 hi0 hz0 hz1 hz2 rfl (by decide) _ _ _ rfl hr6 ⟨bm, om, none⟩ m.length capm (cellsI m) rfl (by simp [cellsI]) (cellsI_at (ints_then hq4 (Nat.le_refl _) im)) cellsI_one (by unfold maxLen; omega) (by omega) (Nat.le_trans hw1 hq4.size) ?_
    intro v8 w8 ho8 hg8 _
    rw [cellsI_app] at ho8
    replace hg8 : World.grownBy _ w8 (some (w1.heap.size)) := hg8
    have hq8 : Below w1.heap.size w1 w8 := hq4.grown hg8 hq4.size (fun j hj => by injection hj with hj; subst hj; first | exact Nat.le_refl _ | omega | (have := hq4.size; simp at this ⊢; omega))
    have hs8 := hq8.size
    have ht8 := hg8.size
    try simp at ht8
    obtain ⟨a8, cap8, rfl, ⟨hc8, hd8⟩, hi8, _⟩ := row_any ho8
    refine hK.out _ _ ?_ (fun hHeld => ?_)
    · ((try dsimp only); exact ss_then hq8 hSS)
    clear hK K
    try simp only [Act.put, List.setIfInBounds_toArray, List.set_cons_zero, List.set_cons_succ]
    refine wpAnyH_ready (rs := [9]) (by kernel_rfl) (by simp) ?_
    refine (AllReadyH.cons (o := { dst := some 39, op := Op.call { callee := Callee.value (Operand.func 23), args := #[Operand.tmp 35, Operand.tmp 38], argTypes := #[23, 34] }, type := 23, pos := _, after := #[{ on := 5, ground := Ground.data }, { on := 8, ground := Ground.data }, { on := 8, ground := Ground.chain }], guard := none }) rfl (fun K hK => ?_) AllReadyH.nil)
    go_simp
    rw [show m.length = m.length from rfl]
    refine (applyAny f2 fg2 bg2 a8 ([-1] ++ m) cap8 _ hc8 hd8 (by simp; omega) hi8 _ HR1).mono ?_
    rintro e w9 ⟨rfl, h9⟩
    have hq9 := hq8.trans (h9.mono hq8.size)
    have hs9 := h9.size
    try simp only [World.size_alloc] at hs9
    go_wp2_with fail
    refine hK.out _ _ ?_ (fun hHeld => ?_)
    · ((try dsimp only); exact ss_then hq9 hSS)
    clear hK K
    try simp only [Act.put, List.setIfInBounds_toArray, List.set_cons_zero, List.set_cons_succ]
    refine wpAnyH_take (i := 10) (oi := { dst := some 40, op := Op.binOp BinOp.neq 23 (Operand.tmp 34) (Operand.tmp 39) 23, type := 4, pos := _, after := #[{ on := 4, ground := Ground.data }, { on := 9, ground := Ground.data }], guard := none }) (v := ?_) rfl (by kernel_rfl) (by kernel_rfl) (by kernel_rfl) (fun _ _ _ h => h) (Or.inl ⟨by rfl, ?_⟩) (by assumption) ?_
    rotate_left
    · ((intro w hSw); (try dsimp only at hSw); go_simp; (try with_reducible rfl))
    try simp only [Act.put, List.setIfInBounds_toArray, List.set_cons_zero, List.set_cons_succ]
    refine wpAnyH_done (by kernel_rfl) ?_ _
    obtain ⟨a0, a1, a2, b0, b1, b2, j1, jm, j9⟩ := hHeld
    have jSS : Six w9 BA BB f fg bg f2 fg2 bg2 ∧ Ints w9 al l ∧ Ints w9 (some ⟨bm, om, none⟩) m ∧ Below w.heap.size w w9 := ⟨⟨a0, a1, a2, b0, b1, b2⟩, j1, jm, j9⟩
    have q : Below w9.heap.size w9 w9.drew := (Below.refl _ _).drew
    have HJ := Lib.hid j9
    clear a0 a1 a2 b0 b1 b2 j9
    go_wp2_with fail
    cases hc : cutL l
    · have HRD := Lib.hid (show applyA (R2.1, R2.2.1, R2.2.2) m = R1 from HRC.out hc)
      have HCT := Lib.hid (show ∀ W, Ints W al l → Calls Try.prog 24 #[.slice al l.length cap] W fun e w' => e = .returned (.bool false) ∧ W = w' from fun W hW => by have := cutC al l cap W (by omega) hW; rw [hc] at this; exact this)
      clear hc
      refine wp_region_held_drew (S := (fun W => W.cell? ⟨BA, 0, none⟩ = some (.int .i64 f) ∧ W.cell? ⟨BA, 1, none⟩ = some (.int .i64 fg) ∧ W.cell? ⟨BA, 2, none⟩ = some (.int .i64 bg) ∧ W.cell? ⟨BB, 0, none⟩ = some (.int .i64 f2) ∧ W.cell? ⟨BB, 1, none⟩ = some (.int .i64 fg2) ∧ W.cell? ⟨BB, 2, none⟩ = some (.int .i64 bg2) ∧ Ints W al l ∧ Ints W (some ⟨bm, om, none⟩) m ∧ Below w.heap.size w W)) (by kernel_rfl) ?_ (fun hHeld => ?_)
      · ((try dsimp only); exact ss_then q jSS)
      refine wpAnyH_ready (rs := [0]) (by kernel_rfl) (by simp) ?_
      refine (AllReadyH.cons (o := { dst := some 41, op := Op.call { callee := Callee.value (Operand.func 21), args := #[], argTypes := #[] }, type := 4, pos := _, after := #[], guard := none }) rfl (fun K hK => ?_) AllReadyH.nil)
      go_simp
      refine (SgrFirst.first _).mono ?_
      rintro e x0 ⟨rfl, g0⟩
      have q0 := q.trans (g0.mono q.size)
      go_wp2_with fail
      refine hK.out _ _ ?_ (fun hHeld => ?_)
      · ((try dsimp only); exact ss_then q0 jSS)
      clear hK K
      try simp only [Act.put, List.setIfInBounds_toArray, List.set_cons_zero, List.set_cons_succ]
      refine wpAnyH_take (i := 1) (oi := { dst := some 42, op := Op.move (Operand.tmp 41), type := 4, pos := _, after := #[{ on := 0, ground := Ground.data }, { on := 0, ground := Ground.chain }], guard := none }) (v := ?_) rfl (by kernel_rfl) (by kernel_rfl) (by kernel_rfl) (fun _ _ _ h => h) (Or.inl ⟨by rfl, ?_⟩) (by assumption) ?_
      rotate_left
      · ((intro w hSw); (try dsimp only at hSw); go_simp; (try with_reducible rfl))
      try simp only [Act.put, List.setIfInBounds_toArray, List.set_cons_zero, List.set_cons_succ]
      refine wpAnyH_take (i := 2) (oi := { dst := some 43, op := Op.move (Operand.tmp 2), type := 34, pos := _, after := #[{ on := 1, ground := Ground.guard }], guard := some (1, true) }) (v := ?_) rfl (by kernel_rfl) (by kernel_rfl) (by kernel_rfl) (fun _ _ _ h => h) (Or.inl ⟨by rfl, ?_⟩) (by assumption) ?_
      rotate_left
      · ((intro w hSw); (try dsimp only at hSw); go_simp; (try with_reducible rfl))
      try simp only [Act.put, List.setIfInBounds_toArray, List.set_cons_zero, List.set_cons_succ]
      refine wpAnyH_ready (rs := [3]) (by kernel_rfl) (by simp) ?_
      refine (AllReadyH.cons (o := { dst := some 44, op := Op.call { callee := Callee.value (Operand.func 24), args := #[Operand.tmp 43], argTypes := #[34] }, type := 4, pos := _, after := #[{ on := 2, ground := Ground.data }, { on := 1, ground := Ground.chain }, { on := 1, ground := Ground.guard }], guard := some (1, true) }) rfl (fun K hK => ?_) AllReadyH.nil)
      go_simp
      refine (HCT.out _ (ints_then q0 (Nat.le_refl _) j1)).mono ?_
      rintro e x3 ⟨rfl, rfl⟩
      have q3 := q0
      go_wp2_with fail
      refine hK.out _ _ ?_ (fun hHeld => ?_)
      · ((try dsimp only); exact ss_then q3 jSS)
      clear hK K
      try simp only [Act.put, List.setIfInBounds_toArray, List.set_cons_zero, List.set_cons_succ]
      refine wpAnyH_take (i := 4) (oi := { dst := some 45, op := Op.move (Operand.tmp 44), type := 4, pos := _, after := #[{ on := 3, ground := Ground.data }, { on := 3, ground := Ground.chain }, { on := 1, ground := Ground.guard }], guard := some (1, true) }) (v := ?_) rfl (by kernel_rfl) (by kernel_rfl) (by kernel_rfl) (fun _ _ _ h => h) (Or.inl ⟨by rfl, ?_⟩) (by assumption) ?_
      rotate_left
      · ((intro w hSw); (try dsimp only at hSw); go_simp; (try with_reducible rfl))
      try simp only [Act.put, List.setIfInBounds_toArray, List.set_cons_zero, List.set_cons_succ]
      refine wpAnyH_take (i := 5) (oi := { dst := some 46, op := Op.load 23 (Operand.tmp 4), type := 23, pos := _, after := #[{ on := 4, ground := Ground.guard }], guard := some (4, false) }) (v := ?_) rfl (by kernel_rfl) (by kernel_rfl) (by kernel_rfl) (fun _ _ _ h => h) (Or.inl ⟨by rfl, ?_⟩) (by assumption) ?_
      rotate_left
      · ((intro w hSw); (try dsimp only at hSw); go_simp; (try with_reducible rfl))
      try simp only [Act.put, List.setIfInBounds_toArray, List.set_cons_zero, List.set_cons_succ]
      refine wpAnyH_take (i := 6) (oi := { dst := some 47, op := Op.move (Operand.tmp 2), type := 34, pos := _, after := #[{ on := 4, ground := Ground.guard }], guard := some (4, false) }) (v := ?_) rfl (by kernel_rfl) (by kernel_rfl) (by kernel_rfl) (fun _ _ _ h => h) (Or.inl ⟨by rfl, ?_⟩) (by assumption) ?_
      rotate_left
      · ((intro w hSw); (try dsimp only at hSw); go_simp; (try with_reducible rfl))
      try simp only [Act.put, List.setIfInBounds_toArray, List.set_cons_zero, List.set_cons_succ]
      refine wpAnyH_take (i := 8) (oi := { dst := some 49, op := Op.move (Operand.tmp 3), type := 34, pos := _, after := #[{ on := 4, ground := Ground.guard }], guard := some (4, false) }) (v := ?_) rfl (by kernel_rfl) (by kernel_rfl) (by kernel_rfl) (fun _ _ _ h => h) (Or.inl ⟨by rfl, ?_⟩) (by assumption) ?_
      rotate_left
      · ((intro w hSw); (try dsimp only at hSw); go_simp; (try with_reducible rfl))
      try simp only [Act.put, List.setIfInBounds_toArray, List.set_cons_zero, List.set_cons_succ]
      refine wpAnyH_take (i := 11) (oi := { dst := some 52, op := Op.load 23 (Operand.tmp 4), type := 23, pos := _, after := #[{ on := 4, ground := Ground.guard }], guard := some (4, false) }) (v := ?_) rfl (by kernel_rfl) (by kernel_rfl) (by kernel_rfl) (fun _ _ _ h => h) (Or.inl ⟨by rfl, ?_⟩) (by assumption) ?_
      rotate_left
      · ((intro w hSw); (try dsimp only at hSw); go_simp; (try with_reducible rfl))
      try simp only [Act.put, List.setIfInBounds_toArray, List.set_cons_zero, List.set_cons_succ]
      refine wpAnyH_take (i := 12) (oi := { dst := some 53, op := Op.move (Operand.tmp 2), type := 34, pos := _, after := #[{ on := 4, ground := Ground.guard }], guard := some (4, false) }) (v := ?_) rfl (by kernel_rfl) (by kernel_rfl) (by kernel_rfl) (fun _ _ _ h => h) (Or.inl ⟨by rfl, ?_⟩) (by assumption) ?_
      rotate_left
      · ((intro w hSw); (try dsimp only at hSw); go_simp; (try with_reducible rfl))
      try simp only [Act.put, List.setIfInBounds_toArray, List.set_cons_zero, List.set_cons_succ]
      refine wpAnyH_take (i := 14) (oi := { dst := some 55, op := Op.move (Operand.tmp 3), type := 34, pos := _, after := #[{ on := 4, ground := Ground.guard }], guard := some (4, false) }) (v := ?_) rfl (by kernel_rfl) (by kernel_rfl) (by kernel_rfl) (fun _ _ _ h => h) (Or.inl ⟨by rfl, ?_⟩) (by assumption) ?_
      rotate_left
      · ((intro w hSw); (try dsimp only at hSw); go_simp; (try with_reducible rfl))
      try simp only [Act.put, List.setIfInBounds_toArray, List.set_cons_zero, List.set_cons_succ]
      refine wpAnyH_ready (rs := [7]) (by kernel_rfl) (by simp) ?_
      refine (AllReadyH.cons (o := { dst := some 48, op := Op.call { callee := Callee.value (Operand.func 25), args := #[Operand.tmp 47], argTypes := #[34] }, type := 34, pos := _, after := #[{ on := 6, ground := Ground.data }, { on := 4, ground := Ground.chain }, { on := 4, ground := Ground.guard }], guard := some (4, false) }) rfl (fun K hK => ?_) AllReadyH.nil)
      go_simp
      refine (copyC al l cap _ (by omega) h0 (ints_then q3 (Nat.le_refl _) j1)).mono ?_
      rintro e x7 ⟨v7, rfl, ho7, g7⟩
      have q7 := q3.trans (g7.mono q3.size)
      go_wp2_with fail
      refine hK.out _ _ ?_ (fun hHeld => ?_)
      · ((try dsimp only); exact ss_then q7 jSS)
      clear hK K
      try simp only [Act.put, List.setIfInBounds_toArray, List.set_cons_zero, List.set_cons_succ]
      refine wpAnyH_ready (rs := [9]) (by kernel_rfl) (by simp) ?_
      refine (AllReadyH.cons (o := { dst := some 50, op := Op.call { callee := Callee.builtin Builtin.append, args := #[Operand.tmp 48, Operand.tmp 49], argTypes := #[34, 34] }, type := 34, pos := _, after := #[{ on := 7, ground := Ground.data }, { on := 8, ground := Ground.data }, { on := 7, ground := Ground.chain }, { on := 4, ground := Ground.guard }], guard := some (4, false) }) rfl (fun K hK => ?_) AllReadyH.nil)
      rw [if_pos (by rfl)]
      refine wp_append_own _ _ _ 34 rfl _ 3 i0 (.int .i64 0) 1 8 Try.underlying34 hi0 hz0 hz1 hz2 rfl (by decide) _ _ _ rfl ho7 ⟨bm, om, none⟩ m.length capm (cellsI m) rfl (by simp [cellsI]) (cellsI_at (ints_then q7 (Nat.le_refl _) jm)) cellsI_one (by unfold maxLen; omega) (by omega) g7.size ?_
      intro v9 x9 ho9 hg9 _
      rw [cellsI_app] at ho9
      have q9 := q7.grown hg9 q7.size (fun j hj => Nat.le_trans q3.size ((ho7.lt j hj).1))
      obtain ⟨a9, cap9, rfl, ⟨hc9, hd9⟩, hi9, _⟩ := row_any ho9
      refine hK.out _ _ ?_ (fun hHeld => ?_)
      · ((try dsimp only); exact ss_then q9 jSS)
      clear hK K
      try simp only [Act.put, List.setIfInBounds_toArray, List.set_cons_zero, List.set_cons_succ]
      refine wpAnyH_ready (rs := [10]) (by kernel_rfl) (by simp) ?_
      refine (AllReadyH.cons (o := { dst := some 51, op := Op.call { callee := Callee.value (Operand.func 23), args := #[Operand.tmp 46, Operand.tmp 50], argTypes := #[23, 34] }, type := 23, pos := _, after := #[{ on := 5, ground := Ground.data }, { on := 9, ground := Ground.data }, { on := 9, ground := Ground.chain }, { on := 4, ground := Ground.guard }], guard := some (4, false) }) rfl (fun K hK => ?_) AllReadyH.nil)
      go_simp
      rw [← List.length_append]
      refine (applyAny f fg bg a9 (l ++ m) cap9 _ hc9 hd9 (by simp; omega) hi9 _ HRA).mono ?_
      rintro e x10 ⟨rfl, g10⟩
      have q10 := q9.trans (g10.mono q9.size)
      go_wp2_with fail
      refine hK.out _ _ ?_ (fun hHeld => ?_)
      · ((try dsimp only); exact ss_then q10 jSS)
      clear hK K
      try simp only [Act.put, List.setIfInBounds_toArray, List.set_cons_zero, List.set_cons_succ]
      refine wpAnyH_ready (rs := [13]) (by kernel_rfl) (by simp) ?_
      refine (AllReadyH.cons (o := { dst := some 54, op := Op.call { callee := Callee.value (Operand.func 23), args := #[Operand.tmp 52, Operand.tmp 53], argTypes := #[23, 34] }, type := 23, pos := _, after := #[{ on := 11, ground := Ground.data }, { on := 12, ground := Ground.data }, { on := 10, ground := Ground.chain }, { on := 4, ground := Ground.guard }], guard := some (4, false) }) rfl (fun K hK => ?_) AllReadyH.nil)
      go_simp
      refine (applyAny f fg bg al l cap _ hcap hcm (by omega) (ints_then q10 (Nat.le_refl _) j1) _ HRB).mono ?_
      rintro e x13 ⟨rfl, g13⟩
      have q13 := q10.trans (g13.mono q10.size)
      go_wp2_with fail
      refine hK.out _ _ ?_ (fun hHeld => ?_)
      · ((try dsimp only); exact ss_then q13 jSS)
      clear hK K
      try simp only [Act.put, List.setIfInBounds_toArray, List.set_cons_zero, List.set_cons_succ]
      refine wpAnyH_ready (rs := [15]) (by kernel_rfl) (by simp) ?_
      refine (AllReadyH.cons (o := { dst := some 56, op := Op.call { callee := Callee.value (Operand.func 23), args := #[Operand.tmp 54, Operand.tmp 55], argTypes := #[23, 34] }, type := 23, pos := _, after := #[{ on := 13, ground := Ground.data }, { on := 14, ground := Ground.data }, { on := 13, ground := Ground.chain }, { on := 4, ground := Ground.guard }], guard := some (4, false) }) rfl (fun K hK => ?_) AllReadyH.nil)
      go_simp
      refine (applyAny R2.1 R2.2.1 R2.2.2 (some ⟨bm, om, none⟩) m capm _ hcapm hcmm (by omega) (ints_then q13 (Nat.le_refl _) jm) _ HRD).mono ?_
      rintro e x15 ⟨rfl, g15⟩
      have q15 := q13.trans (g15.mono q13.size)
      go_wp2_with fail
      refine hK.out _ _ ?_ (fun hHeld => ?_)
      · ((try dsimp only); exact ss_then q15 jSS)
      clear hK K
      try simp only [Act.put, List.setIfInBounds_toArray, List.set_cons_zero, List.set_cons_succ]
      refine wpAnyH_take (i := 16) (oi := { dst := some 57, op := Op.binOp BinOp.eql 23 (Operand.tmp 51) (Operand.tmp 56) 23, type := 4, pos := _, after := #[{ on := 10, ground := Ground.data }, { on := 15, ground := Ground.data }, { on := 4, ground := Ground.guard }], guard := some (4, false) }) (v := ?_) rfl (by kernel_rfl) (by kernel_rfl) (by kernel_rfl) (fun _ _ _ h => h) (Or.inl ⟨by rfl, ?_⟩) (by assumption) ?_
      rotate_left
      · ((intro w hSw); (try dsimp only at hSw); go_simp; (try with_reducible rfl))
      try simp only [Act.put, List.setIfInBounds_toArray, List.set_cons_zero, List.set_cons_succ]
      refine wpAnyH_take (i := 17) (oi := { dst := some 58, op := Op.pick (Operand.tmp 45) (Operand.const (Value.bool true)) (Operand.tmp 57), type := 4, pos := _, after := #[{ on := 4, ground := Ground.data }, { on := 16, ground := Ground.data }, { on := 1, ground := Ground.guard }], guard := some (1, true) }) (v := ?_) rfl (by kernel_rfl) (by kernel_rfl) (by kernel_rfl) (fun _ _ _ h => h) (Or.inl ⟨by rfl, ?_⟩) (by assumption) ?_
      rotate_left
      · ((intro w hSw); (try dsimp only at hSw); go_simp; (try with_reducible rfl))
      try simp only [Act.put, List.setIfInBounds_toArray, List.set_cons_zero, List.set_cons_succ]
      refine wpAnyH_take (i := 18) (oi := { dst := some 59, op := Op.pick (Operand.tmp 42) (Operand.tmp 58) (Operand.const (Value.bool false)), type := 4, pos := _, after := #[{ on := 1, ground := Ground.data }, { on := 17, ground := Ground.data }], guard := none }) (v := ?_) rfl (by kernel_rfl) (by kernel_rfl) (by kernel_rfl) (fun _ _ _ h => h) (Or.inl ⟨by rfl, ?_⟩) (by assumption) ?_
      rotate_left
      · ((intro w hSw); (try dsimp only at hSw); go_simp; (try with_reducible rfl))
      try simp only [Act.put, List.setIfInBounds_toArray, List.set_cons_zero, List.set_cons_succ]
      refine wpAnyH_take (i := 19) (oi := { dst := some 8, op := Op.assign (Operand.tmp 59), type := 4, pos := _, after := #[{ on := 18, ground := Ground.data }, { on := 15, ground := Ground.chain }, { on := 0, ground := Ground.phase }, { on := 1, ground := Ground.phase }, { on := 2, ground := Ground.phase }, { on := 3, ground := Ground.phase }, { on := 4, ground := Ground.phase }, { on := 5, ground := Ground.phase }, { on := 6, ground := Ground.phase }, { on := 7, ground := Ground.phase }, { on := 8, ground := Ground.phase }, { on := 9, ground := Ground.phase }, { on := 10, ground := Ground.phase }, { on := 11, ground := Ground.phase }, { on := 12, ground := Ground.phase }, { on := 13, ground := Ground.phase }, { on := 14, ground := Ground.phase }, { on := 15, ground := Ground.phase }, { on := 16, ground := Ground.phase }, { on := 17, ground := Ground.phase }, { on := 18, ground := Ground.phase }], guard := none }) (v := ?_) rfl (by kernel_rfl) (by kernel_rfl) (by kernel_rfl) (fun _ _ _ h => h) (Or.inl ⟨by rfl, ?_⟩) (by assumption) ?_
      rotate_left
      · ((intro w hSw); (try dsimp only at hSw); go_simp; (try with_reducible rfl))
      try simp only [Act.put, List.setIfInBounds_toArray, List.set_cons_zero, List.set_cons_succ]
      refine wpAnyH_done (by kernel_rfl) ?_ _
      go_wp2
      go_ret
      exact ⟨rfl, SgrApart.below_next HJ.out q15⟩
    · have HCT := Lib.hid (show ∀ W, Ints W al l → Calls Try.prog 24 #[.slice al l.length cap] W fun e w' => e = .returned (.bool true) ∧ W = w' from fun W hW => by have := cutC al l cap W (by omega) hW; rw [hc] at this; exact this)
      clear hc
      refine wp_region_held_drew (S := (fun W => W.cell? ⟨BA, 0, none⟩ = some (.int .i64 f) ∧ W.cell? ⟨BA, 1, none⟩ = some (.int .i64 fg) ∧ W.cell? ⟨BA, 2, none⟩ = some (.int .i64 bg) ∧ W.cell? ⟨BB, 0, none⟩ = some (.int .i64 f2) ∧ W.cell? ⟨BB, 1, none⟩ = some (.int .i64 fg2) ∧ W.cell? ⟨BB, 2, none⟩ = some (.int .i64 bg2) ∧ Ints W al l ∧ Ints W (some ⟨bm, om, none⟩) m ∧ Below w.heap.size w W)) (by kernel_rfl) ?_ (fun hHeld => ?_)
      · ((try dsimp only); exact ss_then q jSS)
      refine wpAnyH_ready (rs := [0]) (by kernel_rfl) (by simp) ?_
      refine (AllReadyH.cons (o := { dst := some 41, op := Op.call { callee := Callee.value (Operand.func 21), args := #[], argTypes := #[] }, type := 4, pos := _, after := #[], guard := none }) rfl (fun K hK => ?_) AllReadyH.nil)
      go_simp
      refine (SgrFirst.first _).mono ?_
      rintro e x0 ⟨rfl, g0⟩
      have q0 := q.trans (g0.mono q.size)
      go_wp2_with fail
      refine hK.out _ _ ?_ (fun hHeld => ?_)
      · ((try dsimp only); exact ss_then q0 jSS)
      clear hK K
      try simp only [Act.put, List.setIfInBounds_toArray, List.set_cons_zero, List.set_cons_succ]
      refine wpAnyH_take (i := 1) (oi := { dst := some 42, op := Op.move (Operand.tmp 41), type := 4, pos := _, after := #[{ on := 0, ground := Ground.data }, { on := 0, ground := Ground.chain }], guard := none }) (v := ?_) rfl (by kernel_rfl) (by kernel_rfl) (by kernel_rfl) (fun _ _ _ h => h) (Or.inl ⟨by rfl, ?_⟩) (by assumption) ?_
      rotate_left
      · ((intro w hSw); (try dsimp only at hSw); go_simp; (try with_reducible rfl))
      try simp only [Act.put, List.setIfInBounds_toArray, List.set_cons_zero, List.set_cons_succ]
      refine wpAnyH_take (i := 2) (oi := { dst := some 43, op := Op.move (Operand.tmp 2), type := 34, pos := _, after := #[{ on := 1, ground := Ground.guard }], guard := some (1, true) }) (v := ?_) rfl (by kernel_rfl) (by kernel_rfl) (by kernel_rfl) (fun _ _ _ h => h) (Or.inl ⟨by rfl, ?_⟩) (by assumption) ?_
      rotate_left
      · ((intro w hSw); (try dsimp only at hSw); go_simp; (try with_reducible rfl))
      try simp only [Act.put, List.setIfInBounds_toArray, List.set_cons_zero, List.set_cons_succ]
      refine wpAnyH_ready (rs := [3]) (by kernel_rfl) (by simp) ?_
      refine (AllReadyH.cons (o := { dst := some 44, op := Op.call { callee := Callee.value (Operand.func 24), args := #[Operand.tmp 43], argTypes := #[34] }, type := 4, pos := _, after := #[{ on := 2, ground := Ground.data }, { on := 1, ground := Ground.chain }, { on := 1, ground := Ground.guard }], guard := some (1, true) }) rfl (fun K hK => ?_) AllReadyH.nil)
      go_simp
      refine (HCT.out _ (ints_then q0 (Nat.le_refl _) j1)).mono ?_
      rintro e x3 ⟨rfl, rfl⟩
      have q3 := q0
      go_wp2_with fail
      refine hK.out _ _ ?_ (fun hHeld => ?_)
      · ((try dsimp only); exact ss_then q3 jSS)
      clear hK K
      try simp only [Act.put, List.setIfInBounds_toArray, List.set_cons_zero, List.set_cons_succ]
      refine wpAnyH_take (i := 4) (oi := { dst := some 45, op := Op.move (Operand.tmp 44), type := 4, pos := _, after := #[{ on := 3, ground := Ground.data }, { on := 3, ground := Ground.chain }, { on := 1, ground := Ground.guard }], guard := some (1, true) }) (v := ?_) rfl (by kernel_rfl) (by kernel_rfl) (by kernel_rfl) (fun _ _ _ h => h) (Or.inl ⟨by rfl, ?_⟩) (by assumption) ?_
      rotate_left
      · ((intro w hSw); (try dsimp only at hSw); go_simp; (try with_reducible rfl))
      try simp only [Act.put, List.setIfInBounds_toArray, List.set_cons_zero, List.set_cons_succ]
      refine wpAnyH_take (i := 5) (oi := { dst := some 46, op := Op.load 23 (Operand.tmp 4), type := 23, pos := _, after := #[{ on := 4, ground := Ground.guard }], guard := some (4, false) }) (v := undef) rfl (by kernel_rfl) (by kernel_rfl) (by kernel_rfl) (fun _ _ _ h => h) (Or.inr ⟨by rfl, rfl⟩) (by assumption) ?_
      try simp only [Act.put, List.setIfInBounds_toArray, List.set_cons_zero, List.set_cons_succ]
      refine wpAnyH_take (i := 6) (oi := { dst := some 47, op := Op.move (Operand.tmp 2), type := 34, pos := _, after := #[{ on := 4, ground := Ground.guard }], guard := some (4, false) }) (v := undef) rfl (by kernel_rfl) (by kernel_rfl) (by kernel_rfl) (fun _ _ _ h => h) (Or.inr ⟨by rfl, rfl⟩) (by assumption) ?_
      try simp only [Act.put, List.setIfInBounds_toArray, List.set_cons_zero, List.set_cons_succ]
      refine wpAnyH_take (i := 7) (oi := { dst := some 48, op := Op.call { callee := Callee.value (Operand.func 25), args := #[Operand.tmp 47], argTypes := #[34] }, type := 34, pos := _, after := #[{ on := 6, ground := Ground.data }, { on := 4, ground := Ground.chain }, { on := 4, ground := Ground.guard }], guard := some (4, false) }) (v := undef) rfl (by kernel_rfl) (by kernel_rfl) (by kernel_rfl) (fun _ _ _ h => h) (Or.inr ⟨by rfl, rfl⟩) (by assumption) ?_
      try simp only [Act.put, List.setIfInBounds_toArray, List.set_cons_zero, List.set_cons_succ]
      refine wpAnyH_take (i := 8) (oi := { dst := some 49, op := Op.move (Operand.tmp 3), type := 34, pos := _, after := #[{ on := 4, ground := Ground.guard }], guard := some (4, false) }) (v := undef) rfl (by kernel_rfl) (by kernel_rfl) (by kernel_rfl) (fun _ _ _ h => h) (Or.inr ⟨by rfl, rfl⟩) (by assumption) ?_
      try simp only [Act.put, List.setIfInBounds_toArray, List.set_cons_zero, List.set_cons_succ]
      refine wpAnyH_take (i := 9) (oi := { dst := some 50, op := Op.call { callee := Callee.builtin Builtin.append, args := #[Operand.tmp 48, Operand.tmp 49], argTypes := #[34, 34] }, type := 34, pos := _, after := #[{ on := 7, ground := Ground.data }, { on := 8, ground := Ground.data }, { on := 7, ground := Ground.chain }, { on := 4, ground := Ground.guard }], guard := some (4, false) }) (v := undef) rfl (by kernel_rfl) (by kernel_rfl) (by kernel_rfl) (fun _ _ _ h => h) (Or.inr ⟨by rfl, rfl⟩) (by assumption) ?_
      try simp only [Act.put, List.setIfInBounds_toArray, List.set_cons_zero, List.set_cons_succ]
      refine wpAnyH_take (i := 10) (oi := { dst := some 51, op := Op.call { callee := Callee.value (Operand.func 23), args := #[Operand.tmp 46, Operand.tmp 50], argTypes := #[23, 34] }, type := 23, pos := _, after := #[{ on := 5, ground := Ground.data }, { on := 9, ground := Ground.data }, { on := 9, ground := Ground.chain }, { on := 4, ground := Ground.guard }], guard := some (4, false) }) (v := undef) rfl (by kernel_rfl) (by kernel_rfl) (by kernel_rfl) (fun _ _ _ h => h) (Or.inr ⟨by rfl, rfl⟩) (by assumption) ?_
      try simp only [Act.put, List.setIfInBounds_toArray, List.set_cons_zero, List.set_cons_succ]
      refine wpAnyH_take (i := 11) (oi := { dst := some 52, op := Op.load 23 (Operand.tmp 4), type := 23, pos := _, after := #[{ on := 4, ground := Ground.guard }], guard := some (4, false) }) (v := undef) rfl (by kernel_rfl) (by kernel_rfl) (by kernel_rfl) (fun _ _ _ h => h) (Or.inr ⟨by rfl, rfl⟩) (by assumption) ?_
      try simp only [Act.put, List.setIfInBounds_toArray, List.set_cons_zero, List.set_cons_succ]
      refine wpAnyH_take (i := 12) (oi := { dst := some 53, op := Op.move (Operand.tmp 2), type := 34, pos := _, after := #[{ on := 4, ground := Ground.guard }], guard := some (4, false) }) (v := undef) rfl (by kernel_rfl) (by kernel_rfl) (by kernel_rfl) (fun _ _ _ h => h) (Or.inr ⟨by rfl, rfl⟩) (by assumption) ?_
      try simp only [Act.put, List.setIfInBounds_toArray, List.set_cons_zero, List.set_cons_succ]
      refine wpAnyH_take (i := 13) (oi := { dst := some 54, op := Op.call { callee := Callee.value (Operand.func 23), args := #[Operand.tmp 52, Operand.tmp 53], argTypes := #[23, 34] }, type := 23, pos := _, after := #[{ on := 11, ground := Ground.data }, { on := 12, ground := Ground.data }, { on := 10, ground := Ground.chain }, { on := 4, ground := Ground.guard }], guard := some (4, false) }) (v := undef) rfl (by kernel_rfl) (by kernel_rfl) (by kernel_rfl) (fun _ _ _ h => h) (Or.inr ⟨by rfl, rfl⟩) (by assumption) ?_
      try simp only [Act.put, List.setIfInBounds_toArray, List.set_cons_zero, List.set_cons_succ]
      refine wpAnyH_take (i := 14) (oi := { dst := some 55, op := Op.move (Operand.tmp 3), type := 34, pos := _, after := #[{ on := 4, ground := Ground.guard }], guard := some (4, false) }) (v := undef) rfl (by kernel_rfl) (by kernel_rfl) (by kernel_rfl) (fun _ _ _ h => h) (Or.inr ⟨by rfl, rfl⟩) (by assumption) ?_
      try simp only [Act.put, List.setIfInBounds_toArray, List.set_cons_zero, List.set_cons_succ]
      refine wpAnyH_take (i := 15) (oi := { dst := some 56, op := Op.call { callee := Callee.value (Operand.func 23), args := #[Operand.tmp 54, Operand.tmp 55], argTypes := #[23, 34] }, type := 23, pos := _, after := #[{ on := 13, ground := Ground.data }, { on := 14, ground := Ground.data }, { on := 13, ground := Ground.chain }, { on := 4, ground := Ground.guard }], guard := some (4, false) }) (v := undef) rfl (by kernel_rfl) (by kernel_rfl) (by kernel_rfl) (fun _ _ _ h => h) (Or.inr ⟨by rfl, rfl⟩) (by assumption) ?_
      try simp only [Act.put, List.setIfInBounds_toArray, List.set_cons_zero, List.set_cons_succ]
      refine wpAnyH_take (i := 16) (oi := { dst := some 57, op := Op.binOp BinOp.eql 23 (Operand.tmp 51) (Operand.tmp 56) 23, type := 4, pos := _, after := #[{ on := 10, ground := Ground.data }, { on := 15, ground := Ground.data }, { on := 4, ground := Ground.guard }], guard := some (4, false) }) (v := undef) rfl (by kernel_rfl) (by kernel_rfl) (by kernel_rfl) (fun _ _ _ h => h) (Or.inr ⟨by rfl, rfl⟩) (by assumption) ?_
      try simp only [Act.put, List.setIfInBounds_toArray, List.set_cons_zero, List.set_cons_succ]
      refine wpAnyH_take (i := 17) (oi := { dst := some 58, op := Op.pick (Operand.tmp 45) (Operand.const (Value.bool true)) (Operand.tmp 57), type := 4, pos := _, after := #[{ on := 4, ground := Ground.data }, { on := 16, ground := Ground.data }, { on := 1, ground := Ground.guard }], guard := some (1, true) }) (v := ?_) rfl (by kernel_rfl) (by kernel_rfl) (by kernel_rfl) (fun _ _ _ h => h) (Or.inl ⟨by rfl, ?_⟩) (by assumption) ?_
      rotate_left
      · ((intro w hSw); (try dsimp only at hSw); go_simp; (try with_reducible rfl))
      try simp only [Act.put, List.setIfInBounds_toArray, List.set_cons_zero, List.set_cons_succ]
      refine wpAnyH_take (i := 18) (oi := { dst := some 59, op := Op.pick (Operand.tmp 42) (Operand.tmp 58) (Operand.const (Value.bool false)), type := 4, pos := _, after := #[{ on := 1, ground := Ground.data }, { on := 17, ground := Ground.data }], guard := none }) (v := ?_) rfl (by kernel_rfl) (by kernel_rfl) (by kernel_rfl) (fun _ _ _ h => h) (Or.inl ⟨by rfl, ?_⟩) (by assumption) ?_
      rotate_left
      · ((intro w hSw); (try dsimp only at hSw); go_simp; (try with_reducible rfl))
      try simp only [Act.put, List.setIfInBounds_toArray, List.set_cons_zero, List.set_cons_succ]
      refine wpAnyH_take (i := 19) (oi := { dst := some 8, op := Op.assign (Operand.tmp 59), type := 4, pos := _, after := #[{ on := 18, ground := Ground.data }, { on := 15, ground := Ground.chain }, { on := 0, ground := Ground.phase }, { on := 1, ground := Ground.phase }, { on := 2, ground := Ground.phase }, { on := 3, ground := Ground.phase }, { on := 4, ground := Ground.phase }, { on := 5, ground := Ground.phase }, { on := 6, ground := Ground.phase }, { on := 7, ground := Ground.phase }, { on := 8, ground := Ground.phase }, { on := 9, ground := Ground.phase }, { on := 10, ground := Ground.phase }, { on := 11, ground := Ground.phase }, { on := 12, ground := Ground.phase }, { on := 13, ground := Ground.phase }, { on := 14, ground := Ground.phase }, { on := 15, ground := Ground.phase }, { on := 16, ground := Ground.phase }, { on := 17, ground := Ground.phase }, { on := 18, ground := Ground.phase }], guard := none }) (v := ?_) rfl (by kernel_rfl) (by kernel_rfl) (by kernel_rfl) (fun _ _ _ h => h) (Or.inl ⟨by rfl, ?_⟩) (by assumption) ?_
      rotate_left
      · ((intro w hSw); (try dsimp only at hSw); go_simp; (try with_reducible rfl))
      try simp only [Act.put, List.setIfInBounds_toArray, List.set_cons_zero, List.set_cons_succ]
      refine wpAnyH_done (by kernel_rfl) ?_ _
      go_wp2
      go_ret
      exact ⟨rfl, SgrApart.below_next HJ.out q3⟩
theorem walk (f fg bg f2 fg2 bg2 : Int) (al : Option Addr) (len cap : Nat) (zs : List Int) (am : Option Addr) (len2 cap2 : Nat) (zs2 : List Int) (W : World) (_w0 : (Lit.int .i64 f).wf = true) (_w1 : (Lit.int .i64 fg).wf = true) (_w2 : (Lit.int .i64 bg).wf = true) (_w3 : (Lit.int .i64 f2).wf = true) (_w4 : (Lit.int .i64 fg2).wf = true) (_w5 : (Lit.int .i64 bg2).wf = true) (w6 : IsRow .i64 W al len cap zs) (w7 : IsRow .i64 W am len2 cap2 zs2) :
    Calls Try.prog 8 #[.agg #[.int .i64 f, .int .i64 fg, .int .i64 bg], .agg #[.int .i64 f2, .int .i64 fg2, .int .i64 bg2], .slice al len cap, .slice am len2 cap2] W fun e w' => e = .returned (.bool true) ∧ Below W.heap.size W w' := by
  obtain ⟨l, rfl, hcap, hcm, h0, hi⟩ := row_l w6
  obtain ⟨m, rfl, hcap2, hcm2, h02, hi2⟩ := row_l w7
  by_cases h : 50 < l.length ∨ 50 < m.length ∨ l.length = 0 ∨ m.length = 0
  · exact out f fg bg f2 fg2 bg2 al am _ cap _ cap2 W h (by omega) (by omega)
  · rcases hi2 with hi2 | ⟨bm, om, rfl, hi2⟩
    · subst hi2; simp at h
    · exact main f fg bg f2 fg2 bg2 al l cap bm om m cap2 W hcap hcm h0 (by omega) (by omega) hi hcap2 hcm2 (by omega) (by omega) (.inr ⟨bm, om, rfl, hi2⟩)
end Go.Proofs.Ytkpneocolbmnpaa.SgrOrderW
