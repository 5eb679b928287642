/- The document's Shift. -/
import Derived.Test.YtfdjmlncdbpkgaaXu
import Derived.Laws.AppendOwn
set_option linter.unusedVariables false
namespace Go.Proofs.Ytfdjmlncdbpkgaa.Xv
open Go Go.RowKit Kit Gm Gv Fl Me Cp Sl Gg Gh Gp Gq Gk Xa Xb Xm Xn Xf Xe Xg
open Ge (unit)
open Gs (heldZ shiftRow shiftL)
open Sm (slideL_get)
open Pr (Iv)

/-- a row of cells of one's own, from block B on. -/
def Ow (w : World) (B : Nat) (v : Value) (O : List Ce) : Prop := w.ownsRow B 37 5 v O.length (flat O)
theorem Ow.nil (w : World) (B : Nat) : Ow w B (.slice none 0 0) [] := World.ownsRow_nil w B 37 5
theorem Ow.below {w w1 : World} {B : Nat} {v : Value} {O : List Ce} (h : Ow w B v O) (hb : Below w.heap.size w w1) : Ow w1 B v O :=
  World.ownsRow.kept (row := none) h ⟨hb.os, hb.tape, hb.output, hb.size, fun k hk _ => hb.block k hk⟩ (by cases e : v.ownBlock <;> simp)
/-- the row, as a slice. -/
theorem Ow.slice {w : World} {B : Nat} {v : Value} {O : List Ce} (h : Ow w B v O) (h0 : 0 < O.length) : ∃ g cap, v = .slice (some ⟨g, 0, none⟩) O.length cap ∧ B ≤ g ∧ ∀ j u, (flat O)[j]? = some u → w.cell? ((⟨g, 0, none⟩ : Addr).add j) = some u := by
  rcases h.2 with ⟨rfl, e⟩ | ⟨g, cap, cur, rfl, hb, _⟩
  · omega
  · exact ⟨g, cap, rfl, hb, World.ownsRow.cells h (g := g) rfl⟩
theorem wpList_append_one {w : World} {ops : Array Oper} {rest : List Oper} {o : Oper} {a : Act} {Q : Exit → Act → World → Prop} (hg : o.guard = none) (s x : Operand)
    (ho : o.op = .call { callee := .builtin .append, args := #[s, x], argTypes := #[41, 41] }) (B : Nat) (v : Value) (O : List Ce) (hs : a.eval s = v) (h : Ow w B v O)
    (g cap : Nat) (c : Ce) (hx : a.eval x = .slice (some ⟨g, 0, none⟩) 1 cap) (hc : RB w g [c]) (hl : O.length ≤ 12000) (hB : B ≤ w.heap.size)
    (hK : ∀ v' w', Ow w' B v' (O ++ [c]) → Below B w w' → wpList Try.prog ops Q rest (a.put o.dst v') w') : wpList Try.prog ops Q (o :: rest) a w := by
  obtain ⟨i0, hi, hz, hs5, hby⟩ := info_parts info37
  refine wpList_append_own w hg s x 41 ho B 37 i0 _ 5 40 under41 hi hz hs5 hby rfl (by decide) v O.length (flat O) hs h ⟨g, 0, none⟩ 1 cap (flat [c]) hx (flat_len [c]) (row_src (A := []) (X := [c]) (Z := []) hc 0 rfl) (flat_one [c]) (by simp only [maxLen]; omega) (by omega) hB ?_
  intro v' w' h1 h2 _
  refine hK v' w' ?_ ⟨h2.os, h2.tape, h2.output, h2.size, fun k hk => h2.block k (Nat.lt_of_lt_of_le hk hB) fun e => ?_⟩
  · unfold Ow; rw [List.length_append, flat_app]; exact h1
  · have := (World.ownsRow.lt h k e.symm).1; omega
theorem take_next {O : List Ce} {j : Nat} {c : Ce} (h : O[j]? = some c) : O.take (j + 1) = O.take j ++ [c] := by
  rw [List.take_add_one, h]; rfl
theorem held_b (n : Int) (m : Nat) : -(m : Int) ≤ heldZ n m ∧ heldZ n m ≤ m := by unfold heldZ; omega
/-- what stands at place j behind a shift by H. -/
theorem sh_case {N : List Ce} {x : Ce} {H : Int} {m j : Nat} (hN : N.length = m) (hm : m ≤ 200) (h1 : -(m : Int) ≤ H) (h2 : H ≤ m) (hj : j < m) :
    ∃ z : Int, IntKind.i64.wrap ((j : Int) - H) = z ∧ wrap64 ((j : Int) - H) = z ∧
      ((z < 0 ∧ (slideL N (-H) x)[j]? = some x) ∨ (0 ≤ z ∧ (m : Int) ≤ z ∧ (slideL N (-H) x)[j]? = some x) ∨ (∃ i : Nat, z = (i : Int) ∧ i < m ∧ ∃ c, N[i]? = some c ∧ (slideL N (-H) x)[j]? = some c)) := by
  have e := Gt.wr_any (x := (j : Int) - H) (by omega) (by omega)
  have hg := slideL_get N (-H) x (by omega) (by omega) j (by omega)
  rw [show (j : Int) + -H = (j : Int) - H by omega, hN] at hg
  refine ⟨(j : Int) - H, e.1, e.2, ?_⟩
  clear e
  generalize (j : Int) - H = z at *
  clear h1 h2 hj
  by_cases c1 : z < 0
  · exact .inl ⟨c1, by rw [hg, if_neg (by omega)]⟩
  · by_cases c2 : (m : Int) ≤ z
    · exact .inr (.inl ⟨by omega, c2, by rw [hg, if_neg (by omega)]⟩)
    · obtain ⟨i, rfl⟩ := Int.eq_ofNat_of_zero_le (show 0 ≤ z by omega)
      have hi : i < m := by omega
      refine .inr (.inr ⟨i, rfl, hi, N[i]'(by omega), List.getElem?_eq_getElem _, ?_⟩)
      rw [hg, if_pos (by omega), Int.toNat_natCast]; exact List.getElem?_eq_getElem _
/-- the numbers of the row's end. -/
theorem end_nums {n q C k s Zl : Nat} (hn : n = q + C + Zl) (hs : s = q + k) (hk : k < C) (hsm : n ≤ 12000) : ∃ t m : Nat, t = q + C ∧ m = C - k ∧ ¬ n = s ∧ s ≤ t ∧ t ≤ n ∧ t - s = m ∧ n - s ≠ 0 ∧ s ≤ n ∧ 0 < m ∧ m ≤ n - s ∧ m ≤ C ∧ k + m = C ∧ IntKind.i64.wrap ((q : Int) + (C : Int)) = (t : Int) ∧ wrap64 ((q : Int) + (C : Int)) = (t : Int) := by
  have e : (q : Int) + (C : Int) = ((q + C : Nat) : Int) := by omega
  have e2 := wr_of (x := (q : Int) + (C : Int)) (y := ((q + C : Nat) : Int)) (by omega) (by omega) e
  exact ⟨q + C, C - k, rfl, rfl, by omega, by omega, by omega, by omega, by omega, by omega, by omega, by omega, by omega, by omega, e2.1, e2.2⟩
theorem neg_wrap {m : Nat} (h : m ≤ 200) : IntKind.i64.wrap (-(m : Int)) = -(m : Int) := (Gt.wr_any (by omega) (by omega)).1
theorem neg_of {H m : Int} (h : -m ≤ H) : -H ≤ m := by omega
theorem held_ite {n H : Int} {m : Nat} (h : heldZ n m = H) : ∃ y : Int, (if n < -(m : Int) then -(m : Int) else n) = y ∧ (if (m : Int) < y then (m : Int) else y) = H := by
  refine ⟨max n (-(m : Int)), ?_, ?_⟩
  · split <;> omega
  · rw [← h]; unfold heldZ; split <;> omega
set_option maxRecDepth 100000 in
set_option maxHeartbeats 2000000 in
/-- Shift, of nothing. -/
theorem shiftNoX (p b R C : Nat) (row col n af ag ab : Int) (L : List Ce) (w : World) (h : X w p b R C L) (v : Bool) (hv : hasB R C row col = v) (y : Bool) (hy : Cell.attrB af ag ab = y) (hz : (v && y) = false) :
    Calls Try.prog 39 #[.pointer (some ⟨p, 0, none⟩), .int .i64 row, .int .i64 col, .int .i64 n, .agg #[.int .i64 af, .int .i64 ag, .int .i64 ab]] w fun e w' => e = .returned unit ∧ Below w.heap.size w w' := by
  have HB := Lib.hid (below_one w (.cells #[.int .i64 af, .int .i64 ag, .int .i64 ab] 35))
  have HG := Lib.hid (h.then_ HB.out (Nat.le_refl _)).view
  have HF := Lib.hid (heap_last w #[.int .i64 af, .int .i64 ag, .int .i64 ab] 35)
  generalize hw0 : w.alloc (.cells #[.int .i64 af, .int .i64 ag, .int .i64 ab] 35) = w0 at *
  obtain ⟨a0, a1, a2⟩ := three HF.out
  have HV := Lib.hid hv
  have HY := Lib.hid hy
  have H45 := Lib.hid (show Calls Try.prog 45 #[.pointer (some ⟨p, 0, none⟩), .int .i64 row, .int .i64 col] w0 fun e w' => e = .returned (.bool v) ∧ w0 = w' by rw [← HV.out]; exact thereC _ _ _ _ _ _ _ _ _ HG.out)
  clear h hv hy
  cases v with
  | false =>
    clear hz
    go_enter Try.func39, Try.ntmps39
    go_wp2_with (go_at_call 45; (with_reducible refine H45.out.mono ?_); rintro e w' ⟨rfl, rfl⟩)
    exact bodyPost_ret (v := .tuple #[]) (by simp [results, Try.results39, go_sem]) rfl ⟨rfl, HB.out⟩
  | true =>
    obtain rfl : y = false := by simpa using hz
    clear hz
    go_enter Try.func39, Try.ntmps39
    go_wp2_with (first
      | (go_at_call 45; (with_reducible refine H45.out.mono ?_); rintro e w' ⟨rfl, rfl⟩)
      | (go_at_call 56; (with_reducible refine (rAttrB af ag ab false HY.out _).mono ?_); rintro e w1 ⟨rfl, hb1⟩; have HB1 := Lib.hid (below_then HB.out hb1 HB.out.size); clear hb1))
    exact bodyPost_ret (v := .tuple #[]) (by simp [results, Try.results39, go_sem]) rfl ⟨rfl, HB1.out⟩
set_option maxRecDepth 100000 in
set_option maxHeartbeats 4000000 in
/-- Shift, of what is there. -/
theorem shiftYesX (p b R C r k : Nat) (n af ag ab : Int) (A M Z : List Ce) (w : World) (h : X w p b R C (A ++ M ++ Z)) (hr : r < R) (hk : k < C) (hA : A.length = r * C) (hM : M.length = C) (hwd : ∀ c ∈ shiftRow C M k n (Gm.blankC ab), c.wd = 0 ∨ c.wd = 1 ∨ c.wd = 2) (hy : Cell.attrB af ag ab = true) :
    Calls Try.prog 39 #[.pointer (some ⟨p, 0, none⟩), .int .i64 (r : Int), .int .i64 (k : Int), .int .i64 n, .agg #[.int .i64 af, .int .i64 ag, .int .i64 ab]] w (RowP b (A ++ mend (shiftRow C M k n (Gm.blankC ab)) ++ Z) w) := by
  have HB := Lib.hid (below_one w (.cells #[.int .i64 af, .int .i64 ag, .int .i64 ab] 35))
  have HG := Lib.hid (h.then_ HB.out (Nat.le_refl _))
  have HFo := Lib.hid (heap_last w #[.int .i64 af, .int .i64 ag, .int .i64 ab] 35)
  generalize hw0 : w.alloc (.cells #[.int .i64 af, .int .i64 ag, .int .i64 ab] 35) = w0 at *
  obtain ⟨a0, a1, a2⟩ := three HFo.out
  obtain ⟨p0, p1, p2⟩ := three HG.out.obj
  have HM := Lib.hid (rAttrB af ag ab true hy w0)
  have HNE := Lib.hid h.ne
  have HNw := Lib.hid (show w.heap.size ≠ b from fun e => by have := h.b_lt; omega)
  have hz : hasB R C (r : Int) (k : Int) = true := (has_t ⟨Int.natCast_nonneg r, Int.ofNat_lt.2 hr, Int.natCast_nonneg k, Int.ofNat_lt.2 hk⟩).symm
  have H45 := Lib.hid (show Calls Try.prog 45 #[.pointer (some ⟨p, 0, none⟩), .int .i64 (r : Int), .int .i64 (k : Int)] w0 fun e w' => e = .returned (.bool true) ∧ w0 = w' by rw [← hz]; exact thereC _ _ _ _ _ _ _ _ _ HG.out.view)
  have hsm := h.small
  have hc2 := h.c2
  obtain ⟨q, s, hq, hs, hsn, e1, e1', e2, e2'⟩ := place_nums h.len hr hk hsm
  have hcapn : (A ++ M ++ Z).length = q + C + Z.length := by rw [List.length_append, List.length_append, hM, hA, hq]
  obtain ⟨t, m, ht, hm, e4, e5, e6, e7, e8, e9, hm0, hms, hmC, hkm, e3, e3'⟩ := end_nums hcapn hs hk hsm
  obtain ⟨H, hH⟩ : ∃ H, heldZ n (m : Int) = H := ⟨_, rfl⟩
  have hb1 := held_b n m
  rw [hH] at hb1
  obtain ⟨y, k1, k2⟩ := held_ite hH
  have hm200 : m ≤ 200 := Nat.le_trans hmC hc2
  have hN : (M.drop k).length = m := by rw [List.length_drop, hM, hm]
  have HCASE := Lib.hid (fun j (hj : j < m) => sh_case (x := Gm.blankC ab) (j := j) hN hm200 hb1.1 hb1.2 hj)
  have hO : (slideL (M.drop k) (-H) (Gm.blankC ab)).length = m := by rw [slideL_len _ _ _ (by rw [hN]; exact Int.neg_le_neg hb1.2) (by rw [hN]; exact neg_of hb1.1), hN]
  have hSR : shiftRow C M k n (Gm.blankC ab) = M.take k ++ slideL (M.drop k) (-H) (Gm.blankC ab) := by unfold shiftRow; rw [← hm, hH]
  rw [hSR] at hwd ⊢
  have hML : A ++ M ++ Z = (A ++ M.take k) ++ M.drop k ++ Z := by simp
  have hAk : (A ++ M.take k).length = s := by rw [List.length_append, List.length_take, hM, hA, hs, hq, Nat.min_eq_left (Nat.le_of_lt hk)]
  have hQk : s * 5 = (A ++ M.take k).length * 5 := by rw [hAk]
  have hlenO : (A ++ (M.take k ++ slideL (M.drop k) (-H) (Gm.blankC ab)) ++ Z).length = (A ++ M ++ Z).length := by
    rw [hML]; simp only [List.length_append, hO, hN, Nat.add_assoc]
  have hMk : (M.take k ++ slideL (M.drop k) (-H) (Gm.blankC ab)).length = C := by rw [List.length_append, hO, List.length_take, hM, Nat.min_eq_left (Nat.le_of_lt hk)]; exact hkm
  have HMEND := Lib.hid (fun (w1 : World) (hx : X w1 p b R C (A ++ (M.take k ++ slideL (M.drop k) (-H) (Gm.blankC ab)) ++ Z)) => mendX p b R C r A _ Z w1 hx hr hA hMk hwd)
  have HX0 := Lib.hid (fun (w1 w2 : World) (hb : Below w0.heap.size w0 w1) (hr : RB w2 b (A ++ (M.take k ++ slideL (M.drop k) (-H) (Gm.blankC ab)) ++ Z)) (hk : Kp b b w1 w2) => (HG.out.then_ hb (Nat.le_refl _)).row_new hr hk hlenO)
  have HRB0 := Lib.hid (show RB w0 b ((A ++ M.take k) ++ M.drop k ++ Z) from hML ▸ HG.out.row)
  have HQ := Lib.hid hQk
  have HN := Lib.hid hN
  have HO := Lib.hid hO
  have HC0 := Lib.hid hm0
  have HC1 := Lib.hid (show m ≤ 12000 from Nat.le_trans hm200 (by decide))
  have HJN := Lib.hid (show (A ++ M.take k) ++ slideL (M.drop k) (-H) (Gm.blankC ab) ++ Z = A ++ (M.take k ++ slideL (M.drop k) (-H) (Gm.blankC ab)) ++ Z by simp)
  have e9' : IntKind.i64.wrap (-(m : Int)) = -(m : Int) := neg_wrap hm200
  have HMIN := Lib.hid (show m = Nat.min m ((A ++ M ++ Z).length - s) from (Nat.min_eq_left hms).symm)
  generalize slideL (M.drop k) (-H) (Gm.blankC ab) = O at *
  generalize (A ++ M ++ Z).length = nl at *
  generalize M.drop k = N at *
  generalize A ++ M.take k = P at *
  clear h hr hk hA hM hwd hy hz hsm hc2 hq hs hcapn ht hm hH hb1 hN hO hSR hML hAk hQk hlenO hMk
  go_enter Try.func39, Try.ntmps39
  go_wp2_with (first
    | (go_at_call 45; (with_reducible refine H45.out.mono ?_); rintro e w' ⟨rfl, rfl⟩)
    | (go_at_call 56; (with_reducible refine HM.out.mono ?_); rintro e w1 ⟨rfl, hb1⟩; have HB1 := Lib.hid hb1; replace a0 := Gg.cell_then hb1 (Nat.le_refl _) a0; replace a1 := Gg.cell_then hb1 (Nat.le_refl _) a1; replace a2 := Gg.cell_then hb1 (Nat.le_refl _) a2; replace p1 := Gg.cell_then hb1 (Nat.le_refl _) p1; replace p2 := Gg.cell_then hb1 (Nat.le_refl _) p2; have HR1 := Lib.hid (HRB0.out.then_ hb1 (Nat.le_refl _)); clear hb1))
  have HB2 := Lib.hid (below_one w1 (.cells #[] 37))
  have HRB2 := Lib.hid (HR1.out.then_ HB2.out (Nat.le_refl _))
  have HSRC := Lib.hid (row_src HRB2.out _ HQ.out)
  have d1 := cell_then HB2.out (Nat.le_refl _) p1
  have d2 := cell_then HB2.out (Nat.le_refl _) p2
  have HA0 := Lib.hid (cell_then HB2.out (Nat.le_refl _) a0)
  have HA1 := Lib.hid (cell_then HB2.out (Nat.le_refl _) a1)
  have HA2 := Lib.hid (cell_then HB2.out (Nat.le_refl _) a2)
  generalize hw2 : w1.alloc (.cells #[] 37) = w2 at *
  clear a0 a1 a2
  refine wp_region_held_drew (S := (fun W => W.cell? ⟨p, 1, none⟩ = some (.int .i64 (C : Int)) ∧ W.cell? ⟨p, 2, none⟩ = some (.slice (some ⟨b, 0, none⟩) nl nl))) (by kernel_rfl) ?_ (fun hHeld => ?_)
  · ((try dsimp only); exact ⟨p1, p2⟩)
  refine wpAnyH_take (i := 1) (oi := { dst := some 25, op := Op.move (Operand.tmp 0), type := 28, pos := _, after := #[], guard := none }) (v := ?_) rfl (by kernel_rfl) (by kernel_rfl) (by kernel_rfl) (fun _ _ _ h => h) (Or.inl ⟨by rfl, ?_⟩) (by assumption) ?_
  rotate_left
  · ((intro w hSw); (try dsimp only at hSw); go_simp; (try with_reducible rfl))
  try simp only [Act.put, List.setIfInBounds_toArray, List.set_cons_zero, List.set_cons_succ]
  refine wpAnyH_take (i := 2) (oi := { dst := some 26, op := Op.nilCheck (Operand.tmp 25), type := 0, pos := _, after := #[{ on := 1, ground := Ground.data }], guard := none }) (v := ?_) rfl (by kernel_rfl) (by kernel_rfl) (by kernel_rfl) (fun _ _ _ h => h) (Or.inl ⟨by rfl, ?_⟩) (by assumption) ?_
  rotate_left
  · ((intro w hSw); (try dsimp only at hSw); go_simp; (try with_reducible rfl))
  try simp only [Act.put, List.setIfInBounds_toArray, List.set_cons_zero, List.set_cons_succ]
  refine wpAnyH_take (i := 3) (oi := { dst := some 27, op := Op.fieldAddr 43 (Operand.tmp 26) 2, type := 0, pos := _, after := #[{ on := 2, ground := Ground.data }], guard := none }) (v := ?_) rfl (by kernel_rfl) (by kernel_rfl) (by kernel_rfl) (fun _ _ _ h => h) (Or.inl ⟨by rfl, ?_⟩) (by assumption) ?_
  rotate_left
  · ((intro w hSw); (try dsimp only at hSw); go_simp; (try with_reducible rfl))
  try simp only [Act.put, List.setIfInBounds_toArray, List.set_cons_zero, List.set_cons_succ]
  refine wpAnyH_take (i := 4) (oi := { dst := some 28, op := Op.load 41 (Operand.tmp 27), type := 41, pos := _, after := #[{ on := 3, ground := Ground.data }], guard := none }) (v := ?_) rfl (by kernel_rfl) (by kernel_rfl) (by kernel_rfl) (fun _ _ _ h => h) (Or.inl ⟨by rfl, ?_⟩) (by assumption) ?_
  rotate_left
  · ((intro w hSw); (try dsimp only at hSw); go_simp; (try with_reducible rfl))
  try simp only [Act.put, List.setIfInBounds_toArray, List.set_cons_zero, List.set_cons_succ]
  refine wpAnyH_take (i := 5) (oi := { dst := some 29, op := Op.move (Operand.tmp 1), type := 3, pos := _, after := #[], guard := none }) (v := ?_) rfl (by kernel_rfl) (by kernel_rfl) (by kernel_rfl) (fun _ _ _ h => h) (Or.inl ⟨by rfl, ?_⟩) (by assumption) ?_
  rotate_left
  · ((intro w hSw); (try dsimp only at hSw); go_simp; (try with_reducible rfl))
  try simp only [Act.put, List.setIfInBounds_toArray, List.set_cons_zero, List.set_cons_succ]
  refine wpAnyH_take (i := 6) (oi := { dst := some 30, op := Op.move (Operand.tmp 0), type := 28, pos := _, after := #[], guard := none }) (v := ?_) rfl (by kernel_rfl) (by kernel_rfl) (by kernel_rfl) (fun _ _ _ h => h) (Or.inl ⟨by rfl, ?_⟩) (by assumption) ?_
  rotate_left
  · ((intro w hSw); (try dsimp only at hSw); go_simp; (try with_reducible rfl))
  try simp only [Act.put, List.setIfInBounds_toArray, List.set_cons_zero, List.set_cons_succ]
  refine wpAnyH_take (i := 7) (oi := { dst := some 31, op := Op.nilCheck (Operand.tmp 30), type := 0, pos := _, after := #[{ on := 6, ground := Ground.data }], guard := none }) (v := ?_) rfl (by kernel_rfl) (by kernel_rfl) (by kernel_rfl) (fun _ _ _ h => h) (Or.inl ⟨by rfl, ?_⟩) (by assumption) ?_
  rotate_left
  · ((intro w hSw); (try dsimp only at hSw); go_simp; (try with_reducible rfl))
  try simp only [Act.put, List.setIfInBounds_toArray, List.set_cons_zero, List.set_cons_succ]
  refine wpAnyH_take (i := 8) (oi := { dst := some 32, op := Op.fieldAddr 43 (Operand.tmp 31) 1, type := 0, pos := _, after := #[{ on := 7, ground := Ground.data }], guard := none }) (v := ?_) rfl (by kernel_rfl) (by kernel_rfl) (by kernel_rfl) (fun _ _ _ h => h) (Or.inl ⟨by rfl, ?_⟩) (by assumption) ?_
  rotate_left
  · ((intro w hSw); (try dsimp only at hSw); go_simp; (try with_reducible rfl))
  try simp only [Act.put, List.setIfInBounds_toArray, List.set_cons_zero, List.set_cons_succ]
  refine wpAnyH_take (i := 9) (oi := { dst := some 33, op := Op.load 3 (Operand.tmp 32), type := 3, pos := _, after := #[{ on := 8, ground := Ground.data }], guard := none }) (v := ?_) rfl (by kernel_rfl) (by kernel_rfl) (by kernel_rfl) (fun _ _ _ h => h) (Or.inl ⟨by rfl, ?_⟩) (by assumption) ?_
  rotate_left
  · ((intro w hSw); (try dsimp only at hSw); go_simp; (try with_reducible rfl))
  try simp only [Act.put, List.setIfInBounds_toArray, List.set_cons_zero, List.set_cons_succ]
  refine wpAnyH_take (i := 10) (oi := { dst := some 34, op := Op.binOp BinOp.mul 3 (Operand.tmp 29) (Operand.tmp 33) 3, type := 3, pos := _, after := #[{ on := 5, ground := Ground.data }, { on := 9, ground := Ground.data }], guard := none }) (v := ?_) rfl (by kernel_rfl) (by kernel_rfl) (by kernel_rfl) (fun _ _ _ h => h) (Or.inl ⟨by rfl, ?_⟩) (by assumption) ?_
  rotate_left
  · ((intro w hSw); (try dsimp only at hSw); go_simp; (try with_reducible rfl))
  try simp only [Act.put, List.setIfInBounds_toArray, List.set_cons_zero, List.set_cons_succ]
  refine wpAnyH_take (i := 11) (oi := { dst := some 35, op := Op.move (Operand.tmp 2), type := 3, pos := _, after := #[], guard := none }) (v := ?_) rfl (by kernel_rfl) (by kernel_rfl) (by kernel_rfl) (fun _ _ _ h => h) (Or.inl ⟨by rfl, ?_⟩) (by assumption) ?_
  rotate_left
  · ((intro w hSw); (try dsimp only at hSw); go_simp; (try with_reducible rfl))
  try simp only [Act.put, List.setIfInBounds_toArray, List.set_cons_zero, List.set_cons_succ]
  refine wpAnyH_take (i := 12) (oi := { dst := some 36, op := Op.binOp BinOp.add 3 (Operand.tmp 34) (Operand.tmp 35) 3, type := 3, pos := _, after := #[{ on := 10, ground := Ground.data }, { on := 11, ground := Ground.data }], guard := none }) (v := ?_) rfl (by kernel_rfl) (by kernel_rfl) (by kernel_rfl) (fun _ _ _ h => h) (Or.inl ⟨by rfl, ?_⟩) (by assumption) ?_
  rotate_left
  · ((intro w hSw); (try dsimp only at hSw); go_simp; (try with_reducible rfl))
  try simp only [Act.put, List.setIfInBounds_toArray, List.set_cons_zero, List.set_cons_succ]
  refine wpAnyH_take (i := 13) (oi := { dst := some 37, op := Op.move (Operand.tmp 1), type := 3, pos := _, after := #[], guard := none }) (v := ?_) rfl (by kernel_rfl) (by kernel_rfl) (by kernel_rfl) (fun _ _ _ h => h) (Or.inl ⟨by rfl, ?_⟩) (by assumption) ?_
  rotate_left
  · ((intro w hSw); (try dsimp only at hSw); go_simp; (try with_reducible rfl))
  try simp only [Act.put, List.setIfInBounds_toArray, List.set_cons_zero, List.set_cons_succ]
  refine wpAnyH_take (i := 14) (oi := { dst := some 38, op := Op.move (Operand.tmp 0), type := 28, pos := _, after := #[], guard := none }) (v := ?_) rfl (by kernel_rfl) (by kernel_rfl) (by kernel_rfl) (fun _ _ _ h => h) (Or.inl ⟨by rfl, ?_⟩) (by assumption) ?_
  rotate_left
  · ((intro w hSw); (try dsimp only at hSw); go_simp; (try with_reducible rfl))
  try simp only [Act.put, List.setIfInBounds_toArray, List.set_cons_zero, List.set_cons_succ]
  refine wpAnyH_take (i := 15) (oi := { dst := some 39, op := Op.nilCheck (Operand.tmp 38), type := 0, pos := _, after := #[{ on := 14, ground := Ground.data }], guard := none }) (v := ?_) rfl (by kernel_rfl) (by kernel_rfl) (by kernel_rfl) (fun _ _ _ h => h) (Or.inl ⟨by rfl, ?_⟩) (by assumption) ?_
  rotate_left
  · ((intro w hSw); (try dsimp only at hSw); go_simp; (try with_reducible rfl))
  try simp only [Act.put, List.setIfInBounds_toArray, List.set_cons_zero, List.set_cons_succ]
  refine wpAnyH_take (i := 16) (oi := { dst := some 40, op := Op.fieldAddr 43 (Operand.tmp 39) 1, type := 0, pos := _, after := #[{ on := 15, ground := Ground.data }], guard := none }) (v := ?_) rfl (by kernel_rfl) (by kernel_rfl) (by kernel_rfl) (fun _ _ _ h => h) (Or.inl ⟨by rfl, ?_⟩) (by assumption) ?_
  rotate_left
  · ((intro w hSw); (try dsimp only at hSw); go_simp; (try with_reducible rfl))
  try simp only [Act.put, List.setIfInBounds_toArray, List.set_cons_zero, List.set_cons_succ]
  refine wpAnyH_take (i := 17) (oi := { dst := some 41, op := Op.load 3 (Operand.tmp 40), type := 3, pos := _, after := #[{ on := 16, ground := Ground.data }], guard := none }) (v := ?_) rfl (by kernel_rfl) (by kernel_rfl) (by kernel_rfl) (fun _ _ _ h => h) (Or.inl ⟨by rfl, ?_⟩) (by assumption) ?_
  rotate_left
  · ((intro w hSw); (try dsimp only at hSw); go_simp; (try with_reducible rfl))
  try simp only [Act.put, List.setIfInBounds_toArray, List.set_cons_zero, List.set_cons_succ]
  refine wpAnyH_take (i := 18) (oi := { dst := some 42, op := Op.binOp BinOp.mul 3 (Operand.tmp 37) (Operand.tmp 41) 3, type := 3, pos := _, after := #[{ on := 13, ground := Ground.data }, { on := 17, ground := Ground.data }], guard := none }) (v := ?_) rfl (by kernel_rfl) (by kernel_rfl) (by kernel_rfl) (fun _ _ _ h => h) (Or.inl ⟨by rfl, ?_⟩) (by assumption) ?_
  rotate_left
  · ((intro w hSw); (try dsimp only at hSw); go_simp; (try with_reducible rfl))
  try simp only [Act.put, List.setIfInBounds_toArray, List.set_cons_zero, List.set_cons_succ]
  refine wpAnyH_take (i := 19) (oi := { dst := some 43, op := Op.move (Operand.tmp 0), type := 28, pos := _, after := #[], guard := none }) (v := ?_) rfl (by kernel_rfl) (by kernel_rfl) (by kernel_rfl) (fun _ _ _ h => h) (Or.inl ⟨by rfl, ?_⟩) (by assumption) ?_
  rotate_left
  · ((intro w hSw); (try dsimp only at hSw); go_simp; (try with_reducible rfl))
  try simp only [Act.put, List.setIfInBounds_toArray, List.set_cons_zero, List.set_cons_succ]
  refine wpAnyH_take (i := 20) (oi := { dst := some 44, op := Op.nilCheck (Operand.tmp 43), type := 0, pos := _, after := #[{ on := 19, ground := Ground.data }], guard := none }) (v := ?_) rfl (by kernel_rfl) (by kernel_rfl) (by kernel_rfl) (fun _ _ _ h => h) (Or.inl ⟨by rfl, ?_⟩) (by assumption) ?_
  rotate_left
  · ((intro w hSw); (try dsimp only at hSw); go_simp; (try with_reducible rfl))
  try simp only [Act.put, List.setIfInBounds_toArray, List.set_cons_zero, List.set_cons_succ]
  refine wpAnyH_take (i := 21) (oi := { dst := some 45, op := Op.fieldAddr 43 (Operand.tmp 44) 1, type := 0, pos := _, after := #[{ on := 20, ground := Ground.data }], guard := none }) (v := ?_) rfl (by kernel_rfl) (by kernel_rfl) (by kernel_rfl) (fun _ _ _ h => h) (Or.inl ⟨by rfl, ?_⟩) (by assumption) ?_
  rotate_left
  · ((intro w hSw); (try dsimp only at hSw); go_simp; (try with_reducible rfl))
  try simp only [Act.put, List.setIfInBounds_toArray, List.set_cons_zero, List.set_cons_succ]
  refine wpAnyH_take (i := 22) (oi := { dst := some 46, op := Op.load 3 (Operand.tmp 45), type := 3, pos := _, after := #[{ on := 21, ground := Ground.data }], guard := none }) (v := ?_) rfl (by kernel_rfl) (by kernel_rfl) (by kernel_rfl) (fun _ _ _ h => h) (Or.inl ⟨by rfl, ?_⟩) (by assumption) ?_
  rotate_left
  · ((intro w hSw); (try dsimp only at hSw); go_simp; (try with_reducible rfl))
  try simp only [Act.put, List.setIfInBounds_toArray, List.set_cons_zero, List.set_cons_succ]
  refine wpAnyH_take (i := 23) (oi := { dst := some 47, op := Op.binOp BinOp.add 3 (Operand.tmp 42) (Operand.tmp 46) 3, type := 3, pos := _, after := #[{ on := 18, ground := Ground.data }, { on := 22, ground := Ground.data }], guard := none }) (v := ?_) rfl (by kernel_rfl) (by kernel_rfl) (by kernel_rfl) (fun _ _ _ h => h) (Or.inl ⟨by rfl, ?_⟩) (by assumption) ?_
  rotate_left
  · ((intro w hSw); (try dsimp only at hSw); go_simp; (try with_reducible rfl))
  try simp only [Act.put, List.setIfInBounds_toArray, List.set_cons_zero, List.set_cons_succ]
  refine wpAnyH_take (i := 24) (oi := { dst := some 48, op := Op.slice 41 (Operand.tmp 28) (some (Operand.tmp 36)) (some (Operand.tmp 47)) none, type := 41, pos := _, after := #[{ on := 4, ground := Ground.data }, { on := 12, ground := Ground.data }, { on := 23, ground := Ground.data }], guard := none }) (v := ?_) rfl (by kernel_rfl) (by kernel_rfl) (by kernel_rfl) (fun _ _ _ h => h) (Or.inl ⟨by rfl, ?_⟩) (by assumption) ?_
  rotate_left
  · ((intro w hSw); (try dsimp only at hSw); go_simp; (try with_reducible rfl))
  try simp only [Act.put, List.setIfInBounds_toArray, List.set_cons_zero, List.set_cons_succ]
  refine wpAnyH_ready (rs := [0]) (by kernel_rfl) (by simp) ?_
  refine (AllReadyH.cons (o := { dst := some 24, op := Op.buildSlice 41 0 #[], type := 41, pos := _, after := #[], guard := none }) rfl (fun K hK => ?_) AllReadyH.nil)
  go_simp
  refine hK.out _ _ ?_ (fun hHeld => ?_)
  · ((try dsimp only); exact ⟨d1, d2⟩)
  clear hK K
  try simp only [Act.put, List.setIfInBounds_toArray, List.set_cons_zero, List.set_cons_succ]
  refine wpAnyH_ready (rs := [25]) (by kernel_rfl) (by simp) ?_
  refine (AllReadyH.cons (o := { dst := some 49, op := Op.call { callee := Callee.builtin Builtin.append, args := #[Operand.tmp 24, Operand.tmp 48], argTypes := #[41, 41] }, type := 41, pos := _, after := #[{ on := 0, ground := Ground.data }, { on := 24, ground := Ground.data }], guard := none }) rfl (fun K hK => ?_) AllReadyH.nil)
  rw [if_pos (by rfl)]
  refine wp_append_fresh _ _ rfl _ _ _ _ rfl rfl N HN.out.symm HC0.out HC1.out ?_ ?_
  · exact HSRC.out
  intro cap2 w3 hcs hb3 hcap3
  have HCS := Lib.hid (show CS w3 w2.heap.size N from hcs)
  have HB3 := Lib.hid (show Below w2.heap.size w2 w3 from (by first | exact hb3 | exact below_undrew hb3))
  have HCAP := Lib.hid hcap3
  clear hcs hb3 hcap3
  refine hK.out _ _ ?_ (fun hHeld => ?_)
  · ((try dsimp only); exact ⟨cell_then HB3.out (Nat.le_refl _) d1, cell_then HB3.out (Nat.le_refl _) d2⟩)
  clear hK K
  try simp only [Act.put, List.setIfInBounds_toArray, List.set_cons_zero, List.set_cons_succ]
  refine wpAnyH_take (i := 26) (oi := { dst := some 10, op := Op.assign (Operand.tmp 49), type := 41, pos := _, after := #[{ on := 25, ground := Ground.data }, { on := 25, ground := Ground.chain }, { on := 0, ground := Ground.phase }, { on := 1, ground := Ground.phase }, { on := 2, ground := Ground.phase }, { on := 3, ground := Ground.phase }, { on := 4, ground := Ground.phase }, { on := 5, ground := Ground.phase }, { on := 6, ground := Ground.phase }, { on := 7, ground := Ground.phase }, { on := 8, ground := Ground.phase }, { on := 9, ground := Ground.phase }, { on := 10, ground := Ground.phase }, { on := 11, ground := Ground.phase }, { on := 12, ground := Ground.phase }, { on := 13, ground := Ground.phase }, { on := 14, ground := Ground.phase }, { on := 15, ground := Ground.phase }, { on := 16, ground := Ground.phase }, { on := 17, ground := Ground.phase }, { on := 18, ground := Ground.phase }, { on := 19, ground := Ground.phase }, { on := 20, ground := Ground.phase }, { on := 21, ground := Ground.phase }, { on := 22, ground := Ground.phase }, { on := 23, ground := Ground.phase }, { on := 24, ground := Ground.phase }, { on := 25, ground := Ground.phase }], guard := none }) (v := ?_) rfl (by kernel_rfl) (by kernel_rfl) (by kernel_rfl) (fun _ _ _ h => h) (Or.inl ⟨by rfl, ?_⟩) (by assumption) ?_
  rotate_left
  · ((intro w hSw); (try dsimp only at hSw); go_simp; (try with_reducible rfl))
  try simp only [Act.put, List.setIfInBounds_toArray, List.set_cons_zero, List.set_cons_succ]
  refine wpAnyH_done (by kernel_rfl) ?_ _
  have HA0' := Lib.hid (cell_then HB3.out (Nat.le_refl _) HA0.out)
  have HA1' := Lib.hid (cell_then HB3.out (Nat.le_refl _) HA1.out)
  have HA2' := Lib.hid (cell_then HB3.out (Nat.le_refl _) HA2.out)
  have HD1 := Lib.hid (cell_then HB3.out (Nat.le_refl _) d1)
  have HD2 := Lib.hid (cell_then HB3.out (Nat.le_refl _) d2)
  have HR3 := Lib.hid (HRB2.out.then_ HB3.out (Nat.le_refl _))
  have HB13 := Lib.hid (below_then HB2.out HB3.out HB2.out.size)
  have HL3 := Lib.hid (show w2.heap.size < w3.heap.size from cs_lt HCS.out (by rw [HN.out]; exact HC0.out))
  obtain ⟨b2, hb2⟩ : ∃ b2, b2 = w2.heap.size := ⟨_, rfl⟩
  rw [← hb2] at HL3 HCS
  have hb2d : w2.drew.heap.size = b2 := hb2.symm
  try rw [hb2d]
  try rw [← hb2]
  clear hb2d
  clear d1 d2 p0 p1 p2 hb2 hw2 HA0 HA1 HA2 HSRC HRB2 HB2
  go_wp2
  go_loopw [11, 12] (fun s11 s12 wr => ∃ j : Nat, j ≤ m ∧ s12 = .int .i64 j ∧ Hid (Ow wr w3.heap.size s11 (O.take j)) ∧ Hid (Below w3.heap.size w3 wr)) (fun _ s12 _ => m - (intOf s12).toNat)
  case atStart => exact ⟨0, Nat.zero_le _, rfl, Lib.hid (Ow.nil _ _), Lib.hid (Below.refl _ _)⟩
  case round =>
    obtain ⟨j, hj, rfl, HW, HK⟩ := hrel
    have HKW := Lib.hid (below_then (below_then HB1.out HB13.out HB1.out.size) HK.out (Nat.le_trans HB1.out.size HB13.out.size))
    by_cases hlt : j < m
    · have HKj := Lib.hid (show j + 1 ≤ m ∧ m - (j + 1) < m - j by omega)
      obtain ⟨z, v1, v1', hz⟩ := HCASE.out j hlt
      obtain ⟨u1, u2⟩ := succ_wrap hlt hm200
      have HTL := Lib.hid (show (O.take j).length ≤ 12000 by rw [List.length_take]; exact Nat.le_trans (Nat.min_le_left _ _) (Nat.le_trans (Nat.le_of_lt hlt) HC1.out))
      have a0 := cell_then HK.out (Nat.le_refl _) HA0'.out
      have a1 := cell_then HK.out (Nat.le_refl _) HA1'.out
      have a2 := cell_then HK.out (Nat.le_refl _) HA2'.out
      have HBL := Lib.hid (fun (w4 : World) (hb : Below wr.heap.size wr w4) (c : Ce) => (HW.out.below hb).below (below_one w4 (.cells #[.int .i32 c.r, .int .i64 c.fl, .int .i64 c.fg, .int .i64 c.bg, .int .i64 c.wd] 37)))
      have HBB := Lib.hid (fun (w4 : World) (hb : Below wr.heap.size wr w4) (o : Obj) => below_then (below_then HK.out hb HK.out.size) (below_one w4 o) (Nat.le_trans HK.out.size hb.size))
      clear hj
      rcases hz with ⟨z1, ho⟩ | ⟨z0, z1, ho⟩ | ⟨i, rfl, hi, c, hc, ho⟩
      · have HNX := Lib.hid (take_next ho)
        clear ho
        go_wp2_with (first
          | (go_at_call 35; (with_reducible refine (rBlankB af ag ab _).mono ?_); rintro e w4 ⟨rfl, hb4⟩; have HB4 := Lib.hid hb4; have HW4 := Lib.hid (HBL.out w4 hb4 (Gm.blankC ab)); have HC4 := Lib.hid (show RB (w4.alloc (.cells #[.int .i32 32, .int .i64 0, .int .i64 0, .int .i64 ab, .int .i64 0] 37)) w4.heap.size [Gm.blankC ab] from heap_last _ _ _); have HK4 := Lib.hid (HBB.out w4 hb4 (.cells #[.int .i32 32, .int .i64 0, .int .i64 0, .int .i64 ab, .int .i64 0] 37)); clear hb4)
          | (at_builtin; (refine wpList_append_one rfl _ _ rfl w3.heap.size _ _ rfl HW4.out w4.heap.size 1 (Gm.blankC ab) rfl HC4.out HTL.out HK4.out.size ?_); intro v' w5 hw5 hb5; have HW5 := Lib.hid (show Ow w5 w3.heap.size v' (O.take (j + 1)) by rw [HNX.out]; exact hw5); have HK5 := Lib.hid (HK4.out.trans hb5); clear hw5 hb5))
        go_roundw
        · exact ⟨j + 1, HKj.out.1, by go_num, HW5, HK5⟩
        · simp only [intOf]; exact HKj.out.2
      · have HNX := Lib.hid (take_next ho)
        clear ho
        go_wp2_with (first
          | (go_at_call 35; (with_reducible refine (rBlankB af ag ab _).mono ?_); rintro e w4 ⟨rfl, hb4⟩; have HB4 := Lib.hid hb4; have HW4 := Lib.hid (HBL.out w4 hb4 (Gm.blankC ab)); have HC4 := Lib.hid (show RB (w4.alloc (.cells #[.int .i32 32, .int .i64 0, .int .i64 0, .int .i64 ab, .int .i64 0] 37)) w4.heap.size [Gm.blankC ab] from heap_last _ _ _); have HK4 := Lib.hid (HBB.out w4 hb4 (.cells #[.int .i32 32, .int .i64 0, .int .i64 0, .int .i64 ab, .int .i64 0] 37)); clear hb4)
          | (at_builtin; (refine wpList_append_one rfl _ _ rfl w3.heap.size _ _ rfl HW4.out w4.heap.size 1 (Gm.blankC ab) rfl HC4.out HTL.out HK4.out.size ?_); intro v' w5 hw5 hb5; have HW5 := Lib.hid (show Ow w5 w3.heap.size v' (O.take (j + 1)) by rw [HNX.out]; exact hw5); have HK5 := Lib.hid (HK4.out.trans hb5); clear hw5 hb5))
        go_roundw
        · exact ⟨j + 1, HKj.out.1, by go_num, HW5, HK5⟩
        · simp only [intOf]; exact HKj.out.2
      · have HNX := Lib.hid (take_next ho)
        obtain ⟨x0, x1, x2, x3, x4⟩ := cs_fives HCS.out i c hc
        replace x0 := cell_then HK.out (Nat.le_refl _) x0
        replace x1 := cell_then HK.out (Nat.le_refl _) x1
        replace x2 := cell_then HK.out (Nat.le_refl _) x2
        replace x3 := cell_then HK.out (Nat.le_refl _) x3
        replace x4 := cell_then HK.out (Nat.le_refl _) x4
        obtain ⟨cr, cfl, cfg, cbg, cwd⟩ := c
        dsimp only at x0 x1 x2 x3 x4
        have HW4 := Lib.hid (HBL.out wr (Below.refl _ _) ⟨cr, cfl, cfg, cbg, cwd⟩)
        have HC4 := Lib.hid (show RB (wr.alloc (.cells #[.int .i32 cr, .int .i64 cfl, .int .i64 cfg, .int .i64 cbg, .int .i64 cwd] 37)) wr.heap.size [⟨cr, cfl, cfg, cbg, cwd⟩] from heap_last _ _ _)
        have HK4 := Lib.hid (HBB.out wr (Below.refl _ _) (.cells #[.int .i32 cr, .int .i64 cfl, .int .i64 cfg, .int .i64 cbg, .int .i64 cwd] 37))
        have hii : (i : Int) < (m : Int) := Int.ofNat_lt.2 hi
        clear ho hc a0 a1 a2
        go_wp2_with (at_builtin; (refine wpList_append_one rfl _ _ rfl w3.heap.size _ _ rfl HW4.out wr.heap.size 1 ⟨cr, cfl, cfg, cbg, cwd⟩ rfl HC4.out HTL.out HK4.out.size ?_); intro v' w5 hw5 hb5; have HW5 := Lib.hid (show Ow w5 w3.heap.size v' (O.take (j + 1)) by rw [HNX.out]; exact hw5); have HK5 := Lib.hid (HK4.out.trans hb5); clear hw5 hb5)
        exact ⟨⟨j + 1, HKj.out.1, by go_num, HW5, HK5⟩, by simp only [intOf]; exact HKj.out.2⟩
    · obtain rfl : j = m := by omega
      have hW := HW.out
      rw [List.take_of_length_le (Nat.le_of_eq HO.out)] at hW
      obtain ⟨g, cg, hv, hg, hsrc⟩ := hW.slice (by rw [HO.out]; exact HC0.out)
      rw [HO.out] at hv
      subst hv
      have p1 := cell_then HK.out (Nat.le_refl _) HD1.out
      have p2 := cell_then HK.out (Nat.le_refl _) HD2.out
      have HRd := Lib.hid (show RB wr.drew b (P ++ N ++ Z) from RB.drew (HR3.out.then_ HK.out (Nat.le_refl _)))
      have HX := Lib.hid (show O.length = N.length by rw [HO.out, HN.out])
      have HX2 := Lib.hid (show O.length = Nat.min j (nl - s) by rw [HO.out]; exact HMIN.out)
      have HPp := Lib.hid (show 0 < O.length → some (⟨b, s * 5, none⟩ : Addr) = some ⟨b, P.length * 5, none⟩ ∧ ∃ ad, some (⟨g, 0, none⟩ : Addr) = some ad ∧ ∀ j v, (flat O)[j]? = some v → wr.drew.cell? (ad.add j) = some v from fun _ => ⟨by rw [HQ.out], _, rfl, hsrc⟩)
      clear hW hg hsrc hj hlt HW
      go_wp2
      go_still_tail 14, (by kernel_rfl)
      change wpList _ _ _ _ _ wr.drew
      go_wp2_with (first
        | ((with_reducible refine wpList_copy_cells rfl (.tmp 99) (.tmp 100) rfl _ _ _ _ _ _ rfl rfl b P _ _ _ HRd.out HX.out HX2.out HPp.out ?_); intro w5 hr5 hk5; have HR5 := Lib.hid (show RB w5 b (A ++ (List.take k M ++ O) ++ Z) by rw [← HJN.out]; exact hr5); have HK5 := Lib.hid (show Kp b b wr w5 from ⟨hk5.os, hk5.tape, hk5.output, hk5.size, hk5.block⟩); clear hr5 hk5)
        | (go_at_call 55; (with_reducible refine (HMEND.out _ (HX0.out _ _ HKW.out HR5.out HK5.out)).mono ?_); rintro e w6 ⟨rfl, hr6, hk6⟩; have HR6 := Lib.hid hr6; have HK6 := Lib.hid (HK5.out.trans hk6 (.inl rfl)); clear hr6 hk6))
      go_end0
      exact ⟨rfl, HR6.out, (Kp.of (below_then HB.out HKW.out HB.out.size)).trans HK6.out (.inl rfl)⟩
/-- Shift, of anything. -/
theorem shiftX (p b R C : Nat) (row col n af ag ab : Int) (L : List Ce) (w : World) (h : X w p b R C L) (hi : Iv R C L) :
    Calls Try.prog 39 #[.pointer (some ⟨p, 0, none⟩), .int .i64 row, .int .i64 col, .int .i64 n, .agg #[.int .i64 af, .int .i64 ag, .int .i64 ab]] w (XQ unit w p b R C (shiftL R C L row col n af ag ab)) := by
  cases hz : (hasB R C row col && Cell.attrB af ag ab) with
  | false =>
    have e : shiftL R C L row col n af ag ab = L := by unfold shiftL; rw [hz]; rfl
    rw [e]
    exact (shiftNoX p b R C row col n af ag ab L w h _ rfl _ rfl hz).mono fun e w' ⟨h1, h2⟩ => XQ.of_below h h1 h2
  | true =>
    have e : shiftL R C L row col n af ag ab = L.take (row.toNat * C) ++ mend (shiftRow C (Gq.rowAt L (row.toNat * C) C) col.toNat n (Gm.blankC ab)) ++ L.drop (row.toNat * C + C) := by unfold shiftL; rw [hz]; rfl
    rw [e]
    simp only [Bool.and_eq_true] at hz
    obtain ⟨h1, h3⟩ := hz
    obtain ⟨a1, a2, a3, a4⟩ := hasB_iff.1 h1
    obtain ⟨r, rfl⟩ := Int.eq_ofNat_of_zero_le a1
    obtain ⟨k, rfl⟩ := Int.eq_ofNat_of_zero_le a3
    rw [Int.toNat_natCast, Int.toNat_natCast]
    have hr : r < R := Int.ofNat_lt.1 a2
    have hk : k < C := Int.ofNat_lt.1 a4
    have hq := row_nums h.len hr
    have hlen := Gu.rowAt_len h.len hr
    have hsp : L = L.take (r * C) ++ Gq.rowAt L (r * C) C ++ L.drop (r * C + C) := row_split hq
    have hA : (L.take (r * C)).length = r * C := by rw [List.length_take]; exact Nat.min_eq_left (by omega)
    have hmay := Pr.rowAt_may hi (r * C)
    have hh := h
    rw [hsp] at hh
    have hd := held_b n (C - k)
    have hdl : ((Gq.rowAt L (r * C) C).drop k).length = C - k := by rw [List.length_drop, hlen]
    have hsl : (slideL ((Gq.rowAt L (r * C) C).drop k) (-(heldZ n ((C - k : Nat) : Int))) (Gm.blankC ab)).length = C - k := by
      rw [slideL_len _ _ _ (by rw [hdl]; exact Int.neg_le_neg hd.2) (by rw [hdl]; exact neg_of hd.1), hdl]
    have hwd : ∀ c ∈ shiftRow C (Gq.rowAt L (r * C) C) k n (Gm.blankC ab), c.wd = 0 ∨ c.wd = 1 ∨ c.wd = 2 := by
      intro c hc
      unfold shiftRow at hc
      rcases List.mem_append.1 hc with hc | hc
      · exact may_wds (hmay c (List.mem_of_mem_take hc))
      · exact may_wds (Pr.may_slide (fun x hx => hmay x (List.mem_of_mem_drop hx)) _ (Pr.may_blank h3) c hc)
    have hsr : (shiftRow C (Gq.rowAt L (r * C) C) k n (Gm.blankC ab)).length = C := by
      unfold shiftRow; rw [List.length_append, hsl, List.length_take, hlen, Nat.min_eq_left (Nat.le_of_lt hk)]; exact Nat.add_sub_cancel' (Nat.le_of_lt hk)
    refine (shiftYesX p b R C r k n af ag ab _ _ _ w hh hr hk hA hlen hwd h3).mono fun e w' hq' => XQ.of_row h hq' ?_
    rw [List.length_append, List.length_append, mend_length, hsr, ← hlen, ← List.length_append, ← List.length_append, hlen, ← hsp]
end Go.Proofs.Ytfdjmlncdbpkgaa.Xv
