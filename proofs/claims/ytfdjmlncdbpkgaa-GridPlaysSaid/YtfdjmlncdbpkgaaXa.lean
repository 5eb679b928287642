/- The document's grid in memory. -/
import Derived.Test.YtfdjmlncdbpkgaaPr
set_option linter.unusedVariables false
namespace Go.Proofs.Ytfdjmlncdbpkgaa.Xa
open Go Go.RowKit Kit Gm Gv Fl Me Cp Sl Gg Gh Gp Gq Gk

/-- the document's grid at p, its cells in block b, known whole. -/
structure X (w : World) (p b : Nat) (R C : Nat) (L : List Ce) : Prop where
  obj : w.heap[p]? = some (.cells #[.int .i64 (R : Int), .int .i64 (C : Int), .slice (some ⟨b, 0, none⟩) L.length L.length] 43 (0, 0))
  row : RB w b L
  len : L.length = R * C
  r1 : 1 ≤ R
  r2 : R ≤ 60
  c1 : 1 ≤ C
  c2 : C ≤ 200
/-- the same, to be read. -/
structure XV (w : World) (p b : Nat) (R C cap : Nat) (L : List Ce) : Prop where
  obj : w.heap[p]? = some (.cells #[.int .i64 (R : Int), .int .i64 (C : Int), .slice (some ⟨b, 0, none⟩) L.length cap] 43 (0, 0))
  cell : CS w b L
  len : L.length = R * C
  r1 : 1 ≤ R
  r2 : R ≤ 60
  c1 : 1 ≤ C
  c2 : C ≤ 200
  cap1 : L.length ≤ cap
section
variable {w w1 : World} {p b R C cap : Nat} {L : List Ce}
theorem X.small (h : X w p b R C L) : L.length ≤ 12000 := by rw [h.len]; exact Nat.mul_le_mul h.r2 h.c2
theorem XV.small (h : XV w p b R C cap L) : L.length ≤ 12000 := by rw [h.len]; exact Nat.mul_le_mul h.r2 h.c2
theorem X.view (h : X w p b R C L) : XV w p b R C L.length L := ⟨h.obj, fun j hj i hi => h.row.cell j hj i hi, h.len, h.r1, h.r2, h.c1, h.c2, Nat.le_refl _⟩
theorem X.p_lt (h : X w p b R C L) : p < w.heap.size := obj_lt h.obj
theorem X.b_lt (h : X w p b R C L) : b < w.heap.size := h.row.lt
theorem X.ne (h : X w p b R C L) : p ≠ b := kind_ne h.obj h.row (by decide)
theorem XV.pos (h : XV w p b R C cap L) : 0 < L.length := by rw [h.len]; exact Nat.mul_pos h.r1 h.c1
theorem XV.b_lt (h : XV w p b R C cap L) : b < w.heap.size :=
  World.block_lt_of_cell? w _ (show w.cell? ⟨b, 0 * 5 + 0, none⟩ = some (.int .i32 (L[0]'h.pos).r) from h.cell 0 h.pos 0 (by omega))
theorem X.then_ {B : Nat} (h : X w p b R C L) (hb : Below B w w1) (hB : w.heap.size ≤ B) : X w1 p b R C L :=
  ⟨(hb.block p (Nat.lt_of_lt_of_le h.p_lt hB)).trans h.obj, h.row.then_ hb hB, h.len, h.r1, h.r2, h.c1, h.c2⟩
theorem XV.then_ {B : Nat} (h : XV w p b R C cap L) (hb : Below B w w1) (hB : w.heap.size ≤ B) : XV w1 p b R C cap L :=
  ⟨(hb.block p (Nat.lt_of_lt_of_le (obj_lt h.obj) hB)).trans h.obj, fun j hj i hi => by rw [hb.cell (p := ⟨b, j * 5 + i, none⟩) (Nat.lt_of_lt_of_le h.b_lt hB)]; exact h.cell j hj i hi, h.len, h.r1, h.r2, h.c1, h.c2, h.cap1⟩
theorem X.drew (h : X w p b R C L) : X w.drew p b R C L := ⟨h.obj, h.row, h.len, h.r1, h.r2, h.c1, h.c2⟩
theorem X.drewN (h : X w p b R C L) (n : Nat) : X (w.drewN n) p b R C L := ⟨h.obj, h.row, h.len, h.r1, h.r2, h.c1, h.c2⟩
theorem XV.drewN (h : XV w p b R C cap L) (n : Nat) : XV (w.drewN n) p b R C cap L := ⟨h.obj, h.cell, h.len, h.r1, h.r2, h.c1, h.c2, h.cap1⟩
/-- other cells in the row. -/
theorem X.row_new {L' : List Ce} (h : X w p b R C L) (hr : RB w1 b L') (hk : Kp b b w w1) (hl : L'.length = L.length) : X w1 p b R C L' :=
  ⟨by rw [hl]; exact hk.row h.obj h.ne h.ne, hr, by rw [hl]; exact h.len, h.r1, h.r2, h.c1, h.c2⟩
theorem X.other {k : Nat} (h : X w p b R C L) (hk : Kp k k w w1) (h1 : p ≠ k) (h2 : b ≠ k) : X w1 p b R C L :=
  ⟨hk.row h.obj h1 h1, hk.row h.row h2 h2, h.len, h.r1, h.r2, h.c1, h.c2⟩
end
set_option maxRecDepth 100000 in
theorem thereC (p b R C cap : Nat) (L : List Ce) (row col : Int) (w : World) (h : XV w p b R C cap L) : Calls Try.prog 45 #[.pointer (some ⟨p, 0, none⟩), .int .i64 row, .int .i64 col] w fun e w' => e = .returned (.bool (hasB R C row col)) ∧ w = w' := by
  obtain ⟨c0, c1, c2⟩ := three h.obj
  clear h
  by_cases h1 : 0 ≤ row
  · by_cases h2 : row < R
    · by_cases h3 : 0 ≤ col
      · by_cases h4 : col < C
        · go_enter Try.func45, Try.ntmps45
          go_wp2
          go_ret
          exact ⟨ret_bool (has_t ⟨h1, h2, h3, h4⟩), rfl⟩
        · go_enter Try.func45, Try.ntmps45
          go_wp2
          go_ret
          exact ⟨ret_bool (has_f (by omega)), rfl⟩
      · go_enter Try.func45, Try.ntmps45
        go_wp2
        go_ret
        exact ⟨ret_bool (has_f (by omega)), rfl⟩
    · go_enter Try.func45, Try.ntmps45
      go_wp2
      go_ret
      exact ⟨ret_bool (has_f (by omega)), rfl⟩
  · go_enter Try.func45, Try.ntmps45
    go_wp2
    go_ret
    exact ⟨ret_bool (has_f (by omega)), rfl⟩
theorem sizeC (rows cols : Int) (w : World) : Calls Try.prog 34 #[.int .i64 rows, .int .i64 cols] w fun e w' => e = .returned (.bool (sizeB rows cols)) ∧ w = w' := by
  by_cases h1 : 1 ≤ rows
  · by_cases h2 : rows ≤ 60
    · by_cases h3 : 1 ≤ cols
      · by_cases h4 : cols ≤ 200
        · go_enter Try.func34, Try.ntmps34
          go_wp2
          go_ret
          exact ⟨ret_bool (size_t ⟨h1, h2, h3, h4⟩), rfl⟩
        · go_enter Try.func34, Try.ntmps34
          go_wp2
          go_ret
          exact ⟨ret_bool (size_f (by omega)), rfl⟩
      · go_enter Try.func34, Try.ntmps34
        go_wp2
        go_ret
        exact ⟨ret_bool (size_f (by omega)), rfl⟩
    · go_enter Try.func34, Try.ntmps34
      go_wp2
      go_ret
      exact ⟨ret_bool (size_f (by omega)), rfl⟩
  · go_enter Try.func34, Try.ntmps34
    go_wp2
    go_ret
    exact ⟨ret_bool (size_f (by omega)), rfl⟩
theorem rBlankB (f fg bg : Int) (w : World) : Calls Try.prog 35 #[.agg #[.int .i64 f, .int .i64 fg, .int .i64 bg]] w fun e w' => e = .returned (.agg #[.int .i32 32, .int .i64 0, .int .i64 0, .int .i64 bg, .int .i64 0]) ∧ Below w.heap.size w w' :=
  (Cell.rBlank f fg bg w).mono fun e w' ⟨h1, h2⟩ => ⟨h1, by rw [← h2]; exact ((Below.refl _ w).alloc (Nat.le_refl _) _).alloc (by simp) _⟩
theorem rAttrB (f g k : Int) (v : Bool) (hv : Cell.attrB f g k = v) (w : World) : Calls Try.prog 56 #[.agg #[.int .i64 f, .int .i64 g, .int .i64 k]] w fun e w' => e = .returned (.bool v) ∧ Below w.heap.size w w' :=
  (Cell.rMayAttr f g k w).mono fun e w' ⟨h1, h2⟩ => ⟨by rw [h1, hv], by rw [← h2]; exact (Below.refl _ w).alloc (Nat.le_refl _) _⟩
theorem rMayK (c : Ce) (v : Bool) (w : World) (h : mayC c = v) : Calls Try.prog 54 #[cvA c] w fun e w' => e = .returned (.bool v) ∧ Below w.heap.size w w' :=
  (Cell.rMay c.r c.fl c.fg c.bg c.wd w).mono fun e w' ⟨h1, h2⟩ => ⟨by rw [h1, ← h]; rfl, by rw [← h2]; exact ((Below.refl _ w).alloc (Nat.le_refl _) _).alloc (by simp) _⟩
set_option maxRecDepth 100000 in
/-- a space of such looks. -/
theorem spaceB (f fg bg : Int) (w : World) : Calls Try.prog 58 #[.agg #[.int .i64 f, .int .i64 fg, .int .i64 bg]] w fun e w' => e = .returned (.agg #[.int .i32 32, .int .i64 f, .int .i64 fg, .int .i64 bg, .int .i64 0]) ∧ Below w.heap.size w w' := by
  go_enter Try.func58, Try.ntmps58
  go_wp2
  exact bodyPost_ret (v := .agg #[.int .i32 32, .int .i64 f, .int .i64 fg, .int .i64 bg, .int .i64 0]) (by simp [results, Try.results58, go_sem]) rfl ⟨rfl, ((Below.refl _ w).alloc (Nat.le_refl _) _).alloc (by simp) _⟩
/-- the numbers of a place. -/
theorem place_nums {R C r k : Nat} {n : Nat} (hn : n = R * C) (hr : r < R) (hk : k < C) (hs : n ≤ 12000) : ∃ q s : Nat, q = r * C ∧ s = q + k ∧ s < n ∧ IntKind.i64.wrap ((r : Int) * (C : Int)) = (q : Int) ∧ wrap64 ((r : Int) * (C : Int)) = (q : Int) ∧ IntKind.i64.wrap ((q : Int) + (k : Int)) = (s : Int) ∧ wrap64 ((q : Int) + (k : Int)) = (s : Int) := by
  have h1 := Nat.mul_le_mul_right C (show r + 1 ≤ R from hr)
  rw [Nat.add_mul] at h1
  have hlt : r * C + k < n := by omega
  have hcm : (r : Int) * (C : Int) = ((r * C : Nat) : Int) := (Int.natCast_mul r C).symm
  rw [hcm]
  clear hcm h1 hr hk hn
  generalize r * C = q at *
  have hq : (q : Int) < 12001 := by omega
  have hqk : (q : Int) + (k : Int) < 12001 := by omega
  have e1 := wr_of (x := (q : Int)) (y := (q : Int)) (by omega) (by omega) rfl
  have e2 := wr_of (x := (q : Int) + (k : Int)) (y := ((q + k : Nat) : Int)) (by omega) (by omega) (by omega)
  exact ⟨q, q + k, rfl, rfl, hlt, e1.1, e1.2, e2.1, e2.2⟩
set_option maxRecDepth 100000 in
theorem atYes (p b R C cap r c : Nat) (L : List Ce) (w : World) (h : XV w p b R C cap L) (hr : r < R) (hc : c < C) (x : Ce) (hx : L[r * C + c]? = some x) :
    Calls Try.prog 20 #[.pointer (some ⟨p, 0, none⟩), .int .i64 (r : Int), .int .i64 (c : Int)] w fun e w' => e = .returned (cvA x) ∧ Below w.heap.size w w' := by
  have hj := at_idx h.len hr hc
  have hxe : L[r * C + c] = x := by rw [List.getElem?_eq_getElem hj] at hx; exact Option.some.inj hx
  have HB := Lib.hid (below_one w (.cells #[.int .i32 0, .int .i64 0, .int .i64 0, .int .i64 0, .int .i64 0] 37))
  have hv := h.then_ HB.out (Nat.le_refl _)
  have hzz : hasB R C (r : Int) (c : Int) = true := (has_t (by omega)).symm
  have hsm := h.small
  have hf := heap_last w #[.int .i32 0, .int .i64 0, .int .i64 0, .int .i64 0, .int .i64 0] 37
  generalize hw0 : w.alloc (.cells #[.int .i32 0, .int .i64 0, .int .i64 0, .int .i64 0, .int .i64 0] 37) = w0 at *
  have hd : CS w0 b L := hv.cell
  have x0 := hd (r * C + c) hj 0 (by omega)
  have x1 := hd (r * C + c) hj 1 (by omega)
  have x2 := hd (r * C + c) hj 2 (by omega)
  have x3 := hd (r * C + c) hj 3 (by omega)
  have x4 := hd (r * C + c) hj 4 (by omega)
  rw [hxe] at x0 x1 x2 x3 x4
  obtain ⟨q, s, hq, hs, hsn, e1, e2, e3, e4⟩ := place_nums h.len hr hc hsm
  rw [show r * C + c = s by omega] at x0 x1 x2 x3 x4
  have y0 : w0.drew.cell? ⟨b, s * 5, none⟩ = some (.int .i32 x.r) := x0
  have y1 : w0.drew.cell? ⟨b, s * 5 + 1, none⟩ = some (.int .i64 x.fl) := x1
  have y2 : w0.drew.cell? ⟨b, s * 5 + 2, none⟩ = some (.int .i64 x.fg) := x2
  have y3 : w0.drew.cell? ⟨b, s * 5 + 3, none⟩ = some (.int .i64 x.bg) := x3
  have y4 : w0.drew.cell? ⟨b, s * 5 + 4, none⟩ = some (.int .i64 x.wd) := x4
  have H45 := Lib.hid (show Calls Try.prog 45 #[.pointer (some ⟨p, 0, none⟩), .int .i64 (r : Int), .int .i64 (c : Int)] w0 fun e w' => e = .returned (.bool true) ∧ w0 = w' by rw [← hzz]; exact thereC _ _ _ _ _ _ _ _ _ hv)
  obtain ⟨p0, p1, p2⟩ := three hv.obj
  have HF := Lib.hid (show RB w0.drew w.heap.size ([] ++ zeroC :: []) from hf)
  have HB0 := Lib.hid HB.out
  clear h hv hx hxe hj hzz hf hq hs hd x0 x1 x2 x3 x4 hr hc HB
  generalize L.length = n at *
  go_enter Try.func20, Try.ntmps20
  go_wp2_with (go_at_call 45; (with_reducible refine H45.out.mono ?_); rintro e w' ⟨rfl, rfl⟩)
  go_still_tail 14, (by kernel_rfl)
  change wpList _ _ _ _ _ w0.drew
  go_wp2_with ((with_reducible refine wpList_store_cell rfl _ _ rfl w.heap.size 0 x rfl rfl HF.out q0 ?_); intro w2 hw2; have HF2 := Lib.hid (show RB w2 w.heap.size ([] ++ x :: []) by rw [← hw2]; exact HF.out.put _); have HB2 := Lib.hid (show Below w.heap.size w w2 from by rw [← hw2]; exact below_setRow (below_drew HB0.out) (Nat.le_refl _) _); clear hw2)
  obtain ⟨f0, f1, f2, f3, f4⟩ := five (show w2.heap[w.heap.size]? = some (.cells #[.int .i32 x.r, .int .i64 x.fl, .int .i64 x.fg, .int .i64 x.bg, .int .i64 x.wd] 37 (0, 0)) from HF2.out)
  exact bodyPost_ret (v := cvA x) (by simp [results, Try.results20, go_sem, f0, f1, f2, f3, f4]) rfl ⟨rfl, HB2.out⟩
set_option maxRecDepth 100000 in
theorem atNo (p b R C cap : Nat) (row col : Int) (L : List Ce) (w : World) (h : XV w p b R C cap L) (hz : hasB R C row col = false) :
    Calls Try.prog 20 #[.pointer (some ⟨p, 0, none⟩), .int .i64 row, .int .i64 col] w fun e w' => e = .returned (cvA ⟨0, 0, 0, 0, 0⟩) ∧ Below w.heap.size w w' := by
  have HB := Lib.hid (below_one w (.cells #[.int .i32 0, .int .i64 0, .int .i64 0, .int .i64 0, .int .i64 0] 37))
  have HV := Lib.hid (h.then_ HB.out (Nat.le_refl _))
  have HZ := Lib.hid hz
  have hf := heap_last w #[.int .i32 0, .int .i64 0, .int .i64 0, .int .i64 0, .int .i64 0] 37
  generalize hw0 : w.alloc (.cells #[.int .i32 0, .int .i64 0, .int .i64 0, .int .i64 0, .int .i64 0] 37) = w0 at *
  have h45 : Calls Try.prog 45 #[.pointer (some ⟨p, 0, none⟩), .int .i64 row, .int .i64 col] w0 fun e w' => e = .returned (.bool false) ∧ w0 = w' := by rw [← HZ.out]; exact thereC _ _ _ _ _ _ _ _ _ HV.out
  have H45 := Lib.hid h45
  have HF := Lib.hid (show RB w0 w.heap.size ([] ++ zeroC :: []) from hf)
  have HB0 := Lib.hid (show Below w.heap.size w w0 from HB.out)
  clear h45 h hf HB hz
  go_enter Try.func20, Try.ntmps20
  go_wp2_with (first
    | (go_at_call 45; (with_reducible refine H45.out.mono ?_); rintro e w' ⟨rfl, rfl⟩)
    | ((with_reducible refine wpList_store_cell rfl _ _ rfl w.heap.size 0 ⟨0, 0, 0, 0, 0⟩ rfl rfl HF.out q0 ?_); intro w2 hw2; have HF2 := Lib.hid (show RB w2 w.heap.size ([] ++ ⟨0, 0, 0, 0, 0⟩ :: []) by rw [← hw2]; exact HF.out.put _); have HB2 := Lib.hid (show Below w.heap.size w w2 from by rw [← hw2]; exact below_setRow HB0.out (Nat.le_refl _) _); clear hw2))
  obtain ⟨f0, f1, f2, f3, f4⟩ := five (show w2.heap[w.heap.size]? = some (.cells #[.int .i32 0, .int .i64 0, .int .i64 0, .int .i64 0, .int .i64 0] 37 (0, 0)) from HF2.out)
  exact bodyPost_ret (v := cvA ⟨0, 0, 0, 0, 0⟩) (by simp [results, Try.results20, go_sem, f0, f1, f2, f3, f4]) rfl ⟨rfl, HB2.out⟩
/-- At, of any place. -/
theorem atK (p b R C cap : Nat) (row col : Int) (L : List Ce) (w : World) (h : XV w p b R C cap L) (x : Ce) (hx : x = atC R C L row col) :
    Calls Try.prog 20 #[.pointer (some ⟨p, 0, none⟩), .int .i64 row, .int .i64 col] w fun e w' => e = .returned (cvA x) ∧ Below w.heap.size w w' := by
  cases hz : hasB R C row col
  · have : x = ⟨0, 0, 0, 0, 0⟩ := by rw [hx]; unfold atC; rw [hz]; rfl
    rw [this]
    exact atNo p b R C cap row col L w h hz
  · have hz' : 0 ≤ row ∧ row < R ∧ 0 ≤ col ∧ col < C := by simpa [hasB] using hz
    obtain ⟨r, rfl⟩ := Int.eq_ofNat_of_zero_le hz'.1
    obtain ⟨c, rfl⟩ := Int.eq_ofNat_of_zero_le hz'.2.2.1
    have hr : r < R := by omega
    have hc : c < C := by omega
    refine atYes p b R C cap r c L w h hr hc x ?_
    have hj := at_idx h.len hr hc
    rw [hx]; unfold atC; rw [hz, if_pos rfl, Int.toNat_natCast, Int.toNat_natCast, List.getD_eq_getElem?_getD, List.getElem?_eq_getElem hj]; rfl
end Go.Proofs.Ytfdjmlncdbpkgaa.Xa
