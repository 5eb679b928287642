/- A grid in memory; what only reads it. -/
import Derived.Test.YtfdjmlncdbpkgaaSl
set_option linter.unusedVariables false
namespace Go.Proofs.Ytfdjmlncdbpkgaa.Gg
open Go Go.RowKit Kit Gm Gv Fl Me Cp Sl

/-- a grid of R rows and C columns at p, its cells in block b (to be read). -/
structure GV (w : World) (p b : Nat) (R C cap : Nat) (L : List Ce) : Prop where
  obj : w.heap[p]? = some (.cells #[.int .i64 (R : Int), .int .i64 (C : Int), .slice (some ⟨b, 0, none⟩) L.length cap] 65 (0, 0))
  cell : ∀ j, (h : j < L.length) → ∀ i, i < 5 → w.cell? ⟨b, j * 5 + i, none⟩ = (cv L[j])[i]?
  len : L.length = R * C
  r1 : 1 ≤ R
  r2 : R ≤ 60
  c1 : 1 ≤ C
  c2 : C ≤ 200
  cap1 : L.length ≤ cap
  cap2 : cap ≤ 9223372036854775807
/-- the same, its cells' block known whole. -/
structure G (w : World) (p b : Nat) (R C : Nat) (L : List Ce) : Prop where
  obj : w.heap[p]? = some (.cells #[.int .i64 (R : Int), .int .i64 (C : Int), .slice (some ⟨b, 0, none⟩) L.length L.length] 65 (0, 0))
  row : RB w b L
  len : L.length = R * C
  r1 : 1 ≤ R
  r2 : R ≤ 60
  c1 : 1 ≤ C
  c2 : C ≤ 200
theorem G.small {w : World} {p b R C : Nat} {L : List Ce} (h : G w p b R C L) : L.length ≤ 12000 := by
  rw [h.len]; exact Nat.mul_le_mul h.r2 h.c2
theorem GV.small {w : World} {p b R C cap : Nat} {L : List Ce} (h : GV w p b R C cap L) : L.length ≤ 12000 := by
  rw [h.len]; exact Nat.mul_le_mul h.r2 h.c2
theorem G.view {w : World} {p b R C : Nat} {L : List Ce} (h : G w p b R C L) : GV w p b R C L.length L :=
  ⟨h.obj, fun j hj i hi => h.row.cell j hj i hi, h.len, h.r1, h.r2, h.c1, h.c2, Nat.le_refl _, by have := h.small; omega⟩
theorem obj_lt {w : World} {k : Nat} {o : Obj} (h : w.heap[k]? = some o) : k < w.heap.size := (Array.getElem?_eq_some_iff.1 h).1
theorem G.p_lt {w : World} {p b R C : Nat} {L : List Ce} (h : G w p b R C L) : p < w.heap.size := obj_lt h.obj
theorem G.b_lt {w : World} {p b R C : Nat} {L : List Ce} (h : G w p b R C L) : b < w.heap.size := h.row.lt
theorem kind_ne {w : World} {p b : Nat} {c d : Array Value} {T U : TypeId} {f g : Nat × Nat} (h : w.heap[p]? = some (.cells c T f)) (k : w.heap[b]? = some (.cells d U g)) (hTU : T ≠ U) : p ≠ b := by
  rintro rfl
  rw [h] at k
  injection k with k; injection k with _ k; exact hTU k
theorem G.ne {w : World} {p b R C : Nat} {L : List Ce} (h : G w p b R C L) : p ≠ b := kind_ne h.obj h.row (by decide)
theorem GV.pos {w : World} {p b R C cap : Nat} {L : List Ce} (h : GV w p b R C cap L) : 0 < L.length := by
  rw [h.len]; exact Nat.mul_pos h.r1 h.c1
theorem GV.b_lt {w : World} {p b R C cap : Nat} {L : List Ce} (h : GV w p b R C cap L) : b < w.heap.size :=
  World.block_lt_of_cell? w _ (show w.cell? ⟨b, 0 * 5 + 0, none⟩ = some (.int .i32 (L[0]'h.pos).r) from h.cell 0 h.pos 0 (by omega))
theorem GV.then_ {w w1 : World} {B p b R C cap : Nat} {L : List Ce} (h : GV w p b R C cap L) (hb : Below B w w1) (hB : w.heap.size ≤ B) : GV w1 p b R C cap L :=
  ⟨(hb.block p (Nat.lt_of_lt_of_le (obj_lt h.obj) hB)).trans h.obj, fun j hj i hi => by rw [hb.cell (p := ⟨b, j * 5 + i, none⟩) (Nat.lt_of_lt_of_le h.b_lt hB)]; exact h.cell j hj i hi, h.len, h.r1, h.r2, h.c1, h.c2, h.cap1, h.cap2⟩
theorem G.then_ {w w1 : World} {B p b R C : Nat} {L : List Ce} (h : G w p b R C L) (hb : Below B w w1) (hB : w.heap.size ≤ B) : G w1 p b R C L :=
  ⟨(hb.block p (Nat.lt_of_lt_of_le h.p_lt hB)).trans h.obj, h.row.then_ hb hB, h.len, h.r1, h.r2, h.c1, h.c2⟩
theorem below_one (w : World) (o : Obj) : Below w.heap.size w (w.alloc o) := (Below.refl _ w).alloc (Nat.le_refl _) o
theorem G.alloc {w : World} {p b R C : Nat} {L : List Ce} (h : G w p b R C L) (o : Obj) : G (w.alloc o) p b R C L := h.then_ (below_one w o) (Nat.le_refl _)
theorem GV.alloc {w : World} {p b R C cap : Nat} {L : List Ce} (h : GV w p b R C cap L) (o : Obj) : GV (w.alloc o) p b R C cap L := h.then_ (below_one w o) (Nat.le_refl _)
theorem G.drewN {w : World} {p b R C : Nat} {L : List Ce} (h : G w p b R C L) (n : Nat) : G (w.drewN n) p b R C L := ⟨h.obj, h.row, h.len, h.r1, h.r2, h.c1, h.c2⟩
theorem G.drew {w : World} {p b R C : Nat} {L : List Ce} (h : G w p b R C L) : G w.drew p b R C L := ⟨h.obj, h.row, h.len, h.r1, h.r2, h.c1, h.c2⟩
theorem GV.drewN {w : World} {p b R C cap : Nat} {L : List Ce} (h : GV w p b R C cap L) (n : Nat) : GV (w.drewN n) p b R C cap L := ⟨h.obj, h.cell, h.len, h.r1, h.r2, h.c1, h.c2, h.cap1, h.cap2⟩
theorem three {w : World} {g : Nat} {t : TypeId} {x0 x1 x2 : Value} (h : w.heap[g]? = some (.cells #[x0, x1, x2] t (0, 0))) : w.cell? ⟨g, 0, none⟩ = some x0 ∧ w.cell? ⟨g, 1, none⟩ = some x1 ∧ w.cell? ⟨g, 2, none⟩ = some x2 := by
  refine ⟨?_, ?_, ?_⟩ <;> simp [World.cell?, h]
/-- the numbers that a row's bounds give. -/
theorem row_nums {L : List Ce} {R C r : Nat} (hl : L.length = R * C) (hr : r < R) : r * C + C ≤ L.length := by
  rw [hl]
  have := Nat.mul_le_mul_right C (show r + 1 ≤ R from hr)
  rw [Nat.add_mul] at this; omega
set_option maxRecDepth 100000 in
theorem rowsC (p b R C cap : Nat) (L : List Ce) (w : World) (h : GV w p b R C cap L) : Calls Try.prog 15 #[.pointer (some ⟨p, 0, none⟩)] w fun e w' => e = .returned (.int .i64 (R : Int)) ∧ w = w' := by
  obtain ⟨c0, c1, c2⟩ := three h.obj
  clear h
  go_enter Try.func15, Try.ntmps15
  go_wp2
  go_ret
  exact ⟨rfl, rfl⟩
set_option maxRecDepth 100000 in
theorem colsC (p b R C cap : Nat) (L : List Ce) (w : World) (h : GV w p b R C cap L) : Calls Try.prog 16 #[.pointer (some ⟨p, 0, none⟩)] w fun e w' => e = .returned (.int .i64 (C : Int)) ∧ w = w' := by
  obtain ⟨c0, c1, c2⟩ := three h.obj
  clear h
  go_enter Try.func16, Try.ntmps16
  go_wp2
  go_ret
  exact ⟨rfl, rfl⟩
/-- is a place one of the grid's? -/
def hasB (R C : Nat) (row col : Int) : Bool := decide (0 ≤ row ∧ row < R ∧ 0 ≤ col ∧ col < C)
theorem has_t {R C : Nat} {row col : Int} (h : 0 ≤ row ∧ row < R ∧ 0 ≤ col ∧ col < C) : true = hasB R C row col := by simp [hasB, h]
theorem has_f {R C : Nat} {row col : Int} (h : ¬ (0 ≤ row ∧ row < R ∧ 0 ≤ col ∧ col < C)) : false = hasB R C row col := by simp only [hasB]; exact (decide_eq_false h).symm
set_option maxRecDepth 100000 in
theorem hasC (p b R C cap : Nat) (L : List Ce) (row col : Int) (w : World) (h : GV w p b R C cap L) : Calls Try.prog 43 #[.pointer (some ⟨p, 0, none⟩), .int .i64 row, .int .i64 col] w fun e w' => e = .returned (.bool (hasB R C row col)) ∧ w = w' := by
  obtain ⟨c0, c1, c2⟩ := three h.obj
  clear h
  by_cases h1 : 0 ≤ row
  · by_cases h2 : row < R
    · by_cases h3 : 0 ≤ col
      · by_cases h4 : col < C
        · go_enter Try.func43, Try.ntmps43
          go_wp2
          go_ret
          exact ⟨ret_bool (has_t ⟨h1, h2, h3, h4⟩), rfl⟩
        · go_enter Try.func43, Try.ntmps43
          go_wp2
          go_ret
          exact ⟨ret_bool (has_f (by omega)), rfl⟩
      · go_enter Try.func43, Try.ntmps43
        go_wp2
        go_ret
        exact ⟨ret_bool (has_f (by omega)), rfl⟩
    · go_enter Try.func43, Try.ntmps43
      go_wp2
      go_ret
      exact ⟨ret_bool (has_f (by omega)), rfl⟩
  · go_enter Try.func43, Try.ntmps43
    go_wp2
    go_ret
    exact ⟨ret_bool (has_f (by omega)), rfl⟩
theorem wr_of {x y : Int} (h0 : 0 ≤ x) (h1 : x ≤ 1000000) (e : x = y) : IntKind.i64.wrap x = y ∧ wrap64 x = y := by
  subst e
  have : IntKind.i64.wrap x = x := IntWalk.i64_in _ (by omega)
  exact ⟨this, by unfold wrap64; omega⟩
set_option maxRecDepth 100000 in
/-- a row of the grid. -/
theorem rowC (p b R C cap r : Nat) (L : List Ce) (w : World) (h : GV w p b R C cap L) (hr : r < R) :
    Calls Try.prog 44 #[.pointer (some ⟨p, 0, none⟩), .int .i64 (r : Int)] w fun e w' => e = .returned (.slice (some ⟨b, r * C * 5, none⟩) C (cap - r * C)) ∧ ∃ n, w.drewN n = w' := by
  obtain ⟨c0, c1, c2⟩ := three h.obj
  have hq := row_nums h.len hr
  have k1 := h.cap1
  have k2 := h.small
  have k5 := h.cap2
  have k3 := h.c1
  have k4 := h.r2
  generalize hL : L.length = n at *
  generalize hQ : r * C = q at *
  obtain ⟨s, hs⟩ : ∃ s, s = q + C := ⟨_, rfl⟩
  have e4 : ¬ cap = q := by omega
  have e5 : q ≤ s := by omega
  have e6 : s ≤ cap := by omega
  have e7 : s - q = C := by omega
  have i1 : (r : Int) * (C : Int) = (q : Int) := by rw [← hQ]; exact (Int.natCast_mul r C).symm
  have i3 : ((r : Int) + 1) * (C : Int) = (s : Int) := by rw [hs, ← hQ, ← Nat.succ_mul]; exact (Int.natCast_mul _ _).symm
  have b1 : (q : Int) ≤ 1000000 := by omega
  have b2 : (r : Int) + 1 ≤ 1000000 := by omega
  have b3 : (s : Int) ≤ 1000000 := by omega
  have E1 := Lib.hid (wr_of (x := (r : Int) * (C : Int)) (by rw [i1]; exact Int.natCast_nonneg _) (by rw [i1]; exact b1) i1)
  have E2 := Lib.hid (wr_of (x := (r : Int) + 1) (Int.le_add_one (Int.natCast_nonneg _)) b2 rfl)
  have E3 := Lib.hid (wr_of (x := ((r : Int) + 1) * (C : Int)) (by rw [i3]; exact Int.natCast_nonneg _) (by rw [i3]; exact b3) i3)
  clear hs i1 i3 b1 b2 b3 hr k3 k4 k2
  clear h hL hQ hq
  have e1 := E1.out.1
  have e2 := E2.out.1
  have e3 := E3.out.2
  go_enter Try.func44, Try.ntmps44
  go_wp2
  go_quiet (fail)
  go_wp2
  go_ret
  exact ⟨rfl, _, rfl⟩
/-- where a part of the row begins, if it has any cell. -/
def AtP (n : Nat) (a : Option Addr) (b : Nat) (A : List Ce) : Prop := 0 < n → a = some ⟨b, A.length * 5, none⟩
theorem fillP (b : Nat) (A M Z : List Ce) (a : Option Addr) (n cap : Nat) (c : Ce) (w : World) (h : RB w b (A ++ M ++ Z)) (hm : n = M.length) (ha : AtP n a b A) (hn : n ≤ 1000000) :
    Calls Try.prog 47 #[.slice a n cap, cvA c] w (RowP b (A ++ List.replicate n c ++ Z) w) := fillK b A M Z a n cap c w h hm ha hn
theorem cBlankB (f fg bg : Int) (w : World) : Calls Try.prog 28 #[.agg #[.int .i64 f, .int .i64 fg, .int .i64 bg]] w fun e w' => e = .returned (.agg #[.int .i32 32, .int .i64 0, .int .i64 0, .int .i64 bg, .int .i64 0]) ∧ Below w.heap.size w w' :=
  (Cell.cBlank f fg bg w).mono fun e w' ⟨h1, h2⟩ => ⟨h1, by rw [← h2]; exact ((Below.refl _ w).alloc (Nat.le_refl _) _).alloc (by simp) _⟩
theorem cell_then {B : Nat} {W w1 : World} (hb : Below B W w1) (hB : W.heap.size ≤ B) {b o : Nat} {v : Value} (h : W.cell? ⟨b, o, none⟩ = some v) : w1.cell? ⟨b, o, none⟩ = some v := by
  have hlt := World.block_lt_of_cell? W _ h
  rw [hb.cell (p := ⟨b, o, none⟩) (Nat.lt_of_lt_of_le hlt hB)]; exact h
theorem cell_kept {p b k o : Nat} {w w1 : World} {v : Value} (h : Kp p b w w1) (hc : w.cell? ⟨k, o, none⟩ = some v) (h1 : k ≠ p) (h2 : k ≠ b) : w1.cell? ⟨k, o, none⟩ = some v := by
  have hlt := World.block_lt_of_cell? w _ hc
  rw [World.cell?_of_block (w := w) (h.block k hlt h1 h2)]; exact hc
end Go.Proofs.Ytfdjmlncdbpkgaa.Gg
