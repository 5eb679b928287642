/- Decode. -/
import Derived.Test.YtabgelmmjpjejaaDoorDa
set_option linter.unusedVariables false
namespace Go.Proofs.YtabgelmmjpjejaaDoor.Dc
open Go Go.RowKit Kit Crc Var Get Ref3 Copy Bytes Bx Py Py2 Ry Dn Df Dd Da


variable {w w' : World}
def decA (l : List Nat) (p : Int) : Dec := if p < 0 ∨ (l.length : Int) < p then bad 1 else decM (l.drop p.toNat)
def endA (D : Dec) (p : Int) : Int := if D.e = 0 then p + D.n else 0
/-- what Decode answers. -/
def DeP (D : Dec) (y : Int) (w : World) (e : Ending) (w' : World) : Prop := ∃ a c, e = .returned (.tuple #[.agg #[.int .i64 (D.k : Int), .int .u64 (D.s : Int), .int .u64 (D.t : Int), .slice a D.b.length c], .int .i64 y, .int .i64 (D.e : Int)]) ∧ Sl w' a D.b ∧ (a = none → c = 0) ∧ D.b.length ≤ c ∧ (∀ x, a = some x → w.heap.size ≤ x.block) ∧ Below w.heap.size w w'
theorem res_new (w : World) : Res3 (((w.alloc (.cells #[.int .i64 0, .int .u64 0, .int .u64 0, .slice none 0 0] 25)).alloc (.cells #[.int .i64 0] 3)).alloc (.cells #[.int .i64 0] 27)) w.heap.size (.int .i64 0) (.int .u64 0) (.int .u64 0) (.slice none 0 0) (.int .i64 0) (.int .i64 0) := by
  refine ⟨?_, ?_, ?_⟩
  · rw [Below.heap_alloc _ _ _ (by simp; omega), Below.heap_alloc _ _ _ (by simp)]; exact heap_alloc_last w _
  · rw [Below.heap_alloc _ _ _ (by simp)]
    have := heap_alloc_last (w.alloc (.cells #[.int .i64 0, .int .u64 0, .int .u64 0, .slice none 0 0] 25)) (.cells #[.int .i64 0] 3)
    rw [show (w.alloc (.cells #[.int .i64 0, .int .u64 0, .int .u64 0, .slice none 0 0] 25)).heap.size = w.heap.size + 1 by simp] at this; exact this
  · have := heap_alloc_last ((w.alloc (.cells #[.int .i64 0, .int .u64 0, .int .u64 0, .slice none 0 0] 25)).alloc (.cells #[.int .i64 0] 3)) (.cells #[.int .i64 0] 27)
    rw [show ((w.alloc (.cells #[.int .i64 0, .int .u64 0, .int .u64 0, .slice none 0 0] 25)).alloc (.cells #[.int .i64 0] 3)).heap.size = w.heap.size + 1 + 1 by simp] at this; exact this
theorem below_new (w : World) : Below w.heap.size w (((w.alloc (.cells #[.int .i64 0, .int .u64 0, .int .u64 0, .slice none 0 0] 25)).alloc (.cells #[.int .i64 0] 3)).alloc (.cells #[.int .i64 0] 27)) := (((Below.refl _ w).alloc (Nat.le_refl _) _).alloc (by simp) _).alloc (by simp; omega) _
set_option maxRecDepth 100000 in
theorem decOut (a : Option Addr) (n cap : Nat) (p : Int) (w : World) (hp : p < 0 ∨ (n : Int) < p) : Calls Tryd.prog 14 #[.slice a n cap, .int .i64 p] w (DeP (bad 1) 0 w) := by
  have HB := Lib.hid (show Below w.heap.size w (((w.alloc (.cells #[.int .i64 0, .int .u64 0, .int .u64 0, .slice none 0 0] 25)).alloc (.cells #[.int .i64 0] 3)).alloc (.cells #[.int .i64 1] 27)) from (((Below.refl _ w).alloc (Nat.le_refl _) _).alloc (by simp) _).alloc (by simp; omega) _)
  obtain ⟨⟨d0, d1, d2, d3⟩, d4, d5⟩ := res_cells (show Res3 (((w.alloc (.cells #[.int .i64 0, .int .u64 0, .int .u64 0, .slice none 0 0] 25)).alloc (.cells #[.int .i64 0] 3)).alloc (.cells #[.int .i64 1] 27)) w.heap.size (.int .i64 0) (.int .u64 0) (.int .u64 0) (.slice none 0 0) (.int .i64 0) (.int .i64 1) by
    refine ⟨?_, ?_, ?_⟩
    · rw [Below.heap_alloc _ _ _ (by simp; omega), Below.heap_alloc _ _ _ (by simp)]; exact heap_alloc_last w _
    · rw [Below.heap_alloc _ _ _ (by simp)]
      have := heap_alloc_last (w.alloc (.cells #[.int .i64 0, .int .u64 0, .int .u64 0, .slice none 0 0] 25)) (.cells #[.int .i64 0] 3)
      rw [show (w.alloc (.cells #[.int .i64 0, .int .u64 0, .int .u64 0, .slice none 0 0] 25)).heap.size = w.heap.size + 1 by simp] at this; exact this
    · have := heap_alloc_last ((w.alloc (.cells #[.int .i64 0, .int .u64 0, .int .u64 0, .slice none 0 0] 25)).alloc (.cells #[.int .i64 0] 3)) (.cells #[.int .i64 1] 27)
      rw [show ((w.alloc (.cells #[.int .i64 0, .int .u64 0, .int .u64 0, .slice none 0 0] 25)).alloc (.cells #[.int .i64 0] 3)).heap.size = w.heap.size + 1 + 1 by simp] at this; exact this)
  rcases hp with h | h
  · go_enter_defers Tryd.func14, Tryd.ntmps14
    go_wp2
    generalize (((w.alloc (.cells #[.int .i64 0, .int .u64 0, .int .u64 0, .slice none 0 0] 25)).alloc (.cells #[.int .i64 0] 3)).alloc (.cells #[.int .i64 1] 27)) = W at *
    simp [bodyPostD, Leaves, results, Tryd.results14, go_sem, d0, d1, d2, d3, d4, d5]
    exact ⟨none, 0, rfl, .inl rfl, fun _ => rfl, Nat.le_refl _, (fun x hx => by cases hx), HB.out⟩
  · have h0 : ¬ p < 0 := by omega
    go_enter_defers Tryd.func14, Tryd.ntmps14
    go_wp2
    generalize (((w.alloc (.cells #[.int .i64 0, .int .u64 0, .int .u64 0, .slice none 0 0] 25)).alloc (.cells #[.int .i64 0] 3)).alloc (.cells #[.int .i64 1] 27)) = W at *
    simp [bodyPostD, Leaves, results, Tryd.results14, go_sem, d0, d1, d2, d3, d4, d5]
    exact ⟨none, 0, rfl, .inl rfl, fun _ => rfl, Nat.le_refl _, (fun x hx => by cases hx), HB.out⟩
set_option maxRecDepth 100000 in
theorem decBad (a : Option Addr) (n cap : Nat) (p : Nat) (w : World) (x : Nat) (hp : p ≤ n) (hC : ∀ W, Below w.heap.size w W → Calls Tryd.prog 42 #[.slice a n cap, .int .i64 (p : Int)] W (BadP x W)) : Calls Tryd.prog 14 #[.slice a n cap, .int .i64 (p : Int)] w (DeP (bad x) 0 w) := by
  have h0 : ¬ (p : Int) < 0 := by omega
  have h1 : ¬ (n : Int) < (p : Int) := by omega
  have HC := Lib.hid (hC _ (below_new w))
  have HR := Lib.hid (res_new w)
  have HB := Lib.hid (below_new w)
  clear hC hp
  go_enter_defers Tryd.func14, Tryd.ntmps14
  go_wp2_with fail
  generalize (((w.alloc (.cells #[.int .i64 0, .int .u64 0, .int .u64 0, .slice none 0 0] 25)).alloc (.cells #[.int .i64 0] 3)).alloc (.cells #[.int .i64 0] 27)) = w1 at *
  refine HC.out.mono ?_
  rintro e w2 ⟨rfl, b2⟩
  have HR2 := Lib.hid (res_then b2 (Nat.le_refl _) HR.out)
  have HB2 := Lib.hid (below_then HB.out b2 HB.out.size)
  clear b2
  go_wp2
  refine leaves_cons (f := 41) (args := #[.pointer (some ⟨w.heap.size, 0, none⟩), .pointer (some ⟨w.heap.size + 1, 0, none⟩), .pointer (some ⟨w.heap.size + 1 + 1, 0, none⟩)]) (by simp) (by simp [go_sem]) ?_
  refine (catch_fault w.heap.size w.heap.size (x : Int) _ _ _ _ _ _ [] (Nat.le_refl _) HR2.out).mono ?_
  rintro e u' w'' ⟨rfl, rfl, h3, h4⟩
  obtain ⟨⟨d0, d1, d2, d3⟩, d4, d5⟩ := res_cells h3
  have HF := Lib.hid (h4 _ _ (Nat.le_refl _) HB2.out)
  clear h3 h4
  simp [Leaves, settle, results, Tryd.results14, go_sem, d0, d1, d2, d3, d4, d5]
  exact ⟨none, 0, rfl, .inl rfl, fun _ => rfl, Nat.le_refl _, (fun x hx => by cases hx), HF.out⟩
theorem sl_set {a : Option Addr} {l : List Nat} {p : Addr} (h : Sl w a l) (ha : ∀ x, a = some x → x.block ≠ p.block) (u : Value) : Sl (w.setCell p u) a l := by
  rcases h with h | ⟨b, off, rfl, h⟩
  · exact .inl h
  · exact .inr ⟨b, off, rfl, fun i hi => past_set (h i hi) (fun e => ha _ rfl e)⟩
theorem sl_put3 {a : Option Addr} {l : List Nat} {g : Nat} (h : Sl w a l) (ha : ∀ x, a = some x → g + 1 + 1 < x.block) (a0 a1 a2 a3 b c : Value) : Sl (put3 w g a0 a1 a2 a3 b c) a l := by
  unfold put3
  exact sl_set (sl_set (sl_set (sl_set (sl_set (sl_set h (fun x hx => by have := ha x hx; simp; omega) _) (fun x hx => by have := ha x hx; simp; omega) _) (fun x hx => by have := ha x hx; simp; omega) _) (fun x hx => by have := ha x hx; simp; omega) _) (fun x hx => by have := ha x hx; simp; omega) _) (fun x hx => by have := ha x hx; simp; omega) _
/-- five of the stores. -/
def put5 (w : World) (g : Nat) (x0 x1 x2 x3 y : Value) : World := ((((w.setCell ⟨g, 0, none⟩ x0).setCell ⟨g, 1, none⟩ x1).setCell ⟨g, 2, none⟩ x2).setCell ⟨g, 3, none⟩ x3).setCell ⟨g + 1, 0, none⟩ y
theorem res_put5 {g : Nat} {x0 x1 x2 x3 y z : Value} (h : Res3 w g x0 x1 x2 x3 y z) (a0 a1 a2 a3 b : Value) : Res3 (put5 w g a0 a1 a2 a3 b) g a0 a1 a2 a3 b z := by
  refine ⟨?_, ?_, ?_⟩
  · unfold put5
    rw [heap_setCell_other _ _ _ _ (by simp)]
    exact pk_store h.1 a0 a1 a2 a3
  · unfold put5
    have : ((((w.setCell ⟨g, 0, none⟩ a0).setCell ⟨g, 1, none⟩ a1).setCell ⟨g, 2, none⟩ a2).setCell ⟨g, 3, none⟩ a3).heap[g + 1]? = some (.cells #[y] 3 (0, 0)) := by
      rw [heap_setCell_other _ _ _ _ (by simp), heap_setCell_other _ _ _ _ (by simp), heap_setCell_other _ _ _ _ (by simp), heap_setCell_other _ _ _ _ (by simp)]; exact h.2.1
    rw [heap_setCell_same _ (g + 1) 0 _ 3 b this]; rfl
  · unfold put5
    rw [heap_setCell_other _ _ _ _ (by simp), heap_setCell_other _ _ _ _ (by simp; omega), heap_setCell_other _ _ _ _ (by simp; omega), heap_setCell_other _ _ _ _ (by simp; omega), heap_setCell_other _ _ _ _ (by simp; omega)]; exact h.2.2
theorem below_put5 {B g : Nat} {W : World} (h : Below B W w) (hB : B ≤ g) (a0 a1 a2 a3 b : Value) : Below B W (put5 w g a0 a1 a2 a3 b) := by
  unfold put5
  exact ((((h.setCell hB _).setCell hB _).setCell hB _).setCell hB _).setCell (by simp; omega) _
theorem sl_put5 {a : Option Addr} {l : List Nat} {g : Nat} (h : Sl w a l) (ha : ∀ x, a = some x → g + 1 + 1 < x.block) (a0 a1 a2 a3 b : Value) : Sl (put5 w g a0 a1 a2 a3 b) a l := by
  unfold put5
  exact sl_set (sl_set (sl_set (sl_set (sl_set h (fun x hx => by have := ha x hx; simp; omega) _) (fun x hx => by have := ha x hx; simp; omega) _) (fun x hx => by have := ha x hx; simp; omega) _) (fun x hx => by have := ha x hx; simp; omega) _) (fun x hx => by have := ha x hx; simp; omega) _
theorem sl_drew {a : Option Addr} {l : List Nat} (h : Sl w a l) : Sl w.drew a l := h
set_option maxRecDepth 100000 in
theorem decOkC (a : Option Addr) (n cap : Nat) (p : Nat) (w : World) (D : Dec) (y : Nat) (hD : D.e = 0) (hp : p ≤ n) (hC : ∀ W, Below w.heap.size w W → Calls Tryd.prog 42 #[.slice a n cap, .int .i64 (p : Int)] W (OkP D.k D.s D.t D.b y W)) : Calls Tryd.prog 14 #[.slice a n cap, .int .i64 (p : Int)] w (DeP D (y : Int) w) := by
  obtain ⟨De, K, S, T, L, Nn⟩ := D
  obtain rfl : De = 0 := hD
  dsimp only at hC
  have h0 : ¬ (p : Int) < 0 := by omega
  have h1 : ¬ (n : Int) < (p : Int) := by omega
  have HC := Lib.hid (hC _ (below_new w))
  have HR := Lib.hid (res_new w)
  have HB := Lib.hid (below_new w)
  clear hC hp
  go_enter_defers Tryd.func14, Tryd.ntmps14
  go_wp2_with fail
  generalize (((w.alloc (.cells #[.int .i64 0, .int .u64 0, .int .u64 0, .slice none 0 0] 25)).alloc (.cells #[.int .i64 0] 3)).alloc (.cells #[.int .i64 0] 27)) = w1 at *
  refine HC.out.mono ?_
  rintro e w2 ⟨ra, rc, rfl, r1, r2, r3, r4, b2⟩
  have hlt : w.heap.size + 1 + 1 < w1.heap.size := (Array.getElem?_eq_some_iff.1 HR.out.2.2).1
  have RA := Lib.hid (show ∀ x, ra = some x → w.heap.size + 1 + 1 < x.block from fun x hx => Nat.lt_of_lt_of_le hlt (r4 x hx))
  have R1 := Lib.hid r1
  have R2 := Lib.hid r2
  have R3 := Lib.hid r3
  clear HC
  have HR2 := Lib.hid (res_then b2 (Nat.le_refl _) HR.out)
  have HB2 := Lib.hid (below_then HB.out b2 HB.out.size)
  obtain ⟨⟨d0, d1, d2, d3⟩, d4, d5⟩ := res_cells HR2.out
  obtain ⟨ff, f4, f5⟩ := res_free HR2.out
  have f0 := ff 0
  have f1 := ff 1
  have f2 := ff 2
  have f3 := ff 3
  clear b2 ff r1 r2 r3 r4 hlt
  go_wp2
  clear d0 d1 d2 d3 d4 d5 f0 f1 f2 f3 f4 f5
  have H5 := Lib.hid (show Res3 (((((w2.setCell ⟨w.heap.size, 0, none⟩ (.int .i64 (K : Int))).setCell ⟨w.heap.size, 1, none⟩ (.int .u64 (S : Int))).setCell ⟨w.heap.size, 2, none⟩ (.int .u64 (T : Int))).setCell ⟨w.heap.size, 3, none⟩ (.slice ra L.length rc)).setCell ⟨w.heap.size + 1, 0, none⟩ (.int .i64 (y : Int))) w.heap.size (.int .i64 (K : Int)) (.int .u64 (S : Int)) (.int .u64 (T : Int)) (.slice ra L.length rc) (.int .i64 (y : Int)) (.int .i64 0) from res_put5 HR2.out _ _ _ _ _)
  have B5 := Lib.hid (show Below w.heap.size w (((((w2.setCell ⟨w.heap.size, 0, none⟩ (.int .i64 (K : Int))).setCell ⟨w.heap.size, 1, none⟩ (.int .u64 (S : Int))).setCell ⟨w.heap.size, 2, none⟩ (.int .u64 (T : Int))).setCell ⟨w.heap.size, 3, none⟩ (.slice ra L.length rc)).setCell ⟨w.heap.size + 1, 0, none⟩ (.int .i64 (y : Int))) from below_put5 HB2.out (Nat.le_refl _) _ _ _ _ _)
  have S5 := Lib.hid (show Sl (((((w2.setCell ⟨w.heap.size, 0, none⟩ (.int .i64 (K : Int))).setCell ⟨w.heap.size, 1, none⟩ (.int .u64 (S : Int))).setCell ⟨w.heap.size, 2, none⟩ (.int .u64 (T : Int))).setCell ⟨w.heap.size, 3, none⟩ (.slice ra L.length rc)).setCell ⟨w.heap.size + 1, 0, none⟩ (.int .i64 (y : Int))) ra L from sl_put5 R1.out RA.out _ _ _ _ _)
  generalize (((((w2.setCell ⟨w.heap.size, 0, none⟩ (.int .i64 (K : Int))).setCell ⟨w.heap.size, 1, none⟩ (.int .u64 (S : Int))).setCell ⟨w.heap.size, 2, none⟩ (.int .u64 (T : Int))).setCell ⟨w.heap.size, 3, none⟩ (.slice ra L.length rc)).setCell ⟨w.heap.size + 1, 0, none⟩ (.int .i64 (y : Int))) = w5 at *
  obtain ⟨⟨d0, d1, d2, d3⟩, d4, d5⟩ := res_cells H5.out
  obtain ⟨ff, f4, f5⟩ := res_free H5.out
  have f0 := ff 0
  have f1 := ff 1
  have f2 := ff 2
  have f3 := ff 3
  clear ff
  have H6 := Lib.hid (show Res3 (((((((w5.setCell ⟨w.heap.size, 0, none⟩ (.int .i64 (K : Int))).setCell ⟨w.heap.size, 1, none⟩ (.int .u64 (S : Int))).setCell ⟨w.heap.size, 2, none⟩ (.int .u64 (T : Int))).setCell ⟨w.heap.size, 3, none⟩ (.slice ra L.length rc)).setCell ⟨w.heap.size + 1, 0, none⟩ (.int .i64 (y : Int)))).setCell ⟨w.heap.size + 1 + 1, 0, none⟩ (.int .i64 0)).drew w.heap.size (.int .i64 (K : Int)) (.int .u64 (S : Int)) (.int .u64 (T : Int)) (.slice ra L.length rc) (.int .i64 (y : Int)) (.int .i64 0) from res_drew (res_put H5.out _ _ _ _ _ _))
  have B6 := Lib.hid (show Below w.heap.size w (((((((w5.setCell ⟨w.heap.size, 0, none⟩ (.int .i64 (K : Int))).setCell ⟨w.heap.size, 1, none⟩ (.int .u64 (S : Int))).setCell ⟨w.heap.size, 2, none⟩ (.int .u64 (T : Int))).setCell ⟨w.heap.size, 3, none⟩ (.slice ra L.length rc)).setCell ⟨w.heap.size + 1, 0, none⟩ (.int .i64 (y : Int)))).setCell ⟨w.heap.size + 1 + 1, 0, none⟩ (.int .i64 0)).drew from (below_put B5.out (Nat.le_refl _) _ _ _ _ _ _).drew)
  have S6 := Lib.hid (show Sl (((((((w5.setCell ⟨w.heap.size, 0, none⟩ (.int .i64 (K : Int))).setCell ⟨w.heap.size, 1, none⟩ (.int .u64 (S : Int))).setCell ⟨w.heap.size, 2, none⟩ (.int .u64 (T : Int))).setCell ⟨w.heap.size, 3, none⟩ (.slice ra L.length rc)).setCell ⟨w.heap.size + 1, 0, none⟩ (.int .i64 (y : Int)))).setCell ⟨w.heap.size + 1 + 1, 0, none⟩ (.int .i64 0)).drew ra L from sl_drew (sl_put3 S5.out RA.out _ _ _ _ _ _))
  go_region
  clear d0 d1 d2 d3 d4 d5 f0 f1 f2 f3 f4 f5
  generalize (((((((w5.setCell ⟨w.heap.size, 0, none⟩ (.int .i64 (K : Int))).setCell ⟨w.heap.size, 1, none⟩ (.int .u64 (S : Int))).setCell ⟨w.heap.size, 2, none⟩ (.int .u64 (T : Int))).setCell ⟨w.heap.size, 3, none⟩ (.slice ra L.length rc)).setCell ⟨w.heap.size + 1, 0, none⟩ (.int .i64 (y : Int)))).setCell ⟨w.heap.size + 1 + 1, 0, none⟩ (.int .i64 0)).drew = w6 at *
  obtain ⟨⟨d0, d1, d2, d3⟩, d4, d5⟩ := res_cells H6.out
  go_wp2
  refine leaves_cons (f := 41) (args := #[.pointer (some ⟨w.heap.size, 0, none⟩), .pointer (some ⟨w.heap.size + 1, 0, none⟩), .pointer (some ⟨w.heap.size + 1 + 1, 0, none⟩)]) (by simp) (by simp [go_sem]) ?_
  refine (catch_idle ⟨w.heap.size, 0, none⟩ ⟨w.heap.size + 1, 0, none⟩ ⟨w.heap.size + 1 + 1, 0, none⟩ _).mono ?_
  rintro e u' w'' ⟨rfl, rfl, rfl⟩
  simp [Leaves, settle, results, Tryd.results14, go_sem, d0, d1, d2, d3, d4, d5]
  exact ⟨ra, rc, rfl, S6.out, R2.out, R3.out, fun x hx => by have := RA.out x hx; omega, B6.out⟩
theorem decAll (a : Option Addr) (n cap : Nat) (l : List Nat) (p : Int) (D : Dec) (y : Int) (w : World) (hn : n = l.length) (hD : D = decA l p) (hy : y = endA D p) (hs : Sl w a l) (hcap : l.length ≤ cap) (hl : ∀ c ∈ l, c < 256) (hlen : l.length ≤ 90000) (hT : TabC w) :
    Calls Tryd.prog 14 #[.slice a n cap, .int .i64 p] w (DeP D y w) := by
  subst hn hy
  by_cases hp : p < 0 ∨ (l.length : Int) < p
  · have e : D = bad 1 := by rw [hD, decA, if_pos hp]
    subst e
    exact decOut a l.length cap p w hp
  · obtain ⟨q, rfl⟩ := Int.eq_ofNat_of_zero_le (a := p) (by omega)
    have hq : q ≤ l.length := by omega
    have e : D = decM (l.drop q) := by rw [hD, decA, if_neg hp]; rfl
    have K := fun W (h : Below w.heap.size w W) => dec_all a cap l q W (sl_then h (Nat.le_refl _) hs) hcap hl hlen hq (tabC_then h (Nat.le_refl _) hT)
    rw [← e] at K
    by_cases h0 : D.e = 0
    · have := decOkC a l.length cap q w D (q + D.n) h0 hq (fun W h => by
        rcases K W h with h | h
        · exact h.2
        · exact absurd h0 h.1)
      rw [endA, if_pos h0]
      exact this
    · have hb : D = bad D.e := by
        rcases dec_why (l.drop q) with h | h
        · rw [← e] at h; exact absurd h h0
        · rw [← e] at h; exact h
      have := decBad a l.length cap q w D.e hq (fun W h => by
        rcases K W h with h | h
        · exact absurd h.1 h0
        · exact h.2)
      rw [endA, if_neg h0, hb]
      exact this

end Go.Proofs.YtabgelmmjpjejaaDoor.Dc
