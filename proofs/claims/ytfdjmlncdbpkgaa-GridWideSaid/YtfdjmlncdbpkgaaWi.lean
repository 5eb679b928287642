/- GridWide: the walk. -/
import Derived.Test.YtfdjmlncdbpkgaaWp
set_option linter.unusedVariables false
namespace Go.Proofs.Ytfdjmlncdbpkgaa.Wi
open Go Go.RowKit Kit Gm Gv Fl Me Cp Sl Gg Gh Gp Gq Wp

theorem firstT (W0 w : World) (p b R C : Nat) (L : List Ce) (h : Tp W0 w p b R C L) : Calls Try.prog 9 #[] w fun e w' => e = .returned (.bool true) ∧ Tp W0 w' p b R C L :=
  (firstC w).mono fun e w' ⟨h1, h2⟩ => ⟨h1, h.then_ h2⟩
theorem blankT (W0 w : World) (p b R C : Nat) (L : List Ce) (h : Tp W0 w p b R C L) (f g k : Int) : Calls Try.prog 28 #[.agg #[.int .i64 f, .int .i64 g, .int .i64 k]] w fun e w' => e = .returned (.agg #[.int .i32 32, .int .i64 0, .int .i64 0, .int .i64 k, .int .i64 0]) ∧ Tp W0 w' p b R C L :=
  (cBlankB f g k w).mono fun e w' ⟨h1, h2⟩ => ⟨h1, h.then_ h2⟩
theorem attrT (W0 w : World) (p b R C : Nat) (L : List Ce) (h : Tp W0 w p b R C L) (f g k : Int) (v : Bool) (hv : Cell.attrB f g k = v) : Calls Try.prog 30 #[.agg #[.int .i64 f, .int .i64 g, .int .i64 k]] w fun e w' => e = .returned (.bool v) ∧ Tp W0 w' p b R C L :=
  (Cell.mayAttr f g k w).mono fun e w' ⟨h1, h2⟩ => ⟨by rw [h1, hv], h.then_ (by rw [← h2]; exact (Below.refl _ w).alloc (Nat.le_refl _) _)⟩
/-- the looks' boxes. -/
theorem boxes (W : World) (af ag ab bf bg bb : Int) (w0 : World) (hw0 : (W.alloc (.cells #[.int .i64 af, .int .i64 ag, .int .i64 ab] 35)).alloc (.cells #[.int .i64 bf, .int .i64 bg, .int .i64 bb] 35) = w0) : Below W.heap.size W w0 ∧ ∀ wk, Below w0.heap.size w0 wk → (wk.cell? ⟨W.heap.size, 0, none⟩ = some (.int .i64 af) ∧ wk.cell? ⟨W.heap.size, 1, none⟩ = some (.int .i64 ag) ∧ wk.cell? ⟨W.heap.size, 2, none⟩ = some (.int .i64 ab) ∧ wk.cell? ⟨W.heap.size + 1, 0, none⟩ = some (.int .i64 bf) ∧ wk.cell? ⟨W.heap.size + 1, 1, none⟩ = some (.int .i64 bg) ∧ wk.cell? ⟨W.heap.size + 1, 2, none⟩ = some (.int .i64 bb)) := by
  subst hw0
  refine ⟨((Below.refl _ W).alloc (Nat.le_refl _) _).alloc (by simp) _, fun wk hk => ?_⟩
  obtain ⟨a0, a1, a2⟩ := three (heap_at1 W (.cells #[.int .i64 af, .int .i64 ag, .int .i64 ab] 35) (.cells #[.int .i64 bf, .int .i64 bg, .int .i64 bb] 35))
  obtain ⟨b0, b1, b2⟩ := three (heap_at2 W (.cells #[.int .i64 af, .int .i64 ag, .int .i64 ab] 35) (.cells #[.int .i64 bf, .int .i64 bg, .int .i64 bb] 35))
  exact ⟨Gg.cell_then hk (Nat.le_refl _) a0, Gg.cell_then hk (Nat.le_refl _) a1, Gg.cell_then hk (Nat.le_refl _) a2, Gg.cell_then hk (Nat.le_refl _) b0, Gg.cell_then hk (Nat.le_refl _) b1, Gg.cell_then hk (Nat.le_refl _) b2⟩
theorem attrB_ (f g k : Int) (v : Bool) (hv : Cell.attrB f g k = v) (w : World) : Calls Try.prog 30 #[.agg #[.int .i64 f, .int .i64 g, .int .i64 k]] w fun e w' => e = .returned (.bool v) ∧ Below w.heap.size w w' :=
  (Cell.mayAttr f g k w).mono fun e w' ⟨h1, h2⟩ => ⟨by rw [h1, hv], by rw [← h2]; exact (Below.refl _ w).alloc (Nat.le_refl _) _⟩
set_option maxRecDepth 100000 in
set_option maxHeartbeats 1000000 in
/-- no such grid. -/
theorem walkNo (cols col af ag ab bf bg bb : Int) (left : Bool) (W : World) (hs : sizeB 1 cols = false) :
    Calls Try.prog 7 #[.int .i64 cols, .int .i64 col, .agg #[.int .i64 af, .int .i64 ag, .int .i64 ab], .agg #[.int .i64 bf, .int .i64 bg, .int .i64 bb], .bool left] W fun e w' => e = .returned (.bool true) ∧ Below W.heap.size W w' := by
  generalize hw0 : (W.alloc (.cells #[.int .i64 af, .int .i64 ag, .int .i64 ab] 35)).alloc (.cells #[.int .i64 bf, .int .i64 bg, .int .i64 bb] 35) = w0
  obtain ⟨hb0, hz⟩ := boxes W af ag ab bf bg bb w0 hw0
  have HB0 := Lib.hid hb0
  have HZ := Lib.hid hz
  have HR := Lib.hid (Below.refl w0.heap.size w0)
  obtain ⟨z0, z1, z2, z3, z4, z5⟩ := HZ.out _ HR.out
  have hs0 : (W.alloc (.cells #[.int .i64 af, .int .i64 ag, .int .i64 ab] 35)).heap.size = W.heap.size + 1 := by simp
  have HN := Lib.hid (fun w => newNo 1 cols w hs)
  clear hb0 hz hs
  go_enter Try.func7, Try.ntmps7
  go_wp2_with (first
    | (go_at_call 9; (first
      | ((with_reducible refine (firstC w0).mono ?_); rintro e w1 ⟨rfl, hb⟩; have HB1 := Lib.hid hb; clear z0 z1 z2 z3 z4 z5; obtain ⟨z0, z1, z2, z3, z4, z5⟩ := HZ.out _ HB1.out; clear hb)
      | ((with_reducible refine (firstC _).mono ?_); rintro e w2 ⟨rfl, hb⟩; have HB2 := Lib.hid (below_then HB1.out hb HB1.out.size); clear hb)))
    | (go_at_call 10; (with_reducible refine (HN.out _).mono ?_); rintro e w' ⟨rfl, rfl⟩))
  go_ret
  exact ⟨rfl, below_then HB0.out HB2.out HB0.out.size⟩
theorem one_eq : (1 : Int) = ((1 : Nat) : Int) := rfl
set_option maxRecDepth 100000 in
set_option maxHeartbeats 1000000 in
theorem walkLow (C : Nat) (cols col af ag ab bf bg bb : Int) (left : Bool) (W : World) (hC : cols = (C : Int)) (hs : 1 ≤ C ∧ C ≤ 200) (h : col < 0) :
    Calls Try.prog 7 #[.int .i64 cols, .int .i64 col, .agg #[.int .i64 af, .int .i64 ag, .int .i64 ab], .agg #[.int .i64 bf, .int .i64 bg, .int .i64 bb], .bool left] W fun e w' => e = .returned (.bool true) ∧ Below W.heap.size W w' := by
  generalize hw0 : (W.alloc (.cells #[.int .i64 af, .int .i64 ag, .int .i64 ab] 35)).alloc (.cells #[.int .i64 bf, .int .i64 bg, .int .i64 bb] 35) = w0
  obtain ⟨hb0, hz⟩ := boxes W af ag ab bf bg bb w0 hw0
  have HB0 := Lib.hid hb0
  have HZ := Lib.hid hz
  have HR := Lib.hid (Below.refl w0.heap.size w0)
  obtain ⟨z0, z1, z2, z3, z4, z5⟩ := HZ.out _ HR.out
  have hs0 : (W.alloc (.cells #[.int .i64 af, .int .i64 ag, .int .i64 ab] 35)).heap.size = W.heap.size + 1 := by simp
  have HC := Lib.hid hC
  have HS := Lib.hid (show 1 ≤ 1 ∧ 1 ≤ 60 ∧ 1 ≤ C ∧ C ≤ 200 from ⟨by decide, by decide, hs⟩)
  clear hb0 hz hs hC
  go_enter Try.func7, Try.ntmps7
  go_wp2_with (first
    | (go_at_call 9; (first
      | ((with_reducible refine (firstC w0).mono ?_); rintro e w1 ⟨rfl, hb⟩; have HB1 := Lib.hid hb; clear z0 z1 z2 z3 z4 z5; obtain ⟨z0, z1, z2, z3, z4, z5⟩ := HZ.out _ HB1.out; clear hb)
      | ((with_reducible refine (firstT w0 _ p b 1 C _ HT.out).mono ?_); rintro e w2 ⟨rfl, ht⟩; have HE := Lib.hid ht; clear ht)))
    | (go_at_call 10; (with_reducible refine (newT w0 1 C _ HB1.out HS.out _ rfl 1 cols one_eq HC.out).mono ?_); rintro e w' ⟨p, b, rfl, ht⟩; have HT := Lib.hid ht; clear z0 z1 z2 z3 z4 z5; obtain ⟨z0, z1, z2, z3, z4, z5⟩ := HZ.out _ HT.out.bel; clear ht))
  go_ret
  exact ⟨rfl, below_then HB0.out HE.out.bel HB0.out.size⟩
set_option maxRecDepth 100000 in
set_option maxHeartbeats 1000000 in
theorem walkHigh (C : Nat) (cols col af ag ab bf bg bb : Int) (left : Bool) (W : World) (hC : cols = (C : Int)) (hs : 1 ≤ C ∧ C ≤ 200) (h : 0 ≤ col) (h2 : cols ≤ col) :
    Calls Try.prog 7 #[.int .i64 cols, .int .i64 col, .agg #[.int .i64 af, .int .i64 ag, .int .i64 ab], .agg #[.int .i64 bf, .int .i64 bg, .int .i64 bb], .bool left] W fun e w' => e = .returned (.bool true) ∧ Below W.heap.size W w' := by
  generalize hw0 : (W.alloc (.cells #[.int .i64 af, .int .i64 ag, .int .i64 ab] 35)).alloc (.cells #[.int .i64 bf, .int .i64 bg, .int .i64 bb] 35) = w0
  obtain ⟨hb0, hz⟩ := boxes W af ag ab bf bg bb w0 hw0
  have HB0 := Lib.hid hb0
  have HZ := Lib.hid hz
  have HR := Lib.hid (Below.refl w0.heap.size w0)
  obtain ⟨z0, z1, z2, z3, z4, z5⟩ := HZ.out _ HR.out
  have hs0 : (W.alloc (.cells #[.int .i64 af, .int .i64 ag, .int .i64 ab] 35)).heap.size = W.heap.size + 1 := by simp
  have HC := Lib.hid hC
  have HS := Lib.hid (show 1 ≤ 1 ∧ 1 ≤ 60 ∧ 1 ≤ C ∧ C ≤ 200 from ⟨by decide, by decide, hs⟩)
  clear hb0 hz hs hC
  go_enter Try.func7, Try.ntmps7
  go_wp2_with (first
    | (go_at_call 9; (first
      | ((with_reducible refine (firstC w0).mono ?_); rintro e w1 ⟨rfl, hb⟩; have HB1 := Lib.hid hb; clear z0 z1 z2 z3 z4 z5; obtain ⟨z0, z1, z2, z3, z4, z5⟩ := HZ.out _ HB1.out; clear hb)
      | ((with_reducible refine (firstT w0 _ p b 1 C _ HT.out).mono ?_); rintro e w2 ⟨rfl, ht⟩; have HE := Lib.hid ht; clear ht)))
    | (go_at_call 10; (with_reducible refine (newT w0 1 C _ HB1.out HS.out _ rfl 1 cols one_eq HC.out).mono ?_); rintro e w' ⟨p, b, rfl, ht⟩; have HT := Lib.hid ht; clear z0 z1 z2 z3 z4 z5; obtain ⟨z0, z1, z2, z3, z4, z5⟩ := HZ.out _ HT.out.bel; clear ht))
  go_ret
  exact ⟨rfl, below_then HB0.out HE.out.bel HB0.out.size⟩
set_option maxRecDepth 100000 in
set_option maxHeartbeats 1000000 in
theorem walkA (C : Nat) (cols col af ag ab bf bg bb : Int) (left : Bool) (W : World) (hC : cols = (C : Int)) (hs : 1 ≤ C ∧ C ≤ 200) (h : 0 ≤ col) (h2 : col < cols) (h3 : Cell.attrB af ag ab = false) :
    Calls Try.prog 7 #[.int .i64 cols, .int .i64 col, .agg #[.int .i64 af, .int .i64 ag, .int .i64 ab], .agg #[.int .i64 bf, .int .i64 bg, .int .i64 bb], .bool left] W fun e w' => e = .returned (.bool true) ∧ Below W.heap.size W w' := by
  generalize hw0 : (W.alloc (.cells #[.int .i64 af, .int .i64 ag, .int .i64 ab] 35)).alloc (.cells #[.int .i64 bf, .int .i64 bg, .int .i64 bb] 35) = w0
  obtain ⟨hb0, hz⟩ := boxes W af ag ab bf bg bb w0 hw0
  have HB0 := Lib.hid hb0
  have HZ := Lib.hid hz
  have HR := Lib.hid (Below.refl w0.heap.size w0)
  obtain ⟨z0, z1, z2, z3, z4, z5⟩ := HZ.out _ HR.out
  have hs0 : (W.alloc (.cells #[.int .i64 af, .int .i64 ag, .int .i64 ab] 35)).heap.size = W.heap.size + 1 := by simp
  have HC := Lib.hid hC
  have HS := Lib.hid (show 1 ≤ 1 ∧ 1 ≤ 60 ∧ 1 ≤ C ∧ C ≤ 200 from ⟨by decide, by decide, hs⟩)
  have HA := Lib.hid h3
  clear h3
  clear hb0 hz hs hC
  go_enter Try.func7, Try.ntmps7
  go_wp2_with (first
    | (go_at_call 9; (first
      | ((with_reducible refine (firstC w0).mono ?_); rintro e w1 ⟨rfl, hb⟩; have HB1 := Lib.hid hb; clear z0 z1 z2 z3 z4 z5; obtain ⟨z0, z1, z2, z3, z4, z5⟩ := HZ.out _ HB1.out; clear hb)
      | ((with_reducible refine (firstT w0 _ p b 1 C _ HT.out).mono ?_); rintro e w2 ⟨rfl, ht⟩; have HE := Lib.hid ht; clear ht)))
    | (go_at_call 10; (with_reducible refine (newT w0 1 C _ HB1.out HS.out _ rfl 1 cols one_eq HC.out).mono ?_); rintro e w' ⟨p, b, rfl, ht⟩; have HT := Lib.hid ht; clear z0 z1 z2 z3 z4 z5; obtain ⟨z0, z1, z2, z3, z4, z5⟩ := HZ.out _ HT.out.bel; clear ht)
    | (go_at_call 30; (with_reducible refine (attrT w0 _ p b 1 C _ HT.out af ag ab false HA.out).mono ?_); rintro e w' ⟨rfl, ht⟩; clear HT; have HT := Lib.hid ht; clear ht))
  go_ret
  exact ⟨rfl, below_then HB0.out HE.out.bel HB0.out.size⟩
set_option maxRecDepth 100000 in
set_option maxHeartbeats 1000000 in
theorem walkB (C : Nat) (cols col af ag ab bf bg bb : Int) (left : Bool) (W : World) (hC : cols = (C : Int)) (hs : 1 ≤ C ∧ C ≤ 200) (h : 0 ≤ col) (h2 : col < cols) (h3 : Cell.attrB af ag ab = true) (h4 : Cell.attrB bf bg bb = false) :
    Calls Try.prog 7 #[.int .i64 cols, .int .i64 col, .agg #[.int .i64 af, .int .i64 ag, .int .i64 ab], .agg #[.int .i64 bf, .int .i64 bg, .int .i64 bb], .bool left] W fun e w' => e = .returned (.bool true) ∧ Below W.heap.size W w' := by
  generalize hw0 : (W.alloc (.cells #[.int .i64 af, .int .i64 ag, .int .i64 ab] 35)).alloc (.cells #[.int .i64 bf, .int .i64 bg, .int .i64 bb] 35) = w0
  obtain ⟨hb0, hz⟩ := boxes W af ag ab bf bg bb w0 hw0
  have HB0 := Lib.hid hb0
  have HZ := Lib.hid hz
  have HR := Lib.hid (Below.refl w0.heap.size w0)
  obtain ⟨z0, z1, z2, z3, z4, z5⟩ := HZ.out _ HR.out
  have hs0 : (W.alloc (.cells #[.int .i64 af, .int .i64 ag, .int .i64 ab] 35)).heap.size = W.heap.size + 1 := by simp
  have HC := Lib.hid hC
  have HS := Lib.hid (show 1 ≤ 1 ∧ 1 ≤ 60 ∧ 1 ≤ C ∧ C ≤ 200 from ⟨by decide, by decide, hs⟩)
  have HA := Lib.hid h3
  have HA2 := Lib.hid h4
  clear h3 h4
  clear hb0 hz hs hC
  go_enter Try.func7, Try.ntmps7
  go_wp2_with (first
    | (go_at_call 9; (first
      | ((with_reducible refine (firstC w0).mono ?_); rintro e w1 ⟨rfl, hb⟩; have HB1 := Lib.hid hb; clear z0 z1 z2 z3 z4 z5; obtain ⟨z0, z1, z2, z3, z4, z5⟩ := HZ.out _ HB1.out; clear hb)
      | ((with_reducible refine (firstT w0 _ p b 1 C _ HT.out).mono ?_); rintro e w2 ⟨rfl, ht⟩; have HE := Lib.hid ht; clear ht)))
    | (go_at_call 10; (with_reducible refine (newT w0 1 C _ HB1.out HS.out _ rfl 1 cols one_eq HC.out).mono ?_); rintro e w' ⟨p, b, rfl, ht⟩; have HT := Lib.hid ht; clear z0 z1 z2 z3 z4 z5; obtain ⟨z0, z1, z2, z3, z4, z5⟩ := HZ.out _ HT.out.bel; clear ht)
    | (go_at_call 30; (first
      | ((with_reducible refine (attrT w0 _ p b 1 C _ HT.out af ag ab true HA.out).mono ?_); rintro e w' ⟨rfl, ht⟩; clear HT HA; have HT := Lib.hid ht; clear z0 z1 z2 z3 z4 z5; obtain ⟨z0, z1, z2, z3, z4, z5⟩ := HZ.out _ HT.out.bel; clear ht)
      | ((with_reducible refine (attrT w0 _ p b 1 C _ HT.out bf bg bb false HA2.out).mono ?_); rintro e w' ⟨rfl, ht⟩; clear HT HA2; have HT := Lib.hid ht; clear ht))))
  go_ret
  exact ⟨rfl, below_then HB0.out HE.out.bel HB0.out.size⟩
set_option maxRecDepth 100000 in
set_option maxHeartbeats 2000000 in
theorem mainA (C k : Nat) (cols af ag ab bf bg bb : Int) (left : Bool) (W : World) (hC : cols = (C : Int)) (hs : 1 ≤ C ∧ C ≤ 200) (h3 : Cell.attrB af ag ab = true) (h4 : Cell.attrB bf bg bb = true) (hk : k + 1 = C) :
    Calls Try.prog 7 #[.int .i64 cols, .int .i64 (k : Int), .agg #[.int .i64 af, .int .i64 ag, .int .i64 ab], .agg #[.int .i64 bf, .int .i64 bg, .int .i64 bb], .bool left] W fun e w' => e = .returned (.bool true) ∧ Below W.heap.size W w' := by
  generalize hw0 : (W.alloc (.cells #[.int .i64 af, .int .i64 ag, .int .i64 ab] 35)).alloc (.cells #[.int .i64 bf, .int .i64 bg, .int .i64 bb] 35) = w0
  obtain ⟨hb0, hz⟩ := boxes W af ag ab bf bg bb w0 hw0
  have HB0 := Lib.hid hb0
  have HZ := Lib.hid hz
  have HR := Lib.hid (Below.refl w0.heap.size w0)
  obtain ⟨z0, z1, z2, z3, z4, z5⟩ := HZ.out _ HR.out
  have hs0 : (W.alloc (.cells #[.int .i64 af, .int .i64 ag, .int .i64 ab] 35)).heap.size = W.heap.size + 1 := by simp
  have HC := Lib.hid hC
  have HS := Lib.hid (show 1 ≤ 1 ∧ 1 ≤ 60 ∧ 1 ≤ C ∧ C ≤ 200 from ⟨by decide, by decide, hs⟩)
  have HA := Lib.hid h3
  have HA2 := Lib.hid h4
  have HL := Lib.hid (show List.replicate (1 * C) (Gm.blankC 0) = List.replicate C b0 by rw [Nat.one_mul]; rfl)
  have HP1 := Lib.hid (fun w p b (ht : Tp w0 w p b 1 C (List.replicate C b0)) => putT w0 p b 1 C 0 (k : Int) ⟨19968, af, ag, ab, 1⟩ (List.replicate C b0) w ht true (ok_one (by omega) (wide_may h3) (show ¬ (1 : Int) = 2 by decide)) ((List.replicate C b0).set k (Gm.blankC ab)) (wide_last hk h3))
  have HQ1 := Lib.hid (fun w p b (ht : Tp w0 w p b 1 C ((List.replicate C b0).set k (Gm.blankC ab))) => atT w0 p b 1 C 0 (k : Int) ((List.replicate C b0).set k (Gm.blankC ab)) w ht ⟨32, 0, 0, ab, 0⟩ (at_last hk))
  generalize ((List.replicate C b0).set k (Gm.blankC ab)) = L1 at *
  have y1 : ((k : Int) == cols - 1) = true := by rw [beq_iff_eq]; omega
  have y0 : (k : Int) < cols := by omega
  have yc : cols ≤ 200 := by omega
  clear hb0 hz hs hC h3 h4 hk
  go_enter Try.func7, Try.ntmps7
  go_wp2_with (first
    | (go_at_call 9; (with_reducible refine (firstC w0).mono ?_); rintro e w1 ⟨rfl, hb⟩; have HB1 := Lib.hid hb; clear z0 z1 z2 z3 z4 z5; obtain ⟨z0, z1, z2, z3, z4, z5⟩ := HZ.out _ HB1.out; clear hb)
    | (go_at_call 10; (with_reducible refine (newT w0 1 C _ HB1.out HS.out _ HL.out 1 cols one_eq HC.out).mono ?_); rintro e w' ⟨p, b, rfl, ht⟩; have HT := Lib.hid ht; clear z0 z1 z2 z3 z4 z5; obtain ⟨z0, z1, z2, z3, z4, z5⟩ := HZ.out _ HT.out.bel; clear ht)
    | (go_at_call 30; (first
      | ((with_reducible refine (attrT w0 _ p b 1 C _ HT.out af ag ab true HA.out).mono ?_); rintro e w' ⟨rfl, ht⟩; clear HT HA; have HT := Lib.hid ht; clear z0 z1 z2 z3 z4 z5; obtain ⟨z0, z1, z2, z3, z4, z5⟩ := HZ.out _ HT.out.bel; clear ht)
      | ((with_reducible refine (attrT w0 _ p b 1 C _ HT.out bf bg bb true HA2.out).mono ?_); rintro e w' ⟨rfl, ht⟩; clear HT HA2; have HT := Lib.hid ht; clear z0 z1 z2 z3 z4 z5; obtain ⟨z0, z1, z2, z3, z4, z5⟩ := HZ.out _ HT.out.bel; clear ht)))
    | (go_at_call 21; (with_reducible refine (HP1.out _ p b HT.out).mono ?_); rintro e w5 ⟨rfl, ht⟩; have HT1 := Lib.hid ht; clear z0 z1 z2 z3 z4 z5; obtain ⟨z0, z1, z2, z3, z4, z5⟩ := HZ.out _ HT1.out.bel; clear ht HT))
  go_region_held3 (fun wk => wk.cell? ⟨W.heap.size, 0, none⟩ = some (.int .i64 af) ∧ wk.cell? ⟨W.heap.size, 1, none⟩ = some (.int .i64 ag) ∧ wk.cell? ⟨W.heap.size, 2, none⟩ = some (.int .i64 ab) ∧ wk.cell? ⟨W.heap.size + 1, 0, none⟩ = some (.int .i64 bf) ∧ wk.cell? ⟨W.heap.size + 1, 1, none⟩ = some (.int .i64 bg) ∧ wk.cell? ⟨W.heap.size + 1, 2, none⟩ = some (.int .i64 bb)) (first | exact HZ.out _ HT4.out.bel | exact HZ.out _ HT3.out.bel | exact HZ.out _ HT2.out.bel | exact HZ.out _ (below_drew HT1.out.bel)) (first
    | (go_at_call 9; (with_reducible refine (firstT w0 _ p b 1 C _ (Tp.drew HT1.out)).mono ?_); rintro e w6 ⟨rfl, ht⟩; have HT2 := Lib.hid ht; clear ht)
    | (go_at_call 19; (with_reducible refine (HQ1.out _ p b HT2.out).mono ?_); rintro e w7 ⟨rfl, ht⟩; have HT3 := Lib.hid ht; clear ht)
    | (go_at_call 28; (with_reducible refine (blankT w0 _ p b 1 C _ HT3.out af ag ab).mono ?_); rintro e w8 ⟨rfl, ht⟩; have HT4 := Lib.hid ht; clear ht))
  go_wp2
  go_ret
  exact ⟨rfl, below_then HB0.out HT4.out.bel HB0.out.size⟩
set_option maxRecDepth 100000 in
set_option maxHeartbeats 2000000 in
theorem mainB (C k : Nat) (cols af ag ab bf bg bb : Int) (W : World) (hC : cols = (C : Int)) (hs : 1 ≤ C ∧ C ≤ 200) (h3 : Cell.attrB af ag ab = true) (h4 : Cell.attrB bf bg bb = true) (hk : k + 1 < C) :
    Calls Try.prog 7 #[.int .i64 cols, .int .i64 (k : Int), .agg #[.int .i64 af, .int .i64 ag, .int .i64 ab], .agg #[.int .i64 bf, .int .i64 bg, .int .i64 bb], .bool true] W fun e w' => e = .returned (.bool true) ∧ Below W.heap.size W w' := by
  generalize hw0 : (W.alloc (.cells #[.int .i64 af, .int .i64 ag, .int .i64 ab] 35)).alloc (.cells #[.int .i64 bf, .int .i64 bg, .int .i64 bb] 35) = w0
  obtain ⟨hb0, hz⟩ := boxes W af ag ab bf bg bb w0 hw0
  have HB0 := Lib.hid hb0
  have HZ := Lib.hid hz
  have HR := Lib.hid (Below.refl w0.heap.size w0)
  obtain ⟨z0, z1, z2, z3, z4, z5⟩ := HZ.out _ HR.out
  have hs0 : (W.alloc (.cells #[.int .i64 af, .int .i64 ag, .int .i64 ab] 35)).heap.size = W.heap.size + 1 := by simp
  have HC := Lib.hid hC
  have HS := Lib.hid (show 1 ≤ 1 ∧ 1 ≤ 60 ∧ 1 ≤ C ∧ C ≤ 200 from ⟨by decide, by decide, hs⟩)
  have HA := Lib.hid h3
  have HA2 := Lib.hid h4
  have HL := Lib.hid (show List.replicate (1 * C) (Gm.blankC 0) = List.replicate C b0 by rw [Nat.one_mul]; rfl)
  have HP1 := Lib.hid (fun w p b (ht : Tp w0 w p b 1 C (List.replicate C b0)) => putT w0 p b 1 C 0 (k : Int) ⟨19968, af, ag, ab, 1⟩ (List.replicate C b0) w ht true (ok_one (by omega) (wide_may h3) (show ¬ (1 : Int) = 2 by decide)) (pairL C k ⟨19968, af, ag, ab, 1⟩ ⟨0, af, ag, ab, 2⟩) (wide_pair hk h3))
  have HQ1 := Lib.hid (fun w p b (ht : Tp w0 w p b 1 C (pairL C k ⟨19968, af, ag, ab, 1⟩ ⟨0, af, ag, ab, 2⟩)) => atT w0 p b 1 C 0 (k : Int) (pairL C k ⟨19968, af, ag, ab, 1⟩ ⟨0, af, ag, ab, 2⟩) w ht ⟨19968, af, ag, ab, 1⟩ (at_left hk _ _))
  have HQ2 := Lib.hid (fun w p b (ht : Tp w0 w p b 1 C (pairL C k ⟨19968, af, ag, ab, 1⟩ ⟨0, af, ag, ab, 2⟩)) => atT w0 p b 1 C 0 ((k : Int) + 1) (pairL C k ⟨19968, af, ag, ab, 1⟩ ⟨0, af, ag, ab, 2⟩) w ht ⟨0, af, ag, ab, 2⟩ (at_right hk _ _ _ (by omega)))
  have HP2 := Lib.hid (fun w p b (ht : Tp w0 w p b 1 C (pairL C k ⟨19968, af, ag, ab, 1⟩ ⟨0, af, ag, ab, 2⟩)) => putT w0 p b 1 C 0 (k : Int) ⟨120, bf, bg, bb, 0⟩ (pairL C k ⟨19968, af, ag, ab, 1⟩ ⟨0, af, ag, ab, 2⟩) w ht true (ok_one (by omega) (sign_may h4) (show ¬ (0 : Int) = 2 by decide)) (pairL C k ⟨120, bf, bg, bb, 0⟩ ⟨32, af, ag, ab, 0⟩) (over_left hk h4))
  have HQ3 := Lib.hid (fun w p b (ht : Tp w0 w p b 1 C (pairL C k ⟨120, bf, bg, bb, 0⟩ ⟨32, af, ag, ab, 0⟩)) => atT w0 p b 1 C 0 (k : Int) (pairL C k ⟨120, bf, bg, bb, 0⟩ ⟨32, af, ag, ab, 0⟩) w ht ⟨120, bf, bg, bb, 0⟩ (at_left hk _ _))
  have HQ4 := Lib.hid (fun w p b (ht : Tp w0 w p b 1 C (pairL C k ⟨120, bf, bg, bb, 0⟩ ⟨32, af, ag, ab, 0⟩)) => atT w0 p b 1 C 0 ((k : Int) + 1) (pairL C k ⟨120, bf, bg, bb, 0⟩ ⟨32, af, ag, ab, 0⟩) w ht ⟨32, af, ag, ab, 0⟩ (at_right hk _ _ _ (by omega)))
  generalize hL1 : (pairL C k ⟨19968, af, ag, ab, 1⟩ ⟨0, af, ag, ab, 2⟩) = L1 at *
  generalize hL2 : (pairL C k ⟨120, bf, bg, bb, 0⟩ ⟨32, af, ag, ab, 0⟩) = L2 at *
  have y1 : ((k : Int) == cols - 1) = false := by rw [beq_eq_false_iff_ne]; omega
  have y2 : (k : Int) + 1 ≤ 200 := by omega
  have y0 : (k : Int) < cols := by omega
  have yc : cols ≤ 200 := by omega
  clear hb0 hz hs hC h3 h4 hk hL1 hL2
  have y3 : IntKind.i64.wrap ((k : Int) + 1) = (k : Int) + 1 := IntWalk.i64_in _ (by omega)
  go_enter Try.func7, Try.ntmps7
  go_wp2_with (first
    | (go_at_call 9; (with_reducible refine (firstC w0).mono ?_); rintro e w1 ⟨rfl, hb⟩; have HB1 := Lib.hid hb; clear z0 z1 z2 z3 z4 z5; obtain ⟨z0, z1, z2, z3, z4, z5⟩ := HZ.out _ HB1.out; clear hb)
    | (go_at_call 10; (with_reducible refine (newT w0 1 C _ HB1.out HS.out _ HL.out 1 cols one_eq HC.out).mono ?_); rintro e w' ⟨p, b, rfl, ht⟩; have HT := Lib.hid ht; clear z0 z1 z2 z3 z4 z5; obtain ⟨z0, z1, z2, z3, z4, z5⟩ := HZ.out _ HT.out.bel; clear ht)
    | (go_at_call 30; (first
      | ((with_reducible refine (attrT w0 _ p b 1 C _ HT.out af ag ab true HA.out).mono ?_); rintro e w' ⟨rfl, ht⟩; clear HT HA; have HT := Lib.hid ht; clear z0 z1 z2 z3 z4 z5; obtain ⟨z0, z1, z2, z3, z4, z5⟩ := HZ.out _ HT.out.bel; clear ht)
      | ((with_reducible refine (attrT w0 _ p b 1 C _ HT.out bf bg bb true HA2.out).mono ?_); rintro e w' ⟨rfl, ht⟩; clear HT HA2; have HT := Lib.hid ht; clear z0 z1 z2 z3 z4 z5; obtain ⟨z0, z1, z2, z3, z4, z5⟩ := HZ.out _ HT.out.bel; clear ht)))
    | (go_at_call 21; (with_reducible refine (HP1.out _ p b HT.out).mono ?_); rintro e w5 ⟨rfl, ht⟩; have HT1 := Lib.hid ht; clear z0 z1 z2 z3 z4 z5; obtain ⟨z0, z1, z2, z3, z4, z5⟩ := HZ.out _ HT1.out.bel; clear ht HT))
  go_region_held3 (fun wk => wk.cell? ⟨W.heap.size, 0, none⟩ = some (.int .i64 af) ∧ wk.cell? ⟨W.heap.size, 1, none⟩ = some (.int .i64 ag) ∧ wk.cell? ⟨W.heap.size, 2, none⟩ = some (.int .i64 ab) ∧ wk.cell? ⟨W.heap.size + 1, 0, none⟩ = some (.int .i64 bf) ∧ wk.cell? ⟨W.heap.size + 1, 1, none⟩ = some (.int .i64 bg) ∧ wk.cell? ⟨W.heap.size + 1, 2, none⟩ = some (.int .i64 bb)) (first | exact HZ.out _ HT3.out.bel | exact HZ.out _ HT2.out.bel | exact HZ.out _ (below_drew HT1.out.bel)) (first
    | (go_at_call 19; (first
      | ((with_reducible refine (HQ1.out _ p b (Tp.drew HT1.out)).mono ?_); rintro e w6 ⟨rfl, ht⟩; have HT2 := Lib.hid ht; clear ht)
      | ((with_reducible refine (HQ2.out _ p b HT2.out).mono ?_); rintro e w7 ⟨rfl, ht⟩; have HT3 := Lib.hid ht; clear ht))))
  clear z0 z1 z2 z3 z4 z5; obtain ⟨z0, z1, z2, z3, z4, z5⟩ := HZ.out _ HT3.out.bel
  go_wp2_with (first
    | (go_at_call 21; (with_reducible refine (HP2.out _ p b HT3.out).mono ?_); rintro e w8 ⟨rfl, ht⟩; have HT4 := Lib.hid ht; clear z0 z1 z2 z3 z4 z5; obtain ⟨z0, z1, z2, z3, z4, z5⟩ := HZ.out _ HT4.out.bel; clear ht))
  go_region_held3 (fun wk => wk.cell? ⟨W.heap.size, 0, none⟩ = some (.int .i64 af) ∧ wk.cell? ⟨W.heap.size, 1, none⟩ = some (.int .i64 ag) ∧ wk.cell? ⟨W.heap.size, 2, none⟩ = some (.int .i64 ab) ∧ wk.cell? ⟨W.heap.size + 1, 0, none⟩ = some (.int .i64 bf) ∧ wk.cell? ⟨W.heap.size + 1, 1, none⟩ = some (.int .i64 bg) ∧ wk.cell? ⟨W.heap.size + 1, 2, none⟩ = some (.int .i64 bb)) (first | exact HZ.out _ HT7.out.bel | exact HZ.out _ HT6.out.bel | exact HZ.out _ HT5.out.bel | exact HZ.out _ (below_drew HT4.out.bel)) (first
    | (go_at_call 9; (with_reducible refine (firstT w0 _ p b 1 C _ (Tp.drew HT4.out)).mono ?_); rintro e w9 ⟨rfl, ht⟩; have HT5 := Lib.hid ht; clear ht)
    | (go_at_call 19; (first
      | ((with_reducible refine (HQ3.out _ p b HT5.out).mono ?_); rintro e w10 ⟨rfl, ht⟩; have HT6 := Lib.hid ht; clear ht)
      | ((with_reducible refine (HQ4.out _ p b HT6.out).mono ?_); rintro e w11 ⟨rfl, ht⟩; have HT7 := Lib.hid ht; clear ht))))
  go_wp2
  go_ret
  exact ⟨rfl, below_then HB0.out HT7.out.bel HB0.out.size⟩
set_option maxRecDepth 100000 in
set_option maxHeartbeats 2000000 in
theorem mainC (C k : Nat) (cols af ag ab bf bg bb : Int) (W : World) (hC : cols = (C : Int)) (hs : 1 ≤ C ∧ C ≤ 200) (h3 : Cell.attrB af ag ab = true) (h4 : Cell.attrB bf bg bb = true) (hk : k + 1 < C) :
    Calls Try.prog 7 #[.int .i64 cols, .int .i64 (k : Int), .agg #[.int .i64 af, .int .i64 ag, .int .i64 ab], .agg #[.int .i64 bf, .int .i64 bg, .int .i64 bb], .bool false] W fun e w' => e = .returned (.bool true) ∧ Below W.heap.size W w' := by
  generalize hw0 : (W.alloc (.cells #[.int .i64 af, .int .i64 ag, .int .i64 ab] 35)).alloc (.cells #[.int .i64 bf, .int .i64 bg, .int .i64 bb] 35) = w0
  obtain ⟨hb0, hz⟩ := boxes W af ag ab bf bg bb w0 hw0
  have HB0 := Lib.hid hb0
  have HZ := Lib.hid hz
  have HR := Lib.hid (Below.refl w0.heap.size w0)
  obtain ⟨z0, z1, z2, z3, z4, z5⟩ := HZ.out _ HR.out
  have hs0 : (W.alloc (.cells #[.int .i64 af, .int .i64 ag, .int .i64 ab] 35)).heap.size = W.heap.size + 1 := by simp
  have HC := Lib.hid hC
  have HS := Lib.hid (show 1 ≤ 1 ∧ 1 ≤ 60 ∧ 1 ≤ C ∧ C ≤ 200 from ⟨by decide, by decide, hs⟩)
  have HA := Lib.hid h3
  have HA2 := Lib.hid h4
  have HL := Lib.hid (show List.replicate (1 * C) (Gm.blankC 0) = List.replicate C b0 by rw [Nat.one_mul]; rfl)
  have HP1 := Lib.hid (fun w p b (ht : Tp w0 w p b 1 C (List.replicate C b0)) => putT w0 p b 1 C 0 (k : Int) ⟨19968, af, ag, ab, 1⟩ (List.replicate C b0) w ht true (ok_one (by omega) (wide_may h3) (show ¬ (1 : Int) = 2 by decide)) (pairL C k ⟨19968, af, ag, ab, 1⟩ ⟨0, af, ag, ab, 2⟩) (wide_pair hk h3))
  have HQ1 := Lib.hid (fun w p b (ht : Tp w0 w p b 1 C (pairL C k ⟨19968, af, ag, ab, 1⟩ ⟨0, af, ag, ab, 2⟩)) => atT w0 p b 1 C 0 (k : Int) (pairL C k ⟨19968, af, ag, ab, 1⟩ ⟨0, af, ag, ab, 2⟩) w ht ⟨19968, af, ag, ab, 1⟩ (at_left hk _ _))
  have HQ2 := Lib.hid (fun w p b (ht : Tp w0 w p b 1 C (pairL C k ⟨19968, af, ag, ab, 1⟩ ⟨0, af, ag, ab, 2⟩)) => atT w0 p b 1 C 0 ((k : Int) + 1) (pairL C k ⟨19968, af, ag, ab, 1⟩ ⟨0, af, ag, ab, 2⟩) w ht ⟨0, af, ag, ab, 2⟩ (at_right hk _ _ _ (by omega)))
  have HP2 := Lib.hid (fun w p b (ht : Tp w0 w p b 1 C (pairL C k ⟨19968, af, ag, ab, 1⟩ ⟨0, af, ag, ab, 2⟩)) => putT w0 p b 1 C 0 ((k : Int) + 1) ⟨120, bf, bg, bb, 0⟩ (pairL C k ⟨19968, af, ag, ab, 1⟩ ⟨0, af, ag, ab, 2⟩) w ht true (by rw [show (k : Int) + 1 = ((k + 1 : Nat) : Int) by omega]; exact ok_one hk (sign_may h4) (show ¬ (0 : Int) = 2 by decide)) (pairL C k ⟨32, af, ag, ab, 0⟩ ⟨120, bf, bg, bb, 0⟩) (over_right hk h4 _ (by omega)))
  have HQ3 := Lib.hid (fun w p b (ht : Tp w0 w p b 1 C (pairL C k ⟨32, af, ag, ab, 0⟩ ⟨120, bf, bg, bb, 0⟩)) => atT w0 p b 1 C 0 ((k : Int) + 1) (pairL C k ⟨32, af, ag, ab, 0⟩ ⟨120, bf, bg, bb, 0⟩) w ht ⟨120, bf, bg, bb, 0⟩ (at_right hk _ _ _ (by omega)))
  have HQ4 := Lib.hid (fun w p b (ht : Tp w0 w p b 1 C (pairL C k ⟨32, af, ag, ab, 0⟩ ⟨120, bf, bg, bb, 0⟩)) => atT w0 p b 1 C 0 (k : Int) (pairL C k ⟨32, af, ag, ab, 0⟩ ⟨120, bf, bg, bb, 0⟩) w ht ⟨32, af, ag, ab, 0⟩ (at_left hk _ _))
  generalize hL1 : (pairL C k ⟨19968, af, ag, ab, 1⟩ ⟨0, af, ag, ab, 2⟩) = L1 at *
  generalize hL2 : (pairL C k ⟨32, af, ag, ab, 0⟩ ⟨120, bf, bg, bb, 0⟩) = L2 at *
  have y1 : ((k : Int) == cols - 1) = false := by rw [beq_eq_false_iff_ne]; omega
  have y2 : (k : Int) + 1 ≤ 200 := by omega
  have y0 : (k : Int) < cols := by omega
  have yc : cols ≤ 200 := by omega
  clear hb0 hz hs hC h3 h4 hk hL1 hL2
  have y3 : IntKind.i64.wrap ((k : Int) + 1) = (k : Int) + 1 := IntWalk.i64_in _ (by omega)
  go_enter Try.func7, Try.ntmps7
  go_wp2_with (first
    | (go_at_call 9; (with_reducible refine (firstC w0).mono ?_); rintro e w1 ⟨rfl, hb⟩; have HB1 := Lib.hid hb; clear z0 z1 z2 z3 z4 z5; obtain ⟨z0, z1, z2, z3, z4, z5⟩ := HZ.out _ HB1.out; clear hb)
    | (go_at_call 10; (with_reducible refine (newT w0 1 C _ HB1.out HS.out _ HL.out 1 cols one_eq HC.out).mono ?_); rintro e w' ⟨p, b, rfl, ht⟩; have HT := Lib.hid ht; clear z0 z1 z2 z3 z4 z5; obtain ⟨z0, z1, z2, z3, z4, z5⟩ := HZ.out _ HT.out.bel; clear ht)
    | (go_at_call 30; (first
      | ((with_reducible refine (attrT w0 _ p b 1 C _ HT.out af ag ab true HA.out).mono ?_); rintro e w' ⟨rfl, ht⟩; clear HT HA; have HT := Lib.hid ht; clear z0 z1 z2 z3 z4 z5; obtain ⟨z0, z1, z2, z3, z4, z5⟩ := HZ.out _ HT.out.bel; clear ht)
      | ((with_reducible refine (attrT w0 _ p b 1 C _ HT.out bf bg bb true HA2.out).mono ?_); rintro e w' ⟨rfl, ht⟩; clear HT HA2; have HT := Lib.hid ht; clear z0 z1 z2 z3 z4 z5; obtain ⟨z0, z1, z2, z3, z4, z5⟩ := HZ.out _ HT.out.bel; clear ht)))
    | (go_at_call 21; (with_reducible refine (HP1.out _ p b HT.out).mono ?_); rintro e w5 ⟨rfl, ht⟩; have HT1 := Lib.hid ht; clear z0 z1 z2 z3 z4 z5; obtain ⟨z0, z1, z2, z3, z4, z5⟩ := HZ.out _ HT1.out.bel; clear ht HT))
  go_region_held3 (fun wk => wk.cell? ⟨W.heap.size, 0, none⟩ = some (.int .i64 af) ∧ wk.cell? ⟨W.heap.size, 1, none⟩ = some (.int .i64 ag) ∧ wk.cell? ⟨W.heap.size, 2, none⟩ = some (.int .i64 ab) ∧ wk.cell? ⟨W.heap.size + 1, 0, none⟩ = some (.int .i64 bf) ∧ wk.cell? ⟨W.heap.size + 1, 1, none⟩ = some (.int .i64 bg) ∧ wk.cell? ⟨W.heap.size + 1, 2, none⟩ = some (.int .i64 bb)) (first | exact HZ.out _ HT3.out.bel | exact HZ.out _ HT2.out.bel | exact HZ.out _ (below_drew HT1.out.bel)) (first
    | (go_at_call 19; (first
      | ((with_reducible refine (HQ1.out _ p b (Tp.drew HT1.out)).mono ?_); rintro e w6 ⟨rfl, ht⟩; have HT2 := Lib.hid ht; clear ht)
      | ((with_reducible refine (HQ2.out _ p b HT2.out).mono ?_); rintro e w7 ⟨rfl, ht⟩; have HT3 := Lib.hid ht; clear ht))))
  clear z0 z1 z2 z3 z4 z5; obtain ⟨z0, z1, z2, z3, z4, z5⟩ := HZ.out _ HT3.out.bel
  go_wp2_with (first
    | (go_at_call 21; (with_reducible refine (HP2.out _ p b HT3.out).mono ?_); rintro e w8 ⟨rfl, ht⟩; have HT4 := Lib.hid ht; clear z0 z1 z2 z3 z4 z5; obtain ⟨z0, z1, z2, z3, z4, z5⟩ := HZ.out _ HT4.out.bel; clear ht))
  go_region_held3 (fun wk => wk.cell? ⟨W.heap.size, 0, none⟩ = some (.int .i64 af) ∧ wk.cell? ⟨W.heap.size, 1, none⟩ = some (.int .i64 ag) ∧ wk.cell? ⟨W.heap.size, 2, none⟩ = some (.int .i64 ab) ∧ wk.cell? ⟨W.heap.size + 1, 0, none⟩ = some (.int .i64 bf) ∧ wk.cell? ⟨W.heap.size + 1, 1, none⟩ = some (.int .i64 bg) ∧ wk.cell? ⟨W.heap.size + 1, 2, none⟩ = some (.int .i64 bb)) (first | exact HZ.out _ HT7.out.bel | exact HZ.out _ HT6.out.bel | exact HZ.out _ HT5.out.bel | exact HZ.out _ (below_drew HT4.out.bel)) (first
    | (go_at_call 9; (with_reducible refine (firstT w0 _ p b 1 C _ (Tp.drew HT4.out)).mono ?_); rintro e w9 ⟨rfl, ht⟩; have HT5 := Lib.hid ht; clear ht)
    | (go_at_call 19; (first
      | ((with_reducible refine (HQ3.out _ p b HT5.out).mono ?_); rintro e w10 ⟨rfl, ht⟩; have HT6 := Lib.hid ht; clear ht)
      | ((with_reducible refine (HQ4.out _ p b HT6.out).mono ?_); rintro e w11 ⟨rfl, ht⟩; have HT7 := Lib.hid ht; clear ht))))
  go_wp2
  go_ret
  exact ⟨rfl, below_then HB0.out HT7.out.bel HB0.out.size⟩
/-- GridWide. -/
theorem walk (cols col af ag ab bf bg bb : Int) (left : Bool) (W : World) (_ : (Lit.int .i64 cols).wf = true) (_ : (Lit.int .i64 col).wf = true) (_ : (Lit.int .i64 af).wf = true) (_ : (Lit.int .i64 ag).wf = true) (_ : (Lit.int .i64 ab).wf = true) (_ : (Lit.int .i64 bf).wf = true) (_ : (Lit.int .i64 bg).wf = true) (_ : (Lit.int .i64 bb).wf = true) :
    Calls Try.prog 7 #[.int .i64 cols, .int .i64 col, .agg #[.int .i64 af, .int .i64 ag, .int .i64 ab], .agg #[.int .i64 bf, .int .i64 bg, .int .i64 bb], .bool left] W fun e w' => e = .returned (.bool true) ∧ Below W.heap.size W w' := by
  by_cases hs : 1 ≤ cols ∧ cols ≤ 200
  · obtain ⟨C, hC⟩ := Int.eq_ofNat_of_zero_le (show 0 ≤ cols by omega)
    have hC2 : 1 ≤ C ∧ C ≤ 200 := by omega
    by_cases h1 : 0 ≤ col
    · by_cases h2 : col < cols
      · cases h3 : Cell.attrB af ag ab
        · exact walkA C cols col af ag ab bf bg bb left W hC hC2 h1 h2 h3
        · cases h4 : Cell.attrB bf bg bb
          · exact walkB C cols col af ag ab bf bg bb left W hC hC2 h1 h2 h3 h4
          · obtain ⟨k, rfl⟩ := Int.eq_ofNat_of_zero_le h1
            by_cases hk : k + 1 = C
            · exact mainA C k cols af ag ab bf bg bb left W hC hC2 h3 h4 hk
            · cases left
              · exact mainC C k cols af ag ab bf bg bb W hC hC2 h3 h4 (by omega)
              · exact mainB C k cols af ag ab bf bg bb W hC hC2 h3 h4 (by omega)
      · exact walkHigh C cols col af ag ab bf bg bb left W hC hC2 h1 (by omega)
    · exact walkLow C cols col af ag ab bf bg bb left W hC hC2 (by omega)
  · refine walkNo cols col af ag ab bf bg bb left W ?_
    unfold sizeB
    exact decide_eq_false (by omega)
end Go.Proofs.Ytfdjmlncdbpkgaa.Wi
