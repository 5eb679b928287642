/- A segment, read: its beginning. -/
import Derived.Test.YtabgelmmjpjejaaDoorRh
set_option linter.unusedVariables false
namespace Go.Proofs.YtabgelmmjpjejaaDoor.Sr
open Go Go.RowKit Kit Crc Var Get Ref3 Copy Bytes Bx Py Py2 Ry Rz Dn Df Dd Da Dc Rs Rf Rg Ar Bg Hd Sn Rh


theorem four_cells {w : World} {g : Nat} {x0 x1 x2 x3 : Value} (h : w.heap[g]? = some (.cells #[x0, x1, x2, x3] 56 (0, 0))) : w.cell? ⟨g, 0, none⟩ = some x0 ∧ w.cell? ⟨g, 1, none⟩ = some x1 ∧ w.cell? ⟨g, 2, none⟩ = some x2 ∧ w.cell? ⟨g, 3, none⟩ = some x3 ∧ w.frozen? ⟨g, 0, none⟩ = false ∧ w.frozen? ⟨g, 1, none⟩ = false ∧ w.frozen? ⟨g, 2, none⟩ = false ∧ w.frozen? ⟨g, 3, none⟩ = false := by
  refine ⟨?_, ?_, ?_, ?_, frozen_of_row w g 0 _ 56 h, frozen_of_row w g 1 _ 56 h, frozen_of_row w g 2 _ 56 h, frozen_of_row w g 3 _ 56 h⟩
  · rw [cell_of_row w g 0 _ 56 _ h]; rfl
  · rw [cell_of_row w g 1 _ 56 _ h]; rfl
  · rw [cell_of_row w g 2 _ 56 _ h]; rfl
  · rw [cell_of_row w g 3 _ 56 _ h]; rfl
theorem four_set {w : World} {g : Nat} {x0 x1 x2 x3 : Value} (h : w.heap[g]? = some (.cells #[x0, x1, x2, x3] 56 (0, 0))) (a b c d : Value) : ((((w.setCell ⟨g, 0, none⟩ a).setCell ⟨g, 1, none⟩ b).setCell ⟨g, 2, none⟩ c).setCell ⟨g, 3, none⟩ d).heap[g]? = some (.cells #[a, b, c, d] 56 (0, 0)) := by
  rw [heap_setCell_same _ g 3 _ 56 d (heap_setCell_same _ g 2 _ 56 c (heap_setCell_same _ g 1 _ 56 b (heap_setCell_same _ g 0 _ 56 a h)))]; rfl
theorem four_below {B : Nat} {w0 w : World} {g : Nat} (h : Below B w0 w) (hB : B ≤ g) (a b c d : Value) : Below B w0 ((((w.setCell ⟨g, 0, none⟩ a).setCell ⟨g, 1, none⟩ b).setCell ⟨g, 2, none⟩ c).setCell ⟨g, 3, none⟩ d) := (((h.setCell hB _).setCell hB _).setCell hB _).setCell hB _
theorem alloc_row {w : World} {k : Nat} {o : Obj} (h : w.heap[k]? = some o) (x : Obj) : (w.alloc x).heap[k]? = some o := (Below.heap_alloc w x k (Array.getElem?_eq_some_iff.1 h).1).trans h
set_option maxRecDepth 100000 in
set_option maxHeartbeats 2000000 in
/-- a segment with no record. -/
theorem readNone (a : Option Addr) (n cap : Nat) (l : List Nat) (D : Dec) (y : Int) (N F : Nat) (w : World) (hn : n = l.length) (hs : Sl w a l) (hcap : l.length ≤ cap) (hl : ∀ c ∈ l, c < 256) (hlen : l.length ≤ 90000) (hT : TabC w) (hY : hdY l) (hN : N = hdN l) (hF : F = hdV l) (hD : D = decA l 20) (hy : y = endA D 20) (he : D.e ≠ 0) :
    Calls Tryd.prog 29 #[.slice a n cap] w fun e w' => e = .returned (.tuple #[.agg #[.int .i64 (N : Int), .int .u64 (F : Int), .slice none 0 0, .int .i64 20], .int .i64 0]) ∧ Below w.heap.size w w' := by
  subst hn
  have HEQ := Lib.hid (show ((if hdY l then hdN l else 0 : Nat) : Int) = (N : Int) ∧ ((if hdY l then hdV l else 0 : Nat) : Int) = (F : Int) ∧ decide (hdY l) = true by rw [if_pos hY, if_pos hY, decide_eq_true hY, hN, hF]; exact ⟨rfl, rfl, rfl⟩)
  have HL := Lib.hid hl
  have HLE := Lib.hid hlen
  have HC := Lib.hid hcap
  have HD := Lib.hid hD
  have HYY := Lib.hid hy
  have he' : ¬ (D.e : Int) = 0 := by omega
  have hb : ((D.e : Int) == 0) = false := by rw [beq_eq_false_iff_ne]; exact he'
  have HB0 := Lib.hid ((Below.refl w.heap.size w).alloc (Nat.le_refl _) (.cells #[.int .i64 0, .int .u64 0, .slice none 0 0, .int .i64 0] 56))
  have HR0 := Lib.hid (heap_alloc_last w (.cells #[.int .i64 0, .int .u64 0, .slice none 0 0, .int .i64 0] 56))
  have HS1 := Lib.hid (sl_then HB0.out (Nat.le_refl _) hs)
  have HT1 := Lib.hid (tabC_then HB0.out (Nat.le_refl _) hT)
  clear hl hlen hcap hD hy hY hN hF hs hT
  go_enter Tryd.func29, Tryd.ntmps29
  go_wp2_with fail
  generalize w.alloc (.cells #[.int .i64 0, .int .u64 0, .slice none 0 0, .int .i64 0] 56) = w1 at *
  go_wp2_with (go_at_call 48; (with_reducible refine (rhK a l.length cap l w1 rfl HS1.out HC.out HL.out HT1.out).mono ?_); rintro e w2 ⟨rfl, b2⟩; rw [HEQ.out.1, HEQ.out.2.1, HEQ.out.2.2]; have HB2 := Lib.hid (below_then HB0.out b2 HB0.out.size); have HS2 := Lib.hid (sl_then b2 (Nat.le_refl _) HS1.out); have HT2 := Lib.hid (tabC_then b2 (Nat.le_refl _) HT1.out); have HRL := Lib.hid (Array.getElem?_eq_some_iff.1 HR0.out).1; have HR2 := Lib.hid ((b2.block _ HRL.out).trans HR0.out); have b2z := Lib.hid b2.size; clear b2)
  have HW4 := Lib.hid (show Below w2.heap.size w2 ((w2.alloc (.cells #[.int .i64 (N : Int), .int .u64 (F : Int)] 49)).alloc (.cells #[.int .i64 (N : Int), .int .u64 (F : Int), .slice none 0 0, .int .i64 20] 56)) from ((Below.refl _ w2).alloc (Nat.le_refl _) _).alloc (by simp) _)
  have HP4 := Lib.hid (show ((w2.alloc (.cells #[.int .i64 (N : Int), .int .u64 (F : Int)] 49)).alloc (.cells #[.int .i64 (N : Int), .int .u64 (F : Int), .slice none 0 0, .int .i64 20] 56)).heap[w2.heap.size + 1]? = some (.cells #[.int .i64 (N : Int), .int .u64 (F : Int), .slice none 0 0, .int .i64 20] 56 (0, 0)) by
    have h := heap_alloc_last (w2.alloc (.cells #[.int .i64 (N : Int), .int .u64 (F : Int)] 49)) (.cells #[.int .i64 (N : Int), .int .u64 (F : Int), .slice none 0 0, .int .i64 20] 56)
    rw [show (w2.alloc (.cells #[.int .i64 (N : Int), .int .u64 (F : Int)] 49)).heap.size = w2.heap.size + 1 by simp] at h; exact h)
  have HB4 := Lib.hid (below_then HB2.out HW4.out HB2.out.size)
  have HS4 := Lib.hid (sl_then HW4.out (Nat.le_refl _) HS2.out)
  have HT4 := Lib.hid (tabC_then HW4.out (Nat.le_refl _) HT2.out)
  have HR4 := Lib.hid ((HW4.out.block _ (Nat.lt_of_lt_of_le HRL.out b2z.out)).trans HR2.out)
  generalize ((w2.alloc (.cells #[.int .i64 (N : Int), .int .u64 (F : Int)] 49)).alloc (.cells #[.int .i64 (N : Int), .int .u64 (F : Int), .slice none 0 0, .int .i64 20] 56)) = w4 at *
  generalize w2.heap.size + 1 = g6 at *
  have HP4L := Lib.hid (Array.getElem?_eq_some_iff.1 HP4.out).1
  have HR4L := Lib.hid (Array.getElem?_eq_some_iff.1 HR4.out).1
  clear hb he'
  have he' : ¬ (D.e : Int) = 0 := by omega
  have hb : ((D.e : Int) == 0) = false := by rw [beq_eq_false_iff_ne]; exact he'
  clear he
  refine wp_loop_rounds 1 ?_
  rw [rounds_succ]
  obtain ⟨p0, p1, p2, p3, _, _, _, _⟩ := four_cells HP4.out
  go_wp2_with (go_at_call 14; (with_reducible refine (decAll a l.length cap l 20 D y w4 rfl HD.out HYY.out HS4.out HC.out HL.out HLE.out HT4.out).mono ?_); rintro e w5 ⟨da, dc, rfl, _, _, _, _, b5⟩; have HB5 := Lib.hid (below_then HB4.out b5 HB4.out.size); have HP5 := Lib.hid ((b5.block _ HP4L.out).trans HP4.out); have HR5 := Lib.hid ((b5.block _ HR4L.out).trans HR4.out); have HB6 := Lib.hid (HB5.out.alloc HB5.out.size (.cells #[.int .i64 (D.k : Int), .int .u64 (D.s : Int), .int .u64 (D.t : Int), .slice da D.b.length dc] 25)); have HR6 := Lib.hid (alloc_row HR5.out (.cells #[.int .i64 (D.k : Int), .int .u64 (D.s : Int), .int .u64 (D.t : Int), .slice da D.b.length dc] 25)); have HP6 := Lib.hid (alloc_row HP5.out (.cells #[.int .i64 (D.k : Int), .int .u64 (D.s : Int), .int .u64 (D.t : Int), .slice da D.b.length dc] 25)); obtain ⟨r0, r1, r2, r3, f0, f1, f2, f3⟩ := four_cells HR6.out; clear p0 p1 p2 p3; obtain ⟨p0, p1, p2, p3, _, _, _, _⟩ := four_cells HP6.out; clear b5)
  clear r0 r1 r2 r3 f0 f1 f2 f3 p0 p1 p2 p3
  obtain ⟨q0, q1, q2, q3, _, _, _, _⟩ := four_cells (four_set HR6.out (.int .i64 (N : Int)) (.int .u64 (F : Int)) (.slice none 0 0) (.int .i64 20))
  exact bodyPost_ret (v := .tuple #[.agg #[.int .i64 (N : Int), .int .u64 (F : Int), .slice none 0 0, .int .i64 20], .int .i64 0]) (by simp [results, Tryd.results29, go_sem, q0, q1, q2, q3]) rfl ⟨rfl, four_below HB6.out (Nat.le_refl _) _ _ _ _⟩

end Go.Proofs.YtabgelmmjpjejaaDoor.Sr
