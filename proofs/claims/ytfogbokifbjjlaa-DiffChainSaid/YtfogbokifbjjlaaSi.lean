/- Screens: May, of a narrow screen without a title, and of nothing. -/
import Derived.Test.YtfogbokifbjjlaaSh
set_option linter.unusedVariables false
namespace Go.Proofs.Ytfogbokifbjjlaa.Si
open Go Go.RowKit Kit Gm Gv Sa Sb Sd Sf Sg Sh

set_option maxRecDepth 100000 in
set_option maxHeartbeats 4000000 in
theorem mayN (R C row col b off n cap : Nat) (hid : Bool) (L : List Ce) (w : World) (hR : 1 ≤ R) (hC : 1 ≤ C) (hR2 : R ≤ 60) (hC2 : C ≤ 200) (hrow : row < R) (hcol : col < C) (hn : n = L.length) (hs : Sc w b off L) (hN : Nw L) (hq : n = R * C) :
    Calls Try.prog 28 #[svA ⟨R, C, row, col, hid, ⟨#[]⟩⟩ (some ⟨b, off, none⟩) n cap] w fun e w' => e = .returned (.bool true) ∧ Below w.heap.size w w' := by
  have hq2 : R * C ≤ 12000 := Nat.mul_le_mul hR2 hC2
  have r1 : (row : Int) < (R : Int) := by omega
  have r2 : (col : Int) < (C : Int) := by omega
  have hb := below_one w (svO ⟨R, C, row, col, hid, ⟨#[]⟩⟩ (some ⟨b, off, none⟩) n cap)
  have hA : (w.alloc (svO ⟨R, C, row, col, hid, ⟨#[]⟩⟩ (some ⟨b, off, none⟩) n cap)).heap[w.heap.size]? = some (svO ⟨R, C, row, col, hid, ⟨#[]⟩⟩ (some ⟨b, off, none⟩) n cap) := heap_alloc_last w _
  dsimp only [svO] at hb hA
  generalize hw1 : w.alloc (.cells #[.int .i64 R, .int .i64 C, .slice (some ⟨b, off, none⟩) n cap, .int .i64 row, .int .i64 col, .bool hid, .string ⟨#[]⟩] 24) = w1 at *
  obtain ⟨c0, c1, c2, c3, c4, c5, c6⟩ := seven (s := ⟨R, C, row, col, hid, ⟨#[]⟩⟩) hA
  dsimp only at c0 c1 c2 c3 c4 c5 c6
  have H18 := Lib.hid ((maySize R C w1).mono fun e w' (h : _ ∧ _) => (⟨by rw [h.1, ← size_t (by omega)], h.2⟩ : e = .returned (.bool true) ∧ w1 = w'))
  have H19 := Lib.hid (title0 w1)
  have H15 := Lib.hid (fun w2 (hb2 : Below w1.heap.size w1 w2) => mendedN R C b off n cap L w2 hR hC (by omega) (by omega) hn (by omega) ((hs.then_ hb (Nat.le_refl _)).then_ hb2 (Nat.le_refl _)) hN hq)
  have HB := Lib.hid hb
  clear hb hA hq hq2 hs hN hn hrow hcol
  go_enter Try.func28, Try.ntmps28
  go_wp2_with (first
    | (go_at_call 55; (with_reducible refine H18.out.mono ?_); rintro e w' ⟨rfl, rfl⟩)
    | (go_at_call 56; (with_reducible refine H19.out.mono ?_); rintro e w2 ⟨rfl, hb2⟩; have e0 := cell_then hb2 (Nat.le_refl _) c0; have e1 := cell_then hb2 (Nat.le_refl _) c1; have e2 := cell_then hb2 (Nat.le_refl _) c2; have HB2 := Lib.hid hb2; clear hb2)
    | (go_at_call 57; (with_reducible refine (H15.out _ HB2.out).mono ?_); rintro e w3 ⟨rfl, hb3⟩; have HB3 := Lib.hid (below_then (below_then HB.out HB2.out HB.out.size) hb3 (Nat.le_trans HB.out.size HB2.out.size)); clear hb3))
  go_ret
  exact ⟨rfl, HB3.out⟩
set_option maxRecDepth 100000 in
/-- May, of nothing. -/
theorem may0 (w : World) : Calls Try.prog 28 #[svA ⟨0, 0, 0, 0, false, ⟨#[]⟩⟩ none 0 0] w fun e w' => e = .returned (.bool false) ∧ Below w.heap.size w w' := by
  have hb := below_one w (svO ⟨0, 0, 0, 0, false, ⟨#[]⟩⟩ none 0 0)
  have hA : (w.alloc (svO ⟨0, 0, 0, 0, false, ⟨#[]⟩⟩ none 0 0)).heap[w.heap.size]? = some (svO ⟨0, 0, 0, 0, false, ⟨#[]⟩⟩ none 0 0) := heap_alloc_last w _
  dsimp only [svO] at hb hA
  generalize hw1 : w.alloc (.cells #[.int .i64 0, .int .i64 0, .slice none 0 0, .int .i64 0, .int .i64 0, .bool false, .string ⟨#[]⟩] 24) = w1 at *
  obtain ⟨c0, c1, c2, c3, c4, c5, c6⟩ := seven (s := ⟨0, 0, 0, 0, false, ⟨#[]⟩⟩) hA
  dsimp only at c0 c1 c2 c3 c4 c5 c6
  have H18 := Lib.hid ((maySize 0 0 w1).mono fun e w' (h : _ ∧ _) => (⟨by rw [h.1, ← size_f (by omega)], h.2⟩ : e = .returned (.bool false) ∧ w1 = w'))
  have HB := Lib.hid hb
  clear hb hA
  go_enter Try.func28, Try.ntmps28
  go_wp2_with (go_at_call 55; (with_reducible refine H18.out.mono ?_); rintro e w' ⟨rfl, rfl⟩)
  go_ret
  exact ⟨rfl, HB.out⟩
end Go.Proofs.Ytfogbokifbjjlaa.Si
