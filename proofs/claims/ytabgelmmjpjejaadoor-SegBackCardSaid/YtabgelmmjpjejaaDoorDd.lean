/- The deferred closure of Decode. -/
import Derived.Test.YtabgelmmjpjejaaDoorDf
import Derived.Defers
import Derived.Recover
import Derived.RegionTactic
import Derived.Outline
import Derived.WalkLawsBesides
set_option linter.unusedVariables false
namespace Go.Proofs.YtabgelmmjpjejaaDoor.Dd
open Go Go.RowKit Kit Crc Var Get Ref3 Copy Bytes Bx Py Py2 Ry Dn Df


variable {w w' : World}
theorem tm41 (a b c v : Value) : #[a, b, c] ++ ((Array.replicate 17 undef).setIfInBounds 3 v).setIfInBounds 0 v = #[a, b, c, v, undef, undef, v, undef, undef, undef, undef, undef, undef, undef, undef, undef, undef, undef, undef, undef] := by
  apply Array.toList_inj.1
  simp [List.replicate]
/-- the deferred closure, where the reading ended well: nothing. -/
theorem catch_idle (a b c : Addr) (w : World) :
    CallsD Tryd.prog 41 #[.pointer (some a), .pointer (some b), .pointer (some c)] .returning w fun e u' w' => e = .returned (.tuple #[]) ∧ u' = .returning ∧ w' = w := by
  refine callsD_of_wpS Tryd.func41 rfl fun c₀ cs hu => ?_
  apply wpS_seq
  apply wpS_region
  simp [wpOpsS, go_sem, recoverD, hu, Tryd.ntmps41, Exit.thenS]
  refine wpS_of_wp ?_
  rw [tm41]
  go_wp2
  cases c₀
  simp_all [bodyPostS, results, Tryd.results41]
/-- the three results in their blocks. -/
def Res3 (w : World) (g : Nat) (x0 x1 x2 x3 y z : Value) : Prop := w.heap[g]? = some (.cells #[x0, x1, x2, x3] 25 (0, 0)) ∧ w.heap[g + 1]? = some (.cells #[y] 3 (0, 0)) ∧ w.heap[g + 1 + 1]? = some (.cells #[z] 27 (0, 0))
theorem res_then {B g : Nat} {x0 x1 x2 x3 y z : Value} {W w1 : World} (hb : Below B W w1) (hB : W.heap.size ≤ B) (h : Res3 W g x0 x1 x2 x3 y z) : Res3 w1 g x0 x1 x2 x3 y z :=
  ⟨(hb.block _ (Nat.lt_of_lt_of_le (Array.getElem?_eq_some_iff.1 h.1).1 hB)).trans h.1, (hb.block _ (Nat.lt_of_lt_of_le (Array.getElem?_eq_some_iff.1 h.2.1).1 hB)).trans h.2.1, (hb.block _ (Nat.lt_of_lt_of_le (Array.getElem?_eq_some_iff.1 h.2.2).1 hB)).trans h.2.2⟩
theorem res_cells {g : Nat} {x0 x1 x2 x3 y z : Value} (h : Res3 w g x0 x1 x2 x3 y z) : (w.cell? ⟨g, 0, none⟩ = some x0 ∧ w.cell? ⟨g, 1, none⟩ = some x1 ∧ w.cell? ⟨g, 2, none⟩ = some x2 ∧ w.cell? ⟨g, 3, none⟩ = some x3) ∧ w.cell? ⟨g + 1, 0, none⟩ = some y ∧ w.cell? ⟨g + 1 + 1, 0, none⟩ = some z :=
  ⟨⟨cell_of_row w g 0 _ 25 _ h.1, cell_of_row w g 1 _ 25 _ h.1, cell_of_row w g 2 _ 25 _ h.1, cell_of_row w g 3 _ 25 _ h.1⟩, cell_of_row w (g + 1) 0 _ 3 _ h.2.1, cell_of_row w (g + 1 + 1) 0 _ 27 _ h.2.2⟩
theorem res_free {g : Nat} {x0 x1 x2 x3 y z : Value} (h : Res3 w g x0 x1 x2 x3 y z) : (∀ i, w.frozen? ⟨g, i, none⟩ = false) ∧ w.frozen? ⟨g + 1, 0, none⟩ = false ∧ w.frozen? ⟨g + 1 + 1, 0, none⟩ = false :=
  ⟨fun i => frozen_of_row w g i _ 25 h.1, frozen_of_row w (g + 1) 0 _ 3 h.2.1, frozen_of_row w (g + 1 + 1) 0 _ 27 h.2.2⟩
/-- the three stores. -/
def put3 (w : World) (g : Nat) (x0 x1 x2 x3 y z : Value) : World := (((((w.setCell ⟨g, 0, none⟩ x0).setCell ⟨g, 1, none⟩ x1).setCell ⟨g, 2, none⟩ x2).setCell ⟨g, 3, none⟩ x3).setCell ⟨g + 1, 0, none⟩ y).setCell ⟨g + 1 + 1, 0, none⟩ z
theorem res_put {g : Nat} {x0 x1 x2 x3 y z : Value} (h : Res3 w g x0 x1 x2 x3 y z) (a0 a1 a2 a3 b c : Value) : Res3 (put3 w g a0 a1 a2 a3 b c) g a0 a1 a2 a3 b c := by
  refine ⟨?_, ?_, ?_⟩
  · unfold put3
    rw [heap_setCell_other _ _ _ _ (by simp; omega), heap_setCell_other _ _ _ _ (by simp)]
    exact pk_store h.1 a0 a1 a2 a3
  · unfold put3
    rw [heap_setCell_other _ _ _ _ (by simp)]
    have : ((((w.setCell ⟨g, 0, none⟩ a0).setCell ⟨g, 1, none⟩ a1).setCell ⟨g, 2, none⟩ a2).setCell ⟨g, 3, none⟩ a3).heap[g + 1]? = some (.cells #[y] 3 (0, 0)) := by
      rw [heap_setCell_other _ _ _ _ (by simp), heap_setCell_other _ _ _ _ (by simp), heap_setCell_other _ _ _ _ (by simp), heap_setCell_other _ _ _ _ (by simp)]; exact h.2.1
    rw [heap_setCell_same _ (g + 1) 0 _ 3 b this]; rfl
  · unfold put3
    have : (((((w.setCell ⟨g, 0, none⟩ a0).setCell ⟨g, 1, none⟩ a1).setCell ⟨g, 2, none⟩ a2).setCell ⟨g, 3, none⟩ a3).setCell ⟨g + 1, 0, none⟩ b).heap[g + 1 + 1]? = some (.cells #[z] 27 (0, 0)) := by
      rw [heap_setCell_other _ _ _ _ (by simp), heap_setCell_other _ _ _ _ (by simp; omega), heap_setCell_other _ _ _ _ (by simp; omega), heap_setCell_other _ _ _ _ (by simp; omega), heap_setCell_other _ _ _ _ (by simp; omega)]; exact h.2.2
    rw [heap_setCell_same _ (g + 1 + 1) 0 _ 27 c this]; rfl
theorem below_put {B g : Nat} {W : World} (h : Below B W w) (hB : B ≤ g) (a0 a1 a2 a3 b c : Value) : Below B W (put3 w g a0 a1 a2 a3 b c) := by
  unfold put3
  exact (((((h.setCell hB _).setCell hB _).setCell hB _).setCell hB _).setCell (by simp; omega) _).setCell (by simp; omega) _
theorem res_drew {g : Nat} {x0 x1 x2 x3 y z : Value} (h : Res3 w g x0 x1 x2 x3 y z) : Res3 w.drew g x0 x1 x2 x3 y z := ⟨h.1, h.2.1, h.2.2⟩
set_option maxRecDepth 100000 in
theorem catch_fault (B g : Nat) (e : Int) (x0 x1 x2 x3 y z : Value) (older : List PanicEntry) (hB : B ≤ g) (h : Res3 w g x0 x1 x2 x3 y z) :
    CallsD Tryd.prog 41 #[.pointer (some ⟨g, 0, none⟩), .pointer (some ⟨g + 1, 0, none⟩), .pointer (some ⟨g + 1 + 1, 0, none⟩)] (.panicking ({ v := fault e, recovered := false } :: older)) w fun en u' w' =>
      en = .returned (.tuple #[]) ∧ u' = .panicking ({ v := fault e, recovered := true } :: older) ∧ Res3 w' g (.int .i64 0) (.int .u64 0) (.int .u64 0) (.slice none 0 0) (.int .i64 0) (.int .i64 e) ∧ ∀ B W, B ≤ g → Below B W w → Below B W w' := by
  have hta : ∀ w, (Instr.typeAssert (.iface 81 (.agg #[.int .i64 e])) 20 81 true).run Tryd.prog w = .ok (.tuple #[.agg #[.int .i64 e], .bool true]) w := fun w => by kernel_rfl
  have hal := (Below.refl w.heap.size w).alloc (Nat.le_refl _) (.cells #[.int .i64 e] 81)
  have k0 : (w.alloc (.cells #[.int .i64 e] 81)).cell? ⟨w.heap.size, 0, none⟩ = some (.int .i64 e) := by simp
  have h1 := res_then hal (Nat.le_refl _) h
  have HG := Lib.hid (show ∀ B W, B ≤ g → Below B W w → Below B W (w.alloc (.cells #[.int .i64 e] 81)) from fun B W hB hb => hb.alloc (Nat.le_trans hB (Nat.le_of_lt (Array.getElem?_eq_some_iff.1 h.1).1)) _)
  generalize hw1 : w.alloc (.cells #[.int .i64 e] 81) = w1 at *
  have hl0 := (Array.getElem?_eq_some_iff.1 h.1).1
  have hl1 := (Array.getElem?_eq_some_iff.1 h.2.1).1
  have hl2 := (Array.getElem?_eq_some_iff.1 h.2.2).1
  generalize hx : w.heap.size = b at *
  have n0 : ¬ b = g := by omega
  have n1 : ¬ b = g + 1 := by omega
  have n2 : ¬ b = g + 1 + 1 := by omega
  have m0 : ¬ g = b := by omega
  have m1 : ¬ g + 1 = b := by omega
  have m2 : ¬ g + 1 + 1 = b := by omega
  clear hl0 hl1 hl2
  obtain ⟨⟨d0, d1, d2, d3⟩, d4, d5⟩ := res_cells h1
  obtain ⟨ff, f4, f5⟩ := res_free h1
  have f0 := ff 0
  have f1 := ff 1
  have f2 := ff 2
  have f3 := ff 3
  have HE := Lib.hid (show Res3 ((((((w1.setCell ⟨g, 0, none⟩ (.int .i64 0)).setCell ⟨g, 1, none⟩ (.int .u64 0)).setCell ⟨g, 2, none⟩ (.int .u64 0)).setCell ⟨g, 3, none⟩ (.slice none 0 0)).setCell ⟨g + 1, 0, none⟩ (.int .i64 0)).setCell ⟨g + 1 + 1, 0, none⟩ (.int .i64 e)).drew g (.int .i64 0) (.int .u64 0) (.int .u64 0) (.slice none 0 0) (.int .i64 0) (.int .i64 e) from res_drew (res_put h1 _ _ _ _ _ _))
  have HB2 := Lib.hid (show ∀ B W, B ≤ g → Below B W w → Below B W ((((((w1.setCell ⟨g, 0, none⟩ (.int .i64 0)).setCell ⟨g, 1, none⟩ (.int .u64 0)).setCell ⟨g, 2, none⟩ (.int .u64 0)).setCell ⟨g, 3, none⟩ (.slice none 0 0)).setCell ⟨g + 1, 0, none⟩ (.int .i64 0)).setCell ⟨g + 1 + 1, 0, none⟩ (.int .i64 e)).drew from fun B W hB hb => (below_put (HG.out B W hB hb) hB _ _ _ _ _ _).drew)
  clear h hal h1 ff HG
  refine callsD_of_wpS Tryd.func41 rfl fun c₀ cs hu => ?_
  unfold fault at hu ⊢
  apply wpS_seq
  apply wpS_region
  simp [wpOpsS, go_sem, recoverD, hu, Tryd.ntmps41, Exit.thenS]
  refine wpS_of_wp ?_
  rw [tm41]
  go_wp2
  go_region
  exact ⟨rfl, _, rfl, .tuple #[], by simp [results, Tryd.results41], rfl, rfl, HE.out, HB2.out⟩

end Go.Proofs.YtabgelmmjpjejaaDoor.Dd
