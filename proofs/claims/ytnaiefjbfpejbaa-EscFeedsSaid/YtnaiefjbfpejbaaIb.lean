/- The document's parser in memory; begin. -/
import Derived.Test.YtnaiefjbfpejbaaIa
set_option linter.unusedVariables false
namespace Go.Proofs.Ytnaiefjbfpejbaa.Ib
open Go Go.RowKit Kit Ep Eb Er Ea Es Et Eu Ev Ek Ew Ex Ey Ia


abbrev qC (v x : Value) (q : Qs) : Array Value := #[.int .i64 (q.st : Int), v, .bool q.any, .bool q.sp, .int .i32 q.pv, .int .i32 q.it, x]
/-- the document's parser in memory. -/
structure PrQ (w : World) (g : Nat) (v x : Value) (q : Qs) : Prop where
  row : w.heap[g]? = some (.cells (qC v x q) 29 (0, 0))
  pa : w.ownsRow 0 3 1 v q.pa.length (iv q.pa)
  tx : w.ownsRow 0 21 1 x q.tx.length (rv q.tx)
def StQ (g : Nat) (v x : Value) (w : World) (q' : Qs) (v' x' : Value) (w' : World) : Prop := PrQ w' g v' x' q' ∧ Fr g v x w w' ∧ New w v v' ∧ New w x x'
theorem StQ.pr {g : Nat} {v x v' x' : Value} {w w' : World} {q' : Qs} (h : StQ g v x w q' v' x' w') : PrQ w' g v' x' q' := h.1
theorem StQ.trans {g : Nat} {v x v1 x1 v2 x2 : Value} {w w1 w2 : World} {p1 p2 : Qs} (h : StQ g v x w p1 v1 x1 w1) (k : StQ g v1 x1 w1 p2 v2 x2 w2) : StQ g v x w p2 v2 x2 w2 :=
  ⟨k.1, h.2.1.trans h.2.2.1 h.2.2.2 k.2.1, h.2.2.1.trans h.2.1.size k.2.2.1, h.2.2.2.trans h.2.1.size k.2.2.2⟩
theorem PrQ.lt {w : World} {g : Nat} {v x : Value} {q : Qs} (h : PrQ w g v x q) : g < w.heap.size := lt_of h.row
theorem PrQ.other {w : World} {g : Nat} {v x : Value} {q : Qs} (h : PrQ w g v x q) : v.ownBlock ≠ some g ∧ x.ownBlock ≠ some g :=
  ⟨own_kind h.pa h.row (by decide), own_kind h.tx h.row (by decide)⟩
theorem PrQ.then_ {w w1 : World} {B g : Nat} {v x : Value} {q : Qs} (h : PrQ w g v x q) (hb : Below B w w1) (hB : w.heap.size ≤ B) : PrQ w1 g v x q := by
  refine ⟨(hb.block _ (Nat.lt_of_lt_of_le h.lt hB)).trans h.row, ⟨h.pa.1, ?_⟩, ⟨h.tx.1, ?_⟩⟩
  · rcases h.pa.2 with h1 | ⟨g1, cap, cur, hv, h0, h1, rest⟩
    · exact .inl h1
    · exact .inr ⟨g1, cap, cur, hv, h0, (hb.block _ (Nat.lt_of_lt_of_le (lt_of h1) hB)).trans h1, rest⟩
  · rcases h.tx.2 with h1 | ⟨g1, cap, cur, hv, h0, h1, rest⟩
    · exact .inl h1
    · exact .inr ⟨g1, cap, cur, hv, h0, (hb.block _ (Nat.lt_of_lt_of_le (lt_of h1) hB)).trans h1, rest⟩
theorem own_set7 {w : World} {g n : Nat} {e : TypeId} {v : Value} {xs : List Value} (h : w.ownsRow 0 e 1 v n xs) (ho : v.ownBlock ≠ some g) (a b c d e1 f k : Value) : (set7 w g a b c d e1 f k).ownsRow 0 e 1 v n xs :=
  ownsRow_setCell_other (ownsRow_setCell_other (ownsRow_setCell_other (ownsRow_setCell_other (ownsRow_setCell_other (ownsRow_setCell_other (ownsRow_setCell_other h ho _) ho _) ho _) ho _) ho _) ho _) ho _
theorem qb_new {w : World} {g : Nat} {v x : Value} {q : Qs} (h : PrQ w g v x q) (st : Nat) : StQ g v x w (qb st) (.slice (some ⟨w.heap.size, 0, none⟩) 1 1) (.slice none 0 0) (set7 (w.alloc (.cells #[.int .i64 (-1)] 3)) g (.int .i64 (st : Int)) (.slice (some ⟨w.heap.size, 0, none⟩) 1 1) (.bool false) (.bool false) (.int .i32 0) (.int .i32 0) (.slice none 0 0)) := by
  have hb : Below w.heap.size w (w.alloc (.cells #[.int .i64 (-1)] 3)) := (Below.refl _ w).alloc (Nat.le_refl _) _
  have hg := h.lt
  refine ⟨⟨seven_set (h.then_ hb (Nat.le_refl _)).row _ _ _ _ _ _ _, ?_, World.ownsRow_nil _ _ _ _⟩, (Fr.of hb).set7 h.lt _ _ _ _ _ _ _, fun k hk => .inr ?_, New.nil _ _⟩
  · exact own_set7 (World.ownsRow_lit w #[.int .i64 (-1)] 1 (Nat.zero_le _) (by decide) rfl) (fun e => by
      have : w.heap.size = g := by injection e
      omega) _ _ _ _ _ _ _
  · have : w.heap.size = k := by injection hk
    omega
set_option maxRecDepth 100000 in
set_option maxHeartbeats 4000000 in
/-- begin. -/
theorem beginQ (n : Int) (st g : Nat) (v x : Value) (q : Qs) (w : World) (hn : n = (st : Int)) (h : PrQ w g v x q) : Calls Try.prog 37 #[.pointer (some ⟨g, 0, none⟩), .int .i64 n] w fun e w' => e = .returned (.tuple #[]) ∧ StQ g v x w (qb st) (.slice (some ⟨w.heap.size, 0, none⟩) 1 1) (.slice none 0 0) w' := by
  subst hn
  have HN := Lib.hid (qb_new h st)
  have hg := h.lt
  have hne : g ≠ w.heap.size := Nat.ne_of_lt hg
  have hne2 : w.heap.size ≠ g := fun e => hne e.symm
  have hA := (h.then_ ((Below.refl _ w).alloc (Nat.le_refl _) (.cells #[.int .i64 (-1)] 3)) (Nat.le_refl _)).row
  obtain ⟨c0, c1, c2, c3, c4, c5, c6⟩ := seven hA
  obtain ⟨f0, f1, f2, f3, f4, f5, f6⟩ := thawed hA
  clear hA
  generalize hw : w.alloc (.cells #[.int .i64 (-1)] 3) = w1 at *
  clear h hg hne hne2
  go_enter Try.func37, Try.ntmps37
  go_wp2
  go_end0
  exact ⟨rfl, HN.out⟩

end Go.Proofs.Ytnaiefjbfpejbaa.Ib
