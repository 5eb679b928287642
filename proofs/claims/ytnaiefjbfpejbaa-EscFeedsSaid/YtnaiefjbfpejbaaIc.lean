/- The document's parser: between. -/
import Derived.Test.YtnaiefjbfpejbaaIb
set_option linter.unusedVariables false
namespace Go.Proofs.Ytnaiefjbfpejbaa.Ic
open Go Go.RowKit Kit Ep Eb Er Ea Es Et Eu Ev Ek Ew Ex Ey Ia Ib


abbrev evC (E : Ev) (pv : Value) : Array Value := #[.int .i64 (E.kind : Int), .int .i32 E.rune, pv, .int .i32 E.pv, .int .i32 E.it, .int .i32 E.fi, .string E.tx]
/-- what a step tells: nothing, or one event in a block of its own. -/
def LsQ (w w' : World) (V : Value) (L : List Ev) : Prop :=
  L = [] ∧ V = .slice none 0 0 ∨ ∃ (E : Ev) (k : Nat) (pv : Value), L = [E] ∧ V = .slice (some ⟨k, 0, none⟩) 1 1 ∧ w.heap.size ≤ k ∧ w'.heap[k]? = some (.cells (evC E pv) 50 (0, 0)) ∧ w'.ownsRow 0 3 1 pv E.pa.length (iv E.pa) ∧ ∀ j, pv.ownBlock = some j → w.heap.size ≤ j ∧ E.pa ≠ []
def EvQ (g : Nat) (v x : Value) (w : World) (Q : Qs) (L : List Ev) (e : Ending) (w' : World) : Prop :=
  ∃ V, e = .returned V ∧ LsQ w w' V L ∧ ∃ v' x', StQ g v x w Q v' x' w' ∧ ∀ E ∈ L, E.pa ≠ [] → v' = v
theorem stQ_refl {w : World} {g : Nat} {v x : Value} {q : Qs} (h : PrQ w g v x q) : StQ g v x w q v x w := ⟨h, Fr.refl _ _ _ _, New.refl _ _, New.refl _ _⟩
theorem stQ_alloc {w : World} {g : Nat} {v x : Value} {q : Qs} (h : PrQ w g v x q) (o : Obj) : StQ g v x w q v x (w.alloc o) :=
  ⟨h.then_ ((Below.refl _ w).alloc (Nat.le_refl _) o) (Nat.le_refl _), Fr.of ((Below.refl _ w).alloc (Nat.le_refl _) o), New.refl _ _, New.refl _ _⟩
theorem evq0 {g : Nat} {v x v' x' : Value} {w w' : World} {Q : Qs} (B : StQ g v x w Q v' x' w') : EvQ g v x w Q [] (.returned (.slice none 0 0)) w' :=
  ⟨_, rfl, .inl ⟨rfl, rfl⟩, v', x', B, fun E hE => by cases hE⟩
theorem evq1 {g k : Nat} {v x v' x' : Value} {w w1 : World} {Q : Qs} (E : Ev) (hp : E.pa = []) (e : w1.heap.size = k) (hk : w.heap.size ≤ k) (B : StQ g v x w Q v' x' w1) : EvQ g v x w Q [E] (.returned (.slice (some ⟨k, 0, none⟩) 1 1)) (w1.alloc (.cells (evC E (.slice none 0 0)) 50)) := by
  subst e
  exact ⟨_, rfl, .inr ⟨E, _, _, rfl, rfl, hk, heap_alloc_last w1 _, by rw [hp]; exact World.ownsRow_nil _ _ _ _, fun j hj => by cases hj⟩, v', x', B.trans (stQ_alloc B.pr _), fun E' hE h => absurd (by obtain rfl := List.mem_singleton.1 hE; exact hp) h⟩
theorem put0 {w : World} {g : Nat} {v x : Value} {q : Qs} (h : PrQ w g v x q) (n : Nat) : StQ g v x w { q with st := n } v x (w.setCell ⟨g, 0, none⟩ (.int .i64 (n : Int))) :=
  ⟨⟨by rw [heap_setCell_same _ g 0 _ 29 _ h.row]; rfl, ownsRow_setCell_other h.pa h.other.1 _, ownsRow_setCell_other h.tx h.other.2 _⟩, (Fr.refl g v x w).set h.lt 0 _, New.refl _ _, New.refl _ _⟩
theorem put3 {w : World} {g : Nat} {v x : Value} {q : Qs} (h : PrQ w g v x q) (b : Bool) : StQ g v x w { q with sp := b } v x (w.setCell ⟨g, 3, none⟩ (.bool b)) :=
  ⟨⟨by rw [heap_setCell_same _ g 3 _ 29 _ h.row]; rfl, ownsRow_setCell_other h.pa h.other.1 _, ownsRow_setCell_other h.tx h.other.2 _⟩, (Fr.refl g v x w).set h.lt 3 _, New.refl _ _, New.refl _ _⟩
set_option maxRecDepth 100000 in
set_option maxHeartbeats 4000000 in
theorem betweenC (r : Int) (g : Nat) (v x : Value) (q : Qs) (w : World) (h : PrQ w g v x q) : Calls Try.prog 30 #[.pointer (some ⟨g, 0, none⟩), .int .i32 r] w (EvQ g v x w (betweenQ q r).1 (betweenQ q r).2) := by
  have HP := Lib.hid h
  obtain ⟨k0, k1, k2, k3, k4, k5, k6⟩ := seven HP.out.row
  obtain ⟨l0, l1, l2, l3, l4, l5, l6⟩ := thawed HP.out.row
  clear h
  unfold betweenQ
  by_cases h0 : r < 32
  · rw [if_pos h0]
    go_enter Try.func30, Try.ntmps30
    go_wp2
    go_ret
    exact evq1 (execE r) rfl rfl (Nat.le_refl _) (stQ_refl HP.out)
  rw [if_neg h0]
  by_cases h1 : r ≤ 47
  · rw [if_pos h1]
    go_enter Try.func30, Try.ntmps30
    go_wp2
    go_ret
    exact evq0 (put3 HP.out true)
  rw [if_neg h1]
  by_cases h2 : r ≤ 126
  · rw [if_pos h2]
    obtain ⟨s, hs⟩ : ∃ s, s = q.sp := ⟨_, rfl⟩
    cases s with
    | true =>
      rw [if_pos hs.symm]
      rw [← hs] at k3
      clear hs
      go_enter Try.func30, Try.ntmps30
      go_wp2
      go_ret
      exact evq0 (put0 HP.out 0)
    | false =>
      rw [if_neg (by rw [← hs]; exact Bool.false_ne_true)]
      rw [← hs] at k3
      clear hs
      go_enter Try.func30, Try.ntmps30
      go_wp2
      go_ret
      exact evq1 (escE q.it r) rfl (by simp) (Nat.le_refl _) (put0 HP.out 0)
  rw [if_neg h2]
  by_cases h3 : r = 127
  · rw [if_pos h3]
    subst h3
    go_enter Try.func30, Try.ntmps30
    go_wp2
    go_ret
    exact evq0 (stQ_refl HP.out)
  · rw [if_neg h3]
    go_enter Try.func30, Try.ntmps30
    go_wp2
    go_ret
    exact evq0 (put0 HP.out 0)

end Go.Proofs.Ytnaiefjbfpejbaa.Ic
