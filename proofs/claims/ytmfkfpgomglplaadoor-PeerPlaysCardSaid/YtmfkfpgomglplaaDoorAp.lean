/- Bytes behind a row of the call's own. -/
import Derived.Test.YtmfkfpgomglplaaDoorMb
import Derived.Deep.WholeRow
set_option linter.unusedVariables false
namespace Go.Proofs.YtmfkfpgomglplaaDoor.Ap
open Go Go.RowKit Kit Mb


/-- a row of bytes of the call's own. -/
def Rb (w : World) (base : Nat) (v : Value) (l : List Nat) : Prop := w.ownsRow base 5 1 v l.length (cellsOf l)
theorem rb_nil (w : World) (base : Nat) : Rb w base (.slice none 0 0) [] := World.ownsRow_nil _ _ _ _
theorem rb_alloc {w : World} {base : Nat} {v : Value} {l : List Nat} (h : Rb w base v l) (o : Obj) : Rb (w.alloc o) base v l := World.ownsRow.alloc h o
theorem rb_of {w : World} {base n : Nat} {v : Value} {l : List Nat} {xs : List Value} (h : w.ownsRow base 5 1 v n xs) (hn : n = l.length) (hx : xs = cellsOf l) : Rb w base v l := by subst hn hx; exact h
theorem rb_then {w w1 : World} {base B : Nat} {v : Value} {l : List Nat} (h : Rb w base v l) (hb : Below B w w1) (hB : w.heap.size ≤ B) : Rb w1 base v l := by
  refine ⟨h.1, ?_⟩
  rcases h.2 with h | ⟨g, cap, cur, hv, hg, hc, rest⟩
  · exact .inl h
  · exact .inr ⟨g, cap, cur, hv, hg, by rw [hb.block g (Nat.lt_of_lt_of_le (Array.getElem?_eq_some_iff.1 hc).1 hB)]; exact hc, rest⟩
/-- as a slice. -/
theorem rb_sl {w : World} {base : Nat} {v : Value} {l : List Nat} (h : Rb w base v l) :
    ∃ a cap, v = .slice a l.length cap ∧ l.length ≤ cap ∧ Sl w a l ∧ (a = none → cap = 0) ∧ (∀ x, a = some x → base ≤ x.block ∧ x.block < w.heap.size) := by
  rcases h.2 with ⟨rfl, hn⟩ | ⟨g, cap, cur, rfl, hb, hg, hnc, _, hcs, htake⟩
  · have : l = [] := List.eq_nil_of_length_eq_zero hn
    subst this
    exact ⟨none, 0, rfl, Nat.le_refl _, .inl rfl, fun _ => rfl, fun x hx => by cases hx⟩
  · refine ⟨_, cap, rfl, hnc, .inr ⟨g, 0, rfl, ?_⟩, (fun hh => by cases hh), (fun x hx => by cases hx; exact ⟨hb, (Array.getElem?_eq_some_iff.1 hg).1⟩)⟩
    intro i hi
    have hu : (cellsOf l)[i]? = some (.int .u8 ((l[i] : Nat) : Int)) := by simp [cellsOf, hi]
    have := h.cells (g := g) rfl i _ hu
    have hadd : (⟨g, 0, none⟩ : Addr).add i = ⟨g, i, none⟩ := by unfold Addr.add; split <;> simp_all
    rw [hadd] at this
    rw [Nat.zero_add]; exact this
/-- bytes just made. -/
theorem cells_new (w : World) (l : List Nat) (t : TypeId) : Cells (w.alloc (.cells (cellsOf l).toArray t)) w.heap.size 0 l := by
  intro i hi
  rw [Nat.zero_add, cell_of_row _ w.heap.size i _ t (0, 0) (heap_alloc_last w _)]
  simp [cellsOf, hi]
theorem sl_new (w : World) (l : List Nat) (t : TypeId) : Sl (w.alloc (.cells (cellsOf l).toArray t)) (some ⟨w.heap.size, 0, none⟩) l := .inr ⟨_, _, rfl, cells_new w l t⟩
theorem sl_alloc {w : World} {a : Option Addr} {l : List Nat} (h : Sl w a l) (o : Obj) : Sl (w.alloc o) a l := by
  rcases h with h | ⟨b, off, rfl, h⟩
  · exact .inl h
  · exact .inr ⟨b, off, rfl, fun i hi => past_alloc (h i hi)⟩
/-- a slice's bytes behind a row of one's own. -/
theorem app_sl {ops : Array Oper} {rest : List Oper} {o : Oper} {a : Act} {Q : Exit → Act → World → Prop} {w : World} (hgd : o.guard = none) (s x : Operand)
    (ho : o.op = .call { callee := .builtin .append, args := #[s, x], argTypes := #[22, 22] }) (base : Nat) (v : Value) (l : List Nat) (hs : a.eval s = v) (hown : Rb w base v l)
    (ad : Option Addr) (n cap : Nat) (m : List Nat) (hx : a.eval x = .slice ad n cap) (hn : n = m.length) (h0 : ad = none → cap = 0) (hm : Sl w ad m) (hlen : l.length + m.length ≤ 1000000) (hbase : base ≤ w.heap.size)
    (h : ∀ v' w', Rb w' base v' (l ++ m) → (∀ B W0, B ≤ base → Below B W0 w → Below B W0 w') → wpList Tryd.prog ops Q rest (a.put o.dst v') w') : wpList Tryd.prog ops Q (o :: rest) a w := by
  subst hn
  obtain ⟨i0, hi, hz0, hz1, hz2⟩ := info_parts info5
  cases ad with
  | none =>
    obtain rfl := h0 rfl
    have hm0 : m = [] := by
      rcases hm with h | ⟨_, _, e, _⟩
      · exact h
      · cases e
    subst hm0
    refine wpList_append_own_none hgd s x 22 ho base 5 i0 1 Tryd.underlying22 hi v _ _ hs hown hx ?_
    exact h v w (by rw [List.append_nil]; exact hown) (fun _ _ _ hb => hb)
  | some y =>
    refine wpList_append_own w hgd s x 22 ho base 5 i0 (.int .u8 0) 1 1 Tryd.underlying22 hi hz0 hz1 hz2 rfl (by decide) v _ _ hs hown y m.length cap (cellsOf m) hx (by simp [cellsOf]) (sl_cells hm) cellsOf_one (by unfold maxLen; omega) (by omega) hbase ?_
    intro v' w' h2 h3 _
    refine h v' w' ?_ (fun B W0 hB hb => hb.grown h3 (Nat.le_trans hB hbase) (fun j hj => Nat.le_trans hB (hown.lt j hj).1))
    rw [cellsOf_app] at h2
    exact rb_of h2 (by simp) rfl

end Go.Proofs.YtmfkfpgomglplaaDoor.Ap
