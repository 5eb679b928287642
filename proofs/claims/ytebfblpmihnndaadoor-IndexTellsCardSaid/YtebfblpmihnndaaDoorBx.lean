/- Slices of bytes: how they lie, and what is made of them. -/
import Derived.Test.YtebfblpmihnndaaDoorCopy
import Derived.Test.YtebfblpmihnndaaDoorBytes
import Derived.Deep.WholeRow
import Derived.Laws.Slices
set_option linter.unusedVariables false
namespace Go.Proofs.YtebfblpmihnndaaDoor.Bx
open Go Go.RowKit Kit Crc Var Copy

theorem copyC (a : Option Addr) (cap : Nat) (l : List Nat) (w : World) (hm : l.length ≤ 1000000) (hc : Sl w a l) (h0 : a = none → cap = 0) : Calls Tryd.prog 29 #[.slice a l.length cap] w (Cp l w) := by
  rcases hc with rfl | ⟨b, off, rfl, hc⟩
  · cases a with
    | none => obtain rfl := h0 rfl; exact copyNil w
    | some x => exact copyEmpty x cap w
  · exact copyRow b off cap l w hm hc
theorem sl_cells {w : World} {x : Addr} {l : List Nat} (h : Sl w (some x) l) : ∀ j u, (cellsOf l)[j]? = some u → w.cell? (x.add j) = some u := by
  intro j u hu
  rcases h with rfl | ⟨b, off, e, h⟩
  · simp [cellsOf] at hu
  · injection e with e; subst e; exact cellsOf_at h j u hu
theorem cellsOf_app (l m : List Nat) : cellsOf l ++ cellsOf m = cellsOf (l ++ m) := by simp [cellsOf]
theorem own_set {w : World} {base e n g cap k : Nat} {u : Value} {xs : List Value} (h : w.ownsRow base e 1 (.slice (some ⟨g, 0, none⟩) n cap) n xs) : (w.setCell ⟨g, k, none⟩ u).ownsRow base e 1 (.slice (some ⟨g, 0, none⟩) n cap) n (xs.set k u) := by
  refine ⟨by simpa using h.1, ?_⟩
  rcases h.2 with ⟨hv, _⟩ | ⟨g', cap', cur, hv, hb, hg, hnc, hmx, hcs, htake⟩
  · cases hv
  · injection hv with h1 h2 h3
    injection h1 with h1
    injection h1 with h1
    subst h1 h3
    exact .inr ⟨g, cap, cur.setIfInBounds k u, rfl, hb, by simp [World.setCell, Array.getElem?_modify, hg], hnc, hmx, by simpa using hcs, by rw [← htake]; simp [List.take_set]⟩
theorem cells_block {w : World} {b : Nat} {l : List Nat} (h : ∀ i, (hi : i < l.length) → w.cell? ⟨b, i, none⟩ = some (.int .u8 ((l[i] : Nat) : Int))) : Cells w b 0 l := by
  intro i hi; rw [Nat.zero_add]; exact h i hi
theorem cells_then {B : Nat} {W w1 : World} (hb : Below B W w1) (hB : W.heap.size ≤ B) {b off : Nat} {l : List Nat} (h : Cells W b off l) : Cells w1 b off l :=
  fun i hi => cell_then hb hB (h i hi)
theorem sl_then {B : Nat} {W w1 : World} (hb : Below B W w1) (hB : W.heap.size ≤ B) {a : Option Addr} {l : List Nat} (h : Sl W a l) : Sl w1 a l := by
  rcases h with h | ⟨b, off, rfl, h⟩
  · exact .inl h
  · exact .inr ⟨b, off, rfl, cells_then hb hB h⟩
theorem below_next {w W W1 : World} (h : Below w.heap.size w W) (k : Below W.heap.size W W1) : Below w.heap.size w W1 := below_then h k h.size
/-- a row of bytes of the call's own. -/
def Rb (w : World) (base : Nat) (v : Value) (l : List Nat) : Prop := w.ownsRow base 5 1 v l.length (cellsOf l)
theorem rb_nil (w : World) (base : Nat) : Rb w base (.slice none 0 0) [] := World.ownsRow_nil _ _ _ _
theorem rb_alloc {w : World} {base : Nat} {v : Value} {l : List Nat} (h : Rb w base v l) (o : Obj) : Rb (w.alloc o) base v l := World.ownsRow.alloc h o
theorem rb_of {w : World} {base n : Nat} {v : Value} {l : List Nat} {xs : List Value} (h : w.ownsRow base 5 1 v n xs) (hn : n = l.length) (hx : xs = cellsOf l) : Rb w base v l := by subst hn hx; exact h
theorem rb_then {w w1 : World} {base B : Nat} {v : Value} {l : List Nat} (h : Rb w base v l) (hb : Below B w w1) (hB : w.heap.size ≤ B) : Rb w1 base v l := by
  refine ⟨h.1, ?_⟩
  rcases h.2 with h | ⟨g, cap, cur, hv, hg, hc, rest⟩
  · exact .inl h
  · exact .inr ⟨g, cap, cur, hv, hg, by rw [hb.block g (Nat.lt_of_lt_of_le (Array.getElem?_eq_some_iff.1 hc).1 hB)]; exact hc, rest⟩
/-- as a slice. -/
theorem rb_sl {w : World} {base : Nat} {v : Value} {l : List Nat} (h : Rb w base v l) :
    ∃ a cap, v = .slice a l.length cap ∧ l.length ≤ cap ∧ Sl w a l ∧ (a = none → cap = 0) ∧ (∀ x, a = some x → base ≤ x.block ∧ x.block < w.heap.size) := by
  rcases h.2 with ⟨rfl, hn⟩ | ⟨g, cap, cur, rfl, hb, hg, hnc, _, hcs, htake⟩
  · have : l = [] := List.eq_nil_of_length_eq_zero hn
    subst this
    exact ⟨none, 0, rfl, Nat.le_refl _, .inl rfl, fun _ => rfl, fun x hx => by cases hx⟩
  · refine ⟨_, cap, rfl, hnc, .inr ⟨g, 0, rfl, ?_⟩, (fun hh => by cases hh), (fun x hx => by cases hx; exact ⟨hb, (Array.getElem?_eq_some_iff.1 hg).1⟩)⟩
    intro i hi
    have hu : (cellsOf l)[i]? = some (.int .u8 ((l[i] : Nat) : Int)) := by simp [cellsOf, hi]
    have := h.cells (g := g) rfl i _ hu
    have hadd : (⟨g, 0, none⟩ : Addr).add i = ⟨g, i, none⟩ := by unfold Addr.add; split <;> simp_all
    rw [hadd] at this
    rw [Nat.zero_add]; exact this
/-- bytes just made. -/
theorem cells_new (w : World) (l : List Nat) (t : TypeId) : Cells (w.alloc (.cells (cellsOf l).toArray t)) w.heap.size 0 l := by
  intro i hi
  rw [Nat.zero_add, cell_of_row _ w.heap.size i _ t (0, 0) (heap_alloc_last w _)]
  simp [cellsOf, hi]
theorem sl_new (w : World) (l : List Nat) (t : TypeId) : Sl (w.alloc (.cells (cellsOf l).toArray t)) (some ⟨w.heap.size, 0, none⟩) l := .inr ⟨_, _, rfl, cells_new w l t⟩
theorem sl_alloc {w : World} {a : Option Addr} {l : List Nat} (h : Sl w a l) (o : Obj) : Sl (w.alloc o) a l := by
  rcases h with h | ⟨b, off, rfl, h⟩
  · exact .inl h
  · exact .inr ⟨b, off, rfl, fun i hi => past_alloc (h i hi)⟩
/-- a slice's bytes behind a row of one's own. -/
theorem app_sl {ops : Array Oper} {rest : List Oper} {o : Oper} {a : Act} {Q : Exit → Act → World → Prop} {w : World} (hgd : o.guard = none) (s x : Operand)
    (ho : o.op = .call { callee := .builtin .append, args := #[s, x], argTypes := #[23, 23] }) (base : Nat) (v : Value) (l : List Nat) (hs : a.eval s = v) (hown : Rb w base v l)
    (ad : Option Addr) (n cap : Nat) (m : List Nat) (hx : a.eval x = .slice ad n cap) (hn : n = m.length) (h0 : ad = none → cap = 0) (hm : Sl w ad m) (hlen : l.length + m.length ≤ 1000000) (hbase : base ≤ w.heap.size)
    (h : ∀ v' w', Rb w' base v' (l ++ m) → (∀ B W0, B ≤ base → Below B W0 w → Below B W0 w') → wpList Tryd.prog ops Q rest (a.put o.dst v') w') : wpList Tryd.prog ops Q (o :: rest) a w := by
  subst hn
  obtain ⟨i0, hi, hz0, hz1, hz2⟩ := info_parts info5
  cases ad with
  | none =>
    obtain rfl := h0 rfl
    have hm0 : m = [] := by
      rcases hm with h | ⟨_, _, e, _⟩
      · exact h
      · cases e
    subst hm0
    refine wpList_append_own_none hgd s x 23 ho base 5 i0 1 Tryd.underlying23 hi v _ _ hs hown hx ?_
    exact h v w (by rw [List.append_nil]; exact hown) (fun _ _ _ hb => hb)
  | some y =>
    refine wpList_append_own w hgd s x 23 ho base 5 i0 (.int .u8 0) 1 1 Tryd.underlying23 hi hz0 hz1 hz2 rfl (by decide) v _ _ hs hown y m.length cap (cellsOf m) hx (by simp [cellsOf]) (sl_cells hm) cellsOf_one (by unfold maxLen; omega) (by omega) hbase ?_
    intro v' w' h2 h3 _
    refine h v' w' ?_ (fun B W0 hB hb => hb.grown h3 (Nat.le_trans hB hbase) (fun j hj => Nat.le_trans hB (hown.lt j hj).1))
    rw [cellsOf_app] at h2
    exact rb_of h2 (by simp) rfl

theorem elem23 : Tryd.prog.underlying 23 = some (.slice (Tryd.prog.elem 23)) := by kernel_rfl
theorem sizeE23 (w : World) : ((sizeOf (Tryd.prog.elem 23)).run Tryd.prog w) = .ok 1 w := by kernel_rfl
/-- a part of a slice of bytes. -/
theorem sub_val {a : Option Addr} {l : List Nat} {cap : Nat} {w : World} (hs : Sl w a l) (h0 : a = none → cap = 0) (hcap : l.length ≤ cap) (i j : Nat) (hij : i ≤ j) (hj : j ≤ l.length) :
    ∃ a' c', sliced a i j cap 1 = .slice a' (j - i) c' ∧ Sl w a' ((l.drop i).take (j - i)) ∧ j - i ≤ c' ∧ (a' = none → c' = 0) ∧ (∀ x, a' = some x → ∃ y, a = some y ∧ x.block = y.block) := by
  unfold sliced
  by_cases hc : cap = i
  · have : j - i = 0 := by omega
    rw [if_pos hc, this]
    exact ⟨_, _, rfl, .inl (by simp), by omega, fun _ => by omega, fun x hx => ⟨x, hx, rfl⟩⟩
  · rw [if_neg hc]
    cases a with
    | none => exact absurd (h0 rfl) (by omega)
    | some x =>
      refine ⟨_, _, rfl, ?_, by omega, (fun h => by cases h), (fun z hz => ⟨x, rfl, ?_⟩)⟩
      · rcases hs with rfl | ⟨b, off, e, h⟩
        · exact .inl (by simp)
        · injection e with e; subst e
          refine .inr ⟨b, off + i, ?_, ?_⟩
          · show some ((⟨b, off, none⟩ : Addr).add (i * 1)) = _
            rw [Nat.mul_one]; unfold Addr.add; split <;> simp_all
          · intro k hk
            have hk2 : k < j - i ∧ k < l.length - i := by simp at hk; omega
            have := h (i + k) (by omega)
            rw [show off + i + k = off + (i + k) by omega, this]
            simp
      · injection hz with hz; rw [← hz]; unfold Addr.add; split <;> rfl
def LoIs (v : Option Value) (i : Nat) : Prop := (v = none ∧ i = 0) ∨ ∃ k, v = some (.int k (i : Int))
def HiIs (v : Option Value) (j n : Nat) : Prop := (v = none ∧ j = n) ∨ ∃ k, v = some (.int k (j : Int))
theorem lo_none : LoIs none 0 := .inl ⟨rfl, rfl⟩
theorem hi_none (n : Nat) : HiIs none n n := .inl ⟨rfl, rfl⟩
theorem lo_some {k : IntKind} {x : Int} {i : Nat} (h : x = (i : Int)) : LoIs (some (.int k x)) i := .inr ⟨k, by rw [h]⟩
theorem hi_some {k : IntKind} {x : Int} {j n : Nat} (h : x = (j : Int)) : HiIs (some (.int k x)) j n := .inr ⟨k, by rw [h]⟩
theorem run_sub (a : Option Addr) (n cap : Nat) (lo hi : Option Value) (i j : Nat) (w : World) (hl : LoIs lo i) (hh : HiIs hi j n) (hij : i ≤ j) (hj : j ≤ n) (hc : n ≤ cap) :
    (Instr.sliceAt 23 (.slice a n cap) lo hi none).run Tryd.prog w = .ok (sliced a i j cap 1) w := by
  rw [run_sliceAt_slice w 23 _ _ _ _ elem23]
  rcases hl with ⟨rfl, rfl⟩ | ⟨k, rfl⟩ <;> rcases hh with ⟨rfl, rfl⟩ | ⟨k2, rfl⟩
  · rw [run_slice_all w 23 a j cap elem23, sizeE23]; rfl
  · rw [run_slice_h w 23 a n cap elem23 k2 j (by omega) (by omega), sizeE23]; simp [Result.andThen]
  · rw [run_slice_l w 23 a j cap elem23 k i (by omega) (by omega), sizeE23]; simp [Result.andThen]
  · rw [run_slice_lh w 23 a n cap elem23 k k2 i j (by omega) (by omega) (by omega), sizeE23]; simp [Result.andThen]
/-- the operation itself. -/
theorem wp_sub {o : Oper} {c : Act} {w : World} {K : Act → World → Prop} {Q : Exit → Act → World → Prop} (x : Operand) (lo hi : Option Operand) (ho : o.op = .slice 23 x lo hi none)
    (a : Option Addr) (cap : Nat) (l : List Nat) (hx : c.eval x = .slice a l.length cap) (hs : Sl w a l) (h0 : a = none → cap = 0) (hcap : l.length ≤ cap) (i j : Nat)
    (hl : LoIs (lo.map c.eval) i) (hh : HiIs (hi.map c.eval) j l.length) (hij : i ≤ j) (hj : j ≤ l.length)
    (h : ∀ a' c' n', n' = j - i → Sl w a' ((l.drop i).take (j - i)) → n' ≤ c' → (a' = none → c' = 0) → (∀ x, a' = some x → ∃ y, a = some y ∧ x.block = y.block) → K (c.put o.dst (.slice a' n' c')) w) : o.wp Tryd.prog c w K Q := by
  obtain ⟨a', c', e, h1, h2, h3, h4⟩ := sub_val hs h0 hcap i j hij hj
  have hrun := run_sub a l.length cap (lo.map c.eval) (hi.map c.eval) i j w hl hh hij hj hcap
  unfold Oper.wp execOp
  simp only [ho, hx, Option.map_none, Sem.run_bind, Sem.run_pure, hrun, Result.andThen_ok, e]
  exact h a' c' _ rfl h1 h2 h3 h4
theorem wpList_sub {ops : Array Oper} {rest : List Oper} {o : Oper} {c : Act} {w : World} {Q : Exit → Act → World → Prop} (hgd : o.guard = none) (x : Operand) (lo hi : Option Operand) (ho : o.op = .slice 23 x lo hi none)
    (a : Option Addr) (cap : Nat) (l : List Nat) (hx : c.eval x = .slice a l.length cap) (hs : Sl w a l) (h0 : a = none → cap = 0) (hcap : l.length ≤ cap) (i j : Nat)
    (hl : LoIs (lo.map c.eval) i) (hh : HiIs (hi.map c.eval) j l.length) (hij : i ≤ j) (hj : j ≤ l.length)
    (h : ∀ a' c' n', n' = j - i → Sl w a' ((l.drop i).take (j - i)) → n' ≤ c' → (a' = none → c' = 0) → (∀ x, a' = some x → ∃ y, a = some y ∧ x.block = y.block) → wpList Tryd.prog ops Q rest (c.put o.dst (.slice a' n' c')) w) : wpList Tryd.prog ops Q (o :: rest) c w :=
  wpList_plain hgd fun _ hK => wp_sub x lo hi ho a cap l hx hs h0 hcap i j hl hh hij hj (fun a' c' n' e h1 h2 h3 h4 => hK _ _ (h a' c' n' e h1 h2 h3 h4))

theorem rb_base {w : World} {b1 b2 : Nat} {v : Value} {l : List Nat} (h : Rb w b1 v l) (hb : b2 ≤ b1) : Rb w b2 v l := by
  refine ⟨h.1, ?_⟩
  rcases h.2 with h | ⟨g, cap, cur, hv, hg, rest⟩
  · exact .inl h
  · exact .inr ⟨g, cap, cur, hv, Nat.le_trans hb hg, rest⟩
theorem size5 : (Tryd.prog.info? 5).map (·.size) = some 1 := by kernel_rfl
/-- a block of bytes. -/
def Bb (w : World) (g : Nat) (l : List Nat) : Prop := w.heap[g]? = some (.cells (cellsOf l).toArray 5 (0, 0))
theorem Bb.cell {w : World} {g : Nat} {l : List Nat} (h : Bb w g l) (i : Nat) (hi : i < l.length) : w.cell? ⟨g, i, none⟩ = some (.int .u8 ((l.getD i 0 : Nat) : Int)) := by
  rw [cell_of_row w g i _ 5 _ h]; simp [cellsOf, hi]
theorem Bb.free {w : World} {g : Nat} {l : List Nat} (h : Bb w g l) (i : Nat) : w.frozen? ⟨g, i, none⟩ = false := frozen_of_row w g i _ 5 h
theorem Bb.set {w : World} {g : Nat} {l : List Nat} (h : Bb w g l) (i c : Nat) : Bb (w.setCell ⟨g, i, none⟩ (.int .u8 (c : Int))) g (l.set i c) := by
  unfold Bb; rw [heap_setCell_same w g i _ 5 _ h]; simp [cellsOf, List.map_set]
theorem Bb.own {w : World} {g base : Nat} {l : List Nat} (h : Bb w g l) (hb : base ≤ g) (hl : l.length ≤ 1000000) : Rb w base (.slice (some ⟨g, 0, none⟩) l.length l.length) l := by
  refine ⟨by simp [cellsOf], .inr ⟨g, l.length, (cellsOf l).toArray, rfl, hb, h, Nat.le_refl _, by unfold maxLen; omega, by simp [cellsOf], ?_⟩⟩
  exact List.take_of_length_le (by simp [cellsOf])
theorem sl_at {w : World} {a : Option Addr} {l : List Nat} (h : Sl w a l) (hl : 0 < l.length) : ∃ b off, a = some ⟨b, off, none⟩ ∧ Cells w b off l := by
  rcases h with rfl | h
  · simp at hl
  · exact h
theorem sl_take {w : World} {b off : Nat} {l : List Nat} (h : Cells w b off l) (n : Nat) (m : List Nat) (hm : m = l.take n) : Sl w (some ⟨b, off, none⟩) m := by
  subst hm
  refine .inr ⟨b, off, rfl, fun i hi => ?_⟩
  have hi2 : i < l.length := by simp at hi; omega
  rw [h i hi2]; simp
theorem wr_i (n : Nat) (h : n ≤ 100000) : IntKind.i64.wrap (n : Int) = (n : Int) := IntWalk.i64_in _ (by omega)
theorem wr_w (n : Nat) (h : n ≤ 100000) : wrap64 (n : Int) = (n : Int) := IntWalk.wrap64_in _ (by omega)
theorem cells_of_sl {w : World} {b o : Nat} {l : List Nat} (h : Sl w (some ⟨b, o, none⟩) l) : Cells w b o l := by
  rcases h with rfl | ⟨_, _, e, h⟩
  · intro i hi; simp at hi
  · injection e with e; injection e with e1 e2 e3; subst e1 e2; exact h
theorem sl_of {w : World} {b o : Nat} {l : List Nat} (h : Cells w b o l) : Sl w (some ⟨b, o, none⟩) l := .inr ⟨b, o, rfl, h⟩
theorem stepB {W w1 w2 : World} (h : Below W.heap.size W w1) (o : Obj) (b : Below (w1.alloc o).heap.size (w1.alloc o) w2) : Below W.heap.size W w2 := below_then (h.alloc h.size _) b (by have := h.size; simp; omega)
theorem boxes2 (w W : World) (t : TypeId) (x0 x1 x2 x3 y0 y1 y2 y3 : Value) (hb : Below ((w.alloc (.cells #[x0, x1, x2, x3] t)).alloc (.cells #[y0, y1, y2, y3] t)).heap.size ((w.alloc (.cells #[x0, x1, x2, x3] t)).alloc (.cells #[y0, y1, y2, y3] t)) W) :
    W.cell? ⟨w.heap.size, 0, none⟩ = some x0 ∧ W.cell? ⟨w.heap.size, 1, none⟩ = some x1 ∧ W.cell? ⟨w.heap.size, 2, none⟩ = some x2 ∧ W.cell? ⟨w.heap.size, 3, none⟩ = some x3 ∧
    W.cell? ⟨w.heap.size + 1, 0, none⟩ = some y0 ∧ W.cell? ⟨w.heap.size + 1, 1, none⟩ = some y1 ∧ W.cell? ⟨w.heap.size + 1, 2, none⟩ = some y2 ∧ W.cell? ⟨w.heap.size + 1, 3, none⟩ = some y3 := by
  have z : (w.alloc (.cells #[x0, x1, x2, x3] t)).heap.size = w.heap.size + 1 := by simp
  have h1 := heap_alloc_last w (.cells #[x0, x1, x2, x3] t)
  have h2 := heap_alloc_last (w.alloc (.cells #[x0, x1, x2, x3] t)) (.cells #[y0, y1, y2, y3] t)
  rw [z] at h2
  have k1 : W.heap[w.heap.size]? = some (.cells #[x0, x1, x2, x3] t) := by rw [hb.block _ (by simp; omega), Below.heap_alloc _ _ _ (by simp)]; exact h1
  have k2 : W.heap[w.heap.size + 1]? = some (.cells #[y0, y1, y2, y3] t) := by rw [hb.block _ (by simp)]; exact h2
  exact ⟨cell_of_row W w.heap.size 0 _ t _ k1, cell_of_row W w.heap.size 1 _ t _ k1, cell_of_row W w.heap.size 2 _ t _ k1, cell_of_row W w.heap.size 3 _ t _ k1, cell_of_row W (w.heap.size + 1) 0 _ t _ k2, cell_of_row W (w.heap.size + 1) 1 _ t _ k2, cell_of_row W (w.heap.size + 1) 2 _ t _ k2, cell_of_row W (w.heap.size + 1) 3 _ t _ k2⟩

theorem cells_take {w : World} {b o : Nat} {l : List Nat} (h : Sl w (some ⟨b, o, none⟩) l) (n : Nat) (m : List Nat) (hm : m = l.take n) : Cells w b o m := cells_of_sl (sl_take (cells_of_sl h) n m hm)

theorem box1 (w W : World) (t : TypeId) (x0 x1 x2 x3 : Value) (hb : Below (w.alloc (.cells #[x0, x1, x2, x3] t)).heap.size (w.alloc (.cells #[x0, x1, x2, x3] t)) W) :
    W.cell? ⟨w.heap.size, 0, none⟩ = some x0 ∧ W.cell? ⟨w.heap.size, 1, none⟩ = some x1 ∧ W.cell? ⟨w.heap.size, 2, none⟩ = some x2 ∧ W.cell? ⟨w.heap.size, 3, none⟩ = some x3 := by
  have h1 := heap_alloc_last w (.cells #[x0, x1, x2, x3] t)
  have k1 : W.heap[w.heap.size]? = some (.cells #[x0, x1, x2, x3] t) := by rw [hb.block _ (by simp)]; exact h1
  exact ⟨cell_of_row W w.heap.size 0 _ t _ k1, cell_of_row W w.heap.size 1 _ t _ k1, cell_of_row W w.heap.size 2 _ t _ k1, cell_of_row W w.heap.size 3 _ t _ k1⟩
theorem pow8 (S : Nat) (h : S < 8) : (2 : Int) ^ min S 8 % 256 = ((2 ^ S : Nat) : Int) ∧ 2 ^ S < 256 := by
  have : S = 0 ∨ S = 1 ∨ S = 2 ∨ S = 3 ∨ S = 4 ∨ S = 5 ∨ S = 6 ∨ S = 7 := by omega
  rcases this with rfl | rfl | rfl | rfl | rfl | rfl | rfl | rfl <;> decide
theorem step1 {W w1 w2 : World} (h : Below W.heap.size W w1) (o : Obj) (b : Below (w1.alloc o).heap.size (w1.alloc o) w2) : Below W.heap.size W w2 := below_then (h.alloc h.size _) b (by have := h.size; simp; omega)

theorem ret_i {a b : Int} (h : a = b) : Value.int .i64 a = .int .i64 b := by rw [h]
/-- a row of one's own, where a byte is turned. -/
theorem rb_own {w : World} {base : Nat} {v : Value} {l : List Nat} (h : Rb w base v l) (hl : 0 < l.length) : ∃ g cap, v = .slice (some ⟨g, 0, none⟩) l.length cap ∧ l.length ≤ cap ∧ base ≤ g ∧ (∀ k, (hk : k < l.length) → w.cell? ⟨g, k, none⟩ = some (.int .u8 ((l[k] : Nat) : Int))) ∧ (∀ k, w.frozen? ⟨g, k, none⟩ = false) ∧
    ∀ k c, Rb (w.setCell ⟨g, k, none⟩ (.int .u8 ((c : Nat) : Int))) base (.slice (some ⟨g, 0, none⟩) l.length cap) (l.set k c) := by
  rcases h.2 with ⟨_, hn⟩ | ⟨g, cap, cur, rfl, hb, hg, hnc, _, hcs, htake⟩
  · omega
  · refine ⟨g, cap, rfl, hnc, hb, fun k hk => ?_, fun k => frozen_of_row w g k _ 5 hg, fun k c => ?_⟩
    · have hu : (cellsOf l)[k]? = some (.int .u8 ((l[k] : Nat) : Int)) := by simp [cellsOf, hk]
      have := h.cells (g := g) rfl k _ hu
      have hadd : (⟨g, 0, none⟩ : Addr).add k = ⟨g, k, none⟩ := by unfold Addr.add; split <;> simp_all
      rw [hadd] at this; exact this
    · exact rb_of (own_set h (k := k) (u := .int .u8 (c : Int))) (by simp) (by simp [cellsOf, List.map_set])
theorem tmod_nat (a n : Nat) : (a : Int).tmod (n : Int) = ((a % n : Nat) : Int) := by rw [Int.tmod_eq_emod_of_nonneg (by omega)]; simp
theorem toNat_at {l : List Int} (hl : ∀ n ∈ l, 0 ≤ n) (i : Nat) (h : i < (l.map Int.toNat).length) : (((l.map Int.toNat)[i] : Nat) : Int) = l[i]'(by simpa using h) := by
  have h' : i < l.length := by simpa using h
  have := hl l[i] (List.getElem_mem _)
  simp; omega
theorem inU {n : Int} (h : (Lit.int .u64 n).wf = true) : 0 ≤ n ∧ n < 18446744073709551616 := by
  simp only [Lit.wf, Bool.and_eq_true, decide_eq_true_eq] at h
  have h1 : IntKind.u64.min = 0 := by decide
  have h2 : IntKind.u64.max = 18446744073709551615 := by decide
  omega

end Go.Proofs.YtebfblpmihnndaaDoor.Bx
