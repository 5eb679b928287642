/- A parser of escape sequences in memory. -/
import Derived.Test.YtnaiefjbfpejbaaKit
import Derived.Laws.OwnMore
import Derived.Deep.WholeRow
import Derived.Laws.Rows
import Derived.OneCell
import Derived.Laws.Cover4
set_option linter.unusedVariables false
namespace Go.Proofs.Ytnaiefjbfpejbaa.Ep
open Go Go.RowKit Kit 


/-- a parser's state, as plain values. -/
structure Ps where
  st : Nat
  sp : Bool
  pv : Int
  it : Int
  pa : List Int
  se : Nat
  tx : List Int
/-- an event, as plain values. -/
structure Ev where
  kind : Nat
  rune : Int
  pa : List Int
  pv : Int
  it : Int
  fi : Int
  tx : ByteArray
def iv (l : List Int) : List Value := l.map (Value.int .i64)
def rv (l : List Int) : List Value := l.map (Value.int .i32)
theorem iv_len (l : List Int) : (iv l).length = l.length := by simp [iv]
theorem rv_len (l : List Int) : (rv l).length = l.length := by simp [rv]
abbrev prC (v x : Value) (p : Ps) : Array Value := #[.int .i64 (p.st : Int), .bool p.sp, .int .i32 p.pv, .int .i32 p.it, v, .int .i64 (p.se : Int), x]
/-- a parser in memory. -/
structure PrV (w : World) (g : Nat) (v x : Value) (p : Ps) : Prop where
  row : w.heap[g]? = some (.cells (prC v x p) 49 (0, 0))
  pa : w.ownsRow 0 3 1 v p.pa.length (iv p.pa)
  tx : w.ownsRow 0 21 1 x p.tx.length (rv p.tx)
  nil : p.pa = [] → v = .slice none 0 0
/-- all but a parser's own blocks stand. -/
structure Fr (g : Nat) (v x : Value) (w w' : World) : Prop where
  os : w'.os = w.os
  tape : w'.tape = w.tape
  output : w'.output = w.output
  size : w.heap.size ≤ w'.heap.size
  block : ∀ k, k < w.heap.size → k ≠ g → v.ownBlock ≠ some k → x.ownBlock ≠ some k → w'.heap[k]? = w.heap[k]?
/-- a row's block is the one of before, or a new one. -/
def New (w : World) (v v' : Value) : Prop := ∀ k, v'.ownBlock = some k → v.ownBlock = some k ∨ w.heap.size ≤ k
theorem New.refl (w : World) (v : Value) : New w v v := fun k h => .inl h
theorem New.nil (w : World) (v : Value) : New w v (.slice none 0 0) := fun k h => by cases h
theorem New.trans {w w1 : World} {v v1 v2 : Value} (h : New w v v1) (hw : w.heap.size ≤ w1.heap.size) (k : New w1 v1 v2) : New w v v2 := by
  intro j hj
  rcases k j hj with h1 | h1
  · exact h j h1
  · exact .inr (Nat.le_trans hw h1)
theorem Fr.refl (g : Nat) (v x : Value) (w : World) : Fr g v x w w := ⟨rfl, rfl, rfl, Nat.le_refl _, fun _ _ _ _ _ => rfl⟩
theorem Fr.trans {g : Nat} {v x v1 x1 : Value} {w w1 w2 : World} (h : Fr g v x w w1) (hv : New w v v1) (hx : New w x x1) (k : Fr g v1 x1 w1 w2) : Fr g v x w w2 := by
  refine ⟨k.os.trans h.os, k.tape.trans h.tape, k.output.trans h.output, Nat.le_trans h.size k.size, fun j hj h1 h2 h3 => ?_⟩
  rw [k.block j (Nat.lt_of_lt_of_le hj h.size) h1 (fun e => by rcases hv j e with h | h; exact h2 h; omega) (fun e => by rcases hx j e with h | h; exact h3 h; omega)]
  exact h.block j hj h1 h2 h3
theorem Fr.of {g : Nat} {v x : Value} {w w' : World} (h : Below w.heap.size w w') : Fr g v x w w' := ⟨h.os, h.tape, h.output, h.size, fun k hk _ _ _ => h.block k hk⟩
theorem Fr.set {g : Nat} {v x : Value} {w w1 : World} (h : Fr g v x w w1) (hg : g < w.heap.size) (i : Nat) (u : Value) : Fr g v x w (w1.setCell ⟨g, i, none⟩ u) := by
  refine ⟨h.os, h.tape, h.output, Nat.le_trans h.size (Below.setCell (Below.refl 0 w1) (Nat.zero_le _) u).size, fun j hj h1 h2 h3 => ?_⟩
  rw [Below.heap_setCell _ _ _ _ (fun e => h1 e)]
  exact h.block j hj h1 h2 h3
theorem seven {w : World} {g : Nat} {t : TypeId} {x0 x1 x2 x3 x4 x5 x6 : Value} (h : w.heap[g]? = some (.cells #[x0, x1, x2, x3, x4, x5, x6] t (0, 0))) : w.cell? ⟨g, 0, none⟩ = some x0 ∧ w.cell? ⟨g, 1, none⟩ = some x1 ∧ w.cell? ⟨g, 2, none⟩ = some x2 ∧ w.cell? ⟨g, 3, none⟩ = some x3 ∧ w.cell? ⟨g, 4, none⟩ = some x4 ∧ w.cell? ⟨g, 5, none⟩ = some x5 ∧ w.cell? ⟨g, 6, none⟩ = some x6 := by
  refine ⟨?_, ?_, ?_, ?_, ?_, ?_, ?_⟩ <;> (rw [cell_of_row w g _ _ t _ h]; rfl)
theorem thawed {w : World} {g : Nat} {t : TypeId} {cs : Array Value} (h : w.heap[g]? = some (.cells cs t (0, 0))) : w.frozen? ⟨g, 0, none⟩ = false ∧ w.frozen? ⟨g, 1, none⟩ = false ∧ w.frozen? ⟨g, 2, none⟩ = false ∧ w.frozen? ⟨g, 3, none⟩ = false ∧ w.frozen? ⟨g, 4, none⟩ = false ∧ w.frozen? ⟨g, 5, none⟩ = false ∧ w.frozen? ⟨g, 6, none⟩ = false :=
  ⟨frozen_of_row w g 0 _ t h, frozen_of_row w g 1 _ t h, frozen_of_row w g 2 _ t h, frozen_of_row w g 3 _ t h, frozen_of_row w g 4 _ t h, frozen_of_row w g 5 _ t h, frozen_of_row w g 6 _ t h⟩
abbrev set7 (w : World) (g : Nat) (a b c d e f h : Value) : World := ((((((w.setCell ⟨g, 0, none⟩ a).setCell ⟨g, 1, none⟩ b).setCell ⟨g, 2, none⟩ c).setCell ⟨g, 3, none⟩ d).setCell ⟨g, 4, none⟩ e).setCell ⟨g, 5, none⟩ f).setCell ⟨g, 6, none⟩ h
theorem seven_set {w : World} {g : Nat} {t : TypeId} {x0 x1 x2 x3 x4 x5 x6 : Value} (hr : w.heap[g]? = some (.cells #[x0, x1, x2, x3, x4, x5, x6] t (0, 0))) (a b c d e f h : Value) : (set7 w g a b c d e f h).heap[g]? = some (.cells #[a, b, c, d, e, f, h] t (0, 0)) := by
  unfold set7
  rw [heap_setCell_same _ g 6 _ t h (heap_setCell_same _ g 5 _ t f (heap_setCell_same _ g 4 _ t e (heap_setCell_same _ g 3 _ t d (heap_setCell_same _ g 2 _ t c (heap_setCell_same _ g 1 _ t b (heap_setCell_same _ g 0 _ t a hr))))))]; rfl
theorem Fr.set7 {g : Nat} {v x : Value} {w w1 : World} (hr : Fr g v x w w1) (hg : g < w.heap.size) (a b c d e f h : Value) : Fr g v x w (set7 w1 g a b c d e f h) :=
  ((((((hr.set hg 0 a).set hg 1 b).set hg 2 c).set hg 3 d).set hg 4 e).set hg 5 f).set hg 6 h
theorem lt_of {w : World} {g : Nat} {o : Obj} (h : w.heap[g]? = some o) : g < w.heap.size := (Array.getElem?_eq_some_iff.1 h).1
theorem PrV.lt {w : World} {g : Nat} {v x : Value} {p : Ps} (h : PrV w g v x p) : g < w.heap.size := lt_of h.row
/-- the parser's block is none of the rows'. -/
theorem PrV.other {w : World} {g : Nat} {v x : Value} {p : Ps} (h : PrV w g v x p) : v.ownBlock ≠ some g ∧ x.ownBlock ≠ some g := by
  constructor
  · intro e
    rcases h.pa.2 with ⟨rfl, _⟩ | ⟨g1, cap, cur, rfl, _, h1, _⟩
    · cases e
    · have : g1 = g := by injection e
      rw [this, h.row] at h1
      injection h1 with h1; injection h1 with _ h1; exact absurd h1 (by decide)
  · intro e
    rcases h.tx.2 with ⟨rfl, _⟩ | ⟨g1, cap, cur, rfl, _, h1, _⟩
    · cases e
    · have : g1 = g := by injection e
      rw [this, h.row] at h1
      injection h1 with h1; injection h1 with _ h1; exact absurd h1 (by decide)
/-- a parser in a world that only grew. -/
theorem PrV.then_ {w w1 : World} {B g : Nat} {v x : Value} {p : Ps} (h : PrV w g v x p) (hb : Below B w w1) (hB : w.heap.size ≤ B) : PrV w1 g v x p := by
  refine ⟨(hb.block _ (Nat.lt_of_lt_of_le h.lt hB)).trans h.row, ⟨h.pa.1, ?_⟩, ⟨h.tx.1, ?_⟩, h.nil⟩
  · rcases h.pa.2 with h1 | ⟨g1, cap, cur, hv, h0, h1, rest⟩
    · exact .inl h1
    · exact .inr ⟨g1, cap, cur, hv, h0, (hb.block _ (Nat.lt_of_lt_of_le (lt_of h1) hB)).trans h1, rest⟩
  · rcases h.tx.2 with h1 | ⟨g1, cap, cur, hv, h0, h1, rest⟩
    · exact .inl h1
    · exact .inr ⟨g1, cap, cur, hv, h0, (hb.block _ (Nat.lt_of_lt_of_le (lt_of h1) hB)).trans h1, rest⟩
/-- nothing told. -/
def bg (st : Nat) : Ps := ⟨st, false, 0, 0, [], 0, []⟩
/-- what is left of a parser behind a step. -/
def StP (g : Nat) (v x : Value) (w : World) (p' : Ps) (v' x' : Value) (w' : World) : Prop := PrV w' g v' x' p' ∧ Fr g v x w w' ∧ New w v v' ∧ New w x x'
theorem StP.pr {g : Nat} {v x v' x' : Value} {w w' : World} {p' : Ps} (h : StP g v x w p' v' x' w') : PrV w' g v' x' p' := h.1
theorem StP.trans {g : Nat} {v x v1 x1 v2 x2 : Value} {w w1 w2 : World} {p1 p2 : Ps} (h : StP g v x w p1 v1 x1 w1) (k : StP g v1 x1 w1 p2 v2 x2 w2) : StP g v x w p2 v2 x2 w2 :=
  ⟨k.1, h.2.1.trans h.2.2.1 h.2.2.2 k.2.1, h.2.2.1.trans h.2.1.size k.2.2.1, h.2.2.2.trans h.2.1.size k.2.2.2⟩
def nilS : Value := .slice none 0 0
theorem bg_new {w : World} {g : Nat} {v x : Value} {p : Ps} (h : PrV w g v x p) (st : Nat) : StP g v x w (bg st) (.slice none 0 0) (.slice none 0 0) (set7 w g (.int .i64 (st : Int)) (.bool false) (.int .i32 0) (.int .i32 0) (.slice none 0 0) (.int .i64 0) (.slice none 0 0)) :=
  ⟨⟨seven_set h.row _ _ _ _ _ _ _, World.ownsRow_nil _ _ _ _, World.ownsRow_nil _ _ _ _, fun _ => rfl⟩, (Fr.refl g v x w).set7 h.lt _ _ _ _ _ _ _, New.nil _ _, New.nil _ _⟩
set_option maxRecDepth 100000 in
/-- begin. -/
theorem beginC (st g : Nat) (v x : Value) (p : Ps) (w : World) (h : PrV w g v x p) : Calls Try.prog 21 #[.pointer (some ⟨g, 0, none⟩), .int .i64 (st : Int)] w fun e w' => e = .returned (.tuple #[]) ∧ StP g v x w (bg st) (.slice none 0 0) (.slice none 0 0) w' := by
  have HN := Lib.hid (bg_new h st)
  obtain ⟨c0, c1, c2, c3, c4, c5, c6⟩ := seven h.row
  obtain ⟨f0, f1, f2, f3, f4, f5, f6⟩ := thawed h.row
  clear h
  go_enter Try.func21, Try.ntmps21
  go_wp2
  go_end0
  exact ⟨rfl, HN.out⟩

theorem beginK (n : Int) (st g : Nat) (v x : Value) (p : Ps) (w : World) (hn : n = (st : Int)) (h : PrV w g v x p) : Calls Try.prog 21 #[.pointer (some ⟨g, 0, none⟩), .int .i64 n] w fun e w' => e = .returned (.tuple #[]) ∧ StP g v x w (bg st) (.slice none 0 0) (.slice none 0 0) w' := by
  subst hn; exact beginC st g v x p w h
def blankE : Ev := ⟨0, 0, [], 0, 0, 0, ⟨#[]⟩⟩
def execE (r : Int) : Ev := ⟨2, r, [], 0, 0, 0, ⟨#[]⟩⟩
def printE (r : Int) : Ev := ⟨1, r, [], 0, 0, 0, ⟨#[]⟩⟩
def escE (it fi : Int) : Ev := ⟨3, 0, [], 0, it, fi, ⟨#[]⟩⟩
def csiE (p : Ps) (fi : Int) : Ev := ⟨4, 0, p.pa, p.pv, p.it, fi, ⟨#[]⟩⟩
def oscE (l : List Int) : Ev := ⟨5, 0, [], 0, 0, 0, runesBytes l⟩
def evV (E : Ev) (pv : Value) : Value := .agg #[.int .i64 (E.kind : Int), .int .i32 E.rune, pv, .int .i32 E.pv, .int .i32 E.it, .int .i32 E.fi, .string E.tx]
/-- where an event's params lie: in the parser's own row, which it then forgets. -/
def pvOf (E : Ev) (v : Value) : Value := if E.kind = 4 then v else .slice none 0 0
abbrev z7 : Obj := .cells #[.int .i64 0, .int .i32 0, .slice none 0 0, .int .i32 0, .int .i32 0, .int .i32 0, .string ⟨#[]⟩] 40
/-- a row's block holds values of the row's kind. -/
theorem own_kind {w : World} {e T : TypeId} {v : Value} {n k : Nat} {xs : List Value} {cs : Array Value} (h : w.ownsRow 0 e 1 v n xs) (hk : w.heap[k]? = some (.cells cs T (0, 0))) (hT : T ≠ e) : v.ownBlock ≠ some k := by
  intro hv
  rcases h.2 with ⟨rfl, _⟩ | ⟨g1, cap, cur, rfl, _, h1, _⟩
  · cases hv
  · have : g1 = k := by injection hv
    rw [this, hk] at h1
    injection h1 with h1; injection h1 with _ h1; exact hT h1
/-- the result's block beside a parser. -/
theorem res_at {w0 w' : World} {g k : Nat} {v x v' x' : Value} {p p' : Ps} {cs : Array Value} (h0 : PrV w0 g v x p) (hk : w0.heap[k]? = some (.cells cs 40 (0, 0))) (h : StP g v x w0 p' v' x' w') : w'.heap[k]? = some (.cells cs 40 (0, 0)) := by
  rw [h.2.1.block k (lt_of hk) (fun e => ?_) (own_kind h0.pa hk (by decide)) (own_kind h0.tx hk (by decide))]
  · exact hk
  · subst e
    rw [h0.row] at hk
    injection hk with hk; injection hk with _ h1; exact absurd h1 (by decide)
theorem StP.past {w w0 w' : World} {g : Nat} {v x v' x' : Value} {p' : Ps} (hb : Below w.heap.size w w0) (h : StP g v x w0 p' v' x' w') : StP g v x w p' v' x' w' := by
  have e := hb.size
  refine ⟨h.1, (Fr.of hb).trans (New.refl _ _) (New.refl _ _) h.2.1, fun k hk => ?_, fun k hk => ?_⟩
  · rcases h.2.2.1 k hk with h1 | h1
    · exact .inl h1
    · exact .inr (by omega)
  · rcases h.2.2.2 k hk with h1 | h1
    · exact .inl h1
    · exact .inr (by omega)
theorem PrV.set {w : World} {g k i : Nat} {v x : Value} {p : Ps} (h : PrV w g v x p) (hk : k ≠ g) (hv : v.ownBlock ≠ some k) (hx : x.ownBlock ≠ some k) (u : Value) : PrV (w.setCell ⟨k, i, none⟩ u) g v x p :=
  ⟨by rw [Below.heap_setCell _ _ _ _ (fun e => hk e.symm)]; exact h.row, ownsRow_setCell_other h.pa hv u, ownsRow_setCell_other h.tx hx u, h.nil⟩
theorem PrV.set7 {w : World} {g k : Nat} {v x : Value} {p : Ps} (h : PrV w g v x p) (hk : k ≠ g) (hv : v.ownBlock ≠ some k) (hx : x.ownBlock ≠ some k) (a b c d e f z : Value) : PrV (set7 w k a b c d e f z) g v x p :=
  ((((((h.set hk hv hx a).set hk hv hx b).set hk hv hx c).set hk hv hx d).set hk hv hx e).set hk hv hx f).set hk hv hx z
theorem Fr.new7 {g k : Nat} {v x : Value} {w w1 : World} (h : Fr g v x w w1) (hk : w.heap.size ≤ k) (a b c d e f z : Value) : Fr g v x w (Ep.set7 w1 k a b c d e f z) := by
  have hb : Below w.heap.size w1 (Ep.set7 w1 k a b c d e f z) := (((((((Below.refl _ w1).setCell hk _).setCell hk _).setCell hk _).setCell hk _).setCell hk _).setCell hk _).setCell hk _
  exact ⟨hb.os.trans h.os, hb.tape.trans h.tape, hb.output.trans h.output, Nat.le_trans h.size hb.size, fun j hj h1 h2 h3 => (hb.block j hj).trans (h.block j hj h1 h2 h3)⟩
/-- what is left when the result is stored. -/
theorem StP.fin {w w' : World} {g k : Nat} {v x v' x' : Value} {p' : Ps} {cs : Array Value} (h : StP g v x w p' v' x' w') (hk : w.heap.size ≤ k) (hr : w'.heap[k]? = some (.cells cs 40 (0, 0))) (a b c d e f z : Value) : StP g v x w p' v' x' (set7 w' k a b c d e f z) := by
  refine ⟨h.1.set7 (fun e => ?_) (own_kind h.1.pa hr (by decide)) (own_kind h.1.tx hr (by decide)) _ _ _ _ _ _ _, h.2.1.new7 hk _ _ _ _ _ _ _, h.2.2.1, h.2.2.2⟩
  subst e
  rw [h.1.row] at hr
  injection hr with hr; injection hr with _ h1; exact absurd h1 (by decide)
/-- what a step answers. -/
def EvP (g : Nat) (v x : Value) (w : World) (p' : Ps) (E : Ev) (e : Ending) (w' : World) : Prop := e = .returned (evV E (pvOf E v)) ∧ ∃ v' x', StP g v x w p' v' x' w'
theorem stP_refl {w : World} {g : Nat} {v x : Value} {p : Ps} (h : PrV w g v x p) : StP g v x w p v x w := ⟨h, Fr.refl _ _ _ _, New.refl _ _, New.refl _ _⟩
/-- a parser beside the result's block. -/
theorem PrV.z7 {w : World} {g : Nat} {v x : Value} {p : Ps} (h : PrV w g v x p) : PrV (w.alloc Ep.z7) g v x p := h.then_ ((Below.refl w.heap.size w).alloc (Nat.le_refl _) Ep.z7) (Nat.le_refl _)

def inGroundE (r : Int) : Ev := if r < 32 then execE r else if r < 127 then printE r else if r ≤ 159 then blankE else printE r
set_option maxRecDepth 100000 in
theorem inGroundC (r : Int) (w : World) : Calls Try.prog 28 #[.int .i32 r] w fun e w' => e = .returned (evV (inGroundE r) (.slice none 0 0)) ∧ Below w.heap.size w w' := by
  have hc : (r < 32 ∧ inGroundE r = execE r) ∨ (¬ r < 32 ∧ r < 127 ∧ inGroundE r = printE r) ∨ (¬ r < 32 ∧ ¬ r < 127 ∧ r ≤ 159 ∧ inGroundE r = blankE) ∨ (¬ r < 32 ∧ ¬ r < 127 ∧ ¬ r ≤ 159 ∧ inGroundE r = printE r) := by
    unfold inGroundE; repeat' split
    all_goals simp_all
  rcases hc with ⟨h1, h⟩ | ⟨h1, h2, h⟩ | ⟨h1, h2, h3, h⟩ | ⟨h1, h2, h3, h⟩
  all_goals
    rw [h]
    clear h
    go_enter Try.func28, Try.ntmps28
    go_wp2
    go_returns
    exact ⟨rfl, (Below.refl _ _).alloc (Nat.le_refl _) _⟩
theorem past_two (w : World) (o o' : Obj) : Below w.heap.size w ((w.alloc o).alloc o') := ((Below.refl _ w).alloc (Nat.le_refl _) o).alloc (by simp) o'
set_option maxRecDepth 100000 in
/-- the end of a control: an event, unless it is spoilt. -/
theorem endC (k r : Int) (ea : Option Addr) (el ec : Nat) (a b c : Int) (s : ByteArray) (g : Nat) (v x : Value) (p : Ps) (w : World) (h : PrV w g v x p) (Z : Value) (hZ : Z = if p.sp then evV blankE (.slice none 0 0) else .agg #[.int .i64 k, .int .i32 r, .slice ea el ec, .int .i32 a, .int .i32 b, .int .i32 c, .string s]) :
    Calls Try.prog 34 #[.pointer (some ⟨g, 0, none⟩), .agg #[.int .i64 k, .int .i32 r, .slice ea el ec, .int .i32 a, .int .i32 b, .int .i32 c, .string s]] w fun e w' => e = .returned Z ∧ ∃ v' x', StP g v x w (bg 0) v' x' w' := by
  have HB := Lib.hid (past_two w (.cells #[.int .i64 k, .int .i32 r, .slice ea el ec, .int .i32 a, .int .i32 b, .int .i32 c, .string s] 40) (.cells #[.int .i64 0, .int .i32 0, .slice none 0 0, .int .i32 0, .int .i32 0, .int .i32 0, .string ⟨#[]⟩] 40))
  have e1 : (w.alloc (.cells #[.int .i64 k, .int .i32 r, .slice ea el ec, .int .i32 a, .int .i32 b, .int .i32 c, .string s] 40)).heap.size = w.heap.size + 1 := by simp
  have HR0 := Lib.hid (show ((w.alloc (.cells #[.int .i64 k, .int .i32 r, .slice ea el ec, .int .i32 a, .int .i32 b, .int .i32 c, .string s] 40)).alloc (.cells #[.int .i64 0, .int .i32 0, .slice none 0 0, .int .i32 0, .int .i32 0, .int .i32 0, .string ⟨#[]⟩] 40)).heap[w.heap.size]? = some (.cells #[.int .i64 k, .int .i32 r, .slice ea el ec, .int .i32 a, .int .i32 b, .int .i32 c, .string s] 40 (0, 0)) from (Below.heap_alloc _ (.cells #[.int .i64 0, .int .i32 0, .slice none 0 0, .int .i32 0, .int .i32 0, .int .i32 0, .string ⟨#[]⟩] 40) w.heap.size (by omega)).trans (heap_alloc_last w _))
  have HR1 := Lib.hid (show ((w.alloc (.cells #[.int .i64 k, .int .i32 r, .slice ea el ec, .int .i32 a, .int .i32 b, .int .i32 c, .string s] 40)).alloc (.cells #[.int .i64 0, .int .i32 0, .slice none 0 0, .int .i32 0, .int .i32 0, .int .i32 0, .string ⟨#[]⟩] 40)).heap[w.heap.size + 1]? = some (.cells #[.int .i64 0, .int .i32 0, .slice none 0 0, .int .i32 0, .int .i32 0, .int .i32 0, .string ⟨#[]⟩] 40 (0, 0)) from by rw [← e1]; exact heap_alloc_last _ (.cells #[.int .i64 0, .int .i32 0, .slice none 0 0, .int .i32 0, .int .i32 0, .int .i32 0, .string ⟨#[]⟩] 40))
  have HP := Lib.hid (h.then_ HB.out (Nat.le_refl _))
  have HZ := Lib.hid hZ
  have HK := Lib.hid (Nat.le_succ w.heap.size)
  obtain ⟨q, hq⟩ : ∃ q, q = p.sp := ⟨_, rfl⟩
  have cs := (seven HP.out.row).2.1
  rw [← hq] at cs
  rw [← hq] at HZ
  clear e1 hZ h hq
  cases q with
  | true =>
    have HZ2 : Z = evV blankE (.slice none 0 0) := HZ.out
    subst HZ2
    clear HZ
    go_enter Try.func34, Try.ntmps34
    go_wp2_with fail
    generalize ((w.alloc (.cells #[.int .i64 k, .int .i32 r, .slice ea el ec, .int .i32 a, .int .i32 b, .int .i32 c, .string s] 40)).alloc (.cells #[.int .i64 0, .int .i32 0, .slice none 0 0, .int .i32 0, .int .i32 0, .int .i32 0, .string ⟨#[]⟩] 40)) = w0 at *
    go_wp2_with (go_at_call 21; (with_reducible refine (beginK 0 0 g v x _ w0 rfl HP.out).mono ?_); rintro e w1 ⟨rfl, hs⟩; have HS2 := Lib.hid (StP.past HB.out hs); have HR3 := Lib.hid (res_at HP.out HR1.out hs); clear cs; obtain ⟨d0, d1, d2, d3, d4, d5, d6⟩ := seven HR3.out; obtain ⟨f0, f1, f2, f3, f4, f5, f6⟩ := thawed HR3.out; clear hs)
    have HS3 := Lib.hid (seven (seven_set HR3.out (.int .i64 0) (.int .i32 0) (.slice none 0 0) (.int .i32 0) (.int .i32 0) (.int .i32 0) (.string ⟨#[]⟩)))
    obtain ⟨d0, d1, d2, d3, d4, d5, d6⟩ := HS3.out
    exact bodyPost_ret (v := evV blankE (.slice none 0 0)) (by simp [results, Try.results34, go_sem, d0, d1, d2, d3, d4, d5, d6, evV, blankE]) rfl ⟨rfl, _, _, HS2.out.fin HK.out HR3.out _ _ _ _ _ _ _⟩
  | false =>
    have HZ2 : Z = .agg #[.int .i64 k, .int .i32 r, .slice ea el ec, .int .i32 a, .int .i32 b, .int .i32 c, .string s] := HZ.out
    subst HZ2
    clear HZ
    go_enter Try.func34, Try.ntmps34
    go_wp2_with fail
    generalize ((w.alloc (.cells #[.int .i64 k, .int .i32 r, .slice ea el ec, .int .i32 a, .int .i32 b, .int .i32 c, .string s] 40)).alloc (.cells #[.int .i64 0, .int .i32 0, .slice none 0 0, .int .i32 0, .int .i32 0, .int .i32 0, .string ⟨#[]⟩] 40)) = w0 at *
    go_wp2_with (go_at_call 21; (with_reducible refine (beginK 0 0 g v x _ w0 rfl HP.out).mono ?_); rintro e w1 ⟨rfl, hs⟩; have HS2 := Lib.hid (StP.past HB.out hs); have HR3 := Lib.hid (res_at HP.out HR1.out hs); have HR4 := Lib.hid (res_at HP.out HR0.out hs); clear cs; obtain ⟨d0, d1, d2, d3, d4, d5, d6⟩ := seven HR3.out; obtain ⟨f0, f1, f2, f3, f4, f5, f6⟩ := thawed HR3.out; obtain ⟨y0, y1, y2, y3, y4, y5, y6⟩ := seven HR4.out; clear hs)
    have HS3 := Lib.hid (seven (seven_set HR3.out (.int .i64 k) (.int .i32 r) (.slice ea el ec) (.int .i32 a) (.int .i32 b) (.int .i32 c) (.string s)))
    clear y0 y1 y2 y3 y4 y5 y6
    obtain ⟨d0, d1, d2, d3, d4, d5, d6⟩ := HS3.out
    exact bodyPost_ret (v := .agg #[.int .i64 k, .int .i32 r, .slice ea el ec, .int .i32 a, .int .i32 b, .int .i32 c, .string s]) (by simp [results, Try.results34, go_sem, d0, d1, d2, d3, d4, d5, d6]) rfl ⟨rfl, _, _, HS2.out.fin HK.out HR3.out _ _ _ _ _ _ _⟩
theorem PrV.put {w : World} {g i : Nat} {v x : Value} {p p' : Ps} {u : Value} (h : PrV w g v x p) (hr : (prC v x p).setIfInBounds i u = prC v x p') (h1 : p'.pa = p.pa) (h2 : p'.tx = p.tx) : PrV (w.setCell ⟨g, i, none⟩ u) g v x p' := by
  refine ⟨?_, ?_, ?_, ?_⟩
  · rw [heap_setCell_same _ g i _ 49 u h.row, hr]
  · rw [h1]; exact ownsRow_setCell_other h.pa h.other.1 u
  · rw [h2]; exact ownsRow_setCell_other h.tx h.other.2 u
  · rw [h1]; exact h.nil
/-- a field of the parser is set. -/
theorem StP.put {w w' : World} {g i : Nat} {v x v' x' : Value} {p p' : Ps} {u : Value} (h : StP g v x w p v' x' w') (hg : g < w.heap.size) (hr : (prC v' x' p).setIfInBounds i u = prC v' x' p') (h1 : p'.pa = p.pa) (h2 : p'.tx = p.tx) : StP g v x w p' v' x' (w'.setCell ⟨g, i, none⟩ u) :=
  ⟨h.1.put hr h1 h2, h.2.1.set hg i u, h.2.2.1, h.2.2.2⟩
theorem put_other {w : World} {g k i : Nat} {o : Obj} {u : Value} (h : w.heap[k]? = some o) (hk : k ≠ g) : (w.setCell ⟨g, i, none⟩ u).heap[k]? = some o := by
  rw [Below.heap_setCell _ _ _ _ hk]; exact h
/-- the rows, as slices. -/
theorem own_slice {w : World} {e : TypeId} {v : Value} {n : Nat} {xs : List Value} (h : w.ownsRow 0 e 1 v n xs) : ∃ a c, v = .slice a n c := by
  rcases h.2 with ⟨rfl, rfl⟩ | ⟨g1, cap, cur, rfl, _⟩
  · exact ⟨none, 0, rfl⟩
  · exact ⟨_, _, rfl⟩
theorem conv_tx {w : World} {x : Value} {l : List Int} (h : w.ownsRow 0 21 1 x l.length (rv l)) : (convert 22 9 x).run Try.prog w = .ok (.string (runesBytes l)) w := by
  rcases h.2 with ⟨rfl, h0⟩ | ⟨g1, cap, cur, rfl, _⟩
  · have : l = [] := List.eq_nil_of_length_eq_zero h0
    subst this
    rw [run_convert_runes_nil (P := Try.prog) w 22 9 21 0 0 Try.underlying22 Try.underlying21 Try.underlying9]
    rfl
  · rw [run_convert_runes (P := Try.prog) w 22 9 21 ⟨g1, 0, none⟩ l.length cap l (Nat.le_refl _) Try.underlying22 Try.underlying21 Try.underlying9, List.take_length]
    intro j hj
    rw [h.cells (g := g1) rfl j (.int .i32 (l.getD j 0))]
    simp [rv, List.getElem?_eq_getElem hj, List.getD_eq_getElem?_getD]

end Go.Proofs.Ytnaiefjbfpejbaa.Ep
