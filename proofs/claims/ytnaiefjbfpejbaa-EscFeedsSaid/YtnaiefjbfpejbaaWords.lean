/- Words for memory, of any kind of integers: slices that read as lists, rows of the call's own, blocks that are kept. No statement of its own. -/
import Derived.Test.YtnaiefjbfpejbaaRows
import Derived.WalkKit
import Derived.ProofKit
import Derived.OpenShut
import Derived.WalkLawsBesides
import Derived.WalkSpells
import Derived.Lib.Hide
import Derived.Lib.SmallJoins
import Derived.Below
import Derived.Deep.RegionHeld3
import Derived.RegionTactic
import Derived.Deep.RegionWith
import Derived.Deep.QuietTactic
import Derived.BigQuiet
import Derived.IntWalk
import Derived.Handy
import Derived.Outline
import Derived.LoopTactic
import Derived.OwnWalk
import Derived.Laws.AppendOwnNone
import Derived.Deep.OwnRows
import Derived.Maps.AppendAt
set_option linter.unusedVariables false
namespace Go.Proofs.Ytnaiefjbfpejbaa.Words
open Go Go.RowKit Go.ChangeShapes Go.WideShapes Go.Joins

theorem ret_bool {a b : Bool} (h : a = b) : Ending.returned (.bool a) = .returned (.bool b) := by rw [h]
theorem ret_int {k : IntKind} {a b : Int} (h : a = b) : Ending.returned (.int k a) = .returned (.int k b) := by rw [h]
theorem below_then {B : Nat} {a w w1 : World} (h : Below B a w) (k : Below w.heap.size w w1) (hB : B ≤ w.heap.size) : Below B a w1 := h.trans (k.mono hB)
theorem below_next {w W W1 : World} (h : Below w.heap.size w W) (k : Below W.heap.size W W1) : Below w.heap.size w W1 := below_then h k h.size
theorem below_al {w W : World} {o : Obj} (h : Below w.heap.size w W) : Below w.heap.size w (W.alloc o) := h.alloc h.size _
theorem below_one (W : World) (o : Obj) : Below W.heap.size W (W.alloc o) := (Below.refl _ _).alloc (Nat.le_refl _) _
theorem below_drewN {B : Nat} {a w : World} (h : Below B a w) (n : Nat) : Below B a (w.drewN n) := ⟨h.os, h.tape, h.output, h.size, h.block⟩
theorem below_put {w W W' : World} {b : Nat} (h : Below w.heap.size w W) (hg : W.grownBy W' (some b)) (hb : w.heap.size ≤ b) : Below w.heap.size w W' :=
  h.trans ⟨hg.os, hg.tape, hg.output, hg.size, fun k hk => hg.block k (Nat.lt_of_lt_of_le hk h.size) (fun e => by injection e; omega)⟩
theorem below_none {w W W' : World} (h : Below w.heap.size w W) (hg : W.grownBy W' none) : Below w.heap.size w W' :=
  h.trans ⟨hg.os, hg.tape, hg.output, hg.size, fun k hk => hg.block k (Nat.lt_of_lt_of_le hk h.size) (fun e => by cases e)⟩
theorem grown_of_below {w w' : World} (h : Below w.heap.size w w') (r : Option Nat) : w.grownBy w' r := ⟨h.os, h.tape, h.output, h.size, fun k hk _ => h.block k hk⟩
theorem grownBy_refl (w : World) (r : Option Nat) : w.grownBy w r := ⟨rfl, rfl, rfl, Nat.le_refl _, fun _ _ _ => rfl⟩
theorem grownBy_set (w : World) (b i : Nat) (u : Value) : w.grownBy (w.setCell ⟨b, i, none⟩ u) (some b) :=
  ⟨rfl, rfl, rfl, by simp [World.setCell], fun k _ hk => Below.heap_setCell w ⟨b, i, none⟩ u k (fun e => hk (by rw [e]))⟩
theorem grownBy_trans {a b c : World} {r : Option Nat} (h : a.grownBy b r) (k : b.grownBy c r) : a.grownBy c r :=
  ⟨k.os.trans h.os, k.tape.trans h.tape, k.output.trans h.output, Nat.le_trans h.size k.size, fun i hi hne => (k.block i (Nat.lt_of_lt_of_le hi h.size) hne).trans (h.block i hi hne)⟩
theorem grownBy_drewN {a b : World} {r : Option Nat} (h : a.grownBy b r) (n : Nat) : a.grownBy (b.drewN n) r := ⟨h.os, h.tape, h.output, h.size, h.block⟩
theorem cell_then {B : Nat} {W w1 : World} (hb : Below B W w1) (hB : W.heap.size ≤ B) {b o : Nat} {v : Value} (h : W.cell? ⟨b, o, none⟩ = some v) : w1.cell? ⟨b, o, none⟩ = some v := by
  have hlt := World.block_lt_of_cell? W _ h
  rw [hb.cell (p := ⟨b, o, none⟩) (Nat.lt_of_lt_of_le hlt hB)]; exact h
theorem past_alloc {w : World} {a : Addr} {v : Value} {o : Obj} (h : w.cell? a = some v) : (w.alloc o).cell? a = some v := by
  rw [World.cell?_alloc_lt _ _ _ (World.block_lt_of_cell? w a h)]; exact h
theorem past_drew {w : World} {a : Addr} {v : Value} (h : w.cell? a = some v) : w.drew.cell? a = some v := h
theorem add_at (b o i : Nat) : (⟨b, o, none⟩ : Addr).add i = ⟨b, o + i, none⟩ := by unfold Addr.add; split <;> simp_all
theorem lt_of_block {w : World} {p : Nat} {o : Obj} (h : w.heap[p]? = some o) : p < w.heap.size := (Array.getElem?_eq_some_iff.1 h).1

/-- a slice of integers that came in. -/
def IsRow (k : IntKind) (w : World) (a : Option Addr) (len cap : Nat) (zs : List Int) : Prop :=
  (a = none ∧ len = 0 ∧ cap = 0 ∧ zs = []) ∨
  ∃ x, a = some x ∧ len ≤ cap ∧ cap ≤ maxLen ∧ zs.length = cap ∧ (∀ i, i < zs.length → w.cell? (x.add i) = some (.int k (zs.getD i 0))) ∧ ∀ n ∈ zs, (Lit.int k n).wf = true
section
variable {H : Type} {enc : TypeId × Value → H} {P : Program} {w : World} {base : Nat} {spare : Nat → Bool} {held : Bool}
theorem int_of {k : IntKind} {n : Nat} {t : TypeId} {c : Value} {y : DataW H × List MemPlace} (ht : P.underlying t = some (.int k)) (h : DataW.trod enc P w base spare held n t [c] = some y) :
    ∃ a : Int, c = .int k a ∧ (Lit.int k a).wf = true := by
  obtain ⟨a, hc, _, hw⟩ := DataW.trod_int ht h
  exact ⟨a, by simpa using hc, hw⟩
end
/-- a slice of integers reads as a list. -/
def Row (k : IntKind) (w : World) (a : Option Addr) (l : List Int) : Prop := l = [] ∨ ∃ b off, a = some ⟨b, off, none⟩ ∧ ∀ i, (h : i < l.length) → w.cell? ⟨b, off + i, none⟩ = some (.int k l[i])
def cellsK (k : IntKind) (l : List Int) : List Value := l.map fun c : Int => Value.int k c
theorem cellsK_app (k : IntKind) (l m : List Int) : cellsK k l ++ cellsK k m = cellsK k (l ++ m) := by simp [cellsK]
theorem cellsK_len (k : IntKind) (l : List Int) : (cellsK k l).length = l.length := by simp [cellsK]
section
variable {k : IntKind} {w w1 W : World} {a : Option Addr} {l m : List Int} {b off : Nat}
theorem Row.at_ (h : Row k w (some ⟨b, off, none⟩) l) (i : Nat) (hi : i < l.length) : w.cell? ⟨b, off + i, none⟩ = some (.int k l[i]) := by
  rcases h with rfl | ⟨b', off', e, h⟩
  · simp at hi
  · injection e with e; injection e with e1 e2 _; subst e1 e2; exact h i hi
theorem Row.addr (h : Row k w a l) (hl : 0 < l.length) : ∃ b off, a = some ⟨b, off, none⟩ := by
  rcases h with rfl | ⟨b, off, e, _⟩
  · simp at hl
  · exact ⟨b, off, e⟩
theorem Row.lt' (h : Row k w a l) (hl : 0 < l.length) : ∀ b off, a = some ⟨b, off, none⟩ → b < w.heap.size := by
  intro b off e; subst e; exact World.block_lt_of_cell? w _ (h.at_ 0 hl)
theorem Row.lt (h : Row k w (some ⟨b, off, none⟩) l) (hl : 0 < l.length) : b < w.heap.size := World.block_lt_of_cell? w _ (h.at_ 0 hl)
theorem Row.then_ {B : Nat} (h : Row k W a l) (hb : Below B W w1) (hB : W.heap.size ≤ B) : Row k w1 a l := by
  rcases h with h | ⟨b, off, rfl, h⟩
  · exact .inl h
  · exact .inr ⟨b, off, rfl, fun i hi => cell_then hb hB (h i hi)⟩
theorem Row.grown {r : Option Nat} (h : Row k W a l) (hg : W.grownBy w1 r) (hr : ∀ x, a = some x → some x.block ≠ r) : Row k w1 a l := by
  rcases h with h | ⟨b, off, rfl, h⟩
  · exact .inl h
  · refine .inr ⟨b, off, rfl, fun i hi => ?_⟩
    have hlt := World.block_lt_of_cell? W _ (h i hi)
    rw [World.cell?_of_block (hg.block b hlt (hr _ rfl))]; exact h i hi
theorem Row.keep {p : Nat} (h : Row k W a l) (hg : W.grownBy w1 (some p)) (hx : 0 < l.length → ∀ b off, a = some ⟨b, off, none⟩ → b ≠ p) : Row k w1 a l := by
  rcases h with h | ⟨b, off, rfl, h⟩
  · exact .inl h
  · refine .inr ⟨b, off, rfl, fun i hi => ?_⟩
    have hlt := World.block_lt_of_cell? W _ (h i hi)
    rw [World.cell?_of_block (hg.block b hlt (fun e => hx (by omega) b off rfl (by injection e)))]; exact h i hi
theorem Row.drewN (h : Row k w a l) (n : Nat) : Row k (w.drewN n) a l := h
theorem Row.drew (h : Row k w a l) : Row k w.drew a l := h
theorem Row.alloc (h : Row k w a l) (o : Obj) : Row k (w.alloc o) a l := by
  rcases h with h | ⟨b, off, rfl, h⟩
  · exact .inl h
  · exact .inr ⟨b, off, rfl, fun i hi => past_alloc (h i hi)⟩
theorem Row.new {n : Nat} {cs : Array Value} (hn : n = w.heap.size) (hcs : cs = (cellsK k l).toArray) (t : TypeId) : Row k (w.alloc (.cells cs t)) (some ⟨n, 0, none⟩) l := by
  subst hn hcs
  refine .inr ⟨_, 0, rfl, fun i hi => ?_⟩
  rw [Nat.zero_add, World.cell?_alloc_new]
  simp [cellsK, hi]
theorem Row.cells (h : Row k w (some ⟨b, off, none⟩) l) : ∀ j u, (cellsK k l)[j]? = some u → w.cell? ((⟨b, off, none⟩ : Addr).add j) = some u := by
  intro j u hu
  rw [add_at]
  have hj : j < l.length := by
    rcases Nat.lt_or_ge j l.length with hlt | hge
    · exact hlt
    · rw [List.getElem?_eq_none (by simpa [cellsK] using hge)] at hu; cases hu
  rw [h.at_ j hj]
  simpa [cellsK, hj] using hu
theorem cellsK_one : ∀ u ∈ cellsK k l, u.oneCell' = true := by
  intro u hu
  simp [cellsK] at hu
  obtain ⟨x, _, rfl⟩ := hu
  rfl
theorem Row.cut {c n : Nat} (h : Row k w (some ⟨b, off, none⟩) l) (hc : c ≤ l.length) : Row k w (some ⟨b, off + c, none⟩) (l.drop c) := by
  by_cases h0 : l.drop c = []
  · exact .inl h0
  · refine .inr ⟨b, off + c, rfl, fun i hi => ?_⟩
    simp only [List.length_drop] at hi
    rw [Nat.add_assoc, h.at_ (c + i) (by omega)]; simp
theorem Row.take_ (h : Row k w a l) (c : Nat) : Row k w a (l.take c) := by
  rcases h with rfl | ⟨b, off, rfl, h⟩
  · exact .inl (by simp)
  · by_cases h0 : l.take c = []
    · exact .inl h0
    · refine .inr ⟨b, off, rfl, fun i hi => ?_⟩
      simp only [List.length_take] at hi
      rw [h i (by omega)]; simp
end
/-- an owned row of integers, as a slice. -/
theorem row_own {k : IntKind} {w : World} {base : Nat} {e : TypeId} {v : Value} {l : List Int} {n : Nat} (h : w.ownsRow base e 1 v n (cellsK k l)) :
    ∃ a cap, v = .slice a l.length cap ∧ (l.length ≤ cap ∧ cap ≤ 9223372036854775807) ∧ Row k w a l ∧ (∀ x, a = some x → base ≤ x.block ∧ x.block < w.heap.size) ∧ (a = none → cap = 0) := by
  have hn : n = l.length := by have := h.1; simp [cellsK] at this; omega
  subst hn
  rcases h.2 with ⟨rfl, hn⟩ | ⟨g, cap, cur, rfl, hb, hg, hnc, hmx, hcs, htake⟩
  · have : l = [] := List.eq_nil_of_length_eq_zero hn
    subst this
    exact ⟨none, 0, rfl, ⟨Nat.le_refl _, by decide⟩, .inl rfl, (fun x hx => by cases hx), fun _ => rfl⟩
  · refine ⟨_, cap, rfl, ⟨hnc, by unfold maxLen at hmx; omega⟩, .inr ⟨g, 0, rfl, ?_⟩, (fun x hx => by cases hx; exact ⟨hb, (Array.getElem?_eq_some_iff.1 hg).1⟩), fun hx => by cases hx⟩
    intro i hi
    have hu : (cellsK k l)[i]? = some (.int k l[i]) := by simp [cellsK, hi]
    have := h.cells (g := g) rfl i _ hu
    rw [add_at] at this
    exact this
/-- an owned row: nil, or at the head of a block. -/
theorem own_form {k : IntKind} {w : World} {base : Nat} {e : TypeId} {v : Value} {l : List Int} {n : Nat} (h : w.ownsRow base e 1 v n (cellsK k l)) :
    (v = .slice none 0 0 ∧ l = []) ∨ ∃ g cap, v = .slice (some ⟨g, 0, none⟩) l.length cap ∧ Row k w (some ⟨g, 0, none⟩) l ∧ base ≤ g ∧ g < w.heap.size := by
  have hn : n = l.length := by have := h.1; simp [cellsK] at this; omega
  subst hn
  rcases h.2 with ⟨rfl, hn⟩ | ⟨g, cap, cur, rfl, hb, hg, hnc, hmx, hcs, htake⟩
  · exact .inl ⟨rfl, List.eq_nil_of_length_eq_zero hn⟩
  · refine .inr ⟨g, cap, rfl, .inr ⟨g, 0, rfl, fun i hi => ?_⟩, hb, lt_of_block hg⟩
    have hu : (cellsK k l)[i]? = some (.int k l[i]) := by simp [cellsK, hi]
    have := h.cells (g := g) rfl i _ hu
    rw [add_at] at this
    exact this
theorem own_made {k : IntKind} {base : Nat} {e : TypeId} (w : World) (l : List Int) (n : Nat) (hn : n = w.heap.size) (m : Nat) (hm : m = l.length) (hb : base ≤ w.heap.size) (hl : l.length ≤ maxLen) : (w.alloc (.cells (cellsK k l).toArray e)).ownsRow base e 1 (.slice (some ⟨n, 0, none⟩) m m) m (cellsK k l) := by
  subst hn hm
  exact ⟨by simp [cellsK], .inr ⟨w.heap.size, l.length, _, rfl, hb, Array.getElem?_push_size, Nat.le_refl _, hl, by simp [cellsK], by rw [List.take_of_length_le (by simp [cellsK])]⟩⟩
theorem cell_one_at (W : World) (x : Value) (t : TypeId) (n : Nat) (hn : n = W.heap.size) : ∀ j u, [x][j]? = some u → (W.alloc (.cells #[x] t)).cell? ((⟨n, 0, none⟩ : Addr).add j) = some u := by
  subst hn; exact cell_one_new W x t
theorem own_then {W W' : World} {base : Nat} {e : TypeId} {v : Value} {n : Nat} {xs : List Value} (hb : Below W.heap.size W W') (h : W.ownsRow base e 1 v n xs) : W'.ownsRow base e 1 v n xs := by
  refine ⟨h.1, ?_⟩
  rcases h.2 with h2 | ⟨g, cap, cur, hv, hg, hh, r⟩
  · exact .inl h2
  · exact .inr ⟨g, cap, cur, hv, hg, (hb.block g (Array.getElem?_eq_some_iff.1 hh).1).trans hh, r⟩
theorem own_base {W : World} {base base' : Nat} {e : TypeId} {v : Value} {n : Nat} {xs : List Value} (h : W.ownsRow base e 1 v n xs) (hb : base' ≤ base) : W.ownsRow base' e 1 v n xs := by
  refine ⟨h.1, ?_⟩
  rcases h.2 with h2 | ⟨g, cap, cur, hv, hg, hh, r⟩
  · exact .inl h2
  · exact .inr ⟨g, cap, cur, hv, Nat.le_trans hb hg, hh, r⟩
/-- a block known whole. -/
def Blk (w : World) (g : Nat) (t : TypeId) (cs : Array Value) : Prop := w.heap[g]? = some (.cells cs t (0, 0))
section
variable {w w' : World} {g : Nat} {t : TypeId} {cs : Array Value}
theorem Blk.lt (h : Blk w g t cs) : g < w.heap.size := lt_of_block h
theorem Blk.cell (h : Blk w g t cs) (i : Nat) : w.cell? ⟨g, i, none⟩ = cs[i]? := cell_of_row w g i cs t (0, 0) h
theorem Blk.frozen (h : Blk w g t cs) (i : Nat) : w.frozen? ⟨g, i, none⟩ = false := by
  unfold Blk at h
  simp [World.frozen?, h]
theorem Blk.new (w : World) (t : TypeId) (cs : Array Value) : Blk (w.alloc (.cells cs t)) w.heap.size t cs := Array.getElem?_push_size
theorem Blk.drew (h : Blk w g t cs) : Blk w.drew g t cs := h
theorem Blk.drewN (h : Blk w g t cs) (n : Nat) : Blk (w.drewN n) g t cs := h
theorem Blk.alloc (h : Blk w g t cs) (o : Obj) : Blk (w.alloc o) g t cs := (Below.heap_alloc w o g h.lt).trans h
theorem Blk.set_ (h : Blk w g t cs) (i : Nat) (u : Value) : Blk (w.setCell ⟨g, i, none⟩ u) g t (cs.setIfInBounds i u) := by
  unfold Blk at h ⊢
  simp [World.setCell, Array.getElem?_modify, h]
theorem Blk.far (h : Blk w g t cs) {p : Addr} (hp : g ≠ p.block) (u : Value) : Blk (w.setCell p u) g t cs := (Below.heap_setCell w p u g hp).trans h
theorem Blk.then_ (h : Blk w g t cs) (hb : Below w.heap.size w w') : Blk w' g t cs := (hb.block g h.lt).trans h
theorem Blk.grown {row : Option Nat} (h : Blk w g t cs) (hb : w.grownBy w' row) (hg : some g ≠ row) : Blk w' g t cs := (hb.block g h.lt hg).trans h
theorem Blk.ne_ {g' : Nat} {t' : TypeId} {cs' : Array Value} (h : Blk w g t cs) (h' : Blk w g' t' cs') (hne : t ≠ t') : g ≠ g' := by
  rintro rfl
  unfold Blk at h h'
  rw [h] at h'
  injection h' with h'
  injection h' with _ ht
  exact hne ht
theorem own_blk_ne {base : Nat} {e : TypeId} {size n : Nat} {v : Value} {xs : List Value} (h : w.ownsRow base e size v n xs) (hg : Blk w g t cs) (hne : e ≠ t) : v.ownBlock ≠ some g := by
  rcases h.2 with ⟨rfl, _⟩ | ⟨g', cap, cur, rfl, _, hh, _⟩
  · simp [Value.ownBlock]
  · intro he
    have : g' = g := by simpa [Value.ownBlock] using he
    subst this
    exact Blk.ne_ (t := e) hh hg hne rfl
end
/-- a slice of integers that came in: as a list of its own length. -/
theorem row_in {k : IntKind} {w : World} {a : Option Addr} {len cap : Nat} {zs : List Int} (h : IsRow k w a len cap zs) : ∃ l : List Int, l.length = len ∧ len ≤ cap ∧ cap ≤ 9223372036854775807 ∧ (a = none → cap = 0) ∧ Row k w a l ∧ ∀ n ∈ l, (Lit.int k n).wf = true := by
  rcases h with ⟨rfl, rfl, rfl, rfl⟩ | ⟨⟨b, o, sp⟩, rfl, hlc, hm, hz, hcell, hwf⟩
  · exact ⟨[], rfl, Nat.le_refl _, by decide, fun _ => rfl, .inl rfl, fun n hn => by cases hn⟩
  · unfold maxLen at hm
    by_cases h1 : 1 ≤ len
    · have g0 := hcell 0 (by omega)
      have hspot : sp = none := by simpa [Addr.add] using World.cell?_spot g0
      subst hspot
      refine ⟨zs.take len, by simp; omega, hlc, by omega, fun h => (by cases h), .inr ⟨b, o, rfl, fun i hi => ?_⟩, fun n hn => hwf n (List.mem_of_mem_take hn)⟩
      simp only [List.length_take] at hi
      have g := hcell i (by omega)
      rw [add_at] at g
      rw [g]
      simp [List.getD_eq_getElem?_getD, show i < zs.length by omega]
    · obtain rfl : len = 0 := by omega
      exact ⟨[], rfl, hlc, by omega, fun h => (by cases h), .inl rfl, fun n hn => by cases hn⟩
theorem wf_u8 {n : Int} (h : (Lit.int .u8 n).wf = true) : 0 ≤ n ∧ n ≤ 255 := by
  simp only [Lit.wf, Bool.and_eq_true, decide_eq_true_eq] at h
  have h1 : IntKind.u8.min = 0 := by decide
  have h2 : IntKind.u8.max = 255 := by decide
  omega
theorem wf_i64 {n : Int} (h : (Lit.int .i64 n).wf = true) : -9223372036854775808 ≤ n ∧ n ≤ 9223372036854775807 := by
  simp only [Lit.wf, Bool.and_eq_true, decide_eq_true_eq] at h
  have h1 : IntKind.i64.min = -9223372036854775808 := by decide
  have h2 : IntKind.i64.max = 9223372036854775807 := by decide
  omega
theorem wf_i32 {n : Int} (h : (Lit.int .i32 n).wf = true) : -2147483648 ≤ n ∧ n ≤ 2147483647 := by
  simp only [Lit.wf, Bool.and_eq_true, decide_eq_true_eq] at h
  have h1 : IntKind.i32.min = -2147483648 := by decide
  have h2 : IntKind.i32.max = 2147483647 := by decide
  omega
theorem take_eq_step {l m : List Int} {k : Nat} (hk : k < l.length) (hm : k < m.length) (h : l.take k = m.take k) (e : l[k] = m[k]) : l.take (k + 1) = m.take (k + 1) := by
  rw [List.take_succ_eq_append_getElem hk, List.take_succ_eq_append_getElem hm, h, e]
end Go.Proofs.Ytnaiefjbfpejbaa.Words
