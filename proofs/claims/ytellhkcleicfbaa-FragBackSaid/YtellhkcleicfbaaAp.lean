/- Bytes behind a row of the call's own. -/
import Derived.Test.YtellhkcleicfbaaWireFirst
import Derived.Test.YtellhkcleicfbaaCopy
import Derived.Lib.AppendStr
import Derived.Laws.AppendOwnNone
import Derived.Deep.WholeRow
set_option linter.unusedVariables false
namespace Go.Proofs.Ytellhkcleicfbaa.Ap
open Go Go.RowKit Kit Crc Var Bytes WireFirst Copy


theorem sl_cells {w : World} {x : Addr} {l : List Nat} (h : Sl w (some x) l) : ∀ j u, (cellsOf l)[j]? = some u → w.cell? (x.add j) = some u := by
  intro j u hu
  rcases h with rfl | ⟨b, off, e, h⟩
  · simp [cellsOf] at hu
  · injection e with e; subst e; exact cellsOf_at h j u hu
theorem cellsOf_app (l m : List Nat) : cellsOf l ++ cellsOf m = cellsOf (l ++ m) := by simp [cellsOf]
/-- a row of bytes of the call's own. -/
def Rb (w : World) (base : Nat) (v : Value) (l : List Nat) : Prop := w.ownsRow base 5 1 v l.length (cellsOf l)
theorem rb_nil (w : World) (base : Nat) : Rb w base (.slice none 0 0) [] := World.ownsRow_nil _ _ _ _
theorem rb_alloc {w : World} {base : Nat} {v : Value} {l : List Nat} (h : Rb w base v l) (o : Obj) : Rb (w.alloc o) base v l := World.ownsRow.alloc h o
theorem rb_of {w : World} {base n : Nat} {v : Value} {l : List Nat} {xs : List Value} (h : w.ownsRow base 5 1 v n xs) (hn : n = l.length) (hx : xs = cellsOf l) : Rb w base v l := by subst hn hx; exact h
theorem rb_then {w w1 : World} {base B : Nat} {v : Value} {l : List Nat} (h : Rb w base v l) (hb : Below B w w1) (hB : w.heap.size ≤ B) : Rb w1 base v l := by
  refine ⟨h.1, ?_⟩
  rcases h.2 with h | ⟨g, cap, cur, hv, hg, hc, rest⟩
  · exact .inl h
  · exact .inr ⟨g, cap, cur, hv, hg, by rw [hb.block g (Nat.lt_of_lt_of_le (Array.getElem?_eq_some_iff.1 hc).1 hB)]; exact hc, rest⟩
/-- as a slice. -/
theorem rb_sl {w : World} {base : Nat} {v : Value} {l : List Nat} (h : Rb w base v l) :
    ∃ a cap, v = .slice a l.length cap ∧ l.length ≤ cap ∧ Sl w a l ∧ (a = none → cap = 0) ∧ (∀ x, a = some x → base ≤ x.block ∧ x.block < w.heap.size) := by
  rcases h.2 with ⟨rfl, hn⟩ | ⟨g, cap, cur, rfl, hb, hg, hnc, _, hcs, htake⟩
  · have : l = [] := List.eq_nil_of_length_eq_zero hn
    subst this
    exact ⟨none, 0, rfl, Nat.le_refl _, .inl rfl, fun _ => rfl, fun x hx => by cases hx⟩
  · refine ⟨_, cap, rfl, hnc, .inr ⟨g, 0, rfl, ?_⟩, (fun hh => by cases hh), (fun x hx => by cases hx; exact ⟨hb, (Array.getElem?_eq_some_iff.1 hg).1⟩)⟩
    intro i hi
    have hu : (cellsOf l)[i]? = some (.int .u8 ((l[i] : Nat) : Int)) := by simp [cellsOf, hi]
    have := h.cells (g := g) rfl i _ hu
    have hadd : (⟨g, 0, none⟩ : Addr).add i = ⟨g, i, none⟩ := by unfold Addr.add; split <;> simp_all
    rw [hadd] at this
    rw [Nat.zero_add]; exact this
/-- a slice's bytes behind a row of one's own. -/
theorem app_sl {ops : Array Oper} {rest : List Oper} {o : Oper} {a : Act} {Q : Exit → Act → World → Prop} {w : World} (hgd : o.guard = none) (s x : Operand)
    (ho : o.op = .call { callee := .builtin .append, args := #[s, x], argTypes := #[23, 23] }) (base : Nat) (v : Value) (l : List Nat) (hs : a.eval s = v) (hown : Rb w base v l)
    (ad : Option Addr) (n cap : Nat) (m : List Nat) (hx : a.eval x = .slice ad n cap) (hn : n = m.length) (h0 : ad = none → cap = 0) (hm : Sl w ad m) (hlen : l.length + m.length ≤ 1000000) (hbase : base ≤ w.heap.size)
    (h : ∀ v' w', Rb w' base v' (l ++ m) → (∀ B W0, B ≤ base → Below B W0 w → Below B W0 w') → wpList Try.prog ops Q rest (a.put o.dst v') w') : wpList Try.prog ops Q (o :: rest) a w := by
  subst hn
  obtain ⟨i0, hi, hz0, hz1, hz2⟩ := info_parts info5
  cases ad with
  | none =>
    obtain rfl := h0 rfl
    have hm0 : m = [] := by
      rcases hm with h | ⟨_, _, e, _⟩
      · exact h
      · cases e
    subst hm0
    refine wpList_append_own_none hgd s x 23 ho base 5 i0 1 Try.underlying23 hi v _ _ hs hown hx ?_
    exact h v w (by rw [List.append_nil]; exact hown) (fun _ _ _ hb => hb)
  | some y =>
    refine wpList_append_own w hgd s x 23 ho base 5 i0 (.int .u8 0) 1 1 Try.underlying23 hi hz0 hz1 hz2 rfl (by decide) v _ _ hs hown y m.length cap (cellsOf m) hx (by simp [cellsOf]) (sl_cells hm) cellsOf_one (by unfold maxLen; omega) (by omega) hbase ?_
    intro v' w' h2 h3 _
    refine h v' w' ?_ (fun B W0 hB hb => hb.grown h3 (Nat.le_trans hB hbase) (fun j hj => Nat.le_trans hB (hown.lt j hj).1))
    rw [cellsOf_app] at h2
    exact rb_of h2 (by simp) rfl

/-- a string's bytes. -/
def byL (s : ByteArray) : List Nat := s.data.toList.map UInt8.toNat
theorem byL_len (s : ByteArray) : (byL s).length = s.size := by unfold byL; rw [List.length_map, Array.length_toList]; rfl
theorem byL_byte (s : ByteArray) : ∀ c ∈ byL s, c < 256 := by
  intro c hc
  simp only [byL, List.mem_map] at hc
  obtain ⟨b, _, rfl⟩ := hc
  exact b.toNat_lt
theorem strCells_eq (s : ByteArray) : Lib.strCells s = cellsOf (byL s) := by simp [Lib.strCells, cellsOf, byL, Function.comp_def]
theorem strL_byL (s : ByteArray) : strL (byL s) = s := by
  apply ByteArray.ext
  apply Array.toList_inj.1
  simp [strL, strOfNums, byL, Function.comp_def]
theorem wp_append_str {P : Program} {w : World} {o : Oper} {a : Act} {K : Act → World → Prop} {Q : Exit → Act → World → Prop} (sl x : Operand) (t u : TypeId)
    (ho : o.op = .call { callee := .builtin .append, args := #[sl, x], argTypes := #[t, u] })
    (base : Nat) (e : TypeId) (i : TypeInfo) (ht : P.underlying t = some (.slice e)) (hu : P.underlying u = some .string) (hi : P.info? e = some i) (hz : i.zero = some (.int .u8 0))
    (hsize : i.size = 1) (hby : i.bytes = 1)
    (v : Value) (n : Nat) (xs : List Value) (hs : a.eval sl = v) (hown : w.ownsRow base e 1 v n xs) (s : ByteArray) (hx : a.eval x = .string s)
    (h63 : n + s.size ≤ maxLen) (hbytes : n + s.size ≤ 140737488355328) (hbase : base ≤ w.heap.size)
    (h : ∀ v' w', w'.ownsRow base e 1 v' (n + s.size) (xs ++ Lib.strCells s) → w.grownBy w' v.ownBlock → K (a.put o.dst v') w') : o.wp P a w K Q := by
  obtain ⟨v', w', hr, h2, h3, h4⟩ := Lib.run_append_own_string (P := P) w base t u o.type e i ht hu hi hz hsize hby v n xs hown s h63 hbytes hbase
  unfold Oper.wp execOp
  simp only [ho, resolve, invoke, builtin, Sem.run_bind, Sem.run_pure, Result.andThen_ok, List.map_toArray, List.map_cons, List.map_nil, hs, hx, hr]
  exact h v' w' h2 h3
/-- a string behind a row of one's own. -/
theorem app_str {ops : Array Oper} {rest : List Oper} {o : Oper} {a : Act} {Q : Exit → Act → World → Prop} {w : World} (hgd : o.guard = none) (sl x : Operand)
    (ho : o.op = .call { callee := .builtin .append, args := #[sl, x], argTypes := #[23, 9] }) (base : Nat) (v : Value) (l : List Nat) (hs : a.eval sl = v) (hown : Rb w base v l)
    (s : ByteArray) (hx : a.eval x = .string s) (hlen : l.length + s.size ≤ 1000000) (hbase : base ≤ w.heap.size)
    (h : ∀ v' w', Rb w' base v' (l ++ byL s) → (∀ B W0, B ≤ base → Below B W0 w → Below B W0 w') → wpList Try.prog ops Q rest (a.put o.dst v') w') : wpList Try.prog ops Q (o :: rest) a w := by
  obtain ⟨i0, hi, hz0, hz1, hz2⟩ := info_parts info5
  refine wpList_plain hgd fun _ hk => wp_append_str sl x 23 9 ho base 5 i0 Try.underlying23 Try.underlying9 hi hz0 hz1 hz2 v _ _ hs hown s hx (by unfold maxLen; omega) (by omega) hbase ?_
  intro v' w' h2 h3
  rw [strCells_eq, cellsOf_app] at h2
  exact hk _ _ (h v' w' (rb_of h2 (by simp [byL_len]) rfl) (fun B W0 hB hb => hb.grown h3 (Nat.le_trans hB hbase) (fun j hj => Nat.le_trans hB (hown.lt j hj).1)))
end Go.Proofs.Ytellhkcleicfbaa.Ap
