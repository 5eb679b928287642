/- Screens: Clone, a screen's value, Copy, FewScreen. -/
import Derived.Test.YtfogbokifbjjlaaSa
set_option linter.unusedVariables false
namespace Go.Proofs.Ytfogbokifbjjlaa.Sb
open Go Go.RowKit Kit Gm Gv Sa

theorem sc_flat {w : World} {b off : Nat} {L : List Ce} (h : Sc w b off L) : ∀ j u, (flat L)[j]? = some u → w.cell? ((⟨b, off, none⟩ : Addr).add j) = some u := by
  intro j u hu
  have hadd : (⟨b, off, none⟩ : Addr).add j = ⟨b, off + j, none⟩ := by unfold Addr.add; split <;> simp_all
  have hj : j < (flat L).length := (List.getElem?_eq_some_iff.1 hu).1
  rw [flat_len] at hj
  have hk : j / 5 < L.length := by omega
  have e := h (j / 5) hk (j % 5) (by omega)
  rw [show off + j / 5 * 5 + j % 5 = off + j by omega] at e
  rw [hadd, e, ← flat_at (j / 5) hk (j % 5) (by omega), show j / 5 * 5 + j % 5 = j by omega]
  exact hu
/-- what an own row of cells shows. -/
theorem own_sc {w : World} {base g n cap : Nat} {L : List Ce} (hn : n = L.length) (h : w.ownsRow base 52 5 (.slice (some ⟨g, 0, none⟩) n cap) n (flat L)) : Sc w g 0 L := by
  subst hn
  intro j hj i hi
  rw [Nat.zero_add, h.cellAt (j * 5 + i) (by omega)]
  exact flat_at j hj i hi
/-- a screen: its sizes, its cursor, is it hidden, its title; its cells by a slice. -/
structure Scr where
  R : Int
  C : Int
  row : Int
  col : Int
  hid : Bool
  ti : ByteArray
abbrev sv (s : Scr) (a : Option Addr) (n cap : Nat) : List Value := [.int .i64 s.R, .int .i64 s.C, .slice a n cap, .int .i64 s.row, .int .i64 s.col, .bool s.hid, .string s.ti]
abbrev svA (s : Scr) (a : Option Addr) (n cap : Nat) : Value := .agg #[.int .i64 s.R, .int .i64 s.C, .slice a n cap, .int .i64 s.row, .int .i64 s.col, .bool s.hid, .string s.ti]
abbrev svO (s : Scr) (a : Option Addr) (n cap : Nat) : Obj := .cells #[.int .i64 s.R, .int .i64 s.C, .slice a n cap, .int .i64 s.row, .int .i64 s.col, .bool s.hid, .string s.ti] 24
/-- FewScreen. -/
theorem fewC (s : Scr) (a : Option Addr) (n cap : Nat) (w : World) : Calls Try.prog 13 #[svA s a n cap] w fun e w' => e = .returned (.bool (decide (n ≤ 3000 ∧ s.ti.size ≤ 3000))) ∧ Below w.heap.size w w' := by
  obtain ⟨R, C, row, col, hid, ti⟩ := s
  have HB := Lib.hid (below_one w (svO ⟨R, C, row, col, hid, ti⟩ a n cap))
  by_cases h1 : n ≤ 3000
  · have d1 : (n : Int) ≤ 3000 := by omega
    go_enter Try.func13, Try.ntmps13
    go_wp2
    go_ret
    exact ⟨ret_bool (decide_eq_decide.2 (by omega)), HB.out⟩
  · have d1 : ¬ (n : Int) ≤ 3000 := by omega
    go_enter Try.func13, Try.ntmps13
    go_wp2
    go_ret
    exact ⟨ret_bool rfl, HB.out⟩
/-- a value of one cell is stored in a block. -/
theorem wpList_store_at {w : World} {ops : Array Oper} {rest : List Oper} {o : Oper} {a : Act} {Q : Exit → Act → World → Prop} (hgd : o.guard = none) (T : TypeId) (x y : Operand) (ho : o.op = .store T x y) (hi : (Try.prog.info? T).map (·.size) = some 1)
    (k i : Nat) (t : TypeId) (vs us : Array Value) (v : Value) (hx : a.eval x = .pointer (some ⟨k, i, none⟩)) (hy : a.eval y = v) (hc : v.cells = #[v]) (h1 : v.oneCell' = true) (h : w.heap[k]? = some (.cells vs t (0, 0))) (hlt : i < vs.size) (hus : vs.setIfInBounds i v = us)
    (hK : ∀ w', w'.heap[k]? = some (.cells us t (0, 0)) → (∀ B W, B ≤ k → Below B W w → Below B W w') → (∀ j, j ≠ k → w'.heap[j]? = w.heap[j]?) → w.heap.size ≤ w'.heap.size → wpList Try.prog ops Q rest (a.put o.dst undef) w') : wpList Try.prog ops Q (o :: rest) a w := by
  have hst := run_storeCells_at Try.prog k i t [v] 0 vs w h (by simp; omega) (fun u hu => by simp at hu; subst hu; exact h1)
  have e : (vs.toList.take (i + 0) ++ [v] ++ vs.toList.drop (i + 0 + [v].length)).toArray = us := by
    rw [← hus]
    apply Array.ext'
    rw [Array.toList_setIfInBounds]
    simp only [Nat.add_zero, List.length_singleton]
    rw [List.set_eq_take_append_cons_drop, if_pos (by simpa using hlt)]
    simp
  rw [e] at hst
  have hrun : (storeVar T ⟨k, i, none⟩ v).run Try.prog w = .ok () (w.setRow k us) := by
    cases hq : Try.prog.info? T with
    | none => simp [hq] at hi
    | some j =>
      have hs : j.size = 1 := by simpa [hq] using hi
      simp [storeVar, sizeOf, typeInfo, hq, hc, hs]
      exact hst
  refine wpList_plain hgd fun _ hk => ?_
  unfold Oper.wp execOp
  simp only [ho, hx, hy, Instr.storeAt, Instr.sureAddr, Sem.run_bind, Sem.run_pure, Result.andThen_ok, hrun]
  exact hk _ _ (hK _ (setRow_heap _ _ _ _ t _ h) (fun B W hB hb => ⟨hb.os, hb.tape, hb.output, by simpa using hb.size, fun j hj => (setRow_other w k j _ (by omega)).trans (hb.block j hj)⟩) (fun j hj => setRow_other w k j _ hj) (by simp))
/-- a screen is stored in its block. -/
theorem wpList_store_sc {w : World} {ops : Array Oper} {rest : List Oper} {o : Oper} {a : Act} {Q : Exit → Act → World → Prop} (hgd : o.guard = none) (x y : Operand) (ho : o.op = .store 24 x y)
    (k : Nat) (s : Scr) (p : Option Addr) (n cap : Nat) (vs : Array Value) (hx : a.eval x = .pointer (some ⟨k, 0, none⟩)) (hy : a.eval y = svA s p n cap) (hg : w.heap[k]? = some (.cells vs 24 (0, 0))) (hv : vs.size = 7)
    (hK : ∀ w', w'.heap[k]? = some (svO s p n cap) → (∀ B W, B ≤ k → Below B W w → Below B W w') → (∀ j, j ≠ k → w'.heap[j]? = w.heap[j]?) → w.heap.size ≤ w'.heap.size → wpList Try.prog ops Q rest (a.put o.dst undef) w') : wpList Try.prog ops Q (o :: rest) a w :=
  wpList_plain hgd fun _ hk => wp_store_row (P := Try.prog) 24 x y ho k _ hx hy 24 vs hg (by kernel_rfl) (by simp [hv]) (by simp [Value.oneCell']) (hk _ _ (hK _ (setRow_heap w k _ _ 24 _ hg)
    (fun B W hB hb => ⟨hb.os, hb.tape, hb.output, by simpa using hb.size, fun j hj => (setRow_other w k j _ (by omega)).trans (hb.block j hj)⟩) (fun j hj => setRow_other w k j _ hj) (by simp)))
/-- fields of a screen are stored. -/
theorem wpList_store_cells {w : World} {ops : Array Oper} {rest : List Oper} {o : Oper} {a : Act} {Q : Exit → Act → World → Prop} (hgd : o.guard = none) (x y : Operand) (ho : o.op = .store 22 x y)
    (k : Nat) (s : Scr) (p : Option Addr) (n cap : Nat) (p' : Option Addr) (n' cap' : Nat) (hx : a.eval x = .pointer (some ⟨k, 2, none⟩)) (hy : a.eval y = .slice p' n' cap') (h : w.heap[k]? = some (svO s p n cap))
    (hK : ∀ w', w'.heap[k]? = some (svO s p' n' cap') → (∀ B W, B ≤ k → Below B W w → Below B W w') → (∀ j, j ≠ k → w'.heap[j]? = w.heap[j]?) → w.heap.size ≤ w'.heap.size → wpList Try.prog ops Q rest (a.put o.dst undef) w') : wpList Try.prog ops Q (o :: rest) a w :=
  wpList_store_at hgd 22 x y ho (by kernel_rfl) k 2 24 _ _ (.slice p' n' cap') hx hy rfl rfl h (Nat.lt_of_lt_of_le (by decide) (Nat.le_refl 7)) rfl hK
theorem wpList_store_rw {w : World} {ops : Array Oper} {rest : List Oper} {o : Oper} {a : Act} {Q : Exit → Act → World → Prop} (hgd : o.guard = none) (x y : Operand) (ho : o.op = .store 3 x y)
    (k : Nat) (s : Scr) (p : Option Addr) (n cap : Nat) (r : Int) (hx : a.eval x = .pointer (some ⟨k, 3, none⟩)) (hy : a.eval y = .int .i64 r) (h : w.heap[k]? = some (svO s p n cap))
    (hK : ∀ w', w'.heap[k]? = some (svO ⟨s.R, s.C, r, s.col, s.hid, s.ti⟩ p n cap) → (∀ B W, B ≤ k → Below B W w → Below B W w') → (∀ j, j ≠ k → w'.heap[j]? = w.heap[j]?) → w.heap.size ≤ w'.heap.size → wpList Try.prog ops Q rest (a.put o.dst undef) w') : wpList Try.prog ops Q (o :: rest) a w :=
  wpList_store_at hgd 3 x y ho (by kernel_rfl) k 3 24 _ _ (.int .i64 r) hx hy rfl rfl h (Nat.lt_of_lt_of_le (by decide) (Nat.le_refl 7)) rfl hK
theorem wpList_store_ti {w : World} {ops : Array Oper} {rest : List Oper} {o : Oper} {a : Act} {Q : Exit → Act → World → Prop} (hgd : o.guard = none) (x y : Operand) (ho : o.op = .store 9 x y)
    (k : Nat) (s : Scr) (p : Option Addr) (n cap : Nat) (t : ByteArray) (hx : a.eval x = .pointer (some ⟨k, 6, none⟩)) (hy : a.eval y = .string t) (h : w.heap[k]? = some (svO s p n cap))
    (hK : ∀ w', w'.heap[k]? = some (svO ⟨s.R, s.C, s.row, s.col, s.hid, t⟩ p n cap) → (∀ B W, B ≤ k → Below B W w → Below B W w') → (∀ j, j ≠ k → w'.heap[j]? = w.heap[j]?) → w.heap.size ≤ w'.heap.size → wpList Try.prog ops Q rest (a.put o.dst undef) w') : wpList Try.prog ops Q (o :: rest) a w :=
  wpList_store_at hgd 9 x y ho (by kernel_rfl) k 6 24 _ _ (.string t) hx hy rfl rfl h (Nat.lt_of_lt_of_le (by decide) (Nat.le_refl 7)) rfl hK
end Go.Proofs.Ytfogbokifbjjlaa.Sb
