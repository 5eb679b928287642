/- Cells of a grid in memory. -/
import Derived.Test.YtfogbokifbjjlaaCell
import Derived.Test.YtfogbokifbjjlaaGm
import Derived.Laws.CopyRow
import Derived.Laws.IdiomCopy
import Derived.Deep.OwnRows
import Derived.Deep.WholeRow
import Derived.Handy
import Derived.Outline
import Derived.LoopTactic
import Derived.IntWalk
set_option linter.unusedVariables false
namespace Go.Proofs.Ytfogbokifbjjlaa.Gv
open Go Go.RowKit Kit Gm

/-- a cell's five values. -/
def cv (c : Ce) : List Value := [.int .i32 c.r, .int .i64 c.fl, .int .i64 c.fg, .int .i64 c.bg, .int .i64 c.wd]
abbrev cvA (c : Ce) : Value := .agg #[.int .i32 c.r, .int .i64 c.fl, .int .i64 c.fg, .int .i64 c.bg, .int .i64 c.wd]
def flat (L : List Ce) : List Value := L.flatMap cv
theorem cv_len (c : Ce) : (cv c).length = 5 := rfl
theorem flat_nil : flat [] = [] := rfl
theorem flat_cons (c : Ce) (L : List Ce) : flat (c :: L) = cv c ++ flat L := by simp [flat]
theorem flat_app (A B : List Ce) : flat (A ++ B) = flat A ++ flat B := by simp [flat]
theorem flat_len (L : List Ce) : (flat L).length = L.length * 5 := by
  induction L with
  | nil => rfl
  | cons c L ih => rw [flat_cons, List.length_append, ih, cv_len, List.length_cons]; omega
theorem flat_at {L : List Ce} (j : Nat) (hj : j < L.length) (i : Nat) (hi : i < 5) : (flat L)[j * 5 + i]? = (cv L[j])[i]? := by
  induction L generalizing j with
  | nil => simp at hj
  | cons p ps ih =>
    rw [flat_cons]
    cases j with
    | zero => rw [Nat.zero_mul, Nat.zero_add, List.getElem?_append_left (by rw [cv_len]; exact hi)]; rfl
    | succ j =>
      rw [List.getElem?_append_right (by rw [cv_len]; omega), cv_len, show (j + 1) * 5 + i - 5 = j * 5 + i by omega]
      exact ih j (by simpa using hj)
theorem cv_one (c : Ce) : ∀ v ∈ cv c, v.oneCell' = true := by
  intro u hu
  simp only [cv, List.mem_cons, List.not_mem_nil, or_false] at hu
  rcases hu with rfl | rfl | rfl | rfl | rfl <;> rfl
theorem flat_one (L : List Ce) : ∀ v ∈ flat L, v.oneCell' = true := by
  intro u hu
  obtain ⟨c, _, h⟩ := List.mem_flatMap.1 hu
  exact cv_one c u h
theorem flat_set (A : List Ce) (c d : Ce) (Z : List Ce) : (flat (A ++ c :: Z)).take (A.length * 5) ++ cv d ++ (flat (A ++ c :: Z)).drop (A.length * 5 + (cv d).length) = flat (A ++ d :: Z) := by
  rw [flat_app, flat_cons, flat_app, flat_cons, cv_len]
  have h1 : (flat A).length = A.length * 5 := flat_len A
  rw [List.take_append_of_le_length (by omega), List.take_of_length_le (by omega), List.drop_append]
  have h2 : List.drop (A.length * 5 + 5) (flat A) = [] := List.drop_eq_nil_of_le (by omega)
  have h3 : A.length * 5 + 5 - (flat A).length = 5 := by omega
  have h4 : List.drop 5 (cv c ++ flat Z) = flat Z := by
    rw [List.drop_append_of_le_length (by rw [cv_len]; exact Nat.le_refl _), List.drop_of_length_le (by rw [cv_len]; exact Nat.le_refl _)]; rfl
  rw [h2, h3, h4]
  simp
/-- block b is a row of cells. -/
def RB (w : World) (b : Nat) (L : List Ce) : Prop := w.heap[b]? = some (.cells (flat L).toArray 52 (0, 0))
/-- b's row written anew. -/
def putR (w : World) (b : Nat) (L : List Ce) : World := w.setRow b (flat L).toArray
theorem RB.lt {w : World} {b : Nat} {L : List Ce} (h : RB w b L) : b < w.heap.size := (Array.getElem?_eq_some_iff.1 h).1
theorem RB.put {w : World} {b : Nat} {L : List Ce} (h : RB w b L) (M : List Ce) : RB (putR w b M) b M := setRow_heap w b _ _ 52 _ h
theorem putR_putR (w : World) (b : Nat) (L M : List Ce) : putR (putR w b L) b M = putR w b M := setRow_setRow w b _ _
theorem putR_self {w : World} {b : Nat} {L : List Ce} (h : RB w b L) : putR w b L = w := setRow_self w b _ 52 (0, 0) h
theorem RB.cell {w : World} {b : Nat} {L : List Ce} (h : RB w b L) (j : Nat) (hj : j < L.length) (i : Nat) (hi : i < 5) : w.cell? ⟨b, j * 5 + i, none⟩ = (cv L[j])[i]? := by
  rw [← flat_at j hj i hi]
  unfold RB at h
  simp [World.cell?, h]
theorem RB.free {w : World} {b : Nat} {L : List Ce} (h : RB w b L) (i : Nat) : w.frozen? ⟨b, i, none⟩ = false := by
  unfold RB at h
  simp [World.frozen?, h]
/-- all but the blocks p and b stand. -/
structure Kp (p b : Nat) (w w' : World) : Prop where
  os : w'.os = w.os
  tape : w'.tape = w.tape
  output : w'.output = w.output
  size : w.heap.size ≤ w'.heap.size
  block : ∀ k, k < w.heap.size → k ≠ p → k ≠ b → w'.heap[k]? = w.heap[k]?
theorem Kp.refl (p b : Nat) (w : World) : Kp p b w w := ⟨rfl, rfl, rfl, Nat.le_refl _, fun _ _ _ _ => rfl⟩
theorem Kp.of {p b : Nat} {w w' : World} (h : Below w.heap.size w w') : Kp p b w w' := ⟨h.os, h.tape, h.output, h.size, fun k hk _ _ => h.block k hk⟩
theorem Kp.trans {p b b1 : Nat} {w w1 w2 : World} (h : Kp p b w w1) (k : Kp p b1 w1 w2) (hb : b1 = b ∨ w.heap.size ≤ b1) : Kp p b w w2 := by
  refine ⟨k.os.trans h.os, k.tape.trans h.tape, k.output.trans h.output, Nat.le_trans h.size k.size, fun j hj h1 h2 => ?_⟩
  rw [k.block j (Nat.lt_of_lt_of_le hj h.size) h1 (fun e => by omega)]
  exact h.block j hj h1 h2
theorem Kp.put {p b : Nat} {w w1 : World} (h : Kp p b w w1) (L : List Ce) : Kp p b w (putR w1 b L) :=
  ⟨h.os, h.tape, h.output, by unfold putR; simpa using h.size, fun j hj h1 h2 => by unfold putR; rw [setRow_other _ _ _ _ h2]; exact h.block j hj h1 h2⟩
theorem Kp.drewN {p b : Nat} {w w1 : World} (h : Kp p b w w1) (n : Nat) : Kp p b w (w1.drewN n) := ⟨h.os, h.tape, h.output, h.size, h.block⟩
theorem Kp.wide {b p : Nat} {w w1 : World} (h : Kp b b w w1) : Kp p b w w1 := ⟨h.os, h.tape, h.output, h.size, fun k hk _ h2 => h.block k hk h2 h2⟩
theorem Kp.below {p b B : Nat} {w0 w w1 : World} (h : Kp p b w w1) (h0 : Below B w0 w) (hB : B ≤ w0.heap.size) (hp : B ≤ p) (hb : B ≤ b) : Below B w0 w1 :=
  ⟨h.os.trans h0.os, h.tape.trans h0.tape, h.output.trans h0.output, Nat.le_trans h0.size h.size, fun k hk => (h.block k (Nat.lt_of_lt_of_le hk (Nat.le_trans hB h0.size)) (by omega) (by omega)).trans (h0.block k hk)⟩
theorem Kp.row {p b k : Nat} {w w1 : World} {o : Obj} (h : Kp p b w w1) (hk : w.heap[k]? = some o) (h1 : k ≠ p) (h2 : k ≠ b) : w1.heap[k]? = some o :=
  (h.block k (Array.getElem?_eq_some_iff.1 hk).1 h1 h2).trans hk
theorem RB.then_ {w w1 : World} {B b : Nat} {L : List Ce} (h : RB w b L) (hb : Below B w w1) (hB : w.heap.size ≤ B) : RB w1 b L := (hb.block b (Nat.lt_of_lt_of_le h.lt hB)).trans h
theorem RB.alloc {w : World} {b : Nat} {L : List Ce} (h : RB w b L) (o : Obj) : RB (w.alloc o) b L := h.then_ ((Below.refl w.heap.size w).alloc (Nat.le_refl _) o) (Nat.le_refl _)
theorem RB.drewN {w : World} {b : Nat} {L : List Ce} (h : RB w b L) (n : Nat) : RB (w.drewN n) b L := h
/-- a store of a cell into the row. -/
theorem run_store_cell {w : World} {b : Nat} {A Z : List Ce} {c : Ce} (h : RB w b (A ++ c :: Z)) (d : Ce) (q : Nat) (hq : q = A.length * 5) :
    (storeVar 52 ⟨b, q, none⟩ (cvA d)).run Try.prog w = .ok () (putR w b (A ++ d :: Z)) := by
  subst hq
  have hst := run_storeCells_at Try.prog b (A.length * 5) 52 (cv d) 0 (flat (A ++ c :: Z)).toArray w h (by simp [flat_len, cv_len]; omega) (cv_one d)
  have e : ((flat (A ++ c :: Z)).toArray.toList.take (A.length * 5 + 0) ++ cv d ++ (flat (A ++ c :: Z)).toArray.toList.drop (A.length * 5 + 0 + (cv d).length)) = flat (A ++ d :: Z) := by
    simpa using flat_set A c d Z
  rw [e] at hst
  have hi : (Try.prog.info? 52).map (·.size) = some 5 := by kernel_rfl
  cases hq : Try.prog.info? 52 with
  | none => simp [hq] at hi
  | some i =>
    have hs : i.size = 5 := by simpa [hq] using hi
    have hc : (cvA d).cells.toList = cv d := rfl
    have hc2 : (cvA d).cells.size = 5 := rfl
    simp [storeVar, sizeOf, typeInfo, hq, hs, hc, hc2]
    exact hst
theorem wp_store_cell {o : Oper} {a : Act} {w : World} {K : Act → World → Prop} {Q : Exit → Act → World → Prop} (x y : Operand) (ho : o.op = .store 52 x y)
    (b q : Nat) (d : Ce) (hx : a.eval x = .pointer (some ⟨b, q, none⟩)) (hy : a.eval y = cvA d) {A Z : List Ce} {c : Ce} (h : RB w b (A ++ c :: Z)) (hq : q = A.length * 5)
    (hK : K (a.put o.dst undef) (putR w b (A ++ d :: Z))) : o.wp Try.prog a w K Q := by
  unfold Oper.wp execOp
  simp only [ho, hx, hy, Instr.storeAt, Instr.sureAddr, Sem.run_bind, Sem.run_pure, Result.andThen_ok, run_store_cell h d q hq]
  exact hK
theorem wpList_store_cell {ops : Array Oper} {rest : List Oper} {o : Oper} {a : Act} {w : World} {Q : Exit → Act → World → Prop} (hg : o.guard = none) (x y : Operand) (ho : o.op = .store 52 x y)
    (b q : Nat) (d : Ce) (hx : a.eval x = .pointer (some ⟨b, q, none⟩)) (hy : a.eval y = cvA d) {A Z : List Ce} {c : Ce} (h : RB w b (A ++ c :: Z)) (hq : q = A.length * 5)
    (hK : ∀ w', putR w b (A ++ d :: Z) = w' → wpList Try.prog ops Q rest (a.put o.dst undef) w') : wpList Try.prog ops Q (o :: rest) a w :=
  wpList_plain hg fun _ hk => wp_store_cell x y ho b q d hx hy h hq (hk _ _ (hK _ rfl))
end Go.Proofs.Ytfogbokifbjjlaa.Gv
