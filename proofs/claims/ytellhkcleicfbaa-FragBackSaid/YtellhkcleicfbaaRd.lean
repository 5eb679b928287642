/- The Reader: what it is in memory; the deferred closure that takes a failed reading back. -/
import Derived.Test.YtellhkcleicfbaaKit
import Derived.Defers
import Derived.Recover
import Derived.RegionTactic
import Derived.Outline
set_option linter.unusedVariables false
namespace Go.Proofs.Ytellhkcleicfbaa.Rd
open Go Go.RowKit Kit

theorem lt_of_block {w : World} {p : Nat} {o : Obj} (h : w.heap[p]? = some o) : p < w.heap.size := (Array.getElem?_eq_some_iff.1 h).1
/-- a reader's slice, its place, why it failed. -/
structure Rdr where
  a : Option Addr
  len : Nat
  cap : Nat
  at_ : Nat
  err : Int
/-- the program's reader at p. -/
def Rc (w : World) (p : Nat) (r : Rdr) : Prop := w.heap[p]? = some (.cells #[.slice r.a r.len r.cap, .int .i64 (r.at_ : Int), .int .i64 r.err] 73 (0, 0))
variable {w w' w2 : World} {p : Nat} {r : Rdr}
theorem Rc.lt (h : Rc w p r) : p < w.heap.size := lt_of_block h
theorem Rc.c0 (h : Rc w p r) : w.cell? ⟨p, 0, none⟩ = some (.slice r.a r.len r.cap) := by have h' : w.heap[p]? = _ := h; simp [World.cell?, h']
theorem Rc.c1 (h : Rc w p r) : w.cell? ⟨p, 1, none⟩ = some (.int .i64 (r.at_ : Int)) := by have h' : w.heap[p]? = _ := h; simp [World.cell?, h']
theorem Rc.c2 (h : Rc w p r) : w.cell? ⟨p, 2, none⟩ = some (.int .i64 r.err) := by have h' : w.heap[p]? = _ := h; simp [World.cell?, h']
theorem Rc.fz (h : Rc w p r) (i : Nat) : w.frozen? ⟨p, i, none⟩ = false := by have h' : w.heap[p]? = _ := h; simp [World.frozen?, h']
theorem Rc.then_ (h : Rc w p r) (hb : Below w.heap.size w w') : Rc w' p r := (hb.block p h.lt).trans h
theorem Rc.set1 (h : Rc w p r) (v : Nat) : Rc (w.setCell ⟨p, 1, none⟩ (.int .i64 (v : Int))) p { r with at_ := v } := by have h' : w.heap[p]? = _ := h; simp [Rc, World.setCell, Array.getElem?_modify, h']
theorem Rc.set2 (h : Rc w p r) (v : Int) : Rc (w.setCell ⟨p, 2, none⟩ (.int .i64 v)) p { r with err := v } := by have h' : w.heap[p]? = _ := h; simp [Rc, World.setCell, Array.getElem?_modify, h']
theorem grown_refl (w : World) (x : Option Nat) : w.grownBy w x := ⟨rfl, rfl, rfl, Nat.le_refl _, fun _ _ _ => rfl⟩
theorem grown_below (hb : Below w.heap.size w w') (x : Option Nat) : w.grownBy w' x := ⟨hb.os, hb.tape, hb.output, hb.size, fun k hk _ => hb.block k hk⟩
theorem grown_trans {x : Nat} (h : w.grownBy w' (some x)) (k : w'.grownBy w2 (some x)) : w.grownBy w2 (some x) :=
  ⟨k.os.trans h.os, k.tape.trans h.tape, k.output.trans h.output, Nat.le_trans h.size k.size, fun b hb hx => (k.block b (Nat.lt_of_lt_of_le hb h.size) hx).trans (h.block b hb hx)⟩
theorem grown_set {x i : Nat} {u : Value} (h : w.grownBy w' (some x)) : w.grownBy (w'.setCell ⟨x, i, none⟩ u) (some x) :=
  ⟨h.os, h.tape, h.output, Nat.le_trans h.size (by simp [World.setCell]), fun k hk hx => (Below.heap_setCell w' ⟨x, i, none⟩ u k (fun e => hx (by rw [e]))).trans (h.block k hk hx)⟩
theorem cell_grown {x b o : Nat} {v : Value} (h : w.grownBy w' (some x)) (hb : b ≠ x) (hc : w.cell? ⟨b, o, none⟩ = some v) : w'.cell? ⟨b, o, none⟩ = some v :=
  (World.cell?_of_block (h.block b (World.block_lt_of_cell? w _ hc) (fun e => hb (by injection e)))).trans hc
/-- the fault that a reading panics with. -/
def fault (e : Int) : Value := .iface 76 (.agg #[.int .i64 e])
theorem tm82 (a b v : Value) : #[a, b] ++ ((Array.replicate 23 undef).setIfInBounds 3 v).setIfInBounds 0 v = #[a, b, v, undef, undef, v, undef, undef, undef, undef, undef, undef, undef, undef, undef, undef, undef, undef, undef, undef, undef, undef, undef, undef, undef] := by
  apply Array.toList_inj.1
  simp [List.replicate]
/-- the deferred closure, where the reading ended well: nothing. -/
theorem catch_idle (a b : Addr) (w : World) :
    CallsD Try.prog 41 #[.pointer (some a), .pointer (some b)] .returning w fun e u' w' => e = .returned (.tuple #[]) ∧ u' = .returning ∧ w' = w := by
  refine callsD_of_wpS Try.func41 rfl fun c₀ cs hu => ?_
  apply wpS_seq
  apply wpS_region
  simp [wpOpsS, go_sem, recoverD, hu, Try.ntmps41, Exit.thenS]
  refine wpS_of_wp ?_
  rw [tm82]
  go_wp2
  cases c₀
  simp_all [bodyPostS, results, Try.results41]
set_option maxRecDepth 100000 in
theorem catch_fault (f b from_ : Nat) (e : Int) (older : List PanicEntry) (hp : Rc w p r) (hf : w.cell? ⟨f, 0, none⟩ = some (.int .i64 (from_ : Int))) (hb : w.cell? ⟨b, 0, none⟩ = some (.pointer (some ⟨p, 0, none⟩))) :
    CallsD Try.prog 41 #[.pointer (some ⟨f, 0, none⟩), .pointer (some ⟨b, 0, none⟩)] (.panicking ({ v := fault e, recovered := false } :: older)) w fun en u' w' =>
      en = .returned (.tuple #[]) ∧ u' = .panicking ({ v := fault e, recovered := true } :: older) ∧ Rc w' p { r with at_ := from_, err := e } ∧ w.grownBy w' (some p) := by
  have hta : ∀ w, (Instr.typeAssert (.iface 76 (.agg #[.int .i64 e])) 20 76 true).run Try.prog w = .ok (.tuple #[.agg #[.int .i64 e], .bool true]) w := fun w => by kernel_rfl
  have hal := (Below.refl w.heap.size w).alloc (Nat.le_refl _) (.cells #[.int .i64 e] 76)
  have k0 : (w.alloc (.cells #[.int .i64 e] 76)).cell? ⟨w.heap.size, 0, none⟩ = some (.int .i64 e) := by simp
  have k1 := cell_then hal (Nat.le_refl _) hf
  have k2 := cell_then hal (Nat.le_refl _) hb
  have hp1 := hp.then_ hal
  have hB : w.heap.size ≠ p := by have := hp.lt; omega
  have hg := grown_below hal (some p)
  generalize hw1 : w.alloc (.cells #[.int .i64 e] 76) = w1 at *
  generalize hx : w.heap.size = B at *
  have d3 : w1.cell? ⟨p, 1, none⟩ = some (.int .i64 (r.at_ : Int)) := hp1.c1
  have d4 : w1.cell? ⟨p, 2, none⟩ = some (.int .i64 r.err) := hp1.c2
  have d5 : w1.frozen? ⟨p, 1, none⟩ = false := hp1.fz 1
  have d6 : w1.frozen? ⟨p, 2, none⟩ = false := hp1.fz 2
  have HE : Hid (Rc ((w1.setCell ⟨p, 1, none⟩ (.int .i64 (from_ : Int))).setCell ⟨p, 2, none⟩ (.int .i64 e)) p { r with at_ := from_, err := e }) := Lib.hid ((hp1.set1 from_).set2 e)
  have HG : Hid (w.grownBy ((w1.setCell ⟨p, 1, none⟩ (.int .i64 (from_ : Int))).setCell ⟨p, 2, none⟩ (.int .i64 e)) (some p)) := Lib.hid (grown_set (grown_set hg))
  clear hp hf hb hal hp1 hg
  refine callsD_of_wpS Try.func41 rfl fun c₀ cs hu => ?_
  unfold fault at hu ⊢
  apply wpS_seq
  apply wpS_region
  simp [wpOpsS, go_sem, recoverD, hu, Try.ntmps41, Exit.thenS]
  refine wpS_of_wp ?_
  rw [tm82]
  go_wp2
  go_region
  have hg2 := HG.out
  exact ⟨rfl, _, rfl, .tuple #[], by simp [results, Try.results41], rfl, rfl, HE.out, ⟨hg2.os, hg2.tape, hg2.output, hg2.size, hg2.block⟩⟩
end Go.Proofs.Ytellhkcleicfbaa.Rd
