/- The Reader: a reading (reading), whatever it reads. -/
import Derived.Test.YtellhkcleicfbaaRd
import Derived.WalkLawsBesides
set_option linter.unusedVariables false
namespace Go.Proofs.Ytellhkcleicfbaa.RdB
open Go Go.RowKit Kit Rd

variable {w w' w2 : World} {p : Nat} {r : Rdr}
/-- but for two blocks all is as it was. -/
structure Fr2 (p q : Nat) (w w' : World) : Prop where
  os : w'.os = w.os
  tape : w'.tape = w.tape
  output : w'.output = w.output
  size : w.heap.size ≤ w'.heap.size
  block : ∀ k, k < w.heap.size → k ≠ p → k ≠ q → w'.heap[k]? = w.heap[k]?
theorem Fr2.of_p {q : Nat} (h : w.grownBy w' (some p)) : Fr2 p q w w' := ⟨h.os, h.tape, h.output, h.size, fun b hb h1 _ => h.block b hb (fun e => h1 (by injection e))⟩
theorem Fr2.trans {q : Nat} (h : Fr2 p q w w') (k : Fr2 p q w' w2) : Fr2 p q w w2 :=
  ⟨k.os.trans h.os, k.tape.trans h.tape, k.output.trans h.output, Nat.le_trans h.size k.size, fun b hb h1 h2 => (k.block b (Nat.lt_of_lt_of_le hb h.size) h1 h2).trans (h.block b hb h1 h2)⟩
theorem Fr2.set {q i : Nat} {u : Value} : Fr2 p q w (w.setCell ⟨q, i, none⟩ u) := ⟨rfl, rfl, rfl, by simp [World.setCell], fun k _ _ hk => Below.heap_setCell w ⟨q, i, none⟩ u k hk⟩
theorem Fr2.of_below {q : Nat} (h : Below w.heap.size w w') : Fr2 p q w w' := ⟨h.os, h.tape, h.output, h.size, fun b hb _ _ => h.block b hb⟩
/-- the block q is new: but for p all is as it was. -/
theorem Fr2.new {q : Nat} (hb : Below w.heap.size w w') (h : Fr2 p q w' w2) (hq : w.heap.size ≤ q) : w.grownBy w2 (some p) :=
  ⟨h.os.trans hb.os, h.tape.trans hb.tape, h.output.trans hb.output, Nat.le_trans hb.size h.size, fun b hlt hne => (h.block b (Nat.lt_of_lt_of_le hlt hb.size) (fun e => hne (by rw [e])) (by omega)).trans (hb.block b hlt)⟩
theorem hmf : ∀ (fn : Fn) (first cap : Array Value) (w : World), (Instr.makeFunc fn first cap).run Try.prog w = .ok (.func fn first cap) w := fun _ _ _ _ => rfl
set_option maxRecDepth 100000 in
/-- a reader that has failed reads no more. -/
theorem readDone (K : FuncId) (caps : Array Value) (h : Rc w p r) (he : r.err ≠ 0) :
    Calls Try.prog 36 #[.pointer (some ⟨p, 0, none⟩), .func (.func K) #[] caps] w fun e w' => e = .returned (.tuple #[]) ∧ Below w.heap.size w w' := by
  have hmf := hmf
  have hal := (Below.refl w.heap.size w).alloc (Nat.le_refl _) (.cells #[.pointer (some ⟨p, 0, none⟩)] 66)
  have c2 := (h.then_ hal).c2
  have be : (r.err != 0) = true := by simpa using he
  clear h he
  go_enter_defers Try.func36, Try.ntmps36
  go_wp2
  simp [bodyPostD, Leaves, results, Try.results36, go_sem]
  exact hal
set_option maxRecDepth 100000 in
theorem readOk (K : FuncId) (caps : Array Value) (hK : ∀ w, (callFunc K caps).run Try.prog w = .ok (.enter K caps) w) (h : Rc w p r) (he : r.err = 0) (R : World → World → Prop)
    (hC : ∀ W, Below w.heap.size w W → Calls Try.prog K caps W (fun e W' => e = .returned (.tuple #[]) ∧ R W W')) :
    Calls Try.prog 36 #[.pointer (some ⟨p, 0, none⟩), .func (.func K) #[] caps] w fun e w' => e = .returned (.tuple #[]) ∧ ∃ W, Below w.heap.size w W ∧ R W w' := by
  have hmf := hmf
  have hal := (Below.refl w.heap.size w).alloc (Nat.le_refl _) (.cells #[.pointer (some ⟨p, 0, none⟩)] 66)
  have c1 := (h.then_ hal).c1
  have c2 := (h.then_ hal).c2
  rw [he] at c2
  have hal2 := hal.alloc (by simp) (.cells #[.int .i64 (r.at_ : Int)] 3)
  have HC := Lib.hid (hC _ hal2)
  clear h he hC
  go_enter_defers Try.func36, Try.ntmps36
  go_wp2_with fail
  refine HC.out.mono ?_
  rintro e w1 ⟨rfl, hr⟩
  go_wp2
  refine leaves_cons (f := 41) (args := #[.pointer (some ⟨w.heap.size + 1, 0, none⟩), .pointer (some ⟨w.heap.size, 0, none⟩)]) (by simp) (by simp [go_sem]) ?_
  refine (catch_idle ⟨w.heap.size + 1, 0, none⟩ ⟨w.heap.size, 0, none⟩ _).mono ?_
  rintro e u' w'' ⟨rfl, rfl, rfl⟩
  simp [Leaves, settle, results, Try.results36, go_sem]
  exact ⟨_, hal2, hr⟩
set_option maxRecDepth 100000 in
theorem readBad (K : FuncId) (caps : Array Value) (hK : ∀ w, (callFunc K caps).run Try.prog w = .ok (.enter K caps) w) (h : Rc w p r) (he : r.err = 0) (r2 : Rdr) (x : Int)
    (hC : ∀ W, Below w.heap.size w W → Calls Try.prog K caps W (fun e W' => e = .panicked [{ v := fault x, recovered := false }] ∧ Rc W' p r2 ∧ W.grownBy W' (some p))) :
    Calls Try.prog 36 #[.pointer (some ⟨p, 0, none⟩), .func (.func K) #[] caps] w fun e w' => e = .returned (.tuple #[]) ∧ Rc w' p { r2 with at_ := r.at_, err := x } ∧ w.grownBy w' (some p) := by
  have hmf := hmf
  have hpl := h.lt
  have hal := (Below.refl w.heap.size w).alloc (Nat.le_refl _) (.cells #[.pointer (some ⟨p, 0, none⟩)] 66)
  have c1 := (h.then_ hal).c1
  have c2 := (h.then_ hal).c2
  rw [he] at c2
  have hal2 := hal.alloc (by simp) (.cells #[.int .i64 (r.at_ : Int)] 3)
  have HC := Lib.hid (hC _ hal2)
  have HG := Lib.hid (grown_below hal2 (some p))
  have HX : Hid (((w.alloc (.cells #[.pointer (some ⟨p, 0, none⟩)] 66)).alloc (.cells #[.int .i64 (r.at_ : Int)] 3)).cell? ⟨w.heap.size, 0, none⟩ = some (.pointer (some ⟨p, 0, none⟩))) := Lib.hid (past_alloc (by simp))
  have HY : Hid (((w.alloc (.cells #[.pointer (some ⟨p, 0, none⟩)] 66)).alloc (.cells #[.int .i64 (r.at_ : Int)] 3)).cell? ⟨w.heap.size + 1, 0, none⟩ = some (.int .i64 (r.at_ : Int))) := Lib.hid (by simp)
  have HB := Lib.hid hpl
  clear h he hC hpl hal hal2
  go_enter_defers Try.func36, Try.ntmps36
  go_wp2_with fail
  refine HC.out.mono ?_
  rintro e w1 ⟨rfl, hp2, hg⟩
  have hpl := HB.out
  have hx := cell_grown hg (by omega) HX.out
  have hy := cell_grown hg (by omega) HY.out
  have hgg := grown_trans HG.out hg
  clear HC HX HY HB HG hg hpl
  go_wp2
  refine leaves_cons (f := 41) (args := #[.pointer (some ⟨w.heap.size + 1, 0, none⟩), .pointer (some ⟨w.heap.size, 0, none⟩)]) (by simp) (by simp [go_sem]) ?_
  refine (catch_fault (w.heap.size + 1) w.heap.size r.at_ x [] hp2 hy hx).mono ?_
  rintro e u' w'' ⟨rfl, rfl, h3, h4⟩
  simp [Leaves, settle, results, Try.results36, go_sem]
  exact ⟨h3, grown_trans hgg h4⟩
end Go.Proofs.Ytellhkcleicfbaa.RdB
