/- The document's Reader: Num, Left. -/
import Derived.Test.YtebfblpmihnndaaDoorIc
import Derived.Deep.QuietTactic
import Derived.BigQuiet
set_option linter.unusedVariables false
namespace Go.Proofs.YtebfblpmihnndaaDoor.Ja
open Go Go.RowKit Kit Crc Var Get Ref3 Copy Bytes Bx Ia Ib Ic 

theorem lt_of_block {w : World} {p : Nat} {o : Obj} (h : w.heap[p]? = some o) : p < w.heap.size := (Array.getElem?_eq_some_iff.1 h).1
/-- a reader's slice, its place, why it failed. -/
structure Rdr where
  a : Option Addr
  len : Nat
  cap : Nat
  at_ : Nat
  err : Int
variable {w w' w2 : World} {p : Nat} {r : Rdr}
theorem grown_refl (w : World) (x : Option Nat) : w.grownBy w x := ⟨rfl, rfl, rfl, Nat.le_refl _, fun _ _ _ => rfl⟩
theorem grown_below (hb : Below w.heap.size w w') (x : Option Nat) : w.grownBy w' x := ⟨hb.os, hb.tape, hb.output, hb.size, fun k hk _ => hb.block k hk⟩
theorem grown_trans {x : Nat} (h : w.grownBy w' (some x)) (k : w'.grownBy w2 (some x)) : w.grownBy w2 (some x) :=
  ⟨k.os.trans h.os, k.tape.trans h.tape, k.output.trans h.output, Nat.le_trans h.size k.size, fun b hb hx => (k.block b (Nat.lt_of_lt_of_le hb h.size) hx).trans (h.block b hb hx)⟩
theorem grown_set {x i : Nat} {u : Value} (h : w.grownBy w' (some x)) : w.grownBy (w'.setCell ⟨x, i, none⟩ u) (some x) :=
  ⟨h.os, h.tape, h.output, Nat.le_trans h.size (by simp [World.setCell]), fun k hk hx => (Below.heap_setCell w' ⟨x, i, none⟩ u k (fun e => hx (by rw [e]))).trans (h.block k hk hx)⟩
theorem cell_grown {x b o : Nat} {v : Value} (h : w.grownBy w' (some x)) (hb : b ≠ x) (hc : w.cell? ⟨b, o, none⟩ = some v) : w'.cell? ⟨b, o, none⟩ = some v :=
  (World.cell?_of_block (h.block b (World.block_lt_of_cell? w _ hc) (fun e => hb (by injection e)))).trans hc
/-- the reader's bytes. -/
structure By (w : World) (r : Rdr) (l : List Nat) : Prop where
  len : r.len = l.length
  sl : Sl w r.a l
  cap : r.len ≤ r.cap
  small : l.length ≤ 9223372036854775000
  byte : ∀ c ∈ l, c < 256
theorem By.then_ {l : List Nat} (h : By w r l) (hb : Below w.heap.size w w') : By w' r l := ⟨h.len, sl_then hb (Nat.le_refl _) h.sl, h.cap, h.small, h.byte⟩
theorem getF_le : ∀ (l : List Nat) (i acc : Nat), (getF l i acc).2.2 = 0 → i < (getF l i acc).2.1 ∧ (getF l i acc).2.1 ≤ i + l.length := by
  intro l
  induction l with
  | nil => intro i acc h; simp [getF] at h
  | cons c l ih =>
    intro i acc h
    rw [getF] at h ⊢
    split at h
    · simp at h
    · rename_i h1
      rw [if_neg h1]
      split at h
      · rename_i h2
        rw [if_pos h2]
        have := ih (i + 1) _ h
        simp only [List.length_cons]; omega
      · rename_i h2
        rw [if_neg h2]
        split at h
        · simp at h
        · rename_i h3
          rw [if_neg h3]
          simp only [List.length_cons]; omega
theorem getA_ok (l : List Nat) (p : Nat) (h : (getA l p).2.2 = 0) : ∃ n y : Nat, getA l p = ((n : Int), (y : Int), 0) ∧ p < y ∧ y ≤ l.length := by
  unfold getA at h ⊢
  split at h
  · simp at h
  · rename_i h1
    rw [if_neg h1]
    simp only [Int.toNat_natCast] at h ⊢
    have h2 : (getF (l.drop p) 0 0).2.2 = 0 := by simpa using h
    have h3 := getF_le _ _ _ h2
    simp only [List.length_drop] at h3
    refine ⟨(getF (l.drop p) 0 0).1, p + (getF (l.drop p) 0 0).2.1, ?_, by omega, by omega⟩
    rw [h2]
    unfold end_
    rw [if_pos h2]
    simp
/-- what Num answers, and what becomes of the reader. -/
def numN (l : List Nat) (r : Rdr) (most : Nat) : Int × Rdr :=
  if r.err ≠ 0 then (0, r) else if (getA l r.at_).2.2 ≠ 0 then (0, { r with err := (getA l r.at_).2.2 }) else if (most : Int) < (getA l r.at_).1 then (0, { r with err := 1 }) else ((getA l r.at_).1, { r with at_ := (getA l r.at_).2.1.toNat })
/-- the document's reader at p. -/
def Rq (w : World) (p : Nat) (r : Rdr) : Prop := w.heap[p]? = some (.cells #[.slice r.a r.len r.cap, .int .i64 (r.at_ : Int), .int .i64 r.err] 51 (0, 0))
theorem Rq.lt (h : Rq w p r) : p < w.heap.size := lt_of_block h
theorem Rq.c0 (h : Rq w p r) : w.cell? ⟨p, 0, none⟩ = some (.slice r.a r.len r.cap) := by have h' : w.heap[p]? = _ := h; simp [World.cell?, h']
theorem Rq.c1 (h : Rq w p r) : w.cell? ⟨p, 1, none⟩ = some (.int .i64 (r.at_ : Int)) := by have h' : w.heap[p]? = _ := h; simp [World.cell?, h']
theorem Rq.c2 (h : Rq w p r) : w.cell? ⟨p, 2, none⟩ = some (.int .i64 r.err) := by have h' : w.heap[p]? = _ := h; simp [World.cell?, h']
theorem Rq.fz (h : Rq w p r) (i : Nat) : w.frozen? ⟨p, i, none⟩ = false := by have h' : w.heap[p]? = _ := h; simp [World.frozen?, h']
theorem Rq.then_ (h : Rq w p r) (hb : Below w.heap.size w w') : Rq w' p r := (hb.block p h.lt).trans h
theorem Rq.set1 (h : Rq w p r) (v : Nat) : Rq (w.setCell ⟨p, 1, none⟩ (.int .i64 (v : Int))) p { r with at_ := v } := by have h' : w.heap[p]? = _ := h; simp [Rq, World.setCell, Array.getElem?_modify, h']
theorem Rq.set2 (h : Rq w p r) (v : Int) : Rq (w.setCell ⟨p, 2, none⟩ (.int .i64 v)) p { r with err := v } := by have h' : w.heap[p]? = _ := h; simp [Rq, World.setCell, Array.getElem?_modify, h']
def LeftR (w : World) (r : Rdr) (e : Ending) (w' : World) : Prop := e = .returned (.int .i64 ((r.len : Int) - (r.at_ : Int))) ∧ ∃ n, w.drewN n = w'
theorem leftR (h : Rq w p r) (h1 : r.at_ ≤ r.len) (h2 : r.len ≤ 9223372036854775807) : Calls Tryd.prog 22 #[.pointer (some ⟨p, 0, none⟩)] w (LeftR w r) := by
  have c0 := h.c0
  have c1 := h.c1
  have hw : IntKind.i64.wrap ((r.len : Int) - (r.at_ : Int)) = (r.len : Int) - (r.at_ : Int) := IntWalk.i64_in _ (by omega)
  clear h
  go_enter Tryd.func22, Tryd.ntmps22
  go_wp2
  go_quiet (fail)
  go_wp2
  go_ret
  exact ⟨rfl, _, rfl⟩
def NumR (w : World) (p : Nat) (x : Int × Rdr) (e : Ending) (w' : World) : Prop := e = .returned (.int .u64 x.1) ∧ Rq w' p x.2 ∧ w.grownBy w' (some p)
theorem grown_draw {x : Option Nat} (n : Nat) (h : w.grownBy w' x) : w.grownBy (w'.drewN n) x := ⟨h.os, h.tape, h.output, h.size, h.block⟩
set_option maxRecDepth 100000 in
theorem numR (most : Nat) (l : List Nat) (hp : Rq w p r) (hl : By w r l) :
    Calls Tryd.prog 24 #[.pointer (some ⟨p, 0, none⟩), .int .u64 (most : Int)] w (NumR w p (numN l r most)) := by
  obtain ⟨q1, q2, q3, q4, q5⟩ := hl
  have HG := Lib.hid (fun w h => get37 r.a r.cap l (r.at_ : Int) w q5 q4 h)
  unfold GetP at HG
  rw [← q1] at HG
  have HS := Lib.hid q2
  have hX : numN l r most = if r.err ≠ 0 then (0, r) else if (getA l r.at_).2.2 ≠ 0 then (0, { r with err := (getA l r.at_).2.2 }) else if (most : Int) < (getA l r.at_).1 then (0, { r with err := 1 }) else ((getA l r.at_).1, { r with at_ := (getA l r.at_).2.1.toNat }) := rfl
  generalize numN l r most = X at hX ⊢
  have c0 := hp.c0
  have c1 := hp.c1
  have c2 := hp.c2
  have f1 := hp.fz 1
  have f2 := hp.fz 2
  have HP := Lib.hid hp
  by_cases he : r.err = 0
  · rw [if_neg (by simpa using he)] at hX
    rw [he] at c2
    by_cases h1 : (getA l r.at_).2.2 = 0
    · obtain ⟨n, y, hg, _, _⟩ := getA_ok l r.at_ h1
      rw [hg] at HG hX
      simp only [Int.toNat_natCast, ne_eq, not_true_eq_false, if_false] at HG hX
      have h2 : (decide ((most : Int) < (n : Int)) = true ∧ Hid (decide (most < n) = true ∧ X = (0, { r with err := 1 }))) ∨ (decide ((most : Int) < (n : Int)) = false ∧ Hid (decide (most < n) = false ∧ X = ((n : Int), { r with at_ := y }))) := by
        by_cases h : (most : Int) < (n : Int)
        · left; exact ⟨decide_eq_true h, Lib.hid ⟨decide_eq_true (by omega), by rw [hX, if_pos h]⟩⟩
        · right; exact ⟨decide_eq_false h, Lib.hid ⟨decide_eq_false (by omega), by rw [hX, if_neg h]⟩⟩
      clear hX hg h1 he hp q1 q2 q3 q4 q5
      rcases h2 with ⟨d1, HX⟩ | ⟨d1, HX⟩
      · have d2 := HX.out.1
        have H2 := Lib.hid (HP.out.set2 1)
        have HF := Lib.hid (grown_set (i := 2) (u := .int .i64 1) (grown_refl w (some p)))
        go_enter Tryd.func24, Tryd.ntmps24
        go_wp2
        go_quiet ((go_at_call 30; exact Calls.quiet_of_same ((HG.out _ (by exact HS.out)).mono fun _ _ h => ⟨h.1, h.2.symm⟩)))
        go_wp2
        go_ret
        exact ⟨by rw [HX.out.2]; rfl, by rw [HX.out.2]; exact H2.out, grown_draw _ HF.out⟩
      · have d2 := HX.out.1
        have H2 := Lib.hid (HP.out.set1 y)
        have HF := Lib.hid (grown_set (i := 1) (u := .int .i64 (y : Int)) (grown_refl w (some p)))
        go_enter Tryd.func24, Tryd.ntmps24
        go_wp2
        go_quiet ((go_at_call 30; exact Calls.quiet_of_same ((HG.out _ (by exact HS.out)).mono fun _ _ h => ⟨h.1, h.2.symm⟩)))
        go_wp2
        go_ret
        exact ⟨by rw [HX.out.2]; rfl, by rw [HX.out.2]; exact H2.out, grown_draw _ HF.out⟩
    · rw [if_pos h1] at hX
      have be : ((getA l r.at_).2.2 == 0) = false := by simpa using h1
      have bn : ((getA l r.at_).2.2 != 0) = true := by simpa using h1
      have HX := Lib.hid hX
      have H2 := Lib.hid (HP.out.set2 (getA l r.at_).2.2)
      have HF := Lib.hid (grown_set (i := 2) (u := .int .i64 (getA l r.at_).2.2) (grown_refl w (some p)))
      clear hX h1 he hp q1 q2 q3 q4 q5
      generalize (getA l r.at_).2.2 = E at *
      generalize (getA l r.at_).2.1 = F at *
      generalize (getA l r.at_).1 = G at *
      go_enter Tryd.func24, Tryd.ntmps24
      go_wp2
      go_quiet ((go_at_call 30; exact Calls.quiet_of_same ((HG.out _ (by exact HS.out)).mono fun _ _ h => ⟨h.1, h.2.symm⟩)))
      go_wp2
      go_ret
      exact ⟨by rw [HX.out]; rfl, by rw [HX.out]; exact H2.out, grown_draw _ HF.out⟩
  · rw [if_pos he] at hX
    have be : (r.err != 0) = true := by simpa using he
    have HX := Lib.hid hX
    clear hX he hp q1 q2 q3 q4 q5
    go_enter Tryd.func24, Tryd.ntmps24
    go_wp2
    go_ret
    exact ⟨by rw [HX.out]; rfl, by rw [HX.out]; exact HP.out, grown_refl _ _⟩
end Go.Proofs.YtebfblpmihnndaaDoor.Ja
