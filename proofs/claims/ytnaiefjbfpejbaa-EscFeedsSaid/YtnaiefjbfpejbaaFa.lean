/- A fresh parser; signs that stand alone. -/
import Derived.Test.YtnaiefjbfpejbaaEz
import Derived.Test.YtnaiefjbfpejbaaInts
set_option linter.unusedVariables false
namespace Go.Proofs.Ytnaiefjbfpejbaa.Fa
open Go Go.RowKit Kit Ep Eb Er Ea Es Et Eu Ev Ek Ew Ex Ey Ez


theorem new_pr (w : World) : PrV (w.alloc (.cells #[.int .i64 0, .bool false, .int .i32 0, .int .i32 0, .slice none 0 0, .int .i64 0, .slice none 0 0] 49)) w.heap.size (.slice none 0 0) (.slice none 0 0) (bg 0) := ⟨heap_alloc_last w (.cells #[.int .i64 0, .bool false, .int .i32 0, .int .i32 0, .slice none 0 0, .int .i64 0, .slice none 0 0] 49), World.ownsRow_nil _ _ _ _, World.ownsRow_nil _ _ _ _, fun _ => rfl⟩
theorem newC (w : World) : Calls Try.prog 8 #[] w fun e w' => e = .returned (.pointer (some ⟨w.heap.size, 0, none⟩)) ∧ w.alloc (.cells #[.int .i64 0, .bool false, .int .i32 0, .int .i32 0, .slice none 0 0, .int .i64 0, .slice none 0 0] 49) = w' := by
  go_enter Try.func8, Try.ntmps8
  go_wp2
  go_ret
  exact ⟨rfl, rfl⟩
theorem stateC (g : Nat) (v x : Value) (p : Ps) (w : World) (h : PrV w g v x p) : Calls Try.prog 13 #[.pointer (some ⟨g, 0, none⟩)] w fun e w' => e = .returned (.int .i64 (p.st : Int)) ∧ w = w' := by
  obtain ⟨k0, k1, k2, k3, k4, k5, k6⟩ := seven h.row
  clear h
  go_enter Try.func13, Try.ntmps13
  go_wp2
  go_ret
  exact ⟨rfl, rfl⟩
/-- a fresh parser's world, and what became of it. -/
theorem fr_below {w w1 w2 : World} {g : Nat} {v x : Value} (hb : Below w.heap.size w w1) (h : Fr g v x w1 w2) (hg : w.heap.size ≤ g) (hv : ∀ k, v.ownBlock = some k → w.heap.size ≤ k) (hx : ∀ k, x.ownBlock = some k → w.heap.size ≤ k) : Below w.heap.size w w2 :=
  ⟨h.os.trans hb.os, h.tape.trans hb.tape, h.output.trans hb.output, Nat.le_trans hb.size h.size, fun k hk => (h.block k (Nat.lt_of_lt_of_le hk hb.size) (by omega) (fun e => by have := hv k e; omega) (fun e => by have := hx k e; omega)).trans (hb.block k hk)⟩
theorem st_below {w w1 w2 : World} {g : Nat} {v' x' : Value} {p : Ps} (hb : Below w.heap.size w w1) (h : StP g (.slice none 0 0) (.slice none 0 0) w1 p v' x' w2) (hg : w.heap.size ≤ g) : Below w.heap.size w w2 := fr_below hb h.2.1 hg (fun k e => by cases e) (fun k e => by cases e)
/-- signs in a block of their own, ahead of a feeding. -/
theorem feedLit (cs : List Int) (arr : Array Value) (n k : Nat) (g : Nat) (v x : Value) (p : Ps) (m : Nat) (w : World) (ha : arr = (rv cs).toArray) (hk : k = w.heap.size) (hn : n = cs.length) (h : PrV w g v x p) (hok : PsOk p m) (hm : m + cs.length ≤ 1000000) (hlen : cs.length ≤ 50000) :
    Calls Try.prog 11 #[.pointer (some ⟨g, 0, none⟩), .slice (some ⟨k, 0, none⟩) n n] (w.alloc (.cells arr 21)) fun e w' => FeedP g v x (w.alloc (.cells arr 21)) p cs e w' := by
  subst ha hk
  refine feedC (some ⟨w.heap.size, 0, none⟩) n n cs g v x p m _ hn (h.then_ ((Below.refl _ w).alloc (Nat.le_refl _) _) (Nat.le_refl _)) hok hm hlen (.inr ⟨w.heap.size, 0, rfl, fun i hi => ?_⟩) (fun b off _ e => ?_)
  · rw [Nat.zero_add, cell_of_row _ w.heap.size i _ 21 (0, 0) (heap_alloc_last w _)]
    simp [rv, hi]
  · injection e with e; injection e with e1 e2
    subst e1
    refine ⟨fun e => ?_, fun e => ?_, fun e => ?_⟩
    · have := h.lt; omega
    · have := (h.pa.lt _ e).2; omega
    · have := (h.tx.lt _ e).2; omega
/-- a feeding, its answer with an event list that is known. -/
theorem feedP_of {g : Nat} {v x : Value} {w w' : World} {p P : Ps} {l : List Int} {es : List Ev} {e : Ending} (h : FeedP g v x w p l e w') (h1 : (feedM p l).1 = P) (h2 : (feedM p l).2 = es) : ∃ (v' x' : Value) (qs : List EW) (va : Option Addr) (vc : Nat), e = .returned (.slice va qs.length vc) ∧ StP g v x w P v' x' w' ∧ EvI w' (.slice va qs.length vc) qs ∧ qs.map EW.E = es ∧ (∀ k, (Value.slice va qs.length vc).ownBlock = some k → w.heap.size ≤ k) ∧ (∀ q ∈ qs, ∀ k, (pvV q).ownBlock = some k → v'.ownBlock ≠ some k ∧ (v.ownBlock = some k ∨ w.heap.size ≤ k)) := by
  subst h1 h2
  obtain ⟨V, v', x', qs, va, vc, rfl, rfl, h3, h4, h5, h6, h7⟩ := h
  exact ⟨v', x', qs, va, vc, rfl, h3, h4, h5, h6, h7⟩
theorem first5 : (feedM (bg 0) [27, 91, 49, 59, 72]).2 = [⟨4, 0, [1, -1], 0, 0, 72, ⟨#[]⟩⟩] ∧ (feedM (bg 0) [27, 91, 49, 59, 72]).1 = bg 0 := ⟨rfl, rfl⟩
theorem first1 : (feedM (bg 0) [27]).2 = [] ∧ (feedM (bg 0) [27]).1 = bg 1 := ⟨rfl, rfl⟩
theorem one_ev {qs : List EW} {E : Ev} (h : qs.map EW.E = [E]) : ∃ q : EW, qs = [q] ∧ q.E = E := by
  match qs, h with
  | [q], h => exact ⟨q, rfl, by simpa using h⟩
theorem own_some7 {w : World} {e : TypeId} {v : Value} {n size : Nat} {xs : List Value} (h : w.ownsRow 0 e size v n xs) (hn : 0 < n) : ∃ g c, v = .slice (some ⟨g, 0, none⟩) n c := by
  rcases h.2 with ⟨rfl, rfl⟩ | ⟨g1, cap, cur, rfl, _⟩
  · omega
  · exact ⟨_, _, rfl⟩
theorem flat_ev {qs : List EW} (j : Nat) (hj : j < qs.length) (i : Nat) (hi : i < 7) : (qs.flatMap ecells)[j * 7 + i]? = (ecells qs[j])[i]? := by
  induction qs generalizing j with
  | nil => simp at hj
  | cons p ps ih =>
    have hl : (ecells p).length = 7 := rfl
    rw [List.flatMap_cons]
    cases j with
    | zero => rw [Nat.zero_mul, Nat.zero_add, List.getElem?_append_left (by rw [hl]; exact hi)]; rfl
    | succ j =>
      rw [List.getElem?_append_right (by rw [hl]; omega), hl, show (j + 1) * 7 + i - 7 = j * 7 + i by omega]
      exact ih j (by simpa using hj)
theorem ev_cells {w : World} {g c : Nat} {qs : List EW} (h : EvI w (.slice (some ⟨g, 0, none⟩) qs.length c) qs) (j : Nat) (hj : j < qs.length) (i : Nat) (hi : i < 7) : w.cell? ⟨g, j * 7 + i, none⟩ = (ecells qs[j])[i]? := by
  rw [h.1.cellAt (j * 7 + i) (by omega)]
  exact flat_ev j hj i hi
/-- an event's params, as integers. -/
theorem ev_ints {w : World} {V : Value} {qs : List EW} (h : EvI w V qs) (q : EW) (hq : q ∈ qs) : Ints.Ints w q.a q.E.pa := by
  have h1 := h.2 q hq
  rcases h1.2 with ⟨e, h0⟩ | ⟨g1, cap, cur, e, _, _⟩
  · exact .inl (List.eq_nil_of_length_eq_zero h0)
  · unfold pvV at e
    injection e with e1 e2 e3
    refine .inr ⟨g1, 0, e1, fun i hi => ?_⟩
    have h3 : pvV q = .slice (some ⟨g1, 0, none⟩) q.E.pa.length q.c := by rw [← e1]; rfl
    rw [h3] at h1
    rw [Nat.zero_add, h1.cellAt i (by omega)]
    simp [iv, hi]

end Go.Proofs.Ytnaiefjbfpejbaa.Fa
