/- index.Decode. -/
import Derived.Test.YtebfblpmihnndaaDoorIr
set_option linter.unusedVariables false
namespace Go.Proofs.YtebfblpmihnndaaDoor.Ie
open Go Go.RowKit Kit Crc Var Get Ref3 Copy Bytes Bx Ia Ib Ic Ir

/-- the values of entries. -/
def flatE (L : List En) : List Value := L.flatMap ev
theorem flatE_app (A B : List En) : flatE (A ++ B) = flatE A ++ flatE B := by simp [flatE]
theorem flatE_len (L : List En) : (flatE L).length = L.length * 4 := by
  induction L with
  | nil => rfl
  | cons c L ih => unfold flatE at ih ⊢; rw [List.flatMap_cons, List.length_append, ih, List.length_cons]; simp [ev]; omega
theorem flatE_at {L : List En} (j : Nat) (hj : j < L.length) (i : Nat) (hi : i < 4) : (flatE L)[j * 4 + i]? = (ev L[j])[i]? := by
  induction L generalizing j with
  | nil => simp at hj
  | cons p ps ih =>
    have e : flatE (p :: ps) = ev p ++ flatE ps := by simp [flatE]
    rw [e]
    have h4 : (ev p).length = 4 := rfl
    cases j with
    | zero => rw [Nat.zero_mul, Nat.zero_add, List.getElem?_append_left (by rw [h4]; exact hi)]; rfl
    | succ j =>
      rw [List.getElem?_append_right (by rw [h4]; omega), h4, show (j + 1) * 4 + i - 4 = j * 4 + i by omega]
      exact ih j (by simpa using hj)
theorem flatE_one (L : List En) : ∀ v ∈ flatE L, v.oneCell' = true := by
  intro u hu
  obtain ⟨c, _, h⟩ := List.mem_flatMap.1 hu
  simp only [ev, List.mem_cons, List.not_mem_nil, or_false] at h
  rcases h with rfl | rfl | rfl | rfl <;> rfl
/-- a row of entries of one's own, from block B on. -/
def Oe (w : World) (B : Nat) (v : Value) (O : List En) : Prop := w.ownsRow B 38 4 v O.length (flatE O)
theorem Oe.nil (w : World) (B : Nat) : Oe w B (.slice none 0 0) [] := World.ownsRow_nil w B 38 4
theorem Oe.below {w w1 : World} {B : Nat} {v : Value} {O : List En} (h : Oe w B v O) (hb : Below w.heap.size w w1) : Oe w1 B v O :=
  World.ownsRow.kept (row := none) h ⟨hb.os, hb.tape, hb.output, hb.size, fun k hk _ => hb.block k hk⟩ (by cases e : v.ownBlock <;> simp)
/-- the row, as a slice. -/
theorem Oe.slice {w : World} {B : Nat} {v : Value} {O : List En} (h : Oe w B v O) : ∃ a cap, v = .slice a O.length cap ∧ Es w a O ∧ O.length ≤ cap ∧ (a = none → cap = 0) := by
  rcases h.2 with ⟨rfl, e⟩ | ⟨g, cap, cur, rfl, hb, hg, hc, _⟩
  · have : O = [] := List.eq_nil_of_length_eq_zero e
    subst this
    exact ⟨none, 0, rfl, .inl rfl, Nat.le_refl _, fun _ => rfl⟩
  · refine ⟨some ⟨g, 0, none⟩, cap, rfl, .inr ⟨g, 0, rfl, fun i hi j hj => ?_⟩, hc, fun h => by cases h⟩
    have hl : i * 4 + j < (flatE O).length := by rw [flatE_len]; omega
    have e := World.ownsRow.cells h (g := g) rfl (i * 4 + j) _ (List.getElem?_eq_getElem hl)
    have hadd : (⟨g, 0, none⟩ : Addr).add (i * 4 + j) = ⟨g, i * 4 + j, none⟩ := by unfold Addr.add; split <;> simp_all
    rw [hadd] at e
    rw [← flatE_at i hi j hj, List.getElem?_eq_getElem hl, ← e]
    congr 2; omega
theorem info38 : (Tryd.prog.info? 38).map (fun i => (i.zero, i.size, i.bytes)) = some (some (.agg #[.int .u64 0, .int .u64 0, .int .i64 0, .int .i64 0]), 4, 32) := by kernel_rfl
theorem under22 : Tryd.prog.underlying 22 = some (.slice 38) := Tryd.underlying22
theorem wpList_append_en {w : World} {ops : Array Oper} {rest : List Oper} {o : Oper} {a : Act} {Q : Exit → Act → World → Prop} (hg : o.guard = none) (s x : Operand)
    (ho : o.op = .call { callee := .builtin .append, args := #[s, x], argTypes := #[22, 22] }) (B : Nat) (v : Value) (O : List En) (hs : a.eval s = v) (h : Oe w B v O)
    (g cap : Nat) (c : En) (hx : a.eval x = .slice (some ⟨g, 0, none⟩) 1 cap) (hc : w.heap[g]? = some (evO c)) (hl : O.length ≤ 1000000) (hB : B ≤ w.heap.size)
    (hK : ∀ v' w', Oe w' B v' (O ++ [c]) → Below B w w' → wpList Tryd.prog ops Q rest (a.put o.dst v') w') : wpList Tryd.prog ops Q (o :: rest) a w := by
  obtain ⟨i0, hi, hz, hs5, hby⟩ := info_parts info38
  refine wpList_append_own w hg s x 22 ho B 38 i0 _ 4 32 under22 hi hz hs5 hby rfl (by decide) v O.length (flatE O) hs h ⟨g, 0, none⟩ 1 cap (flatE [c]) hx (flatE_len [c]) ?_ (flatE_one [c]) (by simp only [maxLen]; omega) (by omega) hB ?_
  · intro j u hu
    have hadd : (⟨g, 0, none⟩ : Addr).add j = ⟨g, j, none⟩ := by unfold Addr.add; split <;> simp_all
    rw [hadd]
    simp [World.cell?, hc]
    simpa [flatE, ev] using hu
  · intro v' w' h1 h2 _
    refine hK v' w' ?_ ⟨h2.os, h2.tape, h2.output, h2.size, fun k hk => h2.block k (Nat.lt_of_lt_of_le hk hB) fun e => ?_⟩
    · unfold Oe; rw [List.length_append, flatE_app]; exact h1
    · have := (World.ownsRow.lt h k e.symm).1; omega
theorem rdE_in {l : List Nat} {p q : Nat} {e : En} (h : rdE l p = some (e, q)) : p < q ∧ q ≤ l.length := by
  unfold rdE at h
  cases h0 : g1 l (p + 4) with
  | none => simp only [h0] at h; cases h
  | some y0 =>
    obtain ⟨n0, q1⟩ := y0
    cases h1 : g1 l q1 with
    | none => simp only [h0, h1] at h; cases h
    | some y1 =>
      obtain ⟨n1, q2⟩ := y1
      cases h2 : g1 l q2 with
      | none => simp only [h0, h1, h2] at h; cases h
      | some y2 =>
        obtain ⟨n2, q3⟩ := y2
        cases h3 : g1 l q3 with
        | none => simp only [h0, h1, h2, h3] at h; cases h
        | some y3 =>
          obtain ⟨n3, q4⟩ := y3
          simp only [h0, h1, h2, h3] at h
          have a0 := g1_in h0
          have a1 := g1_in h1
          have a2 := g1_in h2
          have a3 := g1_in h3
          split at h
          · cases h
          · injection h with h; injection h with _ h; omega
/-- the entries from a place on, so many at most. -/
def decF : Nat → List Nat → Nat → List En
  | 0, _, _ => []
  | k + 1, l, p => match rdE l p with
    | none => []
    | some (e, q) => e :: decF k l q
/-- the entries that bytes begin with. -/
def decL (l : List Nat) : List En := decF (l.length + 1) l 0
theorem decF_len : ∀ (k : Nat) (l : List Nat) (p : Nat), p ≤ l.length → (decF k l p).length ≤ l.length - p
  | 0, _, _, _ => by simp [decF]
  | k + 1, l, p, h => by
    unfold decF
    cases hr : rdE l p with
    | none => simp
    | some y =>
      obtain ⟨e, q⟩ := y
      have := rdE_in hr
      have := decF_len k l q this.2
      simp only [List.length_cons]; omega
set_option maxRecDepth 100000 in
set_option maxHeartbeats 4000000 in
theorem decodeC (a : Option Addr) (n cap : Nat) (l : List Nat) (w : World) (hn : n = l.length) (hl : ∀ c ∈ l, c < 256) (hm : n ≤ 100000) (hcap : n ≤ cap) (hs : Sl w a l) (h0 : a = none → cap = 0) (hT : TabC w) :
    Calls Tryd.prog 11 #[.slice a n cap] w fun x w' => ∃ v, x = .returned v ∧ Oe w' w.heap.size v (decL l) ∧ Below w.heap.size w w' := by
  have HRD := Lib.hid (fun (p : Nat) (w1 : World) (hb : Below w.heap.size w w1) (hp : p ≤ n) => readC a n cap l p w1 hn hl (by omega) hp hcap (sl_then hb (Nat.le_refl _) hs) h0 (tab_then hT hb (Nat.le_refl _)))
  have HD0 := Lib.hid (show ∃ k, n - 0 < k ∧ decL l = [] ++ decF k l 0 from ⟨l.length + 1, by omega, rfl⟩)
  have HN := Lib.hid hn
  have HM := Lib.hid hm
  clear hs hl hn h0 hT hm hcap
  go_enter Tryd.func11, Tryd.ntmps11
  go_wp2
  go_loopw [3, 4] (fun s3 s4 wr => ∃ (p : Nat) (O : List En), p ≤ n ∧ s4 = .int .i64 p ∧ Hid (Oe wr w.heap.size s3 O) ∧ Hid (Below w.heap.size w wr) ∧ Hid (O.length ≤ p) ∧ Hid (∃ k, n - p < k ∧ decL l = O ++ decF k l p)) (fun _ s4 _ => n - (intOf s4).toNat)
  case atStart => exact ⟨0, [], Nat.zero_le _, rfl, Lib.hid (Oe.nil _ _), Lib.hid (Below.refl _ _), Lib.hid (Nat.le_refl _), HD0⟩
  case round =>
    obtain ⟨p, O, hp, rfl, HO, HB, HOL, HD⟩ := hrel
    obtain ⟨k, hk, hd⟩ := HD.out
    obtain ⟨k, rfl⟩ : ∃ k', k = k' + 1 := ⟨k - 1, by omega⟩
    have HC := Lib.hid (HRD.out p wr HB.out hp)
    cases hr : rdE l p with
    | none =>
      rw [hr] at HC
      have HE := Lib.hid (show decL l = O by rw [hd]; unfold decF; simp only [hr]; simp)
      clear hd hk HD hr
      go_wp2_with (go_at_call 21; (with_reducible refine HC.out.mono ?_); rintro x w1 ⟨hx, hb1⟩; (dsimp only at hx); subst hx; have HO1 := Lib.hid (HO.out.below hb1); have HB1 := Lib.hid (below_then HB.out hb1 HB.out.size); clear hb1)
      go_ret
      exact ⟨_, rfl, by rw [HE.out]; exact HO1.out.below ((Below.refl _ _).alloc (Nat.le_refl _) _), HB1.out.alloc HB1.out.size _⟩
    | some y =>
      obtain ⟨e, q⟩ := y
      rw [hr] at HC
      have hin := rdE_in hr
      have HE := Lib.hid (show ∃ k, n - q < k ∧ decL l = (O ++ [e]) ++ decF k l q from ⟨k, by have := HN.out; omega, by rw [hd, show decF (k + 1) l p = e :: decF k l q by conv => lhs; unfold decF; simp only [hr]]; simp⟩)
      have HKq := Lib.hid (show q ≤ n ∧ n - q < n - p by have := HN.out; omega)
      have HOl := Lib.hid (show (O ++ [e]).length ≤ q by rw [List.length_append]; have := HOL.out; simp; omega)
      have HOm := Lib.hid (show O.length ≤ 1000000 by have := HOL.out; have := HM.out; omega)
      obtain ⟨es, et, en, ea⟩ := e
      clear hd hk HD hr hin
      go_wp2_with (first
        | (go_at_call 21; (with_reducible refine HC.out.mono ?_); rintro x w1 ⟨hx, hb1⟩; (dsimp only at hx); subst hx; have HB1 := Lib.hid (below_then HB.out hb1 HB.out.size); have HO2 := Lib.hid (((HO.out.below hb1).below ((Below.refl _ _).alloc (Nat.le_refl _) (evO ⟨es, et, en, ea⟩))).below ((Below.refl _ _).alloc (Nat.le_refl _) (evO ⟨es, et, en, ea⟩))); have HB2 := Lib.hid (show Below w.heap.size w ((w1.alloc (evO ⟨es, et, en, ea⟩)).alloc (evO ⟨es, et, en, ea⟩)) from (HB1.out.alloc HB1.out.size _).alloc (by have := HB1.out.size; simp; omega) _); have HC2 := Lib.hid (two_heap w1 (evO ⟨es, et, en, ea⟩) (evO ⟨es, et, en, ea⟩)).2; clear hb1)
        | (at_builtin; (refine wpList_append_en rfl _ _ rfl w.heap.size _ O rfl HO2.out (w1.heap.size + 1) 1 ⟨es, et, en, ea⟩ rfl HC2.out HOm.out HB2.out.size ?_; intro v5 w5 o5 b5; have HO5 := Lib.hid o5; have HB5 := Lib.hid (HB2.out.trans b5); clear o5 b5)))
      first
        | exact ⟨⟨q, _, HKq.out.1, rfl, HO5, HB5, HOl, HE⟩, by simp only [intOf]; exact HKq.out.2⟩
        | (go_roundw
           · exact ⟨q, _, HKq.out.1, rfl, HO5, HB5, HOl, HE⟩
           · simp only [intOf]; exact HKq.out.2)
end Go.Proofs.YtebfblpmihnndaaDoor.Ie
