/- The document's parser, pure: it agrees with the code's. -/
import Derived.Test.YtnaiefjbfpejbaaEy
set_option linter.unusedVariables false
namespace Go.Proofs.Ytnaiefjbfpejbaa.Ia
open Go Go.RowKit Kit Ep Eb Er Ea Es Et Eu Ev Ek Ew Ex Ey


/-- the document's parser, as plain values. -/
structure Qs where
  st : Nat
  pa : List Int
  any : Bool
  sp : Bool
  pv : Int
  it : Int
  tx : List Int
def qb (st : Nat) : Qs := ⟨st, [-1], false, false, 0, 0, []⟩
def escapeQ (q : Qs) (r : Int) : Qs × List Ev :=
  if r < 32 then ({ q with st := 1 }, [execE r]) else if r = 91 then (qb 3, []) else if r = 93 then (qb 4, []) else if r = 80 ∨ r = 88 ∨ r = 94 ∨ r = 95 then (qb 5, []) else if r ≤ 47 then ({ qb 2 with it := r }, []) else if r ≤ 126 then ({ q with st := 0 }, [escE 0 r]) else if r = 127 then ({ q with st := 1 }, []) else ({ q with st := 0 }, [])
def betweenQ (q : Qs) (r : Int) : Qs × List Ev :=
  if r < 32 then (q, [execE r]) else if r ≤ 47 then ({ q with sp := true }, []) else if r ≤ 126 then ({ q with st := 0 }, if q.sp = true then [] else [escE q.it r]) else if r = 127 then (q, []) else ({ q with st := 0 }, [])
def spI (q : Qs) : Bool := q.sp || decide (q.it ≠ 0)
def digQ (q : Qs) (n : Int) : List Int := q.pa.set (q.pa.length - 1) (min (10 * max (q.pa.getD (q.pa.length - 1) 0) 0 + n) 9999)
def csiQ (q : Qs) (r : Int) : List Ev := if q.sp = true then [] else [⟨4, 0, if q.any = true then q.pa.take 16 else [], q.pv, q.it, r, ⟨#[]⟩⟩]
def controlQ (q : Qs) (r : Int) : Qs × List Ev :=
  if r < 32 then (q, [execE r]) else if r ≤ 47 then ({ q with sp := spI q, it := r }, []) else if r ≤ 57 then ({ q with sp := spI q, any := true, pa := digQ q (r - 48) }, []) else if r ≤ 59 then ({ q with sp := spI q, any := true, pa := q.pa ++ [-1] }, []) else if r ≤ 63 then ({ q with sp := q.sp || q.any || decide (q.pv ≠ 0) || decide (q.it ≠ 0), pv := r }, []) else if r ≤ 126 then ({ q with st := 0 }, csiQ q r) else if r = 127 then (q, []) else ({ q with st := 0 }, [])
def toldQ (q : Qs) : Qs × List Ev := ({ q with st := 0 }, [oscE q.tx])
def groundQ (r : Int) : List Ev := if r < 32 then [execE r] else if 127 ≤ r ∧ r ≤ 159 then [] else [printE r]
def commandQ (q : Qs) (r : Int) : Qs × List Ev := if r = 7 then toldQ q else if r < 32 ∨ r = 127 then (q, []) else if q.tx.length < 128 then ({ q with tx := q.tx ++ [r] }, []) else (q, [])
def oneQ (q : Qs) (r : Int) : Qs × List Ev :=
  if r = 24 ∨ r = 26 then ({ q with st := 0 }, []) else if r = 27 then ({ q with st := if q.st = 4 then 6 else if q.st = 5 then 7 else 1 }, []) else if q.st = 0 then (q, groundQ r) else if q.st = 1 then escapeQ q r else if q.st = 2 then betweenQ q r else if q.st = 3 then controlQ q r else if q.st = 4 then commandQ q r else if q.st = 6 then (if r = 92 then toldQ q else escapeQ q r) else if q.st = 7 then (if r = 92 then ({ q with st := 0 }, []) else escapeQ q r) else (q, [])
def lst (E : Ev) : List Ev := if E.kind = 0 then [] else [E]
def PaR (p : Ps) (q : Qs) : Prop := q.any = false ∧ p.pa = [] ∧ q.pa = [-1] ∧ p.se = 0 ∨ q.any = true ∧ p.pa = q.pa.take 16 ∧ q.pa.length = p.se + 1
/-- the two parsers agree. -/
structure PQ (p : Ps) (q : Qs) : Prop where
  st : p.st = q.st
  le : q.st ≤ 7
  two : q.st = 2 → p.sp = q.sp ∧ p.it = q.it
  three : q.st = 3 → p.sp = q.sp ∧ (q.sp = false → p.pv = q.pv ∧ p.it = q.it ∧ PaR p q)
  four : q.st = 4 ∨ q.st = 6 → p.sp = false ∧ p.tx = q.tx
theorem pq_of {p : Ps} {q : Qs} (h : p.st = q.st) (h1 : q.st = 0 ∨ q.st = 1 ∨ q.st = 5 ∨ q.st = 7) : PQ p q :=
  ⟨h, by omega, fun e => absurd e (by omega), fun e => absurd e (by omega), fun e => absurd e (by omega)⟩
theorem escape_rel (q : Qs) (r : Int) : PQ (inEscapeM r).1 (escapeQ q r).1 ∧ (escapeQ q r).2 = lst (inEscapeM r).2 := by
  unfold inEscapeM escapeQ
  by_cases h1 : r < 32
  · rw [if_pos h1, if_pos h1]; exact ⟨pq_of rfl (.inr (.inl rfl)), rfl⟩
  rw [if_neg h1, if_neg h1]
  by_cases h2 : r < 48
  · rw [if_pos h2, if_neg (show ¬ r = 91 by omega), if_neg (show ¬ r = 93 by omega), if_neg (show ¬ (r = 80 ∨ r = 88 ∨ r = 94 ∨ r = 95) by omega), if_pos (show r ≤ 47 by omega)]
    exact ⟨⟨rfl, by show (2 : Nat) ≤ 7; omega, fun _ => ⟨rfl, rfl⟩, fun e => absurd (show (2 : Nat) = 3 from e) (by omega), fun e => absurd (show (2 : Nat) = 4 ∨ (2 : Nat) = 6 from e) (by omega)⟩, rfl⟩
  rw [if_neg h2]
  by_cases h3 : r = 91
  · rw [if_pos h3, if_pos h3]
    exact ⟨⟨rfl, by show (3 : Nat) ≤ 7; omega, fun e => absurd (show (3 : Nat) = 2 from e) (by omega), fun _ => ⟨rfl, fun _ => ⟨rfl, rfl, .inl ⟨rfl, rfl, rfl, rfl⟩⟩⟩, fun e => absurd (show (3 : Nat) = 4 ∨ (3 : Nat) = 6 from e) (by omega)⟩, rfl⟩
  rw [if_neg h3, if_neg h3]
  by_cases h4 : r = 93
  · rw [if_pos h4, if_pos h4]
    exact ⟨⟨rfl, by show (4 : Nat) ≤ 7; omega, fun e => absurd (show (4 : Nat) = 2 from e) (by omega), fun e => absurd (show (4 : Nat) = 3 from e) (by omega), fun _ => ⟨rfl, rfl⟩⟩, rfl⟩
  rw [if_neg h4, if_neg h4]
  by_cases h5 : r = 80 ∨ r = 88 ∨ r = 94 ∨ r = 95
  · rw [if_pos h5, if_pos h5]; exact ⟨pq_of rfl (.inr (.inr (.inl rfl))), rfl⟩
  rw [if_neg h5, if_neg h5, if_neg (show ¬ r ≤ 47 by omega)]
  by_cases h6 : r < 127
  · rw [if_pos h6, if_pos (show r ≤ 126 by omega)]; exact ⟨pq_of rfl (.inl rfl), rfl⟩
  rw [if_neg h6, if_neg (show ¬ r ≤ 126 by omega)]
  by_cases h7 : 127 < r
  · rw [if_pos h7, if_neg (show ¬ r = 127 by omega)]; exact ⟨pq_of rfl (.inl rfl), rfl⟩
  · rw [if_neg h7, if_pos (show r = 127 by omega)]; exact ⟨pq_of rfl (.inr (.inl rfl)), rfl⟩
theorem between_rel (p : Ps) (q : Qs) (r : Int) (h : PQ p q) (h2 : q.st = 2) : PQ (inBetweenM p r).1 (betweenQ q r).1 ∧ (betweenQ q r).2 = lst (inBetweenM p r).2 := by
  obtain ⟨e1, e2⟩ := h.two h2
  unfold inBetweenM betweenQ
  by_cases g1 : r < 32
  · rw [if_pos g1, if_pos g1]; exact ⟨h, rfl⟩
  rw [if_neg g1, if_neg g1]
  by_cases g2 : r < 48
  · rw [if_pos g2, if_pos (show r ≤ 47 by omega)]
    exact ⟨⟨h.st, h.le, fun _ => ⟨rfl, e2⟩, fun e => absurd (h2.symm.trans e) (by omega), fun e => absurd (show q.st = 4 ∨ q.st = 6 from e) (by omega)⟩, rfl⟩
  rw [if_neg g2, if_neg (show ¬ r ≤ 47 by omega)]
  by_cases g3 : r < 127
  · rw [if_pos g3, if_pos (show r ≤ 126 by omega), ← e1, ← e2]
    refine ⟨pq_of rfl (.inl rfl), ?_⟩
    unfold endM
    cases p.sp <;> rfl
  rw [if_neg g3, if_neg (show ¬ r ≤ 126 by omega)]
  by_cases g4 : 127 < r
  · rw [if_pos g4, if_neg (show ¬ r = 127 by omega)]; exact ⟨pq_of rfl (.inl rfl), rfl⟩
  · rw [if_neg g4, if_pos (show r = 127 by omega)]; exact ⟨h, rfl⟩
theorem command_rel (p : Ps) (q : Qs) (h : PQ p q) (h4 : q.st = 4 ∨ q.st = 6) : PQ (commandM p).1 (toldQ q).1 ∧ (toldQ q).2 = lst (commandM p).2 := by
  obtain ⟨e1, e2⟩ := h.four h4
  refine ⟨pq_of rfl (.inl rfl), ?_⟩
  unfold commandM endM toldQ
  rw [e1, e2]
  rfl
theorem inCommand_rel (p : Ps) (q : Qs) (r : Int) (h : PQ p q) (h4 : q.st = 4) : PQ (inCommandM p r).1 (commandQ q r).1 ∧ (commandQ q r).2 = lst (inCommandM p r).2 := by
  obtain ⟨e1, e2⟩ := h.four (.inl h4)
  unfold inCommandM commandQ
  by_cases g1 : r = 7
  · rw [if_pos g1, if_pos g1]; exact command_rel p q h (.inl h4)
  rw [if_neg g1, if_neg g1]
  by_cases g2 : r < 32
  · rw [if_pos g2, if_pos (.inl g2)]; exact ⟨h, rfl⟩
  rw [if_neg g2]
  by_cases g3 : r = 127
  · rw [if_pos g3, if_pos (.inr g3)]; exact ⟨h, rfl⟩
  rw [if_neg g3, if_neg (show ¬ (r < 32 ∨ r = 127) by omega), e2]
  by_cases g4 : q.tx.length < 128
  · rw [if_pos g4, if_pos g4]
    exact ⟨⟨h.st, h.le, fun e => absurd (h4.symm.trans e) (by omega), fun e => absurd (h4.symm.trans e) (by omega), fun _ => ⟨e1, by rw [← e2]⟩⟩, rfl⟩
  · rw [if_neg g4, if_neg g4]; exact ⟨h, rfl⟩
theorem ground_rel (r : Int) : groundQ r = lst (inGroundE r) := by
  unfold groundQ inGroundE
  by_cases g1 : r < 32
  · rw [if_pos g1, if_pos g1]; rfl
  rw [if_neg g1, if_neg g1]
  by_cases g2 : r < 127
  · rw [if_pos g2, if_neg (show ¬ (127 ≤ r ∧ r ≤ 159) by omega)]; rfl
  rw [if_neg g2]
  by_cases g3 : r ≤ 159
  · rw [if_pos g3, if_pos (show (127 ≤ r ∧ r ≤ 159) by omega)]; rfl
  · rw [if_neg g3, if_neg (show ¬ (127 ≤ r ∧ r ≤ 159) by omega)]; rfl
theorem pq_three {p : Ps} {q : Qs} (h1 : p.st = 3) (h2 : q.st = 3) (h3 : p.sp = q.sp) (h4 : q.sp = false → p.pv = q.pv ∧ p.it = q.it ∧ PaR p q) : PQ p q :=
  ⟨by omega, by omega, fun e => absurd e (by omega), fun _ => ⟨h3, h4⟩, fun e => absurd e (by omega)⟩
theorem first_rel {p : Ps} {q : Qs} (h : PaR p q) : (firstM p).pa = q.pa.take 16 ∧ q.pa.length = (firstM p).se + 1 ∧ (firstM p).st = p.st ∧ (firstM p).sp = p.sp ∧ (firstM p).pv = p.pv ∧ (firstM p).it = p.it := by
  unfold firstM
  rcases h with ⟨_, h1, h2, h3⟩ | ⟨_, h1, h2⟩
  · rw [if_pos h1, h2]
    exact ⟨rfl, by rw [h3]; rfl, rfl, rfl, rfl, rfl⟩
  · have h0 : ¬ p.pa = [] := by
      intro e
      have := congrArg List.length h1
      rw [e, List.length_take, h2] at this
      simp at this
      omega
    rw [if_neg h0]
    exact ⟨h1, h2, rfl, rfl, rfl, rfl⟩
theorem first_st (p : Ps) : (firstM p).st = p.st ∧ (firstM p).sp = p.sp ∧ (firstM p).pv = p.pv ∧ (firstM p).it = p.it := by
  unfold firstM; split <;> exact ⟨rfl, rfl, rfl, rfl⟩
theorem digit_st (p : Ps) (n : Int) : (digitM p n).st = p.st ∧ (digitM p n).sp = p.sp ∧ (digitM p n).pv = p.pv ∧ (digitM p n).it = p.it := by
  unfold digitM; split <;> exact first_st p
theorem sep_st (p : Ps) : (sepM p).st = p.st ∧ (sepM p).sp = p.sp ∧ (sepM p).pv = p.pv ∧ (sepM p).it = p.it := by
  unfold sepM; split <;> exact first_st p
theorem digit_rel {p : Ps} {q q' : Qs} (h : PaR p q) (n : Int) (ha : q'.any = true) (hp : q'.pa = digQ q n) : PaR (digitM p n) q' := by
  obtain ⟨h1, h2, _⟩ := first_rel h
  refine .inr ⟨ha, ?_, ?_⟩
  · rw [hp]; unfold digitM digQ
    by_cases hs : 16 ≤ (firstM p).se
    · rw [if_pos hs, h1, List.take_set_of_le (by omega)]
    · rw [if_neg hs]
      show (firstM p).pa.set (firstM p).se _ = _
      rw [h1, List.take_of_length_le (by omega), List.take_of_length_le (by rw [List.length_set]; omega), show q.pa.length - 1 = (firstM p).se by omega, Int.mul_comm]
  · rw [hp]; unfold digQ digitM
    rw [List.length_set]
    split <;> exact h2
theorem sep_rel {p : Ps} {q q' : Qs} (h : PaR p q) (ha : q'.any = true) (hp : q'.pa = q.pa ++ [-1]) : PaR (sepM p) q' := by
  obtain ⟨h1, h2, _⟩ := first_rel h
  refine .inr ⟨ha, ?_, ?_⟩
  · rw [hp]; unfold sepM
    by_cases hs : (firstM p).se + 1 < 16
    · rw [if_pos hs]
      show (firstM p).pa ++ [-1] = _
      rw [h1, List.take_of_length_le (by omega), List.take_of_length_le (by rw [List.length_append]; simp; omega)]
    · rw [if_neg hs]
      show (firstM p).pa = _
      rw [h1, List.take_append_of_le_length (by omega)]
  · rw [hp]; unfold sepM
    rw [List.length_append, h2]
    split <;> rfl
theorem control_rel (p : Ps) (q : Qs) (r : Int) (h : PQ p q) (h3 : q.st = 3) : PQ (inControlM p r).1 (controlQ q r).1 ∧ (controlQ q r).2 = lst (inControlM p r).2 := by
  obtain ⟨e1, e2⟩ := h.three h3
  have hp3 : p.st = 3 := h.st.trans h3
  unfold inControlM controlQ
  by_cases g1 : r < 32
  · rw [if_pos g1, if_pos g1]; exact ⟨h, rfl⟩
  rw [if_neg g1, if_neg g1]
  by_cases g2 : r < 48
  · rw [if_pos g2, if_pos (show r ≤ 47 by omega)]
    refine ⟨pq_three hp3 h3 ?_ ?_, rfl⟩
    · show (p.sp || decide (p.it ≠ 0)) = spI q
      unfold spI
      by_cases hs : q.sp = false
      · rw [e1, (e2 hs).2.1]
      · rw [e1, eq_true_of_ne_false hs, Bool.true_or, Bool.true_or]
    · intro hs
      have hs0 : q.sp = false := by
        have hs' : (q.sp || decide (q.it ≠ 0)) = false := hs
        rw [Bool.or_eq_false_iff] at hs'; exact hs'.1
      exact ⟨(e2 hs0).1, rfl, (e2 hs0).2.2⟩
  rw [if_neg g2, if_neg (show ¬ r ≤ 47 by omega)]
  have hI : ∀ q' : Qs, q'.sp = spI q → q'.sp = false → q.sp = false ∧ q.it = 0 := by
    intro q' e hs
    rw [e] at hs
    unfold spI at hs
    rw [Bool.or_eq_false_iff] at hs
    exact ⟨hs.1, by have := hs.2; simp at this; exact this⟩
  by_cases g3 : p.it ≠ 0 ∧ r < 64
  · rw [if_pos g3]
    have hsp : spI q = true := by
      unfold spI
      by_cases hs : q.sp = false
      · rw [← (e2 hs).2.1]; simp [g3.1]
      · rw [eq_true_of_ne_false hs, Bool.true_or]
    have hall : ∀ q' : Qs, q'.st = 3 → q'.sp = true → PQ { p with sp := true } q' := fun q' a b => pq_three hp3 a b.symm (fun e => by rw [b] at e; cases e)
    by_cases k1 : r ≤ 57
    · rw [if_pos k1]; exact ⟨hall _ h3 hsp, rfl⟩
    rw [if_neg k1]
    by_cases k2 : r ≤ 59
    · rw [if_pos k2]; exact ⟨hall _ h3 hsp, rfl⟩
    rw [if_neg k2, if_pos (show r ≤ 63 by omega)]
    refine ⟨hall _ h3 ?_, rfl⟩
    show (q.sp || q.any || decide (q.pv ≠ 0) || decide (q.it ≠ 0)) = true
    unfold spI at hsp
    cases hq : q.sp
    · rw [hq, Bool.false_or] at hsp; rw [hsp, Bool.or_true]
    · simp
  rw [if_neg g3]
  have hit : r < 64 → p.it = 0 := fun hr => Decidable.byContradiction fun hc => g3 ⟨hc, hr⟩
  have hspe : r < 64 → spI q = q.sp := by
    intro hr
    unfold spI
    by_cases hs : q.sp = false
    · rw [← (e2 hs).2.1, hit hr]; simp
    · rw [eq_true_of_ne_false hs, Bool.true_or]
  by_cases g4 : r ≤ 57
  · rw [if_pos g4, if_pos g4]
    obtain ⟨d1, d2, d3, d4⟩ := digit_st p (r - 48)
    refine ⟨pq_three (d1.trans hp3) h3 (d2.trans (e1.trans (hspe (by omega)).symm)) (fun hs => ?_), rfl⟩
    have hs0 := (hI _ rfl hs).1
    exact ⟨d3.trans (e2 hs0).1, d4.trans (e2 hs0).2.1, digit_rel (e2 hs0).2.2 _ rfl rfl⟩
  rw [if_neg g4, if_neg g4]
  by_cases g5 : r ≤ 59
  · rw [if_pos g5, if_pos g5]
    obtain ⟨d1, d2, d3, d4⟩ := sep_st p
    refine ⟨pq_three (d1.trans hp3) h3 (d2.trans (e1.trans (hspe (by omega)).symm)) (fun hs => ?_), rfl⟩
    have hs0 := (hI _ rfl hs).1
    exact ⟨d3.trans (e2 hs0).1, d4.trans (e2 hs0).2.1, sep_rel (e2 hs0).2.2 rfl rfl⟩
  rw [if_neg g5, if_neg g5]
  by_cases g6 : r < 64
  · rw [if_pos g6, if_pos (show r ≤ 63 by omega)]
    have hany : q.sp = false → decide (0 < p.pa.length) = q.any := by
      intro hs
      rcases (e2 hs).2.2 with ⟨a1, a2, _, _⟩ | ⟨a1, a2, a3⟩
      · rw [a1, a2]; rfl
      · rw [a1]; exact decide_eq_true (by rw [a2, List.length_take]; omega)
    refine ⟨pq_three hp3 h3 ?_ (fun hs => ?_), rfl⟩
    · show (p.sp || decide (p.pv ≠ 0) || decide (0 < p.pa.length)) = (q.sp || q.any || decide (q.pv ≠ 0) || decide (q.it ≠ 0))
      by_cases hs : q.sp = false
      · rw [hany hs, e1, hs, (e2 hs).1, ← (e2 hs).2.1, hit g6]
        cases q.any <;> simp
      · rw [e1, eq_true_of_ne_false hs]; simp
    · have hs' : (q.sp || q.any || decide (q.pv ≠ 0) || decide (q.it ≠ 0)) = false := hs
      rw [Bool.or_eq_false_iff, Bool.or_eq_false_iff, Bool.or_eq_false_iff] at hs'
      exact ⟨rfl, (e2 hs'.1.1.1).2.1, (e2 hs'.1.1.1).2.2⟩
  rw [if_neg g6, if_neg (show ¬ r ≤ 63 by omega)]
  by_cases g7 : r < 127
  · rw [if_pos g7, if_pos (show r ≤ 126 by omega)]
    refine ⟨pq_of rfl (.inl rfl), ?_⟩
    unfold endM
    show csiQ q r = _
    unfold csiQ
    by_cases hs : q.sp = false
    · rw [e1, hs]
      have hpa : (if q.any = true then q.pa.take 16 else []) = p.pa := by
        rcases (e2 hs).2.2 with ⟨a1, a2, _, _⟩ | ⟨a1, a2, _⟩
        · rw [a1, a2]; rfl
        · rw [if_pos a1, a2]
      rw [hpa, ← (e2 hs).1, ← (e2 hs).2.1]
      rfl
    · rw [e1, eq_true_of_ne_false hs]; rfl
  rw [if_neg g7, if_neg (show ¬ r ≤ 126 by omega)]
  by_cases g8 : 127 < r
  · rw [if_pos g8, if_neg (show ¬ r = 127 by omega)]; exact ⟨pq_of rfl (.inl rfl), rfl⟩
  · rw [if_neg g8, if_pos (show r = 127 by omega)]; exact ⟨h, rfl⟩
/-- a sign, in both parsers. -/
theorem one_rel (p : Ps) (q : Qs) (r : Int) (h : PQ p q) : PQ (takeM p r).1 (oneQ q r).1 ∧ (oneQ q r).2 = lst (takeM p r).2 := by
  unfold takeM oneQ
  by_cases g1 : r = 24
  · rw [if_pos g1, if_pos (.inl g1)]; exact ⟨pq_of rfl (.inl rfl), rfl⟩
  rw [if_neg g1]
  by_cases g2 : r = 26
  · rw [if_pos g2, if_pos (.inr g2)]; exact ⟨pq_of rfl (.inl rfl), rfl⟩
  rw [if_neg g2, if_neg (show ¬ (r = 24 ∨ r = 26) by omega)]
  by_cases g3 : r = 27
  · rw [if_pos g3, if_pos g3]
    refine ⟨?_, rfl⟩
    show PQ (interruptM p) _
    unfold interruptM
    rw [h.st]
    by_cases k4 : q.st = 4
    · rw [if_pos k4, if_pos k4]
      obtain ⟨e1, e2⟩ := h.four (.inl k4)
      exact ⟨rfl, by show (6 : Nat) ≤ 7; omega, fun e => absurd (show (6 : Nat) = 2 from e) (by omega), fun e => absurd (show (6 : Nat) = 3 from e) (by omega), fun _ => ⟨e1, e2⟩⟩
    rw [if_neg k4, if_neg k4]
    by_cases k5 : q.st = 5
    · rw [if_pos k5, if_pos k5]; exact pq_of rfl (.inr (.inr (.inr rfl)))
    · rw [if_neg k5, if_neg k5]; exact pq_of rfl (.inr (.inl rfl))
  rw [if_neg g3, if_neg g3, h.st]
  have hle := h.le
  by_cases s0 : q.st = 0
  · rw [if_neg (show ¬ q.st = 1 by omega), if_neg (show ¬ q.st = 2 by omega), if_neg (show ¬ q.st = 3 by omega), if_neg (show ¬ q.st = 4 by omega), if_neg (show ¬ q.st = 5 by omega), if_neg (show ¬ q.st = 6 by omega), if_neg (show ¬ q.st = 7 by omega), if_pos s0]
    exact ⟨h, ground_rel r⟩
  rw [if_neg s0]
  by_cases s1 : q.st = 1
  · rw [if_pos s1, if_pos s1]; exact escape_rel q r
  rw [if_neg s1, if_neg s1]
  by_cases s2 : q.st = 2
  · rw [if_pos s2, if_pos s2]; exact between_rel p q r h s2
  rw [if_neg s2, if_neg s2]
  by_cases s3 : q.st = 3
  · rw [if_pos s3, if_pos s3]; exact control_rel p q r h s3
  rw [if_neg s3, if_neg s3]
  by_cases s4 : q.st = 4
  · rw [if_pos s4, if_pos s4]; exact inCommand_rel p q r h s4
  rw [if_neg s4, if_neg s4]
  by_cases s5 : q.st = 5
  · rw [if_pos s5, if_neg (show ¬ q.st = 6 by omega), if_neg (show ¬ q.st = 7 by omega)]; exact ⟨h, rfl⟩
  rw [if_neg s5]
  by_cases s6 : q.st = 6
  · rw [if_pos s6, if_pos s6]
    by_cases g : r = 92
    · rw [if_pos g, if_pos g]; exact command_rel p q h (.inr s6)
    · rw [if_neg g, if_neg g]; exact escape_rel q r
  rw [if_neg s6, if_neg s6, if_pos (show q.st = 7 by omega), if_pos (show q.st = 7 by omega)]
  by_cases g : r = 92
  · rw [if_pos g, if_pos g]; exact ⟨pq_of rfl (.inl rfl), rfl⟩
  · rw [if_neg g, if_neg g]; exact escape_rel q r
def oneS (s : Qs × List Ev) (r : Int) : Qs × List Ev := ((oneQ s.1 r).1, s.2 ++ (oneQ s.1 r).2)
def feedQ (q : Qs) (l : List Int) : Qs × List Ev := l.foldl oneS (q, [])
theorem fold_rel (l : List Int) : ∀ (s : Ps × List Ev) (t : Qs × List Ev), PQ s.1 t.1 → t.2 = s.2 → PQ (l.foldl feedS s).1 (l.foldl oneS t).1 ∧ (l.foldl oneS t).2 = (l.foldl feedS s).2 := by
  induction l with
  | nil => exact fun s t h e => ⟨h, e⟩
  | cons r l ih =>
    intro s t h e
    rw [List.foldl_cons, List.foldl_cons]
    obtain ⟨h1, h2⟩ := one_rel s.1 t.1 r h
    refine ih _ _ h1 ?_
    show t.2 ++ (oneQ t.1 r).2 = if (takeM s.1 r).2.kind = 0 then s.2 else s.2 ++ [(takeM s.1 r).2]
    rw [h2, e]
    unfold lst
    by_cases hk : (takeM s.1 r).2.kind = 0
    · rw [if_pos hk, if_pos hk, List.append_nil]
    · rw [if_neg hk, if_neg hk]
/-- both parsers tell the same of a list, and agree behind it. -/
theorem feed_rel (p : Ps) (q : Qs) (l : List Int) (h : PQ p q) : PQ (feedM p l).1 (feedQ q l).1 ∧ (feedQ q l).2 = (feedM p l).2 := fold_rel l (p, []) (q, []) h rfl
theorem pq_start : PQ (bg 0) ⟨0, [], false, false, 0, 0, []⟩ := pq_of rfl (.inl rfl)

end Go.Proofs.Ytnaiefjbfpejbaa.Ia
