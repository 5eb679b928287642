/- The two parsers, beside one another. -/
import Derived.Test.YtnaiefjbfpejbaaJs
import Derived.Test.YtnaiefjbfpejbaaGe
set_option linter.unusedVariables false
namespace Go.Proofs.Ytnaiefjbfpejbaa.Ja
open Go Go.RowKit Kit Ep Eb Er Ea Es Et Eu Ev Ek Ew Ex Ey Ez Fa Ga Gb Gc Ia Ib Ic Iq Jt Jo Jf Jp


/-- the two parsers, beside one another. -/
structure TwoP (w0 : World) (g gq : Nat) (v x vq xq : Value) (p : Ps) (q : Qs) (W : World) : Prop where
  P : PrV W g v x p
  Q : PrQ W gq vq xq q
  B : Below w0.heap.size w0 W
  g1 : w0.heap.size ≤ g
  q1 : w0.heap.size ≤ gq
  nv : ∀ k, v.ownBlock = some k → w0.heap.size ≤ k ∧ vq.ownBlock ≠ some k
  nx : ∀ k, x.ownBlock = some k → w0.heap.size ≤ k ∧ xq.ownBlock ≠ some k
  nvq : ∀ k, vq.ownBlock = some k → w0.heap.size ≤ k
  nxq : ∀ k, xq.ownBlock = some k → w0.heap.size ≤ k
theorem own_frG {w w' : World} {g size n : Nat} {v x u : Value} {e : TypeId} {xs : List Value} (hf : Fr g v x w w') (h : w.ownsRow 0 e size u n xs) (hg : ∀ k, u.ownBlock = some k → k ≠ g) (hv : ∀ k, u.ownBlock = some k → v.ownBlock ≠ some k) (hx : ∀ k, u.ownBlock = some k → x.ownBlock ≠ some k) : w'.ownsRow 0 e size u n xs := by
  refine ⟨h.1, ?_⟩
  rcases h.2 with h1 | ⟨g1, cap, cur, hu, h0, h1, rest⟩
  · exact .inl h1
  · refine .inr ⟨g1, cap, cur, hu, h0, ?_, rest⟩
    rw [hf.block g1 (lt_of h1) (hg g1 (by rw [hu]; rfl)) (hv g1 (by rw [hu]; rfl)) (hx g1 (by rw [hu]; rfl))]
    exact h1
theorem kind_ne {w : World} {e T : TypeId} {u : Value} {n size g k : Nat} {xs : List Value} {cs : Array Value} (h : w.ownsRow 0 e size u n xs) (hg : w.heap[g]? = some (.cells cs T (0, 0))) (hT : T ≠ e) (hk : u.ownBlock = some k) : k ≠ g := fun e1 => own_kind7 h hg hT (by rw [hk, e1])
variable {w0 W W' : World} {g gq : Nat} {v x vq xq v' x' : Value} {p p' : Ps} {q q' : Qs}
theorem TwoP.ne (h : TwoP w0 g gq v x vq xq p q W) : gq ≠ g := fun e => by
  have h1 := h.Q.row
  rw [e, h.P.row] at h1
  injection h1 with h1; injection h1 with _ h1; exact absurd h1 (by decide)
theorem TwoP.stepP (h : TwoP w0 g gq v x vq xq p q W) (s : StP g v x W p' v' x' W') : TwoP w0 g gq v' x' vq xq p' q W' := by
  have hz := h.B.size
  refine ⟨s.1, ⟨?_, ?_, ?_⟩, ?_, h.g1, h.q1, ?_, ?_, h.nvq, h.nxq⟩
  · rw [s.2.1.block gq h.Q.lt h.ne (own_kind h.P.pa h.Q.row (by decide)) (own_kind h.P.tx h.Q.row (by decide))]; exact h.Q.row
  · exact own_frG s.2.1 h.Q.pa (fun k hk => kind_ne h.Q.pa h.P.row (by decide) hk) (fun k hk e => (h.nv k e).2 hk) (fun k hk => kind_far h.Q.pa h.P.tx (by decide) hk)
  · exact own_frG s.2.1 h.Q.tx (fun k hk => kind_ne h.Q.tx h.P.row (by decide) hk) (fun k hk => kind_far h.Q.tx h.P.pa (by decide) hk) (fun k hk e => (h.nx k e).2 hk)
  · exact ⟨s.2.1.os.trans h.B.os, s.2.1.tape.trans h.B.tape, s.2.1.output.trans h.B.output, Nat.le_trans hz s.2.1.size, fun k hk => (s.2.1.block k (Nat.lt_of_lt_of_le hk hz) (fun e => by have := h.g1; omega) (fun e => by have := (h.nv k e).1; omega) (fun e => by have := (h.nx k e).1; omega)).trans (h.B.block k hk)⟩
  · intro k hk
    rcases s.2.2.1 k hk with e | e
    · exact h.nv k e
    · exact ⟨Nat.le_trans hz e, fun e2 => by have := (h.Q.pa.lt k e2).2; omega⟩
  · intro k hk
    rcases s.2.2.2 k hk with e | e
    · exact h.nx k e
    · exact ⟨Nat.le_trans hz e, fun e2 => by have := (h.Q.tx.lt k e2).2; omega⟩
theorem TwoP.stepQ (h : TwoP w0 g gq v x vq xq p q W) (s : StQ gq vq xq W q' v' x' W') : TwoP w0 g gq v x v' x' p q' W' := by
  have hz := h.B.size
  refine ⟨⟨?_, ?_, ?_, h.P.nil⟩, s.1, ?_, h.g1, h.q1, ?_, ?_, ?_, ?_⟩
  · rw [s.2.1.block g h.P.lt (fun e => h.ne e.symm) (own_kind h.Q.pa h.P.row (by decide)) (own_kind h.Q.tx h.P.row (by decide))]; exact h.P.row
  · exact own_frG s.2.1 h.P.pa (fun k hk => kind_ne h.P.pa h.Q.row (by decide) hk) (fun k hk => (h.nv k hk).2) (fun k hk => kind_far h.P.pa h.Q.tx (by decide) hk)
  · exact own_frG s.2.1 h.P.tx (fun k hk => kind_ne h.P.tx h.Q.row (by decide) hk) (fun k hk => kind_far h.P.tx h.Q.pa (by decide) hk) (fun k hk => (h.nx k hk).2)
  · exact ⟨s.2.1.os.trans h.B.os, s.2.1.tape.trans h.B.tape, s.2.1.output.trans h.B.output, Nat.le_trans hz s.2.1.size, fun k hk => (s.2.1.block k (Nat.lt_of_lt_of_le hk hz) (fun e => by have := h.q1; omega) (fun e => by have := h.nvq k e; omega) (fun e => by have := h.nxq k e; omega)).trans (h.B.block k hk)⟩
  · intro k hk
    refine ⟨(h.nv k hk).1, fun e2 => ?_⟩
    rcases s.2.2.1 k e2 with e | e
    · exact (h.nv k hk).2 e
    · have := (h.P.pa.lt k hk).2; omega
  · intro k hk
    refine ⟨(h.nx k hk).1, fun e2 => ?_⟩
    rcases s.2.2.2 k e2 with e | e
    · exact (h.nx k hk).2 e
    · have := (h.P.tx.lt k hk).2; omega
  · intro k hk
    rcases s.2.2.1 k hk with e | e
    · exact h.nvq k e
    · exact Nat.le_trans hz e
  · intro k hk
    rcases s.2.2.2 k hk with e | e
    · exact h.nxq k e
    · exact Nat.le_trans hz e
theorem TwoP.then_ (h : TwoP w0 g gq v x vq xq p q W) (hb : Below W.heap.size W W') : TwoP w0 g gq v x vq xq p q W' :=
  ⟨h.P.then_ hb (Nat.le_refl _), h.Q.then_ hb (Nat.le_refl _), below_then h.B hb h.B.size, h.g1, h.q1, h.nv, h.nx, h.nvq, h.nxq⟩
/-- the code's events, while the document's parser goes on. -/
theorem evI_frQ {V : Value} {qs : List EW} (hQ : PrQ W gq vq xq q) (hf : Fr gq vq xq W W') (h : EvI W V qs) (hs : ∀ r ∈ qs, ∀ k, (pvV r).ownBlock = some k → vq.ownBlock ≠ some k) : EvI W' V qs :=
  ⟨own_frG hf h.1 (fun k hk => kind_ne h.1 hQ.row (by decide) hk) (fun k hk => kind_far h.1 hQ.pa (by decide) hk) (fun k hk => kind_far h.1 hQ.tx (by decide) hk),
   fun r hr => own_frG hf (h.2 r hr) (fun k hk => kind_ne (h.2 r hr) hQ.row (by decide) hk) (hs r hr) (fun k hk => kind_far (h.2 r hr) hQ.tx (by decide) hk)⟩
/-- the document's events, while the code's parser goes on. -/
theorem evJ_frP {V : Value} {qs : List EW} (hP : PrV W g v x p) (hf : Fr g v x W W') (h : EvJ W V qs) (hs : ∀ r ∈ qs, ∀ k, (pvV r).ownBlock = some k → v.ownBlock ≠ some k) : EvJ W' V qs :=
  ⟨own_frG hf h.1 (fun k hk => kind_ne h.1 hP.row (by decide) hk) (fun k hk => kind_far h.1 hP.pa (by decide) hk) (fun k hk => kind_far h.1 hP.tx (by decide) hk),
   fun r hr => own_frG hf (h.2 r hr) (fun k hk => kind_ne (h.2 r hr) hP.row (by decide) hk) (hs r hr) (fun k hk => kind_far (h.2 r hr) hP.tx (by decide) hk)⟩
/-- signs of an argument, beside the two parsers. -/
structure Rs (w0 : World) (a : Option Addr) (c : Nat) (l : List Int) : Prop where
  row : LRow w0 a l
  c0 : a = none → c = 0
  cap : l.length ≤ c
theorem lrow_then0 {w w1 : World} {a : Option Addr} {l : List Int} (h : LRow w a l) (hb : Below w.heap.size w w1) : LRow w1 a l := by
  rcases h with h | ⟨b, off, rfl, h⟩
  · exact .inl h
  · exact .inr ⟨b, off, rfl, fun i hi => cell_then hb (Nat.le_refl _) (h i hi)⟩
theorem lrow_far {w : World} {a : Option Addr} {l : List Int} (h : LRow w a l) : ∀ b off, l ≠ [] → a = some ⟨b, off, none⟩ → b < w.heap.size := by
  intro b off h0 e
  rcases h with h1 | ⟨b', off', e', hc⟩
  · exact absurd h1 h0
  · rw [e] at e'
    injection e' with e'; injection e' with e1 e2
    subst e1
    exact World.block_lt_of_cell? w _ (hc 0 (List.length_pos_iff.2 h0))
def C11 (w0 : World) (g gq : Nat) (v x vq xq : Value) (p : Ps) (q : Qs) (l : List Int) (W : World) (e : Ending) (w' : World) : Prop :=
  ∃ (v' x' : Value) (qs : List EW) (va : Option Addr) (vc : Nat), e = .returned (.slice va qs.length vc) ∧ TwoP w0 g gq v' x' vq xq (feedM p l).1 q w' ∧ EvI w' (.slice va qs.length vc) qs ∧ qs.map EW.E = (feedM p l).2 ∧ Fr g v x W w' ∧ ∀ r ∈ qs, ∀ k, (pvV r).ownBlock = some k → vq.ownBlock ≠ some k
theorem feedPC (a : Option Addr) (n c : Nat) (l : List Int) (m : Nat) (h : TwoP w0 g gq v x vq xq p q W) (hn : n = l.length) (hr : Rs w0 a c l) (hok : PsOk p m) (hm : m + l.length ≤ 40000) :
    Calls Try.prog 11 #[.pointer (some ⟨g, 0, none⟩), .slice a n c] W (C11 w0 g gq v x vq xq p q l W) := by
  refine (feedC a n c l g v x p m W hn h.P hok (by omega) (by omega) (lrow_then0 hr.row h.B) (fun b off h0 e => ?_)).mono ?_
  · have hlt := lrow_far hr.row b off h0 e
    exact ⟨(fun e1 => by have := h.g1; omega), (fun e1 => by have := (h.nv b e1).1; omega), (fun e1 => by have := (h.nx b e1).1; omega)⟩
  · rintro e w' ⟨V, v', x', qs, va, vc, rfl, rfl, hs, hI, hq, hV, hsep⟩
    refine ⟨v', x', qs, va, vc, rfl, h.stepP hs, hI, hq, hs.2.1, fun r hr k hk e => ?_⟩
    rcases (hsep r hr k hk).2 with h1 | h1
    · exact (h.nv k h1).2 e
    · have := (h.Q.pa.lt k e).2; omega
def C12 (w0 : World) (g gq : Nat) (v x vq xq : Value) (p : Ps) (q : Qs) (l : List Int) (W : World) (e : Ending) (w' : World) : Prop :=
  ∃ (v' x' : Value) (qs : List EW) (va : Option Addr) (vc : Nat), e = .returned (.slice va qs.length vc) ∧ TwoP w0 g gq v x v' x' p (feedQ q l).1 w' ∧ EvJ w' (.slice va qs.length vc) qs ∧ qs.map EW.E = (feedQ q l).2 ∧ Fr gq vq xq W w' ∧ ∀ r ∈ qs, ∀ k, (pvV r).ownBlock = some k → v.ownBlock ≠ some k
theorem feedQC2 (a : Option Addr) (n c : Nat) (l : List Int) (m : Nat) (h : TwoP w0 g gq v x vq xq p q W) (hn : n = l.length) (hr : Rs w0 a c l) (hok : QOk q m) (hst : q.st ≤ 7) (hm : m + l.length ≤ 40000) :
    Calls Try.prog 12 #[.pointer (some ⟨gq, 0, none⟩), .slice a n c] W (C12 w0 g gq v x vq xq p q l W) := by
  refine (feedQC a n c l gq vq xq q m W hn h.Q hok hst hm (lrow_then0 hr.row h.B) (fun b off h0 e => ?_)).mono ?_
  · have hlt := lrow_far hr.row b off h0 e
    exact ⟨(fun e1 => by have := h.q1; omega), (fun e1 => by have := h.nvq b e1; omega), (fun e1 => by have := h.nxq b e1; omega)⟩
  · rintro e w' ⟨v', x', qs, va, vc, rfl, hs, hI, hq, hV, hsep⟩
    refine ⟨v', x', qs, va, vc, rfl, h.stepQ hs, hI, hq, hs.2.1, fun r hr k hk e => ?_⟩
    have h1 := (hsep r hr k hk).2
    have := (h.P.pa.lt k e).2
    omega
theorem foldM_fst (l : List Int) : ∀ (s : Ps × List Ev), (l.foldl feedS s).1 = (feedM s.1 l).1 := by
  induction l with
  | nil => intro s; rfl
  | cons r l ih =>
    intro s
    show (l.foldl feedS (feedS s r)).1 = (l.foldl feedS (feedS (s.1, []) r)).1
    rw [ih, ih]; rfl
theorem feedM_app (p : Ps) (a b : List Int) : (feedM p (a ++ b)).1 = (feedM (feedM p a).1 b).1 := by
  show ((a ++ b).foldl feedS (p, [])).1 = _
  rw [List.foldl_append, foldM_fst]; rfl
theorem foldQ_fst (l : List Int) : ∀ (s : Qs × List Ev), (l.foldl oneS s).1 = (feedQ s.1 l).1 := by
  induction l with
  | nil => intro s; rfl
  | cons r l ih =>
    intro s
    show (l.foldl oneS (oneS s r)).1 = (l.foldl oneS (oneS (s.1, []) r)).1
    rw [ih, ih]; rfl
theorem feedQ_app (q : Qs) (a b : List Int) : (feedQ q (a ++ b)).1 = (feedQ (feedQ q a).1 b).1 := by
  show ((a ++ b).foldl oneS (q, [])).1 = _
  rw [List.foldl_append, foldQ_fst]; rfl
theorem take_more (l : List Int) (d N : Nat) : l.take (d + N) = l.take d ++ (l.drop d).take N := by
  rw [List.take_add]
def q0 : Qs := ⟨0, [], false, false, 0, 0, []⟩
theorem q0_ok : QOk q0 0 := ⟨(fun e => absurd (show (0 : Nat) = 3 from e) (by decide)), (fun y hy => absurd hy List.not_mem_nil), Nat.zero_le _, Nat.zero_le _⟩
def pd (l : List Int) (d : Nat) : Ps := (feedM (bg 0) (l.take d)).1
def qd (l : List Int) (d : Nat) : Qs := (feedQ q0 (l.take d)).1
theorem pd_next (l : List Int) (d N : Nat) : pd l (d + N) = (feedM (pd l d) ((l.drop d).take N)).1 := by unfold pd; rw [take_more, feedM_app]
theorem qd_next (l : List Int) (d N : Nat) : qd l (d + N) = (feedQ (qd l d) ((l.drop d).take N)).1 := by unfold qd; rw [take_more, feedQ_app]
theorem pqd (l : List Int) (d : Nat) : PQ (pd l d) (qd l d) := (feed_rel (bg 0) q0 (l.take d) pq_start).1
theorem pd_ok (l : List Int) (d : Nat) (h : d ≤ l.length) : PsOk (pd l d) d := by
  have h1 := feed_ok (bg_ok 0 0) (l.take d)
  rw [List.length_take, Nat.min_eq_left h, Nat.zero_add] at h1
  exact h1
theorem qd_ok (l : List Int) (d : Nat) (h : d ≤ l.length) : QOk (qd l d) d := by
  have h1 := feed_okQ q0_ok (l.take d)
  rw [List.length_take, Nat.min_eq_left h, Nat.zero_add] at h1
  exact h1
theorem qd_st (l : List Int) (d : Nat) : (qd l d).st ≤ 7 := feed_stQ (Nat.zero_le _) _
theorem ev_rel (l : List Int) (d : Nat) (m : List Int) : (feedQ (qd l d) m).2 = (feedM (pd l d) m).2 ∧ (feedQ (qd l d) m).1.st = (feedM (pd l d) m).1.st := by
  have h := feed_rel _ _ m (pqd l d)
  exact ⟨h.2, h.1.st.symm⟩
theorem foldM_pa (l : List Int) (d : Nat) (m : List Int) : ∀ E ∈ (feedM (pd l d) m).2, E.pa.length ≤ 16 := by
  by_cases h : d ≤ l.length
  · exact foldl_pa m (pd l d, []) d (pd_ok l d h) (fun E hE => by cases hE)
  · have e : pd l d = pd l l.length := by unfold pd; rw [List.take_of_length_le (by omega), List.take_length]
    rw [e]
    exact foldl_pa m (pd l l.length, []) l.length (pd_ok l _ (Nat.le_refl _)) (fun E hE => by cases hE)

end Go.Proofs.Ytnaiefjbfpejbaa.Ja
