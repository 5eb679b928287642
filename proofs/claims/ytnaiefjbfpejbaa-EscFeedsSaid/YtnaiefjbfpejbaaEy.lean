/- Events in memory. -/
import Derived.Test.YtnaiefjbfpejbaaEx
set_option linter.unusedVariables false
namespace Go.Proofs.Ytnaiefjbfpejbaa.Ey
open Go Go.RowKit Kit Ep Eb Er Ea Es Et Eu Ev Ek Ew Ex


/-- what holds of a parser at every sign. -/
structure PsOk (p : Ps) (m : Nat) : Prop where
  pa : PaOk p
  tx : p.tx.length ≤ 128
  se : p.se ≤ m
theorem bg_ok (st m : Nat) : PsOk (bg st) m := ⟨⟨.inl ⟨rfl, rfl⟩, fun x hx => by cases hx⟩, Nat.zero_le _, Nat.zero_le _⟩
theorem digit_tx (p : Ps) (n : Int) : (digitM p n).tx = p.tx ∧ (digitM p n).se = p.se := by
  unfold digitM firstM
  split <;> split <;> exact ⟨rfl, rfl⟩
theorem sep_tx (p : Ps) : (sepM p).tx = p.tx ∧ (sepM p).se = p.se + 1 := by
  unfold sepM firstM
  split <;> split <;> exact ⟨rfl, rfl⟩
theorem esc_ok (r : Int) (m : Nat) : PsOk (inEscapeM r).1 m := by
  unfold inEscapeM
  repeat' split
  all_goals exact ⟨⟨.inl ⟨rfl, rfl⟩, fun x hx => by cases hx⟩, Nat.zero_le _, Nat.zero_le _⟩
theorem between_ok {p : Ps} {m : Nat} (h : PsOk p m) (r : Int) : PsOk (inBetweenM p r).1 m := by
  unfold inBetweenM endM
  split
  · exact h
  split
  · exact ⟨h.pa, h.tx, h.se⟩
  split
  · exact bg_ok _ _
  split
  · exact bg_ok _ _
  · exact h
theorem command_ok {p : Ps} {m : Nat} (h : PsOk p m) (r : Int) : PsOk (inCommandM p r).1 m := by
  unfold inCommandM commandM endM
  split
  · exact bg_ok _ _
  split
  · exact h
  split
  · exact h
  split
  · rename_i h5
    exact ⟨h.pa, by show (p.tx ++ [r]).length ≤ 128; rw [List.length_append]; exact h5, h.se⟩
  · exact h
theorem ite_fst {c : Prop} [Decidable c] (a b : Ps × Ev) {m : Nat} (ha : c → PsOk a.1 m) (hb : ¬c → PsOk b.1 m) : PsOk (if c then a else b).1 m := by
  split
  · exact ha ‹_›
  · exact hb ‹_›
theorem control_ok {p : Ps} {m : Nat} (h : PsOk p m) (r : Int) : PsOk (inControlM p r).1 (m + 1) := by
  have hs : p.se ≤ m + 1 := Nat.le_succ_of_le h.se
  have self : PsOk p (m + 1) := ⟨h.pa, h.tx, hs⟩
  unfold inControlM endM
  refine ite_fst _ _ (fun _ => self) (fun h1 => ?_)
  refine ite_fst _ _ (fun _ => ⟨h.pa, h.tx, hs⟩) (fun h2 => ?_)
  refine ite_fst _ _ (fun _ => ⟨h.pa, h.tx, hs⟩) (fun _ => ?_)
  refine ite_fst _ _ (fun _ => ⟨digit_ok h.pa _ (by omega), ?_, ?_⟩) (fun _ => ?_)
  · rw [(digit_tx _ _).1]; exact h.tx
  · rw [(digit_tx _ _).2]; exact hs
  refine ite_fst _ _ (fun _ => ⟨sep_ok h.pa, ?_, ?_⟩) (fun _ => ?_)
  · rw [(sep_tx _).1]; exact h.tx
  · rw [(sep_tx _).2]; exact Nat.succ_le_succ h.se
  refine ite_fst _ _ (fun _ => ⟨h.pa, h.tx, hs⟩) (fun _ => ?_)
  refine ite_fst _ _ (fun _ => bg_ok _ _) (fun _ => ?_)
  exact ite_fst _ _ (fun _ => bg_ok _ _) (fun _ => self)
theorem PsOk.more {p : Ps} {m : Nat} (h : PsOk p m) : PsOk p (m + 1) := ⟨h.pa, h.tx, Nat.le_succ_of_le h.se⟩
theorem take_ok {p : Ps} {m : Nat} (h : PsOk p m) (r : Int) : PsOk (takeM p r).1 (m + 1) := by
  have self := h.more
  unfold takeM
  refine ite_fst _ _ (fun _ => bg_ok _ _) (fun _ => ?_)
  refine ite_fst _ _ (fun _ => bg_ok _ _) (fun _ => ?_)
  refine ite_fst _ _ (fun _ => ?_) (fun _ => ?_)
  · show PsOk (interruptM p) (m + 1)
    unfold interruptM
    split
    · exact ⟨self.pa, self.tx, self.se⟩
    split
    · exact ⟨self.pa, self.tx, self.se⟩
    · exact bg_ok _ _
  refine ite_fst _ _ (fun _ => esc_ok _ _) (fun _ => ?_)
  refine ite_fst _ _ (fun _ => (between_ok h r).more) (fun _ => ?_)
  refine ite_fst _ _ (fun _ => control_ok h r) (fun _ => ?_)
  refine ite_fst _ _ (fun _ => (command_ok h r).more) (fun _ => ?_)
  refine ite_fst _ _ (fun _ => self) (fun _ => ?_)
  refine ite_fst _ _ (fun _ => ite_fst _ _ (fun _ => bg_ok _ _) (fun _ => esc_ok _ _)) (fun _ => ?_)
  exact ite_fst _ _ (fun _ => ite_fst _ _ (fun _ => bg_ok _ _) (fun _ => esc_ok _ _)) (fun _ => self)
/-- a sign more. -/
def feedS (s : Ps × List Ev) (r : Int) : Ps × List Ev := ((takeM s.1 r).1, if (takeM s.1 r).2.kind = 0 then s.2 else s.2 ++ [(takeM s.1 r).2])
def feedM (p : Ps) (l : List Int) : Ps × List Ev := l.foldl feedS (p, [])
theorem feedM_snoc (p : Ps) (l : List Int) (r : Int) : feedM p (l ++ [r]) = feedS (feedM p l) r := by unfold feedM; rw [List.foldl_append]; rfl
theorem foldl_ok (l : List Int) : ∀ (s : Ps × List Ev) (m : Nat), PsOk s.1 m → PsOk (l.foldl feedS s).1 (m + l.length) := by
  induction l with
  | nil => intro s m h; exact h
  | cons r l ih =>
    intro s m h
    rw [List.foldl_cons, List.length_cons, show m + (l.length + 1) = m + 1 + l.length by omega]
    exact ih _ _ (take_ok h r)
theorem feed_ok {p : Ps} {m : Nat} (h : PsOk p m) (l : List Int) : PsOk (feedM p l).1 (m + l.length) := foldl_ok l (p, []) m h
theorem foldl_le (l : List Int) : ∀ (s : Ps × List Ev), (l.foldl feedS s).2.length ≤ s.2.length + l.length := by
  induction l with
  | nil => intro s; exact Nat.le_refl _
  | cons r l ih =>
    intro s
    rw [List.foldl_cons, List.length_cons]
    have h := ih (feedS s r)
    have h2 : (feedS s r).2.length ≤ s.2.length + 1 := by
      unfold feedS
      dsimp only
      split
      · omega
      · rw [List.length_append]; exact Nat.le_refl _
    omega
theorem evs_le (p : Ps) (l : List Int) : (feedM p l).2.length ≤ l.length := by
  have := foldl_le l (p, [])
  simpa [feedM] using this
/-- an event in memory. -/
structure EW where
  E : Ev
  a : Option Addr
  c : Nat
def pvV (q : EW) : Value := .slice q.a q.E.pa.length q.c
def ecells (q : EW) : List Value := [.int .i64 (q.E.kind : Int), .int .i32 q.E.rune, pvV q, .int .i32 q.E.pv, .int .i32 q.E.it, .int .i32 q.E.fi, .string q.E.tx]
/-- a row of events, and their params beside it. -/
def EvI (w : World) (V : Value) (qs : List EW) : Prop := w.ownsRow 0 40 7 V qs.length (qs.flatMap ecells) ∧ ∀ q ∈ qs, w.ownsRow 0 3 1 (pvV q) q.E.pa.length (iv q.E.pa)
theorem evI_nil (w : World) : EvI w (.slice none 0 0) [] := ⟨World.ownsRow_nil _ _ _ _, fun q hq => by cases hq⟩
/-- rows beside a parser that goes on. -/
theorem own_fr {w w' : World} {g size n : Nat} {v x u : Value} {e : TypeId} {xs : List Value} {P : Ps} (hp : PrV w g v x P) (hf : Fr g v x w w') (h : w.ownsRow 0 e size u n xs) (he : e ≠ 49) (hv : ∀ k, u.ownBlock = some k → v.ownBlock ≠ some k) (hx : e ≠ 21) : w'.ownsRow 0 e size u n xs := by
  refine ⟨h.1, ?_⟩
  rcases h.2 with h1 | ⟨g1, cap, cur, hu, h0, h1, rest⟩
  · exact .inl h1
  · refine .inr ⟨g1, cap, cur, hu, h0, ?_, rest⟩
    rw [hf.block g1 (lt_of h1) (fun e1 => ?_) (hv g1 (by rw [hu]; rfl)) (own_kind hp.tx h1 hx)]
    · exact h1
    · subst e1
      rw [hp.row] at h1
      injection h1 with h1; injection h1 with _ h1; exact he h1.symm
theorem own_kind7 {w : World} {e T : TypeId} {v : Value} {n k size : Nat} {xs : List Value} {cs : Array Value} (h : w.ownsRow 0 e size v n xs) (hk : w.heap[k]? = some (.cells cs T (0, 0))) (hT : T ≠ e) : v.ownBlock ≠ some k := by
  intro hv
  rcases h.2 with ⟨rfl, _⟩ | ⟨g1, cap, cur, rfl, _, h1, _⟩
  · cases hv
  · have : g1 = k := by injection hv
    rw [this, hk] at h1
    injection h1 with h1; injection h1 with _ h1; exact hT h1
/-- a row of events beside a parser that goes on. -/
theorem evI_fr {w w' : World} {g : Nat} {v x V : Value} {P : Ps} {qs : List EW} (hp : PrV w g v x P) (hf : Fr g v x w w') (h : EvI w V qs) (hs : ∀ q ∈ qs, ∀ k, (pvV q).ownBlock = some k → v.ownBlock ≠ some k) : EvI w' V qs := by
  refine ⟨?_, fun q hq => own_fr hp hf (h.2 q hq) (by decide) (hs q hq) (by decide)⟩
  refine own_fr hp hf h.1 (by decide) (fun k hk e => ?_) (by decide)
  rcases h.1.2 with ⟨rfl, _⟩ | ⟨g1, cap, cur, rfl, _, h1, _⟩
  · cases hk
  · have : g1 = k := by injection hk
    subst this
    exact own_kind hp.pa h1 (by decide) e
theorem info40 : (Try.prog.info? 40).map (fun i => (i.zero, i.size, i.bytes)) = some (some (.agg #[.int .i64 0, .int .i32 0, .slice none 0 0, .int .i32 0, .int .i32 0, .int .i32 0, .string ⟨#[]⟩]), 7, 72) := by kernel_rfl
theorem ecells_one (q : EW) : ∀ u ∈ ecells q, u.oneCell' = true := by
  intro u hu
  simp only [ecells, pvV, List.mem_cons, List.not_mem_nil, or_false] at hu
  rcases hu with rfl | rfl | rfl | rfl | rfl | rfl | rfl <;> rfl
/-- rows of another kind beside a row that grew. -/
theorem own_other {w w' : World} {e e2 : TypeId} {v u : Value} {n n2 size size2 : Nat} {xs ys : List Value} (h : w.ownsRow 0 e size v n xs) (hu : w.ownsRow 0 e2 size2 u n2 ys) (he : e ≠ e2) (hg : w.grownBy w' u.ownBlock) : w'.ownsRow 0 e size v n xs := by
  refine h.kept hg ?_
  cases hv : v.ownBlock with
  | none => exact .inl rfl
  | some k =>
    refine .inr (fun h2 => ?_)
    rcases h.2 with ⟨rfl, _⟩ | ⟨g1, c1, u1, rfl, _, h1, _⟩
    · cases hv
    · have e1 : g1 = k := by injection hv
      subst e1
      exact own_kind7 hu h1 he h2.symm
/-- events more, ahead of what follows. -/
theorem app_evs {ops : Array Oper} {rest : List Oper} {o : Oper} {a : Act} {Q : Exit → Act → World → Prop} {w : World} (hgd : o.guard = none) (s y : Operand)
    (ho : o.op = .call { callee := .builtin .append, args := #[s, y], argTypes := #[33, 33] }) (V : Value) (qs ms : List EW) (hs : a.eval s = V) (hI : EvI w V qs) (k m c : Nat) (hx : a.eval y = .slice (some ⟨k, 0, none⟩) m c) (hm : m = ms.length) (h0 : 0 < m) (hk : ∀ j u, (ms.flatMap ecells)[j]? = some u → w.cell? ⟨k, j, none⟩ = some u) (hms : ∀ q ∈ ms, w.ownsRow 0 3 1 (pvV q) q.E.pa.length (iv q.E.pa)) (hn : qs.length + m ≤ 100000)
    (h : ∀ V' w', EvI w' V' (qs ++ ms) → w.grownBy w' V.ownBlock → New w V V' → (∀ (e2 : TypeId) (size n : Nat) (v : Value) (xs : List Value), e2 ≠ 40 → w.ownsRow 0 e2 size v n xs → w'.ownsRow 0 e2 size v n xs) → wpList Try.prog ops Q rest (a.put o.dst V') w') : wpList Try.prog ops Q (o :: rest) a w := by
  have hl : ∀ l : List EW, (l.flatMap ecells).length = l.length * 7 := by
    intro l
    induction l with
    | nil => rfl
    | cons q l ih => rw [List.flatMap_cons, List.length_append, ih, List.length_cons, show (ecells q).length = 7 from rfl]; omega
  obtain ⟨v', w', hr, h2, h3, h4⟩ := run_own w 33 o.type 40 _ 7 72 info40 Try.underlying33 rfl (by decide) (by decide) V qs.length (qs.flatMap ecells) hI.1 ⟨k, 0, none⟩ m c (ms.flatMap ecells) (by rw [hl, hm]) (fun j u hj => by
    have hadd : (⟨k, 0, none⟩ : Addr).add j = ⟨k, j, none⟩ := by unfold Addr.add; split <;> simp_all
    rw [hadd]; exact hk j u hj) (fun u hu => by
      obtain ⟨q, _, hq⟩ := List.mem_flatMap.1 hu
      exact ecells_one q u hq) hn h0
  have hoth : ∀ (e2 : TypeId) (size n : Nat) (v : Value) (xs : List Value), e2 ≠ 40 → w.ownsRow 0 e2 size v n xs → w'.ownsRow 0 e2 size v n xs := fun e2 size n v xs he hv => own_other hv hI.1 he h3
  refine Lib.wpList_append_run_sl w hgd s y 33 ho _ _ hs hx hr (h v' w' ⟨?_, fun q hq => ?_⟩ h3 h4 hoth)
  · rw [List.length_append, List.flatMap_append, ← hm]; exact h2
  · rcases List.mem_append.1 hq with hq | hq
    · exact hoth _ _ _ _ _ (by decide) (hI.2 q hq)
    · exact hoth _ _ _ _ _ (by decide) (hms q hq)

end Go.Proofs.Ytnaiefjbfpejbaa.Ey
