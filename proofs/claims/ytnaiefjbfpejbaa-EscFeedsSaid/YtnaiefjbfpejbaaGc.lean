/- What is fed in pieces. -/
import Derived.Test.YtnaiefjbfpejbaaGb
set_option linter.unusedVariables false
namespace Go.Proofs.Ytnaiefjbfpejbaa.Gc
open Go Go.RowKit Kit Ep Eb Er Ea Es Et Eu Ev Ek Ew Ex Ey Ez Fa Fb Fc Fd Ga Gb


theorem ite_P {Q : Ps → Prop} {c : Prop} [Decidable c] (a b : Ps × Ev) (ha : c → Q a.1) (hb : ¬c → Q b.1) : Q (if c then a else b).1 := by
  split
  · exact ha ‹_›
  · exact hb ‹_›
theorem first_st (p : Ps) : (firstM p).st = p.st := by unfold firstM; split <;> rfl
theorem digit_st (p : Ps) (n : Int) : (digitM p n).st = p.st := by
  unfold digitM
  split <;> exact first_st p
theorem sep_st (p : Ps) : (sepM p).st = p.st := by
  unfold sepM
  split <;> exact first_st p
theorem esc_st (r : Int) : (inEscapeM r).1.st ≤ 7 := by
  unfold inEscapeM
  repeat' split
  all_goals exact Nat.le_of_ble_eq_true rfl
/-- a parser's state is one of eight. -/
theorem take_st {p : Ps} (h : p.st ≤ 7) (r : Int) : (takeM p r).1.st ≤ 7 := by
  have b : ∀ n, n ≤ 7 → (bg n).st ≤ 7 := fun n h => h
  unfold takeM
  refine ite_P (Q := fun q => q.st ≤ 7) _ _ (fun _ => b 0 (by decide)) (fun _ => ?_)
  refine ite_P (Q := fun q => q.st ≤ 7) _ _ (fun _ => b 0 (by decide)) (fun _ => ?_)
  refine ite_P (Q := fun q => q.st ≤ 7) _ _ (fun _ => ?_) (fun _ => ?_)
  · show (interruptM p).st ≤ 7
    unfold interruptM
    split
    · exact Nat.le_of_ble_eq_true rfl
    split
    · exact Nat.le_of_ble_eq_true rfl
    · exact b 1 (by decide)
  refine ite_P (Q := fun q => q.st ≤ 7) _ _ (fun _ => esc_st r) (fun _ => ?_)
  refine ite_P (Q := fun q => q.st ≤ 7) _ _ (fun _ => ?_) (fun _ => ?_)
  · unfold inBetweenM endM
    refine ite_P (Q := fun q => q.st ≤ 7) _ _ (fun _ => h) (fun _ => ?_)
    refine ite_P (Q := fun q => q.st ≤ 7) _ _ (fun _ => h) (fun _ => ?_)
    refine ite_P (Q := fun q => q.st ≤ 7) _ _ (fun _ => b 0 (by decide)) (fun _ => ?_)
    exact ite_P (Q := fun q => q.st ≤ 7) _ _ (fun _ => b 0 (by decide)) (fun _ => h)
  refine ite_P (Q := fun q => q.st ≤ 7) _ _ (fun _ => ?_) (fun _ => ?_)
  · unfold inControlM endM
    refine ite_P (Q := fun q => q.st ≤ 7) _ _ (fun _ => h) (fun _ => ?_)
    refine ite_P (Q := fun q => q.st ≤ 7) _ _ (fun _ => h) (fun _ => ?_)
    refine ite_P (Q := fun q => q.st ≤ 7) _ _ (fun _ => h) (fun _ => ?_)
    refine ite_P (Q := fun q => q.st ≤ 7) _ _ (fun _ => by show (digitM p _).st ≤ 7; rw [digit_st]; exact h) (fun _ => ?_)
    refine ite_P (Q := fun q => q.st ≤ 7) _ _ (fun _ => by show (sepM p).st ≤ 7; rw [sep_st]; exact h) (fun _ => ?_)
    refine ite_P (Q := fun q => q.st ≤ 7) _ _ (fun _ => h) (fun _ => ?_)
    refine ite_P (Q := fun q => q.st ≤ 7) _ _ (fun _ => b 0 (by decide)) (fun _ => ?_)
    exact ite_P (Q := fun q => q.st ≤ 7) _ _ (fun _ => b 0 (by decide)) (fun _ => h)
  refine ite_P (Q := fun q => q.st ≤ 7) _ _ (fun _ => ?_) (fun _ => ?_)
  · unfold inCommandM commandM endM
    refine ite_P (Q := fun q => q.st ≤ 7) _ _ (fun _ => b 0 (by decide)) (fun _ => ?_)
    refine ite_P (Q := fun q => q.st ≤ 7) _ _ (fun _ => h) (fun _ => ?_)
    refine ite_P (Q := fun q => q.st ≤ 7) _ _ (fun _ => h) (fun _ => ?_)
    exact ite_P (Q := fun q => q.st ≤ 7) _ _ (fun _ => h) (fun _ => h)
  refine ite_P (Q := fun q => q.st ≤ 7) _ _ (fun _ => h) (fun _ => ?_)
  refine ite_P (Q := fun q => q.st ≤ 7) _ _ (fun _ => ite_P (Q := fun q => q.st ≤ 7) _ _ (fun _ => b 0 (by decide)) (fun _ => esc_st r)) (fun _ => ?_)
  exact ite_P (Q := fun q => q.st ≤ 7) _ _ (fun _ => ite_P (Q := fun q => q.st ≤ 7) _ _ (fun _ => b 0 (by decide)) (fun _ => esc_st r)) (fun _ => h)
theorem foldl_st (l : List Int) : ∀ (s : Ps × List Ev), s.1.st ≤ 7 → (l.foldl feedS s).1.st ≤ 7 := by
  induction l with
  | nil => intro s h; exact h
  | cons r l ih => intro s h; exact ih _ (take_st h r)
theorem feed_st (l : List Int) : (feedM (bg 0) l).1.st ≤ 7 := foldl_st l (bg 0, []) (Nat.zero_le _)
theorem foldl_pa (l : List Int) : ∀ (s : Ps × List Ev) (m : Nat), PsOk s.1 m → (∀ E ∈ s.2, E.pa.length ≤ 16) → ∀ E ∈ (l.foldl feedS s).2, E.pa.length ≤ 16 := by
  induction l with
  | nil => intro s m _ h; exact h
  | cons r l ih =>
    intro s m hk h
    refine ih (feedS s r) (m + 1) (take_ok hk r) ?_
    unfold feedS
    dsimp only
    split
    · exact h
    · intro E hE
      rcases List.mem_append.1 hE with hE | hE
      · exact h E hE
      · obtain rfl := List.mem_singleton.1 hE
        rcases take_ev s.1 r with ⟨_, _, h3⟩ | ⟨_, h3⟩
        · rw [h3]
          rcases hk.pa.1 with ⟨h4, _⟩ | h4
          · rw [h4]; exact Nat.zero_le _
          · rw [h4]; omega
        · rw [h3]; exact Nat.zero_le _
theorem feed_pa (l : List Int) : ∀ E ∈ (feedM (bg 0) l).2, E.pa.length ≤ 16 := foldl_pa l (bg 0, []) 0 (bg_ok 0 0) (fun E hE => by cases hE)
theorem feed_one (p : Ps) (r : Int) : feedM p [r] = ((takeM p r).1, if (takeM p r).2.kind = 0 then [] else [(takeM p r).2]) := by
  show feedS (p, []) r = _
  unfold feedS
  dsimp only
  split <;> rfl
theorem feed_more (p : Ps) (l : List Int) (i : Nat) (h : i < l.length) : (feedM p (l.take (i + 1))).1 = (feedM (feedM p (l.take i)).1 [l[i]]).1 ∧ (feedM p (l.take (i + 1))).2 = (feedM p (l.take i)).2 ++ (feedM (feedM p (l.take i)).1 [l[i]]).2 := by
  rw [take_succ h, feedM_snoc, feed_one]
  unfold feedS
  refine ⟨rfl, ?_⟩
  dsimp only
  split
  · rw [List.append_nil]
  · rfl
theorem feed_can (p : Ps) : feedM p [24] = (bg 0, []) := rfl
theorem feed_x : feedM (bg 0) [120] = (bg 0, [printE 120]) := rfl
theorem run_own0 (w : World) (t ty e : TypeId) (z : Value) (size bytes : Nat) (hinfo : (Try.prog.info? e).map (fun i => (i.zero, i.size, i.bytes)) = some (some z, size, bytes)) (ht : Try.prog.underlying t = some (.slice e)) (hzs : z.cells.size = size) (hsz : 0 < size) (hby : bytes ≤ 128)
    (v : Value) (n : Nat) (xs : List Value) (hown : w.ownsRow 0 e size v n xs) (ad : Addr) (m c : Nat) (news : List Value) (hl : news.length = m * size) (hnews : ∀ j u, news[j]? = some u → w.cell? (ad.add j) = some u) (h1 : ∀ u ∈ news, u.oneCell' = true) (hn : n + m ≤ 100000) :
    ∃ v' w', (Builtin.append_ #[t, t] ty #[v, .slice (some ad) m c]).run Try.prog w = .ok v' w' ∧ w'.ownsRow 0 e size v' (n + m) (xs ++ news) ∧ w.grownBy w' v.ownBlock ∧ New w v v' := by
  obtain ⟨i0, hi, hz, hs, hb⟩ := info_parts hinfo
  have hbb : (n + m) * bytes ≤ 100000 * 128 := Nat.mul_le_mul hn hby
  obtain ⟨v', w', hr, h2, h3, h4⟩ := run_append_own (P := Try.prog) w 0 t ty e i0 z size bytes ht hi hz hs hb hzs hsz v n xs hown ad m c news hl hnews h1 (by unfold maxLen; omega) (by omega) (Nat.zero_le _)
  refine ⟨v', w', hr, h2, h3, ?_⟩
  rcases hown.2 with ⟨rfl, rfl⟩ | ⟨g0, cap, cur, rfl, _, hg, hnc, _, hcs, _⟩
  · by_cases hm : m = 0
    · have := h4.2 ⟨rfl, hm⟩
      rw [this]; exact New.nil _ _
    · have hr2 := run_append_nil (P := Try.prog) w t ty e i0 _ ht hi hz ad m c news (by rw [hl, hs]) hnews (Nat.pos_of_ne_zero hm) (by omega) (by rw [hb]; rw [Nat.zero_add] at hbb; omega)
      rw [hr] at hr2
      injection hr2 with e1 e2
      subst e1
      intro k hk
      have : w.heap.size = k := by injection hk
      exact .inr (by omega)
  · by_cases hroom : n + m ≤ cap
    · have hfit : n * i0.size + news.length ≤ cur.size := by rw [hl, hcs, hs, ← Nat.add_mul]; exact Nat.mul_le_mul_right _ hroom
      have hr2 := run_append_room (P := Try.prog) w t ty e i0 ht hi g0 n cap cur hg ad m c news (by rw [hl, hs]) hnews h1 hroom hfit
      rw [hr] at hr2
      injection hr2 with e1 e2
      subst e1
      exact fun k hk => .inl hk
    · have holds : ∀ j u, xs[j]? = some u → w.cell? ((⟨g0, 0, none⟩ : Addr).add j) = some u := hown.cells (g := g0) rfl
      have hr2 := run_append_grow (P := Try.prog) w t ty e i0 _ ht hi hz ⟨g0, 0, none⟩ n cap xs (by rw [hs]; exact hown.1) holds ad m c news (by rw [hl, hs]) hnews (by omega) (by omega) (by rw [hb]; exact growslice_fits_wide (by omega) (by
        have : (n + m + (n + m) / 4 + 192) * bytes ≤ 200000 * 128 := Nat.mul_le_mul (by omega) hby
        omega))
      rw [hr] at hr2
      injection hr2 with e1 e2
      subst e1
      intro k hk
      have : w.heap.size = k := by injection hk
      exact .inr (by omega)
/-- events behind a row of events. -/
theorem app_all {ops : Array Oper} {rest : List Oper} {o : Oper} {a : Act} {Q : Exit → Act → World → Prop} {w : World} (hgd : o.guard = none) (s y : Operand)
    (ho : o.op = .call { callee := .builtin .append, args := #[s, y], argTypes := #[33, 33] }) (V X : Value) (qs ms : List EW) (hs : a.eval s = V) (hI : EvI w V qs) (hx : a.eval y = X) (hX : EvI w X ms) (hn : qs.length + ms.length ≤ 100000)
    (h : ∀ V' w', EvI w' V' (qs ++ ms) → w.grownBy w' V.ownBlock → New w V V' → wpList Try.prog ops Q rest (a.put o.dst V') w') : wpList Try.prog ops Q (o :: rest) a w := by
  rcases hX.1.2 with ⟨rfl, h0⟩ | ⟨k, cap, cur, rfl, _⟩
  · have : ms = [] := List.eq_nil_of_length_eq_zero h0
    subst this
    obtain ⟨i0, hi, hz0, hz1, hz2⟩ := info_parts info40
    refine wpList_append_own_none hgd s y 33 ho 0 40 i0 7 Try.underlying33 hi V _ _ hs hI.1 hx ?_
    exact h V w (by rw [List.append_nil]; exact hI) (World.grownBy.refl _ _) (New.refl _ _)
  · have hlq : ∀ l : List EW, (l.flatMap ecells).length = l.length * 7 := by
      intro l
      induction l with
      | nil => rfl
      | cons q l ih => rw [List.flatMap_cons, List.length_append, ih, List.length_cons, show (ecells q).length = 7 from rfl]; omega
    obtain ⟨V', w', hr, h2, h3, h4⟩ := run_own0 w 33 o.type 40 _ 7 72 info40 Try.underlying33 rfl (by decide) (by decide) V qs.length (qs.flatMap ecells) hI.1 ⟨k, 0, none⟩ ms.length cap (ms.flatMap ecells) (hlq ms) (fun j u hj => hX.1.cells (g := k) rfl j u hj) (fun u hu => by
      obtain ⟨q, _, hq⟩ := List.mem_flatMap.1 hu
      exact ecells_one q u hq) hn
    refine Lib.wpList_append_run_sl w hgd s y 33 ho _ _ hs hx hr (h V' w' ⟨?_, fun q hq => ?_⟩ h3 h4)
    · rw [List.length_append, List.flatMap_append]; exact h2
    · rcases List.mem_append.1 hq with hq | hq
      · exact own_other (hI.2 q hq) hI.1 (by decide) h3
      · exact own_other (hX.2 q hq) hI.1 (by decide) h3

end Go.Proofs.Ytnaiefjbfpejbaa.Gc
