/- Both ends do the same. -/
import Derived.Test.YtmfkfpgomglplaaDoorZa
set_option linter.unusedVariables false
namespace Go.Proofs.YtmfkfpgomglplaaDoor.Zb
open Go Go.RowKit Kit Mb Sha Ap Mc1 Sc Mx Sb Pd Su Pa Hm Mm Tg Mf Pk Se Wn Op Pe Ps Pt Oq Pu Ar Of Pz Tl Za


/-- an answer: its code, its bytes, and the end as it is left. -/
structure An where
  (e : Int) (l : List Nat) (q : Pe)
def sdR (q : Pe) (l : List Nat) : An :=
  if q.out = 4611686018427387904 then ⟨17, [], q⟩ else
  if 1200 < l.length then ⟨4, [], q⟩ else ⟨0, sealL q.key q.d q.v (q.out + 1) l, { q with out := q.out + 1 }⟩
def tkR (q : Pe) (fr : Int) (b : List Nat) : An :=
  if (oR q.key b).e ≠ 0 then ⟨(oR q.key b).e, [], q⟩ else
  if (oR q.key b).d = (q.d : Int) ∨ (oR q.key b).v ≠ (q.v : Int) then ⟨2, [], q⟩ else
  if ¬ q.last < (oR q.key b).n then ⟨14, [], q⟩ else
  ⟨0, (oR q.key b).body, { q with last := (oR q.key b).n, ad := if 0 ≤ fr then fr else q.ad }⟩
theorem sd_ok {q : Pe} (h : Ok q) (l : List Nat) : Ok (sdR q l).q := by
  unfold sdR
  split
  · exact h
  split
  · exact h
  · have := h.om
    exact ⟨h.kl, h.klen, h.d1, h.d2, h.v8, by show q.out + 1 ≤ _; omega⟩
theorem tk_ok {q : Pe} (h : Ok q) (fr : Int) (b : List Nat) : Ok (tkR q fr b).q := by
  unfold tkR
  split
  · exact h
  split
  · exact h
  split
  · exact h
  · exact ⟨h.kl, h.klen, h.d1, h.d2, h.v8, h.om⟩
theorem sd_lt {q : Pe} (h : Ok q) {l : List Nat} (hl : ∀ c ∈ l, c < 256) : ∀ c ∈ (sdR q l).l, c < 256 := by
  unfold sdR
  split
  · intro c hc; simp at hc
  split
  · intro c hc; simp at hc
  · have h1 := h.d2
    have h2 := h.v8
    exact sealL_lt _ _ _ _ _ (by omega) (by omega) hl
theorem tk_lt (q : Pe) (fr : Int) {b : List Nat} (hb : ∀ c ∈ b, c < 256) : ∀ c ∈ (tkR q fr b).l, c < 256 := by
  unfold tkR
  split
  · intro c hc; simp at hc
  split
  · intro c hc; simp at hc
  split
  · intro c hc; simp at hc
  · exact oR_lt q.key b hb
theorem sd_len (q : Pe) (l : List Nat) : (sdR q l).l.length ≤ 1226 := by
  unfold sdR
  split
  · simp
  split
  · simp
  · show (sealL _ _ _ _ _).length ≤ 1226
    rw [sealL_len]; omega
theorem oR_d (key b : List Nat) (h : (oR key b).e = 0) : 1 ≤ (oR key b).d ∧ (oR key b).d ≤ 2 := by
  unfold oR at h ⊢
  split at h
  · simp at h
  · rename_i h1
    rw [if_neg h1]
    split at h
    · rename_i h2
      rw [if_pos h2]
      split at h
      · rename_i h3
        rw [if_pos h3]
        obtain ⟨D, V, e1, e2, h4, h5, _⟩ := may_nat h3
        show 1 ≤ ((b.getD 0 0 : Nat) : Int) ∧ ((b.getD 0 0 : Nat) : Int) ≤ 2
        omega
      · simp at h
    · simp at h
/-- what the code's end answers. -/
def AnP (x : Pl) (R : An) (w : World) (e : Ending) (w' : World) : Prop :=
  ∃ b c, e = .returned (.tuple #[.slice b R.l.length c, .int .i64 R.e]) ∧ Sl w' b R.l ∧ (∀ y, b = some y → w.heap.size ≤ y.block) ∧ Pr w' x R.q ∧ Bt x.lo x.hi w w'
/-- what the document's end answers. -/
def DaP (y : Dl) (R : An) (w : World) (e : Ending) (w' : World) : Prop :=
  ∃ b c, e = .returned (.tuple #[.slice b R.l.length c, .int .i64 R.e]) ∧ Sl w' b R.l ∧ De w' y R.q ∧ Bt y.lo y.hi w w'
def DrP (y : Dl) (R : An) (w : World) (e : Ending) (w' : World) : Prop :=
  ∃ b c, e = .returned (.tuple #[.slice b R.l.length c, .int .i64 R.e]) ∧ Rb w' w.heap.size (.slice b R.l.length c) R.l ∧ De w' y R.q ∧ Bt y.lo y.hi w w'
theorem an_no {x : Pl} {q : Pe} {E : Int} {w w' : World} (hp : Pr w x q) (b : Below w.heap.size w w') : AnP x ⟨E, [], q⟩ w (.returned (.tuple #[.slice none 0 0, .int .i64 E])) w' :=
  ⟨none, 0, rfl, .inl rfl, (fun y h => by cases h), hp.then_ b, Bt.of b⟩
theorem da_no {y : Dl} {q : Pe} {E : Int} {w w' : World} (hp : De w y q) (b : Below w.heap.size w w') : DaP y ⟨E, [], q⟩ w (.returned (.tuple #[.slice none 0 0, .int .i64 E])) w' :=
  ⟨none, 0, rfl, .inl rfl, hp.then_ b, Bt.of b⟩
theorem dr_no {y : Dl} {q : Pe} {E : Int} {w w' : World} (hp : De w y q) (b : Below w.heap.size w w') : DrP y ⟨E, [], q⟩ w (.returned (.tuple #[.slice none 0 0, .int .i64 E])) w' :=
  ⟨none, 0, rfl, World.ownsRow_nil _ _ _ _, hp.then_ b, Bt.of b⟩
theorem sendG (x : Pl) (q : Pe) (p : Part) (m : Nat) (R : An) (w : World) (hm : m = p.l.length) (hR : sdR q p.l = R) (hq : Ok q) (hp : Pr w x q) (hs : Pt w p) (hT : TabR w) (hB : TabB w) :
    Calls Tryd.prog 41 #[.pointer (some ⟨x.g, 0, none⟩), .slice p.a m p.cap] w (AnP x R w) := by
  subst hm hR
  have om := hq.om
  by_cases h1 : q.out = 4611686018427387904
  · have e : sdR q p.l = ⟨17, [], q⟩ := by unfold sdR; rw [if_pos h1]
    rw [e]
    refine (sendEnd x q _ _ _ w hp h1).mono ?_
    rintro e w' ⟨rfl, rfl⟩
    exact an_no hp (Below.refl _ _)
  by_cases h2 : 1200 < p.l.length
  · have e : sdR q p.l = ⟨4, [], q⟩ := by unfold sdR; rw [if_neg h1, if_pos h2]
    rw [e]
    refine (sendLong x q _ _ _ w hp (by omega) h2).mono ?_
    rintro e w' ⟨rfl, rfl⟩
    exact an_no hp (Below.refl _ _)
  · have e : sdR q p.l = ⟨0, sealL q.key q.d q.v (q.out + 1) p.l, { q with out := q.out + 1 }⟩ := by unfold sdR; rw [if_neg h1, if_neg h2]
    rw [e]
    refine (sendC x q p.a p.cap p.l w hq hp (by omega) hs.1 hs.2.1 hs.2.2.1 hs.2.2.2 (by omega) hT hB).mono ?_
    rintro e w' ⟨b, c, rfl, g1, g2, g3, g4, g5, g6, g7⟩
    refine ⟨b, c, ?_, g1, fun y hy => (g4 y hy).1, g5, g6⟩
    show _ = Ending.returned (.tuple #[.slice b (sealL q.key q.d q.v (q.out + 1) p.l).length c, .int .i64 0])
    rw [sealL_len]
theorem dsendG (x : Dl) (q : Pe) (p : Part) (m : Nat) (R : An) (w : World) (hm : m = p.l.length) (hR : sdR q p.l = R) (hq : Ok q) (hp : De w x q) (hs : Pt w p) :
    Calls Tryd.prog 42 #[.pointer (some ⟨x.g, 0, none⟩), .slice p.a m p.cap] w (DrP x R w) := by
  subst hm hR
  have om := hq.om
  by_cases h1 : q.out = 4611686018427387904
  · have e : sdR q p.l = ⟨17, [], q⟩ := by unfold sdR; rw [if_pos h1]
    rw [e]
    refine (dsendEnd x q _ _ _ w hp h1).mono ?_
    rintro e w' ⟨rfl, rfl⟩
    exact dr_no hp (Below.refl _ _)
  by_cases h2 : 1200 < p.l.length
  · have e : sdR q p.l = ⟨4, [], q⟩ := by unfold sdR; rw [if_neg h1, if_pos h2]
    rw [e]
    refine (dsendLong x q _ _ _ w hp (by omega) h2).mono ?_
    rintro e w' ⟨rfl, rfl⟩
    exact dr_no hp (Below.refl _ _)
  · have e : sdR q p.l = ⟨0, sealL q.key q.d q.v (q.out + 1) p.l, { q with out := q.out + 1 }⟩ := by unfold sdR; rw [if_neg h1, if_neg h2]
    rw [e]
    have hl : 26 + p.l.length = (sealL q.key q.d q.v (q.out + 1) p.l).length := (sealL_len _ _ _ _ _).symm
    refine (dsendC x q p.a _ (26 + p.l.length) p.cap p.l w rfl rfl hq hp (by omega) hs.1 hs.2.1 hs.2.2.1 hs.2.2.2 (by omega)).mono ?_
    rintro e w' ⟨b, c, rfl, g1, g2, g3⟩
    rw [hl] at g1
    refine ⟨b, c, ?_, g1, g2, g3⟩
    show _ = Ending.returned (.tuple #[.slice b (sealL q.key q.d q.v (q.out + 1) p.l).length c, .int .i64 0])
    rw [hl]
theorem takeG (x : Pl) (q : Pe) (fr : Int) (fa : Option Addr) (fn fc : Nat) (f : List Nat) (R : An) (w : World) (hn : fn = f.length) (hR : tkR q fr f = R) (hq : Ok q) (hp : Pr w x q) (hlen : f.length ≤ 100000) (hfc : f.length ≤ fc) (hf : Sl w fa f) (hfx : ∀ c ∈ f, c < 256) (hT : TabR w) (hB : TabB w) :
    Calls Tryd.prog 43 #[.pointer (some ⟨x.g, 0, none⟩), .int .i64 fr, .slice fa fn fc] w (AnP x R w) := by
  subst hR
  have bad : ∀ E : Int, E ≠ 0 → oR q.key f = ⟨0, 0, 0, [], E⟩ → Calls Tryd.prog 27 #[.slice x.ka q.key.length x.kc, .slice fa fn fc] w (fun e w' => e = .returned (.tuple #[.agg #[.int .i64 0, .int .i64 0, .int .u64 0, .slice none 0 0], .int .i64 E]) ∧ Below w.heap.size w w') → Calls Tryd.prog 43 #[.pointer (some ⟨x.g, 0, none⟩), .int .i64 fr, .slice fa fn fc] w (AnP x (tkR q fr f) w) := by
    intro E hE e1 K
    have e2 : tkR q fr f = ⟨E, [], q⟩ := by unfold tkR; rw [e1, if_pos hE]
    rw [e2]
    refine (takeBad x q fr E fa fn fc w hp hE K).mono ?_
    rintro e w' ⟨rfl, b⟩
    exact an_no hp b
  by_cases h26 : f.length < 26
  · exact bad 3 (by decide) (by unfold oR; rw [if_pos h26]) (openShortE fa fn fc x.ka q.key.length x.kc w (by omega))
  · obtain ⟨bb, bo, rfl, hc⟩ := sl_at hf (by omega)
    subst hn
    by_cases ht : tagL q.key (f.take (f.length - 16)) = f.drop (f.length - 16)
    · cases hm : mayB ((f.getD 0 0 : Nat) : Int) ((f.getD 1 0 : Nat) : Int) (numL ((f.drop 2).take 8)) (f.length - 16 - 10) with
      | false => exact bad 2 (by decide) (by unfold oR; rw [if_neg h26, if_pos ht, if_neg (by rw [hm]; decide)]) (openForm bb bo fc f x.ka x.kc q.key w (f.length - 16) (by omega) (by omega) (by omega) hfc hc hfx hp.ks hp.k0 hp.kcap hq.kl hq.klen hT hB ht _ _ _ _ rfl rfl rfl rfl hm)
      | true =>
        have KO := openOk bb bo fc f x.ka x.kc q.key w (f.length - 16) (by omega) (by omega) (by omega) hfc hc hfx hp.ks hp.k0 hp.kcap hq.kl hq.klen hT hB ht _ _ _ _ rfl rfl rfl rfl hm
        have e1 : oR q.key f = ⟨((f.getD 0 0 : Nat) : Int), ((f.getD 1 0 : Nat) : Int), numL ((f.drop 2).take 8), (f.drop 10).take (f.length - 16 - 10), 0⟩ := by unfold oR; rw [if_neg h26, if_pos ht, if_pos hm]
        by_cases hd : f.getD 0 0 = q.d
        · have e2 : tkR q fr f = ⟨2, [], q⟩ := by unfold tkR; rw [e1, if_neg (by simp), if_pos (.inl (by rw [hd]))]
          rw [e2]
          refine (takeForm1 x q fr _ _ fc _ _ _ _ w hp hd KO).mono ?_
          rintro e w' ⟨rfl, b⟩
          exact an_no hp b
        by_cases hv : f.getD 1 0 = q.v
        · have hdv : ¬ (((f.getD 0 0 : Nat) : Int) = (q.d : Int) ∨ ((f.getD 1 0 : Nat) : Int) ≠ (q.v : Int)) := by rw [hv]; omega
          by_cases hnw : q.last < numL ((f.drop 2).take 8)
          · by_cases hfr : 0 ≤ fr
            · have e2 : tkR q fr f = ⟨0, (f.drop 10).take (f.length - 16 - 10), { q with last := numL ((f.drop 2).take 8), ad := fr }⟩ := by unfold tkR; rw [e1, if_neg (by simp), if_neg hdv, if_neg (fun h => h hnw), if_pos hfr]
              rw [e2]
              refine (takeOkP x q fr _ _ fc _ _ _ _ w hp hd hv hnw hfr KO).mono ?_
              rintro e w' ⟨b, c, rfl, h1, h2, h3, h4, h5, h6⟩
              exact ⟨b, c, rfl, h1, fun y hy => (h4 y hy).1, h5, h6⟩
            · have e2 : tkR q fr f = ⟨0, (f.drop 10).take (f.length - 16 - 10), { q with last := numL ((f.drop 2).take 8), ad := q.ad }⟩ := by unfold tkR; rw [e1, if_neg (by simp), if_neg hdv, if_neg (fun h => h hnw), if_neg hfr]
              rw [e2]
              refine (takeOkN x q fr _ _ fc _ _ _ _ w hp hd hv hnw hfr KO).mono ?_
              rintro e w' ⟨b, c, rfl, h1, h2, h3, h4, h5, h6⟩
              exact ⟨b, c, rfl, h1, fun y hy => (h4 y hy).1, h5, h6⟩
          · have e2 : tkR q fr f = ⟨14, [], q⟩ := by unfold tkR; rw [e1, if_neg (by simp), if_neg hdv, if_pos hnw]
            rw [e2]
            refine (takeOldP x q fr _ _ fc _ _ _ _ w hp hd hv hnw KO).mono ?_
            rintro e w' ⟨rfl, b⟩
            exact an_no hp b
        · have e2 : tkR q fr f = ⟨2, [], q⟩ := by unfold tkR; rw [e1, if_neg (by simp), if_pos (.inr (fun h => hv (Int.ofNat.inj h)))]
          rw [e2]
          refine (takeForm2 x q fr _ _ fc _ _ _ _ w hp hd hv KO).mono ?_
          rintro e w' ⟨rfl, b⟩
          exact an_no hp b
    · exact bad 15 (by decide) (by unfold oR; rw [if_neg h26, if_neg ht]) (openTag bb bo fc f x.ka x.kc q.key w (f.length - 16) (by omega) (by omega) (by omega) hfc hc hfx hp.ks hp.k0 hp.kcap hq.kl hq.klen hT hB ht)
theorem dtakeG (x : Dl) (q : Pe) (fr : Int) (fa : Option Addr) (fn fc : Nat) (f : List Nat) (R : An) (w : World) (hn : fn = f.length) (hR : tkR q fr f = R) (hq : Ok q) (hp : De w x q) (hlen : f.length ≤ 100000) (hfc : f.length ≤ fc) (hf : Sl w fa f) (hfx : ∀ c ∈ f, c < 256) :
    Calls Tryd.prog 44 #[.pointer (some ⟨x.g, 0, none⟩), .int .i64 fr, .slice fa fn fc] w (DaP x R w) := by
  subst hR
  have KO := dopenG fa fn fc f x.ka q.key.length x.kc q.key w _ rfl hn rfl hlen hfc hf hfx hp.ks hp.k0 hp.kcap hq.kl hq.klen
  have hd12 := oR_d q.key f
  have q1 := hq.d1
  have q2 := hq.d2
  unfold tkR
  generalize oR q.key f = r at *
  obtain ⟨D, V, N, body, E⟩ := r
  dsimp only at *
  obtain ⟨o, ho⟩ : ∃ o, o + q.d = 3 := ⟨3 - q.d, by omega⟩
  by_cases hE : E = 0
  · subst hE
    have hd3 := hd12 rfl
    rw [if_neg (by simp)]
    by_cases hd : D = (q.d : Int)
    · rw [if_pos (.inl hd)]
      refine (dtakeForm1 x q fr fa fn fc D V N o body w hp q1 q2 ho (by omega) KO).mono ?_
      rintro e w' ⟨rfl, b⟩
      exact da_no hp b
    by_cases hv : V = (q.v : Int)
    · rw [if_neg (fun h => h.elim hd (fun h => h hv))]
      by_cases hnw : q.last < N
      · rw [if_neg (fun h => h hnw)]
        by_cases hfr : 0 ≤ fr
        · rw [if_pos hfr]
          exact (dtakeOkP x q fr fa fn fc D V N o body w hp q1 q2 ho (by omega) hv hnw hfr KO).mono (fun e w' h => h)
        · rw [if_neg hfr]
          exact (dtakeOkN x q fr fa fn fc D V N o body w hp q1 q2 ho (by omega) hv hnw hfr KO).mono (fun e w' h => h)
      · rw [if_pos hnw]
        refine (dtakeOld x q fr fa fn fc D V N o body w hp q1 q2 ho (by omega) hv hnw KO).mono ?_
        rintro e w' ⟨rfl, b⟩
        exact da_no hp b
    · rw [if_pos (.inr hv)]
      refine (dtakeForm2 x q fr fa fn fc D V N o body w hp q1 q2 ho (by omega) hv KO).mono ?_
      rintro e w' ⟨rfl, b⟩
      exact da_no hp b
  · rw [if_pos hE]
    refine (dtakeBad x q fr E D V N body fa fn fc w hp hE KO).mono ?_
    rintro e w' ⟨rfl, b⟩
    exact da_no hp b
/-- the three ends, as they lie. -/
structure Thr (w : World) (x : Pl) (y z : Dl) (p q r : Pe) (W : World) : Prop where
  px : Pr W x p
  py : De W y q
  pz : De W z r
  lx : w.heap.size ≤ x.lo
  xy : x.hi ≤ y.lo
  yz : y.hi ≤ z.lo
  zw : z.hi ≤ W.heap.size
  bel : Below w.heap.size w W
variable {w W W' : World} {x : Pl} {y z : Dl} {p q r p' q' r' : Pe}
theorem Thr.then_ (h : Thr w x y z p q r W) (hb : Below W.heap.size W W') : Thr w x y z p q r W' := ⟨h.px.then_ hb, h.py.then_ hb, h.pz.then_ hb, h.lx, h.xy, h.yz, Nat.le_trans h.zw hb.size, below_next h.bel hb⟩
theorem Thr.alloc (h : Thr w x y z p q r W) (o : Obj) : Thr w x y z p q r (W.alloc o) := h.then_ ((Below.refl _ W).alloc (Nat.le_refl _) o)
theorem Thr.tabR (h : Thr w x y z p q r W) (hT : TabR w) : TabR W := tabR_then h.bel hT
theorem Thr.tabB (h : Thr w x y z p q r W) (hT : TabB w) : TabB W := tabB_then h.bel hT
theorem Thr.ly (h : Thr w x y z p q r W) : w.heap.size ≤ y.lo := by have := h.lx; have := Pl.le h.px; have := h.xy; omega
theorem Thr.lz (h : Thr w x y z p q r W) : w.heap.size ≤ z.lo := by have := h.ly; have := h.py.le; have := h.yz; omega
theorem Thr.xz (h : Thr w x y z p q r W) : x.hi ≤ z.lo := by have := h.xy; have := h.py.le; have := h.yz; omega
theorem Thr.yw (h : Thr w x y z p q r W) : y.hi ≤ z.hi := by have := h.pz.le; have := h.yz; omega
theorem Thr.xw (h : Thr w x y z p q r W) : x.hi ≤ z.hi := by have := h.pz.le; have := h.xz; omega
theorem Thr.setX (h : Thr w x y z p q r W) (hb : Bt x.lo x.hi W W') (hp : Pr W' x p') : Thr w x y z p' q r W' :=
  ⟨hp, h.py.apart hb (.inr h.xy), h.pz.apart hb (.inr h.xz), h.lx, h.xy, h.yz, Nat.le_trans h.zw hb.size, hb.below h.bel h.lx h.bel.size⟩
theorem Thr.setY (h : Thr w x y z p q r W) (hb : Bt y.lo y.hi W W') (hp : De W' y q') : Thr w x y z p q' r W' :=
  ⟨h.px.apart hb (.inl h.xy), hp, h.pz.apart hb (.inr h.yz), h.lx, h.xy, h.yz, Nat.le_trans h.zw hb.size, hb.below h.bel h.ly h.bel.size⟩
theorem Thr.setZ (h : Thr w x y z p q r W) (hb : Bt z.lo z.hi W W') (hp : De W' z r') : Thr w x y z p q r' W' :=
  ⟨h.px.apart hb (.inl h.xz), h.py.apart hb (.inl h.yz), hp, h.lx, h.xy, h.yz, Nat.le_trans h.zw hb.size, hb.below h.bel h.lz h.bel.size⟩
/-- a change above the three. -/
theorem Thr.up (h : Thr w x y z p q r W) {lo hi : Nat} (hl : z.hi ≤ lo) (hb : Bt lo hi W W') : Thr w x y z p q r W' := by
  have h1 := h.xw
  have h2 := h.yw
  have h3 := h.lz
  have h4 := h.pz.le
  exact ⟨h.px.apart hb (.inl (by omega)), h.py.apart hb (.inl (by omega)), h.pz.apart hb (.inl (by omega)), h.lx, h.xy, h.yz, Nat.le_trans h.zw hb.size, hb.below h.bel (by omega) h.bel.size⟩
/-- a datagram that is kept. -/
structure Gd (w : World) (base : Nat) (t : Option Addr × Nat × Nat) (l : List Nat) : Prop where
  row : Rb w base (Ya.dv t) l
  len : l.length ≤ 1226
  lt : ∀ c ∈ l, c < 256
def Gds (w : World) (base : Nat) (ps : List (Option Addr × Nat × Nat)) : Prop := ∀ j, (h : j < ps.length) → ∃ l, Gd w base ps[j] l
theorem gds_nil (w : World) (base : Nat) : Gds w base [] := fun j h => by simp at h
theorem gds_snoc {base : Nat} {ps : List (Option Addr × Nat × Nat)} {t : Option Addr × Nat × Nat} {l : List Nat} (h : Gds w base ps) (hp : Gd w base t l) : Gds w base (ps ++ [t]) := by
  intro j hj
  by_cases hl : j < ps.length
  · rw [List.getElem_append_left hl]; exact h j hl
  · obtain rfl : j = ps.length := by simp at hj; omega
    rw [List.getElem_concat_length rfl]; exact ⟨l, hp⟩
theorem gds_far {base : Nat} {ps : List (Option Addr × Nat × Nat)} (h : Gds W base ps) (hb : ∀ k, k < W.heap.size → base ≤ k → W'.heap[k]? = W.heap[k]?) : Gds W' base ps := by
  intro j hj
  obtain ⟨l, h1, h2, h3⟩ := h j hj
  refine ⟨l, ⟨h1.1, ?_⟩, h2, h3⟩
  rcases h1.2 with h | ⟨g, cap, cur, hv, hg, hc, rest⟩
  · exact .inl h
  · exact .inr ⟨g, cap, cur, hv, hg, by rw [hb g (Array.getElem?_eq_some_iff.1 hc).1 hg]; exact hc, rest⟩
theorem gds_grown {base : Nat} {v : Value} {rs ps : List (Option Addr × Nat × Nat)} (hs : Ya.Rs W base v rs) (h : Gds W base ps) (hg : W.grownBy W' v.ownBlock) : Gds W' base ps := by
  intro j hj
  obtain ⟨l, h1, h2, h3⟩ := h j hj
  exact ⟨l, Ya.rb_grown hs h1 hg, h2, h3⟩

end Go.Proofs.YtmfkfpgomglplaaDoor.Zb
