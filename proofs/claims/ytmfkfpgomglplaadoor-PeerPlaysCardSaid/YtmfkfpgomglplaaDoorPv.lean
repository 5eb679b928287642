/- The walk of PeerRoams. -/
import Derived.Test.YtmfkfpgomglplaaDoorPu
import Derived.Test.YtmfkfpgomglplaaDoorAr
set_option linter.unusedVariables false
namespace Go.Proofs.YtmfkfpgomglplaaDoor.Pv
open Go Go.RowKit Kit Mb Sha Ap Mc1 Sc Mx Sb Pd Su Pa Hm Mm Tg Mf Pk Se Wn Op Pe Ps Pt Oq Pu Ar


theorem info22 : (Tryd.prog.info? 22).map (fun i => (i.zero, i.size, i.bytes)) = some (some (.slice none 0 0), 1, 24) := by kernel_rfl
/-- numbers of a slice. -/
def Is (w : World) (a : Option Addr) (l : List Int) : Prop := l = [] ∨ ∃ b off, a = some ⟨b, off, none⟩ ∧ ∀ i, (h : i < l.length) → w.cell? ⟨b, off + i, none⟩ = some (.int .i64 l[i])
theorem Is.at_ {w : World} {a : Option Addr} {l : List Int} (h : Is w a l) {i : Nat} (hi : i < l.length) : ∃ b off, a = some ⟨b, off, none⟩ ∧ ∀ i, (h : i < l.length) → w.cell? ⟨b, off + i, none⟩ = some (.int .i64 l[i]) := by
  rcases h with h | h
  · rw [h] at hi; simp at hi
  · exact h
/-- a datagram of 27 bytes. -/
def dv (p : Option Addr × Nat) : Value := .slice p.1 27 p.2
def Rs (w : World) (base : Nat) (v : Value) (ps : List (Option Addr × Nat)) : Prop := w.ownsRow base 22 1 v ps.length (ps.map dv)
theorem rs_nil (w : World) (base : Nat) : Rs w base (.slice none 0 0) [] := World.ownsRow_nil _ _ _ _
theorem rs_far {w w' : World} {base : Nat} {v : Value} {ps : List (Option Addr × Nat)} (h : Rs w base v ps) (hb : ∀ k, k < w.heap.size → base ≤ k → w'.heap[k]? = w.heap[k]?) : Rs w' base v ps := by
  refine ⟨h.1, ?_⟩
  rcases h.2 with h | ⟨g, cap, cur, hv, hg, hc, rest⟩
  · exact .inl h
  · exact .inr ⟨g, cap, cur, hv, hg, by rw [hb g (Array.getElem?_eq_some_iff.1 hc).1 hg]; exact hc, rest⟩
theorem rb_far {w w' : World} {base : Nat} {v : Value} {l : List Nat} (h : Rb w base v l) (hb : ∀ k, k < w.heap.size → base ≤ k → some k ≠ none → w'.heap[k]? = w.heap[k]?) : Rb w' base v l := by
  refine ⟨h.1, ?_⟩
  rcases h.2 with h | ⟨g, cap, cur, hv, hg, hc, rest⟩
  · exact .inl h
  · exact .inr ⟨g, cap, cur, hv, hg, by rw [hb g (Array.getElem?_eq_some_iff.1 hc).1 hg (by simp)]; exact hc, rest⟩
/-- a row of datagrams, and bytes, lie apart: their blocks are of two types. -/
theorem rb_grown {w w' : World} {b1 b2 : Nat} {v u : Value} {ps : List (Option Addr × Nat)} {l : List Nat} (hs : Rs w b1 v ps) (h : Rb w b2 u l) (hg : w.grownBy w' v.ownBlock) : Rb w' b2 u l := by
  refine ⟨h.1, ?_⟩
  rcases h.2 with h | ⟨g, cap, cur, hv, hg2, hc, rest⟩
  · exact .inl h
  · refine .inr ⟨g, cap, cur, hv, hg2, ?_, rest⟩
    rw [hg.block g (Array.getElem?_eq_some_iff.1 hc).1 ?_]
    · exact hc
    · rcases hs.2 with ⟨h0, _⟩ | ⟨g', cap', cur', h0, _, hc', _⟩
      · rw [h0]; simp [Value.ownBlock]
      · rw [h0]
        simp only [Value.ownBlock, ne_eq, Option.some.injEq]
        rintro rfl
        rw [hc'] at hc
        injection hc with hc; injection hc with _ hc; cases hc
theorem app_rs {ops : Array Oper} {rest : List Oper} {o : Oper} {a : Act} {Q : Exit → Act → World → Prop} {w : World} (hgd : o.guard = none) (s x : Operand)
    (ho : o.op = .call { callee := .builtin .append, args := #[s, x], argTypes := #[31, 31] }) (base : Nat) (v : Value) (ps : List (Option Addr × Nat)) (hs : a.eval s = v) (hown : Rs w base v ps)
    (b : Nat) (p : Option Addr × Nat) (hx : a.eval x = .slice (some ⟨b, 0, none⟩) 1 1) (hc : w.cell? ⟨b, 0, none⟩ = some (dv p)) (hlen : ps.length ≤ 1000) (hbase : base ≤ w.heap.size)
    (h : ∀ v' w', Rs w' base v' (ps ++ [p]) → w.grownBy w' v.ownBlock → wpList Tryd.prog ops Q rest (a.put o.dst v') w') : wpList Tryd.prog ops Q (o :: rest) a w := by
  obtain ⟨i0, hi, hz0, hz1, hz2⟩ := info_parts info22
  refine wpList_append_own w hgd s x 31 ho base 22 i0 (.slice none 0 0) 1 24 Tryd.underlying31 hi hz0 hz1 hz2 rfl (by decide) v _ _ hs hown ⟨b, 0, none⟩ 1 1 [dv p] hx rfl ?_ (by simp [dv, Value.oneCell']) (by unfold maxLen; omega) (by omega) hbase ?_
  · intro j u hu
    obtain rfl : j = 0 := by
      rcases Nat.eq_zero_or_pos j with h | h
      · exact h
      · rw [List.getElem?_eq_none (by simp; omega)] at hu; cases hu
    simp at hu; subst hu
    exact hc
  · intro v' w' h2 h3 _
    refine h v' w' ?_ h3
    unfold Rs; rw [List.map_append, List.length_append]; exact h2
/-- the datagrams so far. -/
def Dg (w : World) (key : List Nat) (base : Nat) (ps : List (Option Addr × Nat)) : Prop := ∀ j, (h : j < ps.length) → Rb w base (dv ps[j]) (sealL key 2 3 (j + 1) [j])
theorem dg_snoc {w : World} {key : List Nat} {base : Nat} {ps : List (Option Addr × Nat)} {p : Option Addr × Nat} (h : Dg w key base ps) (hp : Rb w base (dv p) (sealL key 2 3 (ps.length + 1) [ps.length])) : Dg w key base (ps ++ [p]) := by
  intro j hj
  by_cases hl : j < ps.length
  · rw [List.getElem_append_left hl]; exact h j hl
  · obtain rfl : j = ps.length := by simp at hj; omega
    rw [List.getElem_concat_length rfl]; exact hp
/-- what the second loop keeps of them. -/
structure Dw (w : World) (key : List Nat) (hi gl : Nat) (A : Nat → Option Addr) (C : Nat → Nat) : Prop where
  cell : ∀ o, o < 10 → w.cell? ⟨gl, o, none⟩ = some (.slice (A o) 27 (C o))
  bytes : ∀ o, o < 10 → Sl w (A o) (sealL key 2 3 (o + 1) [o])
  cap : ∀ o, o < 10 → 27 ≤ C o
  far : ∀ o, o < 10 → ∀ y, A o = some y → hi ≤ y.block
  gl : hi ≤ gl
theorem dw_of {w : World} {key : List Nat} {base cl gl : Nat} {ps : List (Option Addr × Nat)} (hl : ps.length = 10) (hr : Rs w base (.slice (some ⟨gl, 0, none⟩) 10 cl) ps) (hd : Dg w key base ps) :
    Dw w key base gl (fun o => (ps.getD o (none, 0)).1) (fun o => (ps.getD o (none, 0)).2) := by
  have hg : ∀ o, (h : o < ps.length) → ps.getD o (none, 0) = ps[o] := fun o h => by rw [List.getD_eq_getElem?_getD]; simp [h]
  have hs : ∀ o, (h : o < 10) → ∃ a cap, dv ps[o] = .slice a (sealL key 2 3 (o + 1) [o]).length cap ∧ (sealL key 2 3 (o + 1) [o]).length ≤ cap ∧ Sl w a (sealL key 2 3 (o + 1) [o]) ∧ (a = none → cap = 0) ∧ (∀ x, a = some x → base ≤ x.block ∧ x.block < w.heap.size) := fun o h => rb_sl (hd o (by omega))
  refine ⟨?_, ?_, ?_, ?_, (hr.lt gl rfl).1⟩
  · intro o ho
    have := hr.cells (g := gl) rfl o (dv ps[o]) (by simp [hl, ho])
    have hadd : (⟨gl, 0, none⟩ : Addr).add o = ⟨gl, o, none⟩ := by unfold Addr.add; split <;> simp_all
    rw [hadd] at this
    rw [this]
    show _ = some (Value.slice (ps.getD o (none, 0)).1 27 (ps.getD o (none, 0)).2)
    rw [hg o (by omega)]; rfl
  · intro o ho
    obtain ⟨a, cap, hv, h1, h2, h3, h4⟩ := hs o ho
    simp only [hg o (by omega)]
    unfold dv at hv; injection hv with e1 e2 e3
    rw [e1]; exact h2
  · intro o ho
    obtain ⟨a, cap, hv, h1, h2, h3, h4⟩ := hs o ho
    simp only [hg o (by omega)]
    unfold dv at hv; injection hv with e1 e2 e3
    rw [e3]; rw [← e2] at h1; exact h1
  · intro o ho y hy
    obtain ⟨a, cap, hv, h1, h2, h3, h4⟩ := hs o ho
    simp only [hg o (by omega)] at hy
    unfold dv at hv; injection hv with e1 e2 e3
    rw [e1] at hy
    exact (h4 y hy).1
theorem Dw.then_ {w w' : World} {key : List Nat} {hi gl : Nat} {A : Nat → Option Addr} {C : Nat → Nat} (h : Dw w key hi gl A C) (hb : Below w.heap.size w w') : Dw w' key hi gl A C :=
  ⟨fun o ho => cell_then hb (Nat.le_refl _) (h.cell o ho), fun o ho => sl_then hb (Nat.le_refl _) (h.bytes o ho), h.cap, h.far, h.gl⟩
theorem Dw.bt {w w' : World} {key : List Nat} {lo hi hi2 gl : Nat} {A : Nat → Option Addr} {C : Nat → Nat} (h : Dw w key hi gl A C) (hb : Bt lo hi2 w w') (hh : hi2 ≤ hi) : Dw w' key hi gl A C :=
  ⟨fun o ho => hb.cell (.inr (Nat.le_trans hh h.gl)) (h.cell o ho), fun o ho => hb.sl (fun y hy => .inr (Nat.le_trans hh (h.far o ho y hy))) (h.bytes o ho), h.cap, h.far, h.gl⟩
def qa (key : List Nat) (out : Nat) : Pe := ⟨key, 2, 3, out, 0, -1⟩
def qb (key : List Nat) (last : Nat) (ad : Int) : Pe := ⟨key, 1, 3, 0, last, ad⟩
theorem newA (ka : Option Addr) (kn kc : Nat) (key : List Nat) (w : World) (hn : kn = key.length) (ks : Sl w ka key) (k0 : ka = none → kc = 0) (klen : key.length ≤ 140737488355328) :
    Calls Tryd.prog 39 #[.slice ka kn kc, .int .i64 2, .int .i64 3, .int .u64 0] w (NwP key 2 3 0 w) := by
  subst hn; exact newPeer ka kc key 2 3 0 w ks k0 klen (by decide) (by decide) (by decide) (by decide)
theorem newB (ka : Option Addr) (kn kc : Nat) (key : List Nat) (w : World) (hn : kn = key.length) (ks : Sl w ka key) (k0 : ka = none → kc = 0) (klen : key.length ≤ 140737488355328) :
    Calls Tryd.prog 39 #[.slice ka kn kc, .int .i64 1, .int .i64 3, .int .u64 0] w (NwP key 1 3 0 w) := by
  subst hn; exact newPeer ka kc key 1 3 0 w ks k0 klen (by decide) (by decide) (by decide) (by decide)
theorem qa_ok {key : List Nat} (h1 : ∀ c ∈ key, c < 256) (h2 : key.length ≤ 800000) (out : Nat) (h : out ≤ 100) : Ok (qa key out) := ⟨h1, h2, by simp [qa], by simp [qa], by simp [qa], by simp only [qa]; omega⟩
theorem qb_ok {key : List Nat} (h1 : ∀ c ∈ key, c < 256) (h2 : key.length ≤ 800000) (last : Nat) (ad : Int) : Ok (qb key last ad) := ⟨h1, h2, by simp [qb], by simp [qb], by simp [qb], by simp [qb]⟩
/-- one is sent. -/
theorem sendI (x : Pl) (key : List Nat) (i : Nat) (a : Addr) (w : World) (h1 : ∀ c ∈ key, c < 256) (h2 : key.length ≤ 800000) (hi : i < 10) (hp : Pr w x (qa key i)) (hs : Sl w (some a) [i]) (hT : TabR w) (hB : TabB w) :
    Calls Tryd.prog 41 #[.pointer (some ⟨x.g, 0, none⟩), .slice (some a) 1 1] w fun e w' => ∃ b c, e = .returned (.tuple #[.slice b 27 c, .int .i64 0]) ∧ Rb w' w.heap.size (.slice b 27 c) (sealL key 2 3 (i + 1) [i]) ∧ Pr w' x (qa key (i + 1)) ∧ Bt x.lo x.hi w w' := by
  refine (sendC x (qa key i) (some a) 1 [i] w (qa_ok h1 h2 i (by omega)) hp (by simp only [qa]; omega) hs (fun h => by cases h) (by simp) (by simp; omega) (by simp) hT hB).mono ?_
  rintro e w' ⟨b, c, rfl, _, _, _, _, h5, h6, h7⟩
  exact ⟨b, c, rfl, h7, h5, h6⟩
def TkI (x : Pl) (key : List Nat) (o : Nat) (ad : Int) (w : World) (e : Ending) (w' : World) : Prop :=
  ∃ g off c, e = .returned (.tuple #[.slice (some ⟨g, off, none⟩) 1 c, .int .i64 0]) ∧ w'.cell? ⟨g, off, none⟩ = some (.int .u8 (o : Int)) ∧ Pr w' x (qb key (o + 1) ad) ∧ Bt x.lo x.hi w w'
theorem takeI (x : Pl) (key : List Nat) (o last : Nat) (ad fr : Int) (b : Option Addr) (c : Nat) (w : World) (h1 : ∀ c ∈ key, c < 256) (h2 : key.length ≤ 800000) (ho : o < 10) (hl : last < o + 1) (hp : Pr w x (qb key last ad)) (hc : 27 ≤ c) (hs : Sl w b (sealL key 2 3 (o + 1) [o])) (hT : TabR w) (hB : TabB w) (ad2 : Int) (h3 : ad2 = if 0 ≤ fr then fr else ad) :
    Calls Tryd.prog 43 #[.pointer (some ⟨x.g, 0, none⟩), .int .i64 fr, .slice b 27 c] w (TkI x key o ad2 w) := by
  subst h3
  refine (takeSealNew x (qb key last ad) fr b 27 c 2 (o + 1) [o] w hp (qb_ok h1 h2 last ad) (by decide) (by decide) (by simp [qb]) (by omega) (by omega) hl (by simp) (by simp; omega) rfl hc hs hT hB).mono ?_
  rintro e w' ⟨b, c, rfl, q1, q2, q3, q4, q5, q6⟩
  obtain ⟨g, off, rfl, hc⟩ := sl_at q1 (by simp)
  exact ⟨g, off, c, rfl, by have := hc 0 (by simp); simpa using this, q5, q6⟩
theorem takeJ (x : Pl) (key : List Nat) (o last : Nat) (ad fr : Int) (b : Option Addr) (c : Nat) (w : World) (h1 : ∀ c ∈ key, c < 256) (h2 : key.length ≤ 800000) (ho : o < 10) (hl : ¬ last < o + 1) (hp : Pr w x (qb key last ad)) (hc : 27 ≤ c) (hs : Sl w b (sealL key 2 3 (o + 1) [o])) (hT : TabR w) (hB : TabB w) :
    Calls Tryd.prog 43 #[.pointer (some ⟨x.g, 0, none⟩), .int .i64 fr, .slice b 27 c] w fun e w' => e = .returned (.tuple #[.slice none 0 0, .int .i64 14]) ∧ Below w.heap.size w w' :=
  takeSealOld x (qb key last ad) fr b 27 c 2 (o + 1) [o] w hp (qb_ok h1 h2 last ad) (by decide) (by decide) (by simp [qb]) (by omega) (by omega) hl (by simp) (by simp; omega) rfl hc hs hT hB
theorem addrI (x : Pl) (key : List Nat) (last : Nat) (ad : Int) (w : World) (h : Pr w x (qb key last ad)) : Calls Tryd.prog 45 #[.pointer (some ⟨x.g, 0, none⟩)] w fun e w' => e = .returned (.int .i64 ad) ∧ w = w' := addrC x _ w h
theorem inI2 (x : Pl) (key : List Nat) (last : Nat) (ad : Int) (w : World) (h : Pr w x (qb key last ad)) : Calls Tryd.prog 47 #[.pointer (some ⟨x.g, 0, none⟩)] w fun e w' => e = .returned (.int .u64 (last : Int)) ∧ w = w' := inC x _ w h
theorem next_lst (L : Int) (lst : Nat) (h : lst ≤ 10) (hL : L = (lst : Int) - 1) : wrap64 (L + 1) = (lst : Int) ∧ IntKind.u64.wrap (L + 1) = (lst : Int) ∧ IntKind.u64.wrap (lst : Int) = (lst : Int) := by
  have e : L + 1 = (lst : Int) := by omega
  rw [e]
  refine ⟨IntWalk.wrap64_in _ (by omega), ?_, ?_⟩ <;> (rw [IntKind.wrap_u64]; omega)
theorem next_one (o o1 : Nat) (h : o < 10) (h1 : o1 = o + 1) : wrap64 ((o : Int) + 1) = (o1 : Int) ∧ IntKind.u64.wrap ((o : Int) + 1) = (o1 : Int) ∧ IntKind.u64.wrap (o1 : Int) = (o1 : Int) :=
  next_lst (o : Int) o1 (by omega) (by omega)
set_option maxRecDepth 100000 in
set_option maxHeartbeats 4000000 in
theorem walkIn (ka : Option Addr) (kc : Nat) (key : List Nat) (oa : Option Addr) (oc : Nat) (O : List Int) (fa : Option Addr) (fc : Nat) (F : List Int) (w : World)
    (ks : Sl w ka key) (k0 : ka = none → kc = 0) (kl : ∀ c ∈ key, c < 256) (kn : key.length ≤ 1000) (hO : Is w oa O) (hF : Is w fa F) (on : O.length ≤ 100) (fn : O.length ≤ F.length) (hT : TabR w) (hB : TabB w) :
    Calls Tryd.prog 12 #[.slice ka key.length kc, .slice oa O.length oc, .slice fa F.length fc] w fun e w' => e = .returned (.bool true) ∧ Below w.heap.size w w' := by
  have KS := Lib.hid ks
  have K0 := Lib.hid k0
  have KL := Lib.hid kl
  have KN := Lib.hid kn
  have K8 := Lib.hid (show key.length ≤ 800000 by omega)
  have KB := Lib.hid (show key.length ≤ 140737488355328 by omega)
  have HO := Lib.hid hO
  have HF := Lib.hid hF
  have HON := Lib.hid on
  have HFN := Lib.hid fn
  have HT := Lib.hid hT
  have HB := Lib.hid hB
  have t1 : ¬ 1000 < (key.length : Int) := by omega
  have t2 : ¬ 100 < (O.length : Int) := by omega
  have t3 : ¬ (F.length : Int) < (O.length : Int) := by omega
  clear ks k0 kl kn hO hF on fn hT hB
  go_enter Tryd.func12, Tryd.ntmps12
  go_wp2_with (first
    | (go_at_call 37; (with_reducible refine (qfirst w HT.out HB.out).mono ?_); rintro e w0 ⟨rfl, b0⟩; have HB0 := Lib.hid b0; clear b0)
    | (go_at_call 39; (with_reducible refine (newA ka _ kc key w0 ?_ (sl_then HB0.out (Nat.le_refl _) KS.out) K0.out KB.out).mono ?_); exact rfl; rintro e w1 ⟨xa, rfl, pa, la, ha, ba⟩; have PA := Lib.hid (And.intro pa (And.intro la (And.intro ha (below_then HB0.out ba HB0.out.size)))); have LA := Lib.hid (Nat.le_trans HB0.out.size la); clear pa la ha ba)
    | (go_at_call 39; (with_reducible refine (newB ka _ kc key w1 ?_ (sl_then PA.out.2.2.2 (Nat.le_refl _) KS.out) K0.out KB.out).mono ?_); exact rfl; rintro e w2 ⟨xb, rfl, pb, lb, hb, bb⟩; have HW := Lib.hid (show Two w xa xb (qa key 0) (qb key 0 (-1)) w2 from ⟨PA.out.1.then_ bb, pb, LA.out, Nat.le_trans PA.out.2.2.1 lb, hb, below_then PA.out.2.2.2 bb PA.out.2.2.2.size⟩); clear pb lb hb bb))
  clear t1 t2 t3
  have d1 : decide (1000 < (key.length : Int)) = false := decide_eq_false (by have := KN.out; omega)
  have d2 : decide (100 < (O.length : Int)) = false := decide_eq_false (by have := HON.out; omega)
  have d3 : decide (F.length < O.length) = false := decide_eq_false (by have := HFN.out; omega)
  simp only [d1, d2, d3, Bool.or_self]
  clear d1 d2 d3
  go_loopw [11, 12] (fun s11 s12 wr => ∃ (i : Nat) (ps : List (Option Addr × Nat)), i ≤ 10 ∧ ps.length = i ∧ s12 = .int .i64 (i : Int) ∧ Rs wr w2.heap.size s11 ps ∧ Dg wr key w2.heap.size ps ∧ Two w xa xb (qa key i) (qb key 0 (-1)) wr ∧ w2.heap.size ≤ wr.heap.size) (fun _ s12 _ => 10 - (intOf s12).toNat)
  case atStart => exact ⟨0, [], by omega, rfl, rfl, rs_nil _ _, fun j hj => by simp at hj, HW.out, Nat.le_refl _⟩
  case round =>
    obtain ⟨i, ps, hi, hpl, rfl, hR, hD, hW, hz⟩ := hrel
    have HR := Lib.hid hR
    have HD := Lib.hid hD
    have HWr := Lib.hid hW
    have HZ := Lib.hid hz
    have HPL := Lib.hid hpl
    clear hR hD hW hz hpl
    by_cases hlt : i < 10
    · have ei : (i : Int) % 256 = (i : Int) := by omega
      have eu : IntKind.u8.wrap (i : Int) = (i : Int) := by rw [IntKind.wrap_u8]; omega
      have HA := Lib.hid (HWr.out.alloc (.cells #[.int .u8 (i : Int)] 5))
      go_wp2_with (first
        | (go_at_call 41; (with_reducible refine (sendI xa key i ⟨wr.heap.size, 0, none⟩ (wr.alloc (.cells #[.int .u8 (i : Int)] 5)) KL.out K8.out hlt HA.out.px ?_ (HA.out.tabR HT.out) (HA.out.tabB HB.out)).mono ?_); exact (sl_lit rfl rfl); rintro e w3 ⟨db, dc, rfl, d1, d2, d3⟩; have H3 := Lib.hid (HA.out.setX d3 d2); have hs3 := d3.size; have hfar : ∀ k, k < wr.heap.size → w2.heap.size ≤ k → w3.heap[k]? = wr.heap[k]? := (fun k h1 h2 => (d3.block k (by simp; omega) (.inr (Nat.le_trans (Nat.le_trans HW.out.xy (Nat.le_trans (Pl.le HW.out.py) HW.out.yw)) h2))).trans (Below.heap_alloc _ _ _ h1)); have HR3 := Lib.hid (rs_far HR.out hfar); have HD3 := Lib.hid (show Dg w3 key w2.heap.size ps from fun j hj => rb_far (HD.out j hj) (fun k h1 h2 _ => hfar k h1 h2)); have HN3 := Lib.hid (rb_base d1 (show w2.heap.size ≤ _ by have := HZ.out; simp; omega)); have HZ3 := Lib.hid (show w2.heap.size ≤ w3.heap.size by have := HZ.out; simp at hs3; omega); clear d1 d2 d3 hs3 hfar)
        | (at_builtin; refine app_rs rfl _ _ rfl w2.heap.size _ ps rfl (rs_far HR3.out (fun k h1 _ => Below.heap_alloc _ _ _ h1)) w3.heap.size (db, dc) rfl (by rw [cell_of_row _ w3.heap.size 0 _ 22 (0, 0) (heap_alloc_last w3 _)]; rfl) (by have := HPL.out; omega) (by have := HZ3.out; simp; omega) ?_; intro v5 w5 o5 g5; have h4 := Two.alloc H3.out (.cells #[.slice db 27 dc] 22); have r4 := rs_far HR3.out (w' := w3.alloc (.cells #[.slice db 27 dc] 22)) (fun k h1 _ => Below.heap_alloc _ _ _ h1); have H5 := Lib.hid (show Two w xa xb (qa key (i + 1)) (qb key 0 (-1)) w5 from by
            have hlow : Bt w2.heap.size (w3.heap.size + 1) (w3.alloc (.cells #[.slice db 27 dc] 22)) w5 := ⟨g5.os, g5.tape, g5.output, g5.size, fun k hk hx => g5.block k hk (fun e => by have := r4.lt k e.symm; simp at hk; omega)⟩
            have hyw := HW.out.yw
            have hxy := HW.out.xy
            have hyl := Pl.le HW.out.py
            exact ⟨h4.px.apart hlow (.inl (by omega)), h4.py.apart hlow (.inl (by omega)), h4.lx, h4.xy, Nat.le_trans h4.yw g5.size, hlow.below h4.bel (by have := HW.out.bel.size; omega) h4.bel.size⟩); have HD5 := Lib.hid (show Dg w5 key w2.heap.size (ps ++ [(db, dc)]) from dg_snoc (fun j hj => rb_grown r4 (rb_alloc (HD3.out j hj) _) g5) (rb_grown r4 (rb_alloc (show Rb w3 w2.heap.size (dv (db, dc)) (sealL key 2 3 (ps.length + 1) [ps.length]) by rw [HPL.out]; exact HN3.out) _) g5)); have HR5 := Lib.hid o5; have HZ5 := Lib.hid (show w2.heap.size ≤ w5.heap.size from Nat.le_trans HZ3.out (Nat.le_trans (by simp) g5.size)); clear o5 g5 h4 r4))
      go_roundw
      case rel => exact ⟨i + 1, ps ++ [(db, dc)], by omega, by have := HPL.out; simp; omega, by go_num, HR5.out, HD5.out, H5.out, HZ5.out⟩
      case measure => simp [intOf]; omega
    · obtain rfl : i = 10 := by omega
      obtain ⟨gl, cl, rfl⟩ : ∃ gl cl, u11 = .slice (some ⟨gl, 0, none⟩) 10 cl := by
        rcases HR.out.2 with ⟨_, h⟩ | ⟨g, cap, cur, hv, _⟩
        · have := HPL.out; omega
        · exact ⟨g, cap, by rw [hv, HPL.out]⟩
      have HDW := Lib.hid (dw_of HPL.out HR.out HD.out)
      generalize hAA : (fun o => (ps.getD o (none, 0)).1) = A at *
      generalize hCC : (fun o => (ps.getD o (none, 0)).2) = C at *
      clear hAA hCC HR HD hlt hi HPL
      have HYW := Lib.hid (show xb.hi ≤ w2.heap.size from HW.out.yw)
      clear HW
      go_wp2
      obtain ⟨wo, rfl⟩ : ∃ wo : World, wo = wr := ⟨_, rfl⟩
      rw [show (((10 : Nat) : Int)) = 10 from rfl]
      go_loopw [15, 16, 17] (fun s15 s16 s17 wr => ∃ (k lst : Nat) (want L : Int), k ≤ O.length ∧ lst ≤ 10 ∧ Hid (L = (lst : Int) - 1) ∧ s17 = .int .i64 (k : Int) ∧ s15 = .int .i64 want ∧ s16 = .int .i64 L ∧ Two w xa xb (qa key 10) (qb key lst want) wr ∧ Dw wr key w2.heap.size gl A C) (fun _ _ s17 _ => O.length - (intOf s17).toNat)
      case atStart => exact ⟨0, 0, -1, -1, Nat.zero_le _, by omega, Lib.hid rfl, rfl, rfl, rfl, HWr.out, HDW.out⟩
      case round =>
        clear HWr HDW HZ
        obtain ⟨k, lst, want, L, hk, hls, HLS, rfl, rfl, rfl, hW, hD⟩ := hrel
        have HWr := Lib.hid hW
        have HD := Lib.hid hD
        have hon := HON.out
        clear hW hD
        by_cases hlt : k < O.length
        · obtain ⟨ob, oo, rfl, hoc⟩ := HO.out.at_ hlt
          have hfk : k < F.length := by have := HFN.out; omega
          obtain ⟨fb, fo, rfl, hfc⟩ := HF.out.at_ hfk
          have co := cell_then HWr.out.bel (Nat.le_refl _) (hoc k hlt)
          have cf := cell_then HWr.out.bel (Nat.le_refl _) (hfc k hfk)
          have HCO := Lib.hid (hoc k hlt)
          have HCF := Lib.hid (hfc k hfk)
          clear hoc hfc
          generalize O[k] = o at *
          generalize F[k] = f at *
          by_cases ho0 : o < 0
          · clear cf
            go_wp2
            go_roundw
            case rel => exact ⟨k + 1, lst, want, L, by omega, hls, HLS, by go_num, rfl, rfl, HWr.out, HD.out⟩
            case measure => simp [intOf]; omega
          · by_cases ho9 : 9 < o
            · clear cf
              go_wp2
              go_roundw
              case rel => exact ⟨k + 1, lst, want, L, by omega, hls, HLS, by go_num, rfl, rfl, HWr.out, HD.out⟩
              case measure => simp [intOf]; omega
            · obtain ⟨o, rfl⟩ := Int.eq_ofNat_of_zero_le (show 0 ≤ o by omega)
              have ho : o < 10 := by omega
              have HOO := Lib.hid ho
              have cg := HD.out.cell o ho
              have HW2 := Lib.hid (show Two w xa xb (qa key 10) (qb key lst want) wr.drew from HWr.out.then_ (Below.refl _ wr).drew)
              have HD2 := Lib.hid (show Dw wr.drew key w2.heap.size gl A C from HD.out.then_ (Below.refl _ wr).drew)
              have eo : (o : Int) % 256 = (o : Int) := by omega
              have eu : IntKind.u8.wrap (o : Int) = (o : Int) := by rw [IntKind.wrap_u8]; omega
              have ol : (o : Int) < 10 := by omega
              by_cases hn : lst < o + 1
              · have HN := Lib.hid hn
                have n1 : L < (o : Int) := by have := HLS.out; omega
                have n2 : max L (o : Int) = (o : Int) := Int.max_eq_right (Int.le_of_lt n1)
                obtain ⟨o1, ho1⟩ : ∃ o1, o1 = o + 1 := ⟨_, rfl⟩
                obtain ⟨n4, n3, n5⟩ := next_one o o1 ho ho1
                have HO1 := Lib.hid ho1
                clear ho1
                by_cases hf : 0 ≤ f
                · have HAD := Lib.hid (show f = if 0 ≤ f then f else want by rw [if_pos hf])
                  as_aux_lemma =>
                    go_wp2_with fail
                    go_region_held3 (fun W => W.cell? ⟨ob, oo + k, none⟩ = some (.int .i64 (o : Int)) ∧ W.cell? ⟨fb, fo + k, none⟩ = some (.int .i64 f) ∧ W.cell? ⟨gl, o, none⟩ = some (.slice (A o) 27 (C o))) (first | exact ⟨co3, cf3, cg3⟩ | (go_split_ands; refine ⟨?_, ?_, ?_⟩ <;> (repeat (first | with_reducible assumption | (with_reducible refine past_drew ?_) | (with_reducible refine past_drewN _ ?_) | exact HWr.out.bel | (with_reducible refine Below.drew ?_) | (with_reducible refine below_drewN ?_ _))))) (first | (go_at_call 43; (with_reducible refine (takeI xb key o lst want f (A o) (C o) _ KL.out K8.out HOO.out HN.out HW2.out.py (HD.out.cap o HOO.out) (HD2.out.bytes o HOO.out) (HW2.out.tabR HT.out) (HW2.out.tabB HB.out) f HAD.out).mono ?_); rintro e w3 ⟨yb, yo, yc, rfl, yv, y5, y6⟩; rw [← HO1.out] at y5; have H3 := Lib.hid (show Two w xa xb (qa key 10) (qb key o1 f) w3 from HW2.out.setY y6 y5); have HD3 := Lib.hid (show Dw w3 key w2.heap.size gl A C from HD2.out.bt y6 HYW.out); have co3 := cell_then H3.out.bel (Nat.le_refl _) HCO.out; have cf3 := cell_then H3.out.bel (Nat.le_refl _) HCF.out; have cg3 := HD3.out.cell o HOO.out; clear y5 y6))
                    as_aux_lemma =>
                      clear co cf cg cg3
                      go_wp2_with fail
                      have m1 : L < (o : Int) := by have := HLS.out; have := HN.out; omega
                      go_big_quiet (fail)
                      have H5 := Lib.hid (H3.out.then_ (below_drewN (Below.refl _ w3) nq))
                      have HD5 := Lib.hid (HD3.out.then_ (below_drewN (Below.refl _ w3) nq))
                      replace co3 : (w3.drewN nq).cell? ⟨ob, oo + k, none⟩ = some (.int .i64 (o : Int)) := co3
                      replace cf3 : (w3.drewN nq).cell? ⟨fb, fo + k, none⟩ = some (.int .i64 f) := cf3
                      clear yv H3 HD3
                      generalize w3.drewN nq = w5 at *
                      as_aux_lemma =>
                        go_wp2_with (first
                          | (go_at_call 45; (with_reducible refine (addrI xb key o1 f w5 H5.out.py).mono ?_); rintro e w' ⟨rfl, rfl⟩)
                          | (go_at_call 47; (with_reducible refine (inI2 xb key o1 f w5 H5.out.py).mono ?_); rintro e w' ⟨rfl, rfl⟩))
                        go_roundw
                        case rel => exact ⟨k + 1, o1, f, (o : Int), by omega, by have := HO1.out; omega, Lib.hid (by have := HO1.out; omega), by go_num, rfl, rfl, H5.out, HD5.out⟩
                        case measure => simp [intOf]; omega
                · have HAD := Lib.hid (show want = if 0 ≤ f then f else want by rw [if_neg hf])
                  as_aux_lemma =>
                    go_wp2_with fail
                    go_region_held3 (fun W => W.cell? ⟨ob, oo + k, none⟩ = some (.int .i64 (o : Int)) ∧ W.cell? ⟨fb, fo + k, none⟩ = some (.int .i64 f) ∧ W.cell? ⟨gl, o, none⟩ = some (.slice (A o) 27 (C o))) (first | exact ⟨co3, cf3, cg3⟩ | (go_split_ands; refine ⟨?_, ?_, ?_⟩ <;> (repeat (first | with_reducible assumption | (with_reducible refine past_drew ?_) | (with_reducible refine past_drewN _ ?_) | exact HWr.out.bel | (with_reducible refine Below.drew ?_) | (with_reducible refine below_drewN ?_ _))))) (first | (go_at_call 43; (with_reducible refine (takeI xb key o lst want f (A o) (C o) _ KL.out K8.out HOO.out HN.out HW2.out.py (HD.out.cap o HOO.out) (HD2.out.bytes o HOO.out) (HW2.out.tabR HT.out) (HW2.out.tabB HB.out) want HAD.out).mono ?_); rintro e w3 ⟨yb, yo, yc, rfl, yv, y5, y6⟩; rw [← HO1.out] at y5; have H3 := Lib.hid (show Two w xa xb (qa key 10) (qb key o1 want) w3 from HW2.out.setY y6 y5); have HD3 := Lib.hid (show Dw w3 key w2.heap.size gl A C from HD2.out.bt y6 HYW.out); have co3 := cell_then H3.out.bel (Nat.le_refl _) HCO.out; have cf3 := cell_then H3.out.bel (Nat.le_refl _) HCF.out; have cg3 := HD3.out.cell o HOO.out; clear y5 y6))
                    as_aux_lemma =>
                      clear co cf cg cg3
                      go_wp2_with fail
                      have m1 : L < (o : Int) := by have := HLS.out; have := HN.out; omega
                      go_big_quiet (fail)
                      have H5 := Lib.hid (H3.out.then_ (below_drewN (Below.refl _ w3) nq))
                      have HD5 := Lib.hid (HD3.out.then_ (below_drewN (Below.refl _ w3) nq))
                      replace co3 : (w3.drewN nq).cell? ⟨ob, oo + k, none⟩ = some (.int .i64 (o : Int)) := co3
                      replace cf3 : (w3.drewN nq).cell? ⟨fb, fo + k, none⟩ = some (.int .i64 f) := cf3
                      clear yv H3 HD3
                      generalize w3.drewN nq = w5 at *
                      as_aux_lemma =>
                        go_wp2_with (first
                          | (go_at_call 45; (with_reducible refine (addrI xb key o1 want w5 H5.out.py).mono ?_); rintro e w' ⟨rfl, rfl⟩)
                          | (go_at_call 47; (with_reducible refine (inI2 xb key o1 want w5 H5.out.py).mono ?_); rintro e w' ⟨rfl, rfl⟩))
                        go_roundw
                        case rel => exact ⟨k + 1, o1, want, (o : Int), by omega, by have := HO1.out; omega, Lib.hid (by have := HO1.out; omega), by go_num, rfl, rfl, H5.out, HD5.out⟩
                        case measure => simp [intOf]; omega
              · have HN := Lib.hid hn
                have n1 : ¬ L < (o : Int) := by have := HLS.out; omega
                have n2 : max L (o : Int) = L := Int.max_eq_left (Int.not_lt.1 n1)
                obtain ⟨n4, n3, n5⟩ := next_lst L lst hls HLS.out
                as_aux_lemma =>
                  go_wp2_with fail
                  go_region_held3 (fun W => W.cell? ⟨ob, oo + k, none⟩ = some (.int .i64 (o : Int)) ∧ W.cell? ⟨fb, fo + k, none⟩ = some (.int .i64 f) ∧ W.cell? ⟨gl, o, none⟩ = some (.slice (A o) 27 (C o))) (first | exact ⟨co3, cf3, cg3⟩ | (go_split_ands; refine ⟨?_, ?_, ?_⟩ <;> (repeat (first | with_reducible assumption | (with_reducible refine past_drew ?_) | (with_reducible refine past_drewN _ ?_) | exact HWr.out.bel | (with_reducible refine Below.drew ?_) | (with_reducible refine below_drewN ?_ _))))) (first | (go_at_call 43; (with_reducible refine (takeJ xb key o lst want f (A o) (C o) _ KL.out K8.out HOO.out HN.out HW2.out.py (HD.out.cap o HOO.out) (HD2.out.bytes o HOO.out) (HW2.out.tabR HT.out) (HW2.out.tabB HB.out)).mono ?_); rintro e w3 ⟨rfl, b3⟩; have H3 := Lib.hid (show Two w xa xb (qa key 10) (qb key lst want) w3 from HW2.out.then_ b3); have HD3 := Lib.hid (show Dw w3 key w2.heap.size gl A C from HD2.out.then_ b3); have co3 := cell_then H3.out.bel (Nat.le_refl _) HCO.out; have cf3 := cell_then H3.out.bel (Nat.le_refl _) HCF.out; have cg3 := HD3.out.cell o HOO.out; clear b3))
                  as_aux_lemma =>
                    clear co cf cg
                    go_wp2_with fail
                    have m1 : ¬ L < (o : Int) := by have := HLS.out; have := HN.out; omega
                    go_big_quiet (fail)
                    as_aux_lemma =>
                      go_wp2_with (first
                        | (go_at_call 45; (with_reducible refine (addrI xb key lst want _ (Pr.drewN H3.out.py _)).mono ?_); rintro e w' ⟨rfl, rfl⟩)
                        | (go_at_call 47; (with_reducible refine (inI2 xb key lst want _ (Pr.drewN H3.out.py _)).mono ?_); rintro e w' ⟨rfl, rfl⟩))
                      go_roundw
                      case rel => exact ⟨k + 1, lst, want, L, by omega, hls, HLS, by go_num, rfl, rfl, H3.out.then_ (below_drewN (Below.refl _ _) _), HD3.out.then_ (below_drewN (Below.refl _ _) _)⟩
                      case measure => simp [intOf]; omega
        · obtain rfl : k = O.length := by omega
          obtain ⟨Ab, Ao, hA0, hAc⟩ := sl_at (HD.out.bytes 0 (by omega)) (by rw [sealL_len]; omega)
          have cg := HD.out.cell 0 (by omega)
          have c27 := HD.out.cap 0 (by omega)
          rw [hA0] at cg
          clear hA0 hAc
          generalize C 0 = C0 at *
          have j1 : (20 : Int) ≤ (C0 : Int) := by omega
          have j2 : ¬ C0 = 0 := by omega
          clear hk hls hlt
          go_wp2_with (first
            | (go_at_call 43; (with_reducible refine (takeShort xb (qb key lst want) 5 (some ⟨Ab, Ao, none⟩) 20 C0 wr HWr.out.py ?_).mono ?_); exact (by decide); rintro e w7 ⟨rfl, b7⟩; have H7 := Lib.hid (HWr.out.then_ b7); clear b7)
            | (go_at_call 37; (with_reducible refine (qfirst w7 (H7.out.tabR HT.out) (H7.out.tabB HB.out)).mono ?_); rintro e w8 ⟨rfl, b8⟩; have H8 := Lib.hid (H7.out.then_ b8); clear b8)
            | (go_at_call 45; (with_reducible refine (addrI xb key lst want w8 H8.out.py).mono ?_); rintro e w' ⟨rfl, rfl⟩))
          go_ret
          exact ⟨rfl, H8.out.bel⟩

end Go.Proofs.YtmfkfpgomglplaaDoor.Pv
