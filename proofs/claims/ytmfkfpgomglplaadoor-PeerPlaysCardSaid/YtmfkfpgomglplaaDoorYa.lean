/- PeerOnce: what is sent, what is taken. -/
import Derived.Test.YtmfkfpgomglplaaDoorPv
import Derived.Test.YtmfkfpgomglplaaDoorOf
import Derived.Test.YtmfkfpgomglplaaDoorHm
import Derived.Test.YtmfkfpgomglplaaDoorTl
import Derived.Test.YtmfkfpgomglplaaDoorMl
import Derived.Deep.Matrix
set_option linter.unusedVariables false
namespace Go.Proofs.YtmfkfpgomglplaaDoor.Ya
open Go Go.RowKit Kit Mb Sha Ap Mc1 Sc Mx Sb Pd Su Pa Hm Mm Tg Mf Pk Se Wn Op Pe Ps Pt Oq Pu Ar Of


/-- the parts of an argument. -/
theorem mat_parts {w : World} {a : Option Addr} {len cap : Nat} {A : Nat → Option Addr} {L C : Nat → Nat} {Z : Nat → List Int} (x : Addr) (ha : a = some x) (hl : len ≤ cap)
    (h : ∀ r, r < cap → w.cell? (x.add r) = some (.slice (A r) (L r) (C r)) ∧ L r ≤ C r ∧ C r ≤ maxLen ∧ (Z r).length = C r ∧ (∀ n ∈ Z r, (Lit.int .u8 n).wf = true) ∧ (A r = none → C r = 0) ∧ ∀ a', A r = some a' → ∀ c, c < C r → w.cell? (a'.add c) = some (.int .u8 ((Z r).getD c 0))) :
    ∃ ps : List Part, ps.length = len ∧ Pts w a ps := by
  have e : ∀ i, i < len → ∃ p : Part, w.cell? (x.add i) = some p.v ∧ Pt w p := by
    intro i hi
    obtain ⟨h1, h2, h3, h4, h5, h6, h7⟩ := h i (by omega)
    have hrow : IsRow .u8 w (A i) (L i) (C i) (Z i) := by
      cases hA : A i with
      | none =>
        have := h6 hA
        exact .inl ⟨rfl, by omega, this, List.eq_nil_of_length_eq_zero (by omega)⟩
      | some y => exact .inr ⟨y, rfl, h2, h3, h4, fun c hc => h7 y hA c (by omega), h5⟩
    obtain ⟨l, r1, r2, r3, r4, r5, _⟩ := row_bytes hrow
    refine ⟨⟨A i, C i, l⟩, ?_, r3, r4, (by show l.length ≤ C i; omega), r2⟩
    rw [h1]; unfold Part.v; rw [r1]
  haveI : Inhabited Part := ⟨⟨none, 0, []⟩⟩
  obtain ⟨p, hp⟩ := Go.Deep.choose_lt e
  refine ⟨(List.range len).map p, by simp, ?_, fun q hq => ?_⟩
  · by_cases h0 : len = 0
    · exact .inl (by simp [h0])
    · right
      obtain ⟨b, o, sp⟩ := x
      have g0 := (hp 0 (by omega)).1
      have hspot : sp = none := by simpa [Addr.add] using World.cell?_spot g0
      subst hspot
      refine ⟨b, o, ha, fun i hi => ?_⟩
      have hi' : i < len := by simpa using hi
      have g := (hp i hi').1
      have hadd : (⟨b, o, none⟩ : Addr).add i = ⟨b, o + i, none⟩ := by unfold Addr.add; split <;> simp_all
      rw [hadd] at g
      rw [g]; simp
  · obtain ⟨i, hi, rfl⟩ := List.mem_map.1 hq
    exact (hp i (List.mem_range.1 hi)).2
def IsMat (w : World) (a : Option Addr) (len : Nat) (ps : List Part) : Prop := ps.length = len ∧ Pts w a ps
section
variable {H : Type} {enc : TypeId × Value → H} {w : World} {base : Nat} {held : Bool}
theorem open_mat {fuel : Nat} {a : Option Addr} {len cap : Nat} {x : DataW H × List MemPlace} (h : DataW.trod enc Tryd.prog w base (fun _ => true) held fuel 31 (Value.slice a len cap).cells.toList = some x) : ∃ ps, IsMat w a len ps := by
  rcases Go.Deep.open_int_rows (q := 5) Tryd.underlying31 Tryd.underlying22 Tryd.underlying5 (by kernel_rfl) (by kernel_rfl) h with ⟨hcs, _⟩ | ⟨y, l, c, A, L, C, Z, hcs, _, hl, _, _, hc⟩
  · simp [Value.cells] at hcs
    obtain ⟨rfl, rfl, rfl⟩ := hcs
    exact ⟨[], rfl, .inl rfl, fun p hp => by cases hp⟩
  · simp [Value.cells] at hcs
    obtain ⟨rfl, rfl, rfl⟩ := hcs
    obtain ⟨ps, h1, h2⟩ := mat_parts y rfl hl (fun r hr => by
      obtain ⟨q1, q2, q3, q4, q5, q6, q7⟩ := hc r hr
      exact ⟨q1, q2, q3, q4, q5, q6, fun a' ha => (q7 a' ha).2⟩)
    exact ⟨ps, h1, h2⟩
end
theorem pt_then {w w' : World} {p : Part} (h : Pt w p) (hb : Below w.heap.size w w') : Pt w' p := ⟨sl_then hb (Nat.le_refl _) h.1, h.2.1, h.2.2.1, h.2.2.2⟩
theorem pt_sl {w : World} {a : Option Addr} {c : Nat} {l : List Nat} (h : Pt w ⟨a, c, l⟩) : Sl w a l := h.1
theorem pts_then {w w' : World} {a : Option Addr} {ps : List Part} (h : Pts w a ps) (hb : Below w.heap.size w w') : Pts w' a ps := by
  refine ⟨?_, fun p hp => pt_then (h.2 p hp) hb⟩
  rcases h.1 with h1 | ⟨b, off, e, hc⟩
  · exact .inl h1
  · exact .inr ⟨b, off, e, fun i hi => cell_then hb (Nat.le_refl _) (hc i hi)⟩
/-- a datagram's slice. -/
def dv (p : Option Addr × Nat × Nat) : Value := .slice p.1 p.2.1 p.2.2
def Rs (w : World) (base : Nat) (v : Value) (ps : List (Option Addr × Nat × Nat)) : Prop := w.ownsRow base 22 1 v ps.length (ps.map dv)
theorem rs_nil (w : World) (base : Nat) : Rs w base (.slice none 0 0) [] := World.ownsRow_nil _ _ _ _
theorem rs_far {w w' : World} {base : Nat} {v : Value} {ps : List (Option Addr × Nat × Nat)} (h : Rs w base v ps) (hb : ∀ k, k < w.heap.size → base ≤ k → w'.heap[k]? = w.heap[k]?) : Rs w' base v ps := by
  refine ⟨h.1, ?_⟩
  rcases h.2 with h | ⟨g, cap, cur, hv, hg, hc, rest⟩
  · exact .inl h
  · exact .inr ⟨g, cap, cur, hv, hg, by rw [hb g (Array.getElem?_eq_some_iff.1 hc).1 hg]; exact hc, rest⟩
theorem rb_grown {w w' : World} {b1 b2 : Nat} {v u : Value} {ps : List (Option Addr × Nat × Nat)} {l : List Nat} (hs : Rs w b1 v ps) (h : Rb w b2 u l) (hg : w.grownBy w' v.ownBlock) : Rb w' b2 u l := by
  refine ⟨h.1, ?_⟩
  rcases h.2 with h | ⟨g, cap, cur, hv, hg2, hc, rest⟩
  · exact .inl h
  · refine .inr ⟨g, cap, cur, hv, hg2, ?_, rest⟩
    rw [hg.block g (Array.getElem?_eq_some_iff.1 hc).1 ?_]
    · exact hc
    · rcases hs.2 with ⟨h0, _⟩ | ⟨g', cap', cur', h0, _, hc', _⟩
      · rw [h0]; simp [Value.ownBlock]
      · rw [h0]
        simp only [Value.ownBlock, ne_eq, Option.some.injEq]
        rintro rfl
        rw [hc'] at hc
        injection hc with hc; injection hc with _ hc; cases hc
theorem app_rs {ops : Array Oper} {rest : List Oper} {o : Oper} {a : Act} {Q : Exit → Act → World → Prop} {w : World} (hgd : o.guard = none) (s x : Operand)
    (ho : o.op = .call { callee := .builtin .append, args := #[s, x], argTypes := #[31, 31] }) (base : Nat) (v : Value) (ps : List (Option Addr × Nat × Nat)) (hs : a.eval s = v) (hown : Rs w base v ps)
    (b : Nat) (p : Option Addr × Nat × Nat) (hx : a.eval x = .slice (some ⟨b, 0, none⟩) 1 1) (hc : w.cell? ⟨b, 0, none⟩ = some (dv p)) (hlen : ps.length ≤ 1000) (hbase : base ≤ w.heap.size)
    (h : ∀ v' w', Rs w' base v' (ps ++ [p]) → w.grownBy w' v.ownBlock → wpList Tryd.prog ops Q rest (a.put o.dst v') w') : wpList Tryd.prog ops Q (o :: rest) a w := by
  obtain ⟨i0, hi, hz0, hz1, hz2⟩ := info_parts Pv.info22
  refine wpList_append_own w hgd s x 31 ho base 22 i0 (.slice none 0 0) 1 24 Tryd.underlying31 hi hz0 hz1 hz2 rfl (by decide) v _ _ hs hown ⟨b, 0, none⟩ 1 1 [dv p] hx rfl ?_ (by simp [dv, Value.oneCell']) (by unfold maxLen; omega) (by omega) hbase ?_
  · intro j u hu
    obtain rfl : j = 0 := by
      rcases Nat.eq_zero_or_pos j with h | h
      · exact h
      · rw [List.getElem?_eq_none (by simp; omega)] at hu; cases hu
    simp at hu; subst hu
    exact hc
  · intro v' w' h2 h3 _
    refine h v' w' ?_ h3
    unfold Rs; rw [List.map_append, List.length_append]; exact h2
/-- what is sent as the i-th. -/
def msg (key : List Nat) (V : Nat) (B : List Part) (i : Nat) : List Nat := sealL key 1 V (i + 6) (B.getD i ⟨none, 0, []⟩).l
/-- the datagrams so far. -/
def Dg (w : World) (key : List Nat) (V : Nat) (B : List Part) (base : Nat) (ps : List (Option Addr × Nat × Nat)) : Prop := ∀ j, (h : j < ps.length) → Rb w base (dv ps[j]) (msg key V B j)
theorem dg_snoc {w : World} {key : List Nat} {V : Nat} {B : List Part} {base : Nat} {ps : List (Option Addr × Nat × Nat)} {p : Option Addr × Nat × Nat} (h : Dg w key V B base ps) (hp : Rb w base (dv p) (msg key V B ps.length)) : Dg w key V B base (ps ++ [p]) := by
  intro j hj
  by_cases hl : j < ps.length
  · rw [List.getElem_append_left hl]; exact h j hl
  · obtain rfl : j = ps.length := by simp at hj; omega
    rw [List.getElem_concat_length rfl]; exact hp
/-- what the last loop keeps of them. -/
structure Dw (w : World) (key : List Nat) (V : Nat) (B : List Part) (hi : Nat) (la : Option Addr) (A : Nat → Option Addr) (C : Nat → Nat) : Prop where
  cell : ∀ o, o < B.length → ∃ gl, la = some ⟨gl, 0, none⟩ ∧ hi ≤ gl ∧ w.cell? ⟨gl, o, none⟩ = some (.slice (A o) (msg key V B o).length (C o))
  bytes : ∀ o, o < B.length → Sl w (A o) (msg key V B o)
  cap : ∀ o, o < B.length → (msg key V B o).length ≤ C o
  far : ∀ o, o < B.length → ∀ y, A o = some y → hi ≤ y.block
theorem dw_of {w : World} {key : List Nat} {V : Nat} {B : List Part} {base n lc : Nat} {la : Option Addr} {ps : List (Option Addr × Nat × Nat)} (hl : ps.length = B.length) (hr : Rs w base (.slice la n lc) ps) (hd : Dg w key V B base ps) :
    Dw w key V B base la (fun o => (ps.getD o (none, 0, 0)).1) (fun o => (ps.getD o (none, 0, 0)).2.2) := by
  have hg : ∀ o, (h : o < ps.length) → ps.getD o (none, 0, 0) = ps[o] := fun o h => by rw [List.getD_eq_getElem?_getD]; simp [h]
  have hs : ∀ o, (h : o < B.length) → ∃ a cap, dv (ps[o]'(by omega)) = .slice a (msg key V B o).length cap ∧ (msg key V B o).length ≤ cap ∧ Sl w a (msg key V B o) ∧ (a = none → cap = 0) ∧ (∀ x, a = some x → base ≤ x.block ∧ x.block < w.heap.size) := fun o h => rb_sl (hd o (by omega))
  refine ⟨?_, ?_, ?_, ?_⟩
  · intro o ho
    rcases hr.2 with ⟨_, h0⟩ | ⟨gl, cap, cur, hv, hg2, hc, _⟩
    · omega
    · have e1 : la = some ⟨gl, 0, none⟩ := by injection hv
      refine ⟨gl, e1, hg2, ?_⟩
      subst e1
      have := hr.cells (g := gl) rfl o (dv (ps[o]'(by omega))) (by simp [hl, ho])
      have hadd : (⟨gl, 0, none⟩ : Addr).add o = ⟨gl, o, none⟩ := by unfold Addr.add; split <;> simp_all
      rw [hadd] at this
      rw [this]
      obtain ⟨a, cap, hv2, h1, h2, h3, h4⟩ := hs o ho
      simp only [hg o (by omega)]
      unfold dv at hv2 ⊢; injection hv2 with e1 e2 e3
      rw [e2]
  · intro o ho
    obtain ⟨a, cap, hv, h1, h2, h3, h4⟩ := hs o ho
    simp only [hg o (by omega)]
    unfold dv at hv; injection hv with e1 e2 e3
    rw [e1]; exact h2
  · intro o ho
    obtain ⟨a, cap, hv, h1, h2, h3, h4⟩ := hs o ho
    simp only [hg o (by omega)]
    unfold dv at hv; injection hv with e1 e2 e3
    rw [e3]; exact h1
  · intro o ho y hy
    obtain ⟨a, cap, hv, h1, h2, h3, h4⟩ := hs o ho
    simp only [hg o (by omega)] at hy
    unfold dv at hv; injection hv with e1 e2 e3
    rw [e1] at hy
    exact (h4 y hy).1
variable {w w' : World} {key : List Nat} {V hi : Nat} {B : List Part} {la : Option Addr} {A : Nat → Option Addr} {C : Nat → Nat}
theorem Dw.then_ (h : Dw w key V B hi la A C) (hb : Below w.heap.size w w') : Dw w' key V B hi la A C :=
  ⟨fun o ho => by obtain ⟨gl, e, h1, h2⟩ := h.cell o ho; exact ⟨gl, e, h1, cell_then hb (Nat.le_refl _) h2⟩, fun o ho => sl_then hb (Nat.le_refl _) (h.bytes o ho), h.cap, h.far⟩
theorem Dw.bt {lo hi2 : Nat} (h : Dw w key V B hi la A C) (hb : Bt lo hi2 w w') (hh : hi2 ≤ hi) : Dw w' key V B hi la A C :=
  ⟨fun o ho => by obtain ⟨gl, e, h1, h2⟩ := h.cell o ho; exact ⟨gl, e, h1, hb.cell (.inr (Nat.le_trans hh h1)) h2⟩, fun o ho => hb.sl (fun y hy => .inr (Nat.le_trans hh (h.far o ho y hy))) (h.bytes o ho), h.cap, h.far⟩
def qa (key : List Nat) (V out : Nat) : Pe := ⟨key, 1, V, out, 0, -1⟩
def qb (key : List Nat) (V last : Nat) (ad : Int) : Pe := ⟨key, 2, V, 0, last, ad⟩
theorem newA (ka : Option Addr) (kn kc : Nat) (key : List Nat) (v : Int) (V : Nat) (w : World) (hv : v = (V : Int)) (hn : kn = key.length) (ks : Sl w ka key) (k0 : ka = none → kc = 0) (klen : key.length ≤ 140737488355328) (h8 : V < 8) :
    Calls Tryd.prog 39 #[.slice ka kn kc, .int .i64 1, .int .i64 v, .int .u64 5] w (NwP key 1 V 5 w) := by
  subst hn hv; exact newPeer ka kc key 1 V 5 w ks k0 klen (by decide) (by decide) h8 (by decide)
theorem newB (ka : Option Addr) (kn kc : Nat) (key : List Nat) (v : Int) (V : Nat) (w : World) (hv : v = (V : Int)) (hn : kn = key.length) (ks : Sl w ka key) (k0 : ka = none → kc = 0) (klen : key.length ≤ 140737488355328) (h8 : V < 8) :
    Calls Tryd.prog 39 #[.slice ka kn kc, .int .i64 2, .int .i64 v, .int .u64 0] w (NwP key 2 V 0 w) := by
  subst hn hv; exact newPeer ka kc key 2 V 0 w ks k0 klen (by decide) (by decide) h8 (by decide)
/-- whatever New answers. -/
def NwA (w : World) (e : Ending) (w' : World) : Prop := ∃ p c, e = .returned (.tuple #[.pointer p, .int .i64 c]) ∧ Below w.heap.size w w'
theorem newAny (ka : Option Addr) (kn kc : Nat) (key : List Nat) (d : Nat) (v : Int) (out : Nat) (w : World) (hd : d = 1 ∨ d = 2) (hn : kn = key.length) (ks : Sl w ka key) (k0 : ka = none → kc = 0) (klen : key.length ≤ 140737488355328) (ho : out ≤ 5) :
    Calls Tryd.prog 39 #[.slice ka kn kc, .int .i64 (d : Int), .int .i64 v, .int .u64 (out : Int)] w (NwA w) := by
  subst hn
  by_cases hv : 0 ≤ v ∧ v < 8
  · obtain ⟨V, rfl⟩ := Int.eq_ofNat_of_zero_le hv.1
    refine (newPeer ka kc key d V out w ks k0 klen (by omega) (by omega) (by omega) (by omega)).mono ?_
    rintro e w' ⟨x, rfl, _, _, _, hb⟩
    exact ⟨_, _, rfl, hb⟩
  · refine (newPeerNo ka key.length kc (d : Int) v out w (.inl ?_)).mono ?_
    · unfold mayB
      by_cases h0 : 0 ≤ v
      · have : ¬ v < 8 := fun h => hv ⟨h0, h⟩
        simp [this]
      · simp [h0]
    · rintro e w' ⟨rfl, hb⟩
      exact ⟨_, _, rfl, hb⟩
theorem newAny1 (ka : Option Addr) (kn kc : Nat) (key : List Nat) (v : Int) (w : World) (hn : kn = key.length) (ks : Sl w ka key) (k0 : ka = none → kc = 0) (klen : key.length ≤ 140737488355328) :
    Calls Tryd.prog 39 #[.slice ka kn kc, .int .i64 1, .int .i64 v, .int .u64 5] w (NwA w) := newAny ka kn kc key 1 v 5 w (.inl rfl) hn ks k0 klen (by decide)
theorem newAny2 (ka : Option Addr) (kn kc : Nat) (key : List Nat) (v : Int) (w : World) (hn : kn = key.length) (ks : Sl w ka key) (k0 : ka = none → kc = 0) (klen : key.length ≤ 140737488355328) :
    Calls Tryd.prog 39 #[.slice ka kn kc, .int .i64 2, .int .i64 v, .int .u64 0] w (NwA w) := newAny ka kn kc key 2 v 0 w (.inr rfl) hn ks k0 klen (by decide)
theorem newNo (ka : Option Addr) (kn kc d : Nat) (v : Int) (out : Nat) (w : World) (hv : ¬ (0 ≤ v ∧ v < 8)) :
    Calls Tryd.prog 39 #[.slice ka kn kc, .int .i64 (d : Int), .int .i64 v, .int .u64 (out : Int)] w fun e w' => e = .returned (.tuple #[.pointer none, .int .i64 1]) ∧ Below w.heap.size w w' := by
  refine newPeerNo ka kn kc (d : Int) v out w (.inl ?_)
  unfold mayB
  by_cases h0 : 0 ≤ v
  · have : ¬ v < 8 := fun h => hv ⟨h0, h⟩
    simp [this]
  · simp [h0]
theorem newNo1 (ka : Option Addr) (kn kc : Nat) (v : Int) (w : World) (hv : ¬ (0 ≤ v ∧ v < 8)) :
    Calls Tryd.prog 39 #[.slice ka kn kc, .int .i64 1, .int .i64 v, .int .u64 5] w fun e w' => e = .returned (.tuple #[.pointer none, .int .i64 1]) ∧ Below w.heap.size w w' := newNo ka kn kc 1 v 5 w hv
theorem newNo2 (ka : Option Addr) (kn kc : Nat) (v : Int) (w : World) (hv : ¬ (0 ≤ v ∧ v < 8)) :
    Calls Tryd.prog 39 #[.slice ka kn kc, .int .i64 2, .int .i64 v, .int .u64 0] w fun e w' => e = .returned (.tuple #[.pointer none, .int .i64 1]) ∧ Below w.heap.size w w' := newNo ka kn kc 2 v 0 w hv
theorem qa_ok {key : List Nat} (h1 : ∀ c ∈ key, c < 256) (h2 : key.length ≤ 800000) (V out : Nat) (h8 : V < 8) (h : out ≤ 200) : Ok (qa key V out) := ⟨h1, h2, by simp [qa], by simp [qa], by simpa [qa] using h8, by simp only [qa]; omega⟩
theorem qb_ok {key : List Nat} (h1 : ∀ c ∈ key, c < 256) (h2 : key.length ≤ 800000) (V last : Nat) (ad : Int) (h8 : V < 8) : Ok (qb key V last ad) := ⟨h1, h2, by simp [qb], by simp [qb], by simpa [qb] using h8, by simp [qb]⟩
/-- one is sent. -/
theorem sendI (x : Pl) (key : List Nat) (V i : Nat) (n : Nat) (p : Part) (B : List Part) (w : World) (hnn : n = (msg key V B i).length) (h1 : ∀ c ∈ key, c < 256) (h2 : key.length ≤ 800000) (h8 : V < 8) (hi : i < B.length) (hB1 : B.length ≤ 100) (hpB : B.getD i ⟨none, 0, []⟩ = p) (hl : p.l.length ≤ 1200) (hp : Pr w x (qa key V (i + 5))) (hs : Pt w p) (hT : TabR w) (hB : TabB w) :
    Calls Tryd.prog 41 #[.pointer (some ⟨x.g, 0, none⟩), .slice p.a p.l.length p.cap] w fun e w' => ∃ b c, e = .returned (.tuple #[.slice b n c, .int .i64 0]) ∧ Rb w' w.heap.size (.slice b n c) (msg key V B i) ∧ Pr w' x (qa key V (i + 1 + 5)) ∧ Bt x.lo x.hi w w' := by
  subst hpB hnn
  refine (sendC x (qa key V (i + 5)) _ _ _ w (qa_ok h1 h2 V _ h8 (by omega)) hp (by simp only [qa]; omega) hs.1 hs.2.1 hs.2.2.1 hs.2.2.2 hl hT hB).mono ?_
  rintro e w' ⟨b, c, rfl, _, _, _, _, h5, h6, h7⟩
  have e1 : (msg key V B i).length = 26 + (B.getD i ⟨none, 0, []⟩).l.length := sealL_len _ _ _ _ _
  rw [e1]
  refine ⟨b, c, rfl, h7, ?_, h6⟩
  have e2 : i + 1 + 5 = i + 5 + 1 := by omega
  rw [e2]; exact h5
theorem sendNo (x : Pl) (key : List Nat) (V i : Nat) (p : Part) (w : World) (hi : i ≤ 100) (hl : 1200 < p.l.length) (hp : Pr w x (qa key V (i + 5))) :
    Calls Tryd.prog 41 #[.pointer (some ⟨x.g, 0, none⟩), .slice p.a p.l.length p.cap] w fun e w' => e = .returned (.tuple #[.slice none 0 0, .int .i64 4]) ∧ w = w' :=
  sendLong x _ p.a _ _ w hp (by simp only [qa]; omega) hl
/-- the last number that was taken, where the last place is lst - 1. -/
def inN (lst : Nat) : Nat := if lst = 0 then 0 else lst + 5
def TkI (x : Pl) (key : List Nat) (V o6 : Nat) (ad : Int) (l : List Nat) (w : World) (e : Ending) (w' : World) : Prop :=
  ∃ b c, e = .returned (.tuple #[.slice b l.length c, .int .i64 0]) ∧ Sl w' b l ∧ (b = none → c = 0) ∧ l.length ≤ c ∧ (∀ y, b = some y → w.heap.size ≤ y.block) ∧ Pr w' x (qb key V o6 ad) ∧ Bt x.lo x.hi w w'
theorem takeI (x : Pl) (key : List Nat) (V o o6 last n : Nat) (ad : Int) (B : List Part) (b : Option Addr) (c : Nat) (w : World) (h6 : o6 = o + 6) (h1 : ∀ c ∈ key, c < 256) (h2 : key.length ≤ 800000) (h8 : V < 8) (ho : o < B.length) (hB1 : B.length ≤ 100) (hl : last < o + 6) (hn : n = (msg key V B o).length) (hL : (B.getD o ⟨none, 0, []⟩).l.length ≤ 1200) (hx : ∀ c ∈ (B.getD o ⟨none, 0, []⟩).l, c < 256) (hp : Pr w x (qb key V last ad)) (hc : (msg key V B o).length ≤ c) (hs : Sl w b (msg key V B o)) (hT : TabR w) (hB : TabB w) :
    Calls Tryd.prog 43 #[.pointer (some ⟨x.g, 0, none⟩), .int .i64 (o : Int), .slice b n c] w (TkI x key V o6 (o : Int) (B.getD o ⟨none, 0, []⟩).l w) := by
  subst hn h6
  have e1 : (msg key V B o).length = 26 + (B.getD o ⟨none, 0, []⟩).l.length := sealL_len _ _ _ _ _
  refine (takeSealNew x (qb key V last ad) (o : Int) b _ c 1 (o + 6) (B.getD o ⟨none, 0, []⟩).l w hp (qb_ok h1 h2 V last ad h8) (by decide) (by decide) (by simp [qb]) (by omega) (by omega) hl hL hx e1 (by omega) hs hT hB).mono ?_
  rintro e w' ⟨b, c, rfl, q1, q2, q3, q4, q5, q6⟩
  rw [if_pos (Int.natCast_nonneg o)] at q5
  exact ⟨b, c, rfl, q1, q2, q3, fun y hy => (q4 y hy).1, q5, q6⟩
theorem takeJ (x : Pl) (key : List Nat) (V o last n : Nat) (ad : Int) (B : List Part) (b : Option Addr) (c : Nat) (w : World) (h1 : ∀ c ∈ key, c < 256) (h2 : key.length ≤ 800000) (h8 : V < 8) (ho : o < B.length) (hB1 : B.length ≤ 100) (hl : ¬ last < o + 6) (hn : n = (msg key V B o).length) (hL : (B.getD o ⟨none, 0, []⟩).l.length ≤ 1200) (hx : ∀ c ∈ (B.getD o ⟨none, 0, []⟩).l, c < 256) (hp : Pr w x (qb key V last ad)) (hc : (msg key V B o).length ≤ c) (hs : Sl w b (msg key V B o)) (hT : TabR w) (hB : TabB w) :
    Calls Tryd.prog 43 #[.pointer (some ⟨x.g, 0, none⟩), .int .i64 (o : Int), .slice b n c] w fun e w' => e = .returned (.tuple #[.slice none 0 0, .int .i64 14]) ∧ Below w.heap.size w w' := by
  subst hn
  have e1 : (msg key V B o).length = 26 + (B.getD o ⟨none, 0, []⟩).l.length := sealL_len _ _ _ _ _
  exact takeSealOld x (qb key V last ad) (o : Int) b _ c 1 (o + 6) (B.getD o ⟨none, 0, []⟩).l w hp (qb_ok h1 h2 V last ad h8) (by decide) (by decide) (by simp [qb]) (by omega) (by omega) hl hL hx e1 (by omega) hs hT hB
theorem addrI (x : Pl) (key : List Nat) (V last : Nat) (ad : Int) (w : World) (h : Pr w x (qb key V last ad)) : Calls Tryd.prog 45 #[.pointer (some ⟨x.g, 0, none⟩)] w fun e w' => e = .returned (.int .i64 ad) ∧ w = w' := addrC x _ w h
theorem inI2 (x : Pl) (key : List Nat) (V last : Nat) (ad : Int) (w : World) (h : Pr w x (qb key V last ad)) : Calls Tryd.prog 47 #[.pointer (some ⟨x.g, 0, none⟩)] w fun e w' => e = .returned (.int .u64 (last : Int)) ∧ w = w' := inC x _ w h
theorem addrA (x : Pl) (key : List Nat) (V out : Nat) (w : World) (h : Pr w x (qa key V out)) : Calls Tryd.prog 45 #[.pointer (some ⟨x.g, 0, none⟩)] w fun e w' => e = .returned (.int .i64 (-1)) ∧ w = w' := addrC x _ w h
theorem outA (x : Pl) (key : List Nat) (V out : Nat) (w : World) (h : Pr w x (qa key V out)) : Calls Tryd.prog 46 #[.pointer (some ⟨x.g, 0, none⟩)] w fun e w' => e = .returned (.int .u64 (out : Int)) ∧ w = w' := outC x _ w h
/-- does Take take what arrives? -/
def TfOk (q : Pe) (f : List Nat) : Prop := 26 ≤ f.length ∧ tagL q.key (f.take (f.length - 16)) = f.drop (f.length - 16) ∧ mayB ((f.getD 0 0 : Nat) : Int) ((f.getD 1 0 : Nat) : Int) (numL ((f.drop 2).take 8)) (f.length - 16 - 10) = true ∧ f.getD 0 0 ≠ q.d ∧ f.getD 1 0 = q.v ∧ q.last < numL ((f.drop 2).take 8)
def TfN (w : World) (e : Ending) (w' : World) : Prop := ∃ E : Int, (E == 0) = false ∧ e = .returned (.tuple #[.slice none 0 0, .int .i64 E]) ∧ Below w.heap.size w w'
theorem takeFno (x : Pl) (q : Pe) (fa : Option Addr) (fn fc : Nat) (f : List Nat) (w : World) (h : ¬ TfOk q f) (hp : Pr w x q) (hq : Ok q) (hn : fn = f.length) (hlen : f.length ≤ 100000) (hfc : f.length ≤ fc) (hf : Sl w fa f) (hfx : ∀ c ∈ f, c < 256) (hT : TabR w) (hB : TabB w) :
    Calls Tryd.prog 43 #[.pointer (some ⟨x.g, 0, none⟩), .int .i64 7, .slice fa fn fc] w (TfN w) := by
  have bad : ∀ E : Int, E ≠ 0 → Calls Tryd.prog 27 #[.slice x.ka q.key.length x.kc, .slice fa fn fc] w (fun e w' => e = .returned (.tuple #[.agg #[.int .i64 0, .int .i64 0, .int .u64 0, .slice none 0 0], .int .i64 E]) ∧ Below w.heap.size w w') → Calls Tryd.prog 43 #[.pointer (some ⟨x.g, 0, none⟩), .int .i64 7, .slice fa fn fc] w (TfN w) := by
    intro E hE K
    refine (takeBad x q 7 E fa fn fc w hp hE K).mono ?_
    rintro e w' ⟨rfl, b⟩
    exact ⟨E, by rw [beq_eq_false_iff_ne]; exact hE, rfl, b⟩
  by_cases h26 : f.length < 26
  · exact bad 3 (by decide) (openShortE fa fn fc x.ka q.key.length x.kc w (by omega))
  · obtain ⟨bb, bo, rfl, hc⟩ := sl_at hf (by omega)
    subst hn
    by_cases ht : tagL q.key (f.take (f.length - 16)) = f.drop (f.length - 16)
    · cases hm : mayB ((f.getD 0 0 : Nat) : Int) ((f.getD 1 0 : Nat) : Int) (numL ((f.drop 2).take 8)) (f.length - 16 - 10) with
      | false => exact bad 2 (by decide) (openForm bb bo fc f x.ka x.kc q.key w (f.length - 16) (by omega) (by omega) (by omega) hfc hc hfx hp.ks hp.k0 hp.kcap hq.kl hq.klen hT hB ht _ _ _ _ rfl rfl rfl rfl hm)
      | true =>
        have KO := openOk bb bo fc f x.ka x.kc q.key w (f.length - 16) (by omega) (by omega) (by omega) hfc hc hfx hp.ks hp.k0 hp.kcap hq.kl hq.klen hT hB ht _ _ _ _ rfl rfl rfl rfl hm
        by_cases hd : f.getD 0 0 = q.d
        · refine (takeForm1 x q 7 _ _ fc _ _ _ _ w hp hd KO).mono ?_
          rintro e w' ⟨rfl, b⟩
          exact ⟨2, by decide, rfl, b⟩
        by_cases hv : f.getD 1 0 = q.v
        · by_cases hnw : q.last < numL ((f.drop 2).take 8)
          · exact absurd ⟨by omega, ht, hm, hd, hv, hnw⟩ h
          · refine (takeOldP x q 7 _ _ fc _ _ _ _ w hp hd hv hnw KO).mono ?_
            rintro e w' ⟨rfl, b⟩
            exact ⟨14, by decide, rfl, b⟩
        · refine (takeForm2 x q 7 _ _ fc _ _ _ _ w hp hd hv KO).mono ?_
          rintro e w' ⟨rfl, b⟩
          exact ⟨2, by decide, rfl, b⟩
    · exact bad 15 (by decide) (openTag bb bo fc f x.ka x.kc q.key w (f.length - 16) (by omega) (by omega) (by omega) hfc hc hfx hp.ks hp.k0 hp.kcap hq.kl hq.klen hT hB ht)
def TfY (x : Pl) (M : Nat) (w : World) (e : Ending) (w' : World) : Prop := ∃ (b : Option Addr) (c n : Nat), e = .returned (.tuple #[.slice b n c, .int .i64 0]) ∧ Bt x.lo x.hi w w' ∧ (n : Int) ≤ (M : Int)
theorem takeFyes (x : Pl) (q : Pe) (fa : Option Addr) (fn fc M : Nat) (f : List Nat) (w : World) (h : TfOk q f) (hM : f.length = M + 16) (hp : Pr w x q) (hq : Ok q) (hn : fn = f.length) (hlen : f.length ≤ 100000) (hfc : f.length ≤ fc) (hf : Sl w fa f) (hfx : ∀ c ∈ f, c < 256) (hT : TabR w) (hB : TabB w) :
    Calls Tryd.prog 43 #[.pointer (some ⟨x.g, 0, none⟩), .int .i64 7, .slice fa fn fc] w (TfY x M w) := by
  obtain ⟨h26, ht, hm, hd, hv, hnw⟩ := h
  obtain ⟨bb, bo, rfl, hc⟩ := sl_at hf (by omega)
  subst hn
  have KO := openOk bb bo fc f x.ka x.kc q.key w (f.length - 16) (by omega) (by omega) (by omega) hfc hc hfx hp.ks hp.k0 hp.kcap hq.kl hq.klen hT hB ht _ _ _ _ rfl rfl rfl rfl hm
  refine (takeOkP x q 7 _ _ fc _ _ _ _ w hp hd hv hnw (by decide) KO).mono ?_
  rintro e w' ⟨b, c, rfl, h1, h2, h3, h4, h5, h6⟩
  refine ⟨b, c, _, rfl, h6, ?_⟩
  rw [List.length_take]; omega
theorem dtagN (ka : Option Addr) (kc : Nat) (key : List Nat) (ta : Option Addr) (tc n : Nat) (text T : List Nat) (w : World) (hT : T = tagL key text) (hn : n = text.length) (hs : Sl w ka key) (h0 : ka = none → kc = 0) (hcap : key.length ≤ kc) (hl : ∀ c ∈ key, c < 256) (hlen : key.length ≤ 800000) (ht : Pt w ⟨ta, tc, text⟩) (tlen : text.length ≤ 800000) :
    Calls Tryd.prog 21 #[.slice ka key.length kc, .slice ta n tc] w fun e w' => ∃ hb ho hc, e = .returned (.slice (some ⟨hb, ho, none⟩) 16 hc) ∧ Cells w' hb ho T ∧ Below w.heap.size w w' := by
  subst hn hT
  refine (Dh.dtagC ka kc key ta tc text w hs h0 hcap hl hlen ht.1 ht.2.1 ht.2.2.1 ht.2.2.2 tlen).mono ?_
  rintro e w' ⟨hb, ho, hc, rfl, h1, _, h2⟩
  exact ⟨hb, ho, hc, rfl, h1, h2⟩
theorem in_new {lst o : Nat} (h : lst ≤ o) : inN lst < o + 6 := by unfold inN; split <;> omega
theorem in_old {lst o : Nat} (h : ¬ lst ≤ o) : ¬ inN lst < o + 6 := by unfold inN; split <;> omega
theorem in_next (o : Nat) : inN (o + 1) = o + 6 := by unfold inN; rw [if_neg (by omega)]
theorem six (o o6 : Nat) (h : o ≤ 100) (h1 : o6 = o + 6) : wrap64 ((o : Int) + 6) = (o6 : Int) ∧ IntKind.u64.wrap ((o : Int) + 6) = (o6 : Int) ∧ IntKind.u64.wrap (o6 : Int) = (o6 : Int) := by
  have e : (o : Int) + 6 = (o6 : Int) := by omega
  rw [e]
  refine ⟨IntWalk.wrap64_in _ (by omega), ?_, ?_⟩ <;> (rw [IntKind.wrap_u64]; omega)
theorem five (o o6 : Nat) (h : o ≤ 100) (h1 : o + 5 = o6) : wrap64 (5 + (o : Int)) = (o6 : Int) ∧ IntKind.u64.wrap (5 + (o : Int)) = (o6 : Int) ∧ IntKind.u64.wrap (o6 : Int) = (o6 : Int) := by
  have e : 5 + (o : Int) = (o6 : Int) := by omega
  rw [e]
  refine ⟨IntWalk.wrap64_in _ (by omega), ?_, ?_⟩ <;> (rw [IntKind.wrap_u64]; omega)

end Go.Proofs.YtmfkfpgomglplaaDoor.Ya
