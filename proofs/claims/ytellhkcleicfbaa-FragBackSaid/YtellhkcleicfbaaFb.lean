/- frag.Cut: a row of datagrams. -/
import Derived.Test.YtellhkcleicfbaaSb
import Derived.Deep.CutRange
set_option linter.unusedVariables false
namespace Go.Proofs.Ytellhkcleicfbaa.Fb
open Go Go.RowKit Kit Crc Var Get Bytes WireFirst Ref3 Copy Ap Rd RdA Fr Fa Sb
theorem info23 : (Try.prog.info? 23).map (fun i => (i.zero, i.size, i.bytes)) = some (some (.slice none 0 0), 1, 24) := by kernel_rfl
/-- one of the parts that are handed over. -/
structure Part where
  (a : Option Addr) (cap : Nat) (l : List Nat)
def Part.v (p : Part) : Value := .slice p.a p.l.length p.cap
def Pt (w : World) (p : Part) : Prop := Sl w p.a p.l ∧ (p.a = none → p.cap = 0) ∧ p.l.length ≤ p.cap ∧ ∀ c ∈ p.l, c < 256
def Pts (w : World) (a : Option Addr) (ps : List Part) : Prop :=
  (ps = [] ∨ ∃ b off, a = some ⟨b, off, none⟩ ∧ ∀ i, (h : i < ps.length) → w.cell? ⟨b, off + i, none⟩ = some ps[i].v) ∧ ∀ p ∈ ps, Pt w p
def catP (ps : List Part) : List Nat := ps.flatMap (·.l)
theorem catP_next (ps : List Part) (i : Nat) (h : i < ps.length) : catP (ps.take i) ++ ps[i].l = catP (ps.take (i + 1)) := by
  rw [catP, catP, List.take_succ_eq_append_getElem h, List.flatMap_append]; simp
theorem catP_le (ps : List Part) (i : Nat) : (catP (ps.take i)).length ≤ (catP ps).length := by
  have : catP ps = catP (ps.take i) ++ catP (ps.drop i) := by rw [catP, catP, catP, ← List.flatMap_append, List.take_append_drop]
  rw [this, List.length_append]; omega
theorem pt_then {B : Nat} {W w1 : World} (hb : Below B W w1) (hB : W.heap.size ≤ B) {p : Part} (h : Pt W p) : Pt w1 p := ⟨sl_then hb hB h.1, h.2⟩
theorem pts_then {B : Nat} {W w1 : World} (hb : Below B W w1) (hB : W.heap.size ≤ B) {a : Option Addr} {ps : List Part} (h : Pts W a ps) : Pts w1 a ps := by
  refine ⟨?_, fun p hp => pt_then hb hB (h.2 p hp)⟩
  rcases h.1 with h | ⟨b, off, e, h⟩
  · exact .inl h
  · exact .inr ⟨b, off, e, fun i hi => cell_then hb hB (h i hi)⟩
def Rp (w : World) (base : Nat) (v : Value) (ps : List Part) : Prop := w.ownsRow base 23 1 v ps.length (ps.map Part.v)
theorem rp_nil (w : World) (base : Nat) : Rp w base (.slice none 0 0) [] := World.ownsRow_nil _ _ _ _
theorem rp_alloc {w : World} {base : Nat} {v : Value} {ps : List Part} (h : Rp w base v ps) (o : Obj) : Rp (w.alloc o) base v ps := World.ownsRow.alloc h o
theorem app_rp {ops : Array Oper} {rest : List Oper} {o : Oper} {a : Act} {Q : Exit → Act → World → Prop} {w : World} (hgd : o.guard = none) (s x : Operand)
    (ho : o.op = .call { callee := .builtin .append, args := #[s, x], argTypes := #[24, 24] }) (base : Nat) (v : Value) (ps : List Part) (hs : a.eval s = v) (hown : Rp w base v ps)
    (b : Nat) (p : Part) (hx : a.eval x = .slice (some ⟨b, 0, none⟩) 1 1) (hc : w.cell? ⟨b, 0, none⟩ = some p.v) (hlen : ps.length ≤ 1000) (hbase : base ≤ w.heap.size)
    (h : ∀ v' w', Rp w' base v' (ps ++ [p]) → (∀ B W0, B ≤ base → Below B W0 w → Below B W0 w') → wpList Try.prog ops Q rest (a.put o.dst v') w') : wpList Try.prog ops Q (o :: rest) a w := by
  obtain ⟨i0, hi, hz0, hz1, hz2⟩ := info_parts info23
  refine wpList_append_own w hgd s x 24 ho base 23 i0 (.slice none 0 0) 1 24 Try.underlying24 hi hz0 hz1 hz2 rfl (by decide) v _ _ hs hown ⟨b, 0, none⟩ 1 1 [p.v] hx rfl ?_ (by simp [Part.v, Value.oneCell']) (by unfold maxLen; omega) (by omega) hbase ?_
  · intro j u hu
    obtain rfl : j = 0 := by
      rcases Nat.eq_zero_or_pos j with h | h
      · exact h
      · rw [List.getElem?_eq_none (by simp; omega)] at hu; cases hu
    simp at hu; subst hu
    exact hc
  · intro v' w' h2 h3 _
    refine h v' w' ?_ (fun B W0 hB hb => hb.grown h3 (Nat.le_trans hB hbase) (fun j hj => Nat.le_trans hB (hown.lt j hj).1))
    unfold Rp; rw [List.map_append, List.length_append]; exact h2
theorem rp_pts {w : World} {base : Nat} {v : Value} {ps : List Part} (h : Rp w base v ps) (hp : ∀ p ∈ ps, Pt w p) : ∃ a cap, v = .slice a ps.length cap ∧ Pts w a ps := by
  rcases h.2 with ⟨rfl, hn⟩ | ⟨g, cap, cur, rfl, hb, hg, hnc, _, hcs, htake⟩
  · have : ps = [] := List.eq_nil_of_length_eq_zero hn
    subst this
    exact ⟨none, 0, rfl, .inl rfl, hp⟩
  · refine ⟨_, cap, rfl, .inr ⟨g, 0, rfl, fun i hi => ?_⟩, hp⟩
    have hu : (ps.map Part.v)[i]? = some ps[i].v := by simp [hi]
    have := h.cells (g := g) rfl i _ hu
    have hadd : (⟨g, 0, none⟩ : Addr).add i = ⟨g, i, none⟩ := by unfold Addr.add; split <;> simp_all
    rw [hadd] at this
    rw [Nat.zero_add]; exact this

theorem part_next {w : World} {ra : Option Addr} {rc : Nat} {R : List Nat} (h : Pt w ⟨ra, rc, R⟩) (N : Nat) (hN : N ≤ R.length) :
    ∃ x1 y1 x2 y2, (∀ w1 : World, (Instr.sliceAt 23 (.slice ra R.length rc) none (some (.int .i64 (N : Int))) none).run Try.prog w1 = .ok (.slice x1 N y1) w1) ∧
      (∀ w1 : World, (Instr.sliceAt 23 (.slice ra R.length rc) (some (.int .i64 (N : Int))) none none).run Try.prog w1 = .ok (.slice x2 (R.length - N) y2) w1) ∧ Pt w ⟨x1, y1, R.take N⟩ ∧ Pt w ⟨x2, y2, R.drop N⟩ := by
  obtain ⟨hs, h0, hc, hl⟩ := h
  obtain ⟨x1, y1, e1, s1, l1, z1, _⟩ := sub_val hs h0 hc 0 N (Nat.zero_le _) hN
  obtain ⟨x2, y2, e2, s2, l2, z2, _⟩ := sub_val hs h0 hc N R.length hN (Nat.le_refl _)
  refine ⟨x1, y1, x2, y2, fun w1 => ?_, fun w1 => ?_, ⟨?_, z1, ?_, fun c hc => hl c (List.mem_of_mem_take hc)⟩, ⟨?_, z2, ?_, fun c hc => hl c (List.mem_of_mem_drop hc)⟩⟩
  · rw [run_sub ra R.length rc none (some (.int .i64 (N : Int))) 0 N w1 lo_none (hi_some rfl) (Nat.zero_le _) hN hc, e1]; rfl
  · rw [run_sub ra R.length rc (some (.int .i64 (N : Int))) none N R.length w1 (lo_some rfl) (hi_none _) hN (Nat.le_refl _) hc, e2]
  · simpa using s1
  · show (R.take N).length ≤ y1
    rw [List.length_take]; omega
  · show Sl w x2 (R.drop N)
    rwa [List.take_of_length_le (by simp)] at s2
  · show (R.drop N).length ≤ y2
    rw [List.length_drop]; exact l2
/-- a datagram's slice. -/
def dv (p : Option Addr × Nat × Nat) : Value := .slice p.1 p.2.1 p.2.2
def Rs (w : World) (base : Nat) (v : Value) (ps : List (Option Addr × Nat × Nat)) : Prop := w.ownsRow base 23 1 v ps.length (ps.map dv)
theorem rs_nil (w : World) (base : Nat) : Rs w base (.slice none 0 0) [] := World.ownsRow_nil _ _ _ _
theorem rs_far {w w' : World} {base : Nat} {v : Value} {ps : List (Option Addr × Nat × Nat)} (h : Rs w base v ps) (hb : ∀ k, k < w.heap.size → base ≤ k → w'.heap[k]? = w.heap[k]?) : Rs w' base v ps := by
  refine ⟨h.1, ?_⟩
  rcases h.2 with h | ⟨g, cap, cur, hv, hg, hc, rest⟩
  · exact .inl h
  · exact .inr ⟨g, cap, cur, hv, hg, by rw [hb g (Array.getElem?_eq_some_iff.1 hc).1 hg]; exact hc, rest⟩
theorem rb_grown {w w' : World} {b1 b2 : Nat} {v u : Value} {ps : List (Option Addr × Nat × Nat)} {l : List Nat} (hs : Rs w b1 v ps) (h : Rb w b2 u l) (hg : w.grownBy w' v.ownBlock) : Rb w' b2 u l := by
  refine ⟨h.1, ?_⟩
  rcases h.2 with h | ⟨g, cap, cur, hv, hg2, hc, rest⟩
  · exact .inl h
  · refine .inr ⟨g, cap, cur, hv, hg2, ?_, rest⟩
    rw [hg.block g (Array.getElem?_eq_some_iff.1 hc).1 ?_]
    · exact hc
    · rcases hs.2 with ⟨h0, _⟩ | ⟨g', cap', cur', h0, _, hc', _⟩
      · rw [h0]; simp [Value.ownBlock]
      · rw [h0]
        simp only [Value.ownBlock, ne_eq, Option.some.injEq]
        rintro rfl
        rw [hc'] at hc
        injection hc with hc; injection hc with _ hc; cases hc
theorem app_rs {ops : Array Oper} {rest : List Oper} {o : Oper} {a : Act} {Q : Exit → Act → World → Prop} {w : World} (hgd : o.guard = none) (s x : Operand)
    (ho : o.op = .call { callee := .builtin .append, args := #[s, x], argTypes := #[24, 24] }) (base : Nat) (v : Value) (ps : List (Option Addr × Nat × Nat)) (hs : a.eval s = v) (hown : Rs w base v ps)
    (b : Nat) (p : Option Addr × Nat × Nat) (hx : a.eval x = .slice (some ⟨b, 0, none⟩) 1 1) (hc : w.cell? ⟨b, 0, none⟩ = some (dv p)) (hlen : ps.length ≤ 1000) (hbase : base ≤ w.heap.size)
    (h : ∀ v' w', Rs w' base v' (ps ++ [p]) → w.grownBy w' v.ownBlock → wpList Try.prog ops Q rest (a.put o.dst v') w') : wpList Try.prog ops Q (o :: rest) a w := by
  obtain ⟨i0, hi, hz0, hz1, hz2⟩ := info_parts info23
  refine wpList_append_own w hgd s x 24 ho base 23 i0 (.slice none 0 0) 1 24 Try.underlying24 hi hz0 hz1 hz2 rfl (by decide) v _ _ hs hown ⟨b, 0, none⟩ 1 1 [dv p] hx rfl ?_ (by simp [dv, Value.oneCell']) (by unfold maxLen; omega) (by omega) hbase ?_
  · intro j u hu
    obtain rfl : j = 0 := by
      rcases Nat.eq_zero_or_pos j with h | h
      · exact h
      · rw [List.getElem?_eq_none (by simp; omega)] at hu; cases hu
    simp at hu; subst hu
    exact hc
  · intro v' w' h2 h3 _
    refine h v' w' ?_ h3
    unfold Rs; rw [List.map_append, List.length_append]; exact h2
/-- the datagrams so far. -/
def Dg (w : World) (M : Nat → List Nat) (base : Nat) (ps : List (Option Addr × Nat × Nat)) : Prop := ∀ j, (h : j < ps.length) → Rb w base (dv ps[j]) (M j)
theorem dg_snoc {w : World} {M : Nat → List Nat} {base : Nat} {ps : List (Option Addr × Nat × Nat)} {p : Option Addr × Nat × Nat} (h : Dg w M base ps) (hp : Rb w base (dv p) (M ps.length)) : Dg w M base (ps ++ [p]) := by
  intro j hj
  by_cases hl : j < ps.length
  · rw [List.getElem_append_left hl]; exact h j hl
  · obtain rfl : j = ps.length := by simp at hj; omega
    rw [List.getElem_concat_length rfl]; exact hp
/-- what the last loop keeps of them. -/
structure Dw (w : World) (M : Nat → List Nat) (nm hi : Nat) (la : Option Addr) (A : Nat → Option Addr) (C : Nat → Nat) : Prop where
  cell : ∀ o, o < nm → ∃ gl, la = some ⟨gl, 0, none⟩ ∧ hi ≤ gl ∧ w.cell? ⟨gl, o, none⟩ = some (.slice (A o) (M o).length (C o))
  bytes : ∀ o, o < nm → Sl w (A o) (M o)
  cap : ∀ o, o < nm → (M o).length ≤ C o
  far : ∀ o, o < nm → ∀ y, A o = some y → hi ≤ y.block
theorem dw_of {w : World} {M : Nat → List Nat} {base n nm lc : Nat} {la : Option Addr} {ps : List (Option Addr × Nat × Nat)} (hl : ps.length = nm) (hr : Rs w base (.slice la n lc) ps) (hd : Dg w M base ps) :
    Dw w M nm base la (fun o => (ps.getD o (none, 0, 0)).1) (fun o => (ps.getD o (none, 0, 0)).2.2) := by
  have hg : ∀ o, (h : o < ps.length) → ps.getD o (none, 0, 0) = ps[o] := fun o h => by rw [List.getD_eq_getElem?_getD]; simp [h]
  have hs : ∀ o, (h : o < nm) → ∃ a cap, dv (ps[o]'(by omega)) = .slice a (M o).length cap ∧ (M o).length ≤ cap ∧ Sl w a (M o) ∧ (a = none → cap = 0) ∧ (∀ x, a = some x → base ≤ x.block ∧ x.block < w.heap.size) := fun o h => rb_sl (hd o (by omega))
  refine ⟨?_, ?_, ?_, ?_⟩
  · intro o ho
    rcases hr.2 with ⟨_, h0⟩ | ⟨gl, cap, cur, hv, hg2, hc, _⟩
    · omega
    · have e1 : la = some ⟨gl, 0, none⟩ := by injection hv
      refine ⟨gl, e1, hg2, ?_⟩
      subst e1
      have := hr.cells (g := gl) rfl o (dv (ps[o]'(by omega))) (by simp [hl, ho])
      have hadd : (⟨gl, 0, none⟩ : Addr).add o = ⟨gl, o, none⟩ := by unfold Addr.add; split <;> simp_all
      rw [hadd] at this
      rw [this]
      obtain ⟨a, cap, hv2, h1, h2, h3, h4⟩ := hs o ho
      simp only [hg o (by omega)]
      unfold dv at hv2 ⊢; injection hv2 with e1 e2 e3
      rw [e2]
  · intro o ho
    obtain ⟨a, cap, hv, h1, h2, h3, h4⟩ := hs o ho
    simp only [hg o (by omega)]
    unfold dv at hv; injection hv with e1 e2 e3
    rw [e1]; exact h2
  · intro o ho
    obtain ⟨a, cap, hv, h1, h2, h3, h4⟩ := hs o ho
    simp only [hg o (by omega)]
    unfold dv at hv; injection hv with e1 e2 e3
    rw [e3]; exact h1
  · intro o ho y hy
    obtain ⟨a, cap, hv, h1, h2, h3, h4⟩ := hs o ho
    simp only [hg o (by omega)] at hy
    unfold dv at hv; injection hv with e1 e2 e3
    rw [e1] at hy
    exact (h4 y hy).1
variable {w w' : World} {hi nm : Nat} {M : Nat → List Nat} {la : Option Addr} {A : Nat → Option Addr} {C : Nat → Nat}
theorem Dw.then_ (h : Dw w M nm hi la A C) (hb : Below w.heap.size w w') : Dw w' M nm hi la A C :=
  ⟨fun o ho => by obtain ⟨gl, e, h1, h2⟩ := h.cell o ho; exact ⟨gl, e, h1, cell_then hb (Nat.le_refl _) h2⟩, fun o ho => sl_then hb (Nat.le_refl _) (h.bytes o ho), h.cap, h.far⟩

end Go.Proofs.Ytellhkcleicfbaa.Fb
