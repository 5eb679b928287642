/- Operations on a grid, as they came in; a grid of which only its invariant is told. -/
import Derived.Test.YtfdjmlncdbpkgaaPr
import Derived.Deep.SlicePairs
import Derived.Laws.Tables
set_option linter.unusedVariables false
namespace Go.Proofs.Ytfdjmlncdbpkgaa.Og
open Go Go.RowKit Go.ChangeShapes Go.WideShapes Go.Deep Kit Gm Gv Fl Me Cp Sl Gg Gh Gp Gq Gk Gs Gt Gu Lw Sm Pr
open Gr (eraseL eraseG)
open Ge (fillL fillG)

/-- an operation: its kind, two places, a number, a cell. -/
structure GO where
  k : Int
  r : Int
  c : Int
  n : Int
  x : Ce
instance : Inhabited GO := ⟨⟨0, 0, 0, 0, ⟨0, 0, 0, 0, 0⟩⟩⟩
/-- the nine values of an operation. -/
def ov (o : GO) : List Value := [.int .i64 o.k, .int .i64 o.r, .int .i64 o.c, .int .i64 o.n, .int .i32 o.x.r, .int .i64 o.x.fl, .int .i64 o.x.fg, .int .i64 o.x.bg, .int .i64 o.x.wd]
def IsOps (w : World) (a : Option Addr) (len cap : Nat) (F : Nat → GO) : Prop :=
  len ≤ cap ∧ cap ≤ maxLen ∧ (len = 0 ∨ ∃ b off, a = some ⟨b, off, none⟩ ∧ ∀ i, i < len → ∀ j, j < 9 → w.cell? ⟨b, off + i * 9 + j, none⟩ = (ov (F i))[j]?)
section
variable {H : Type} {enc : TypeId × Value → H} {P : Program} {w : World} {base : Nat} {spare : Nat → Bool} {held : Bool}
theorem add_plain (b o i : Nat) : (⟨b, o, none⟩ : Addr).add i = ⟨b, o + i, none⟩ := by unfold Addr.add; split <;> simp_all
theorem open_gops {fuel : Nat} {a : Option Addr} {len cap : Nat} {x : DataW H × List MemPlace} {t e : TypeId} {f0 f1 f2 f3 f4 g0 g1 g2 s0 s1 s2 : Field}
    (ht : P.underlying t = some (.slice e)) (he : P.underlying e = some (.struct #[f0, f1, f2, f3, f4])) (hc4 : P.underlying f4.type = some (.struct #[g0, g1, g2])) (hs : P.underlying g1.type = some (.struct #[s0, s1, s2])) (ce : P.cellsOf e = 9)
    (o0 : f0.offset = 0) (o1 : f1.offset = 1) (o2 : f2.offset = 2) (o3 : f3.offset = 3) (o4 : f4.offset = 4) (p0 : g0.offset = 0) (p1 : g1.offset = 1) (p2 : g2.offset = 4) (q0 : s0.offset = 0) (q1 : s1.offset = 1) (q2 : s2.offset = 2)
    (c0 : P.cellsOf f0.type = 1) (c1 : P.cellsOf f1.type = 1) (c2 : P.cellsOf f2.type = 1) (c3 : P.cellsOf f3.type = 1) (c4 : P.cellsOf f4.type = 5) (d0 : P.cellsOf g0.type = 1) (d1 : P.cellsOf g1.type = 3) (d2 : P.cellsOf g2.type = 1) (e0 : P.cellsOf s0.type = 1) (e1 : P.cellsOf s1.type = 1) (e2 : P.cellsOf s2.type = 1)
    (t0 : P.underlying f0.type = some (.int .i64)) (t1 : P.underlying f1.type = some (.int .i64)) (t2 : P.underlying f2.type = some (.int .i64)) (t3 : P.underlying f3.type = some (.int .i64)) (u0 : P.underlying g0.type = some (.int .i32)) (u2 : P.underlying g2.type = some (.int .i64))
    (v0 : P.underlying s0.type = some (.int .i64)) (v1 : P.underlying s1.type = some (.int .i64)) (v2 : P.underlying s2.type = some (.int .i64))
    (h : DataW.trod enc P w base spare held fuel t [.slice a len cap] = some x) : ∃ F, IsOps w a len cap F := by
  rcases open_slice ht h with ⟨hc, _⟩ | ⟨a, len', cap', m, n, D, Pl, hc, hb, hl, hm, hmm, rfl, hx⟩
  · simp at hc
    obtain ⟨rfl, rfl, rfl⟩ := hc
    exact ⟨fun _ => ⟨0, 0, 0, 0, ⟨0, 0, 0, 0, 0⟩⟩, Nat.le_refl _, Nat.zero_le _, .inl rfl⟩
  simp at hc
  obtain ⟨rfl, rfl, rfl⟩ := hc
  have hlm : len ≤ m := by rw [hmm]; split <;> omega
  have each : ∀ i, i < len → ∃ q : GO, ∀ j, j < 9 → w.cell? (a.add (i * 9 + j)) = (ov q)[j]? := by
    intro i hi
    obtain ⟨cs', h1, h2⟩ := hx i (by omega)
    rw [ce] at h1
    obtain ⟨_, hlen, hcell⟩ := World.cells?_some h1
    obtain ⟨xs, k, hk, hxy, _, hxl, hf⟩ := DataW.trod_struct he h2
    match xs, hxl, cs', hlen with
    | [y0, y1, y2, y3, y4], _, [z0, z1, z2, z3, z4, z5, z6, z7, z8], _ =>
      have k0 := hf 0 f0 rfl
      have k1 := hf 1 f1 rfl
      have k2 := hf 2 f2 rfl
      have k3 := hf 3 f3 rfl
      have k4 := hf 4 f4 rfl
      simp [o0, o1, o2, o3, o4, c0, c1, c2, c3, c4] at k0 k1 k2 k3 k4
      obtain ⟨ys, k5, _, _, _, hyl, hg⟩ := DataW.trod_struct hc4 k4
      match ys, hyl with
      | [w0, w1, w2], _ =>
        have l0 := hg 0 g0 rfl
        have l1 := hg 1 g1 rfl
        have l2 := hg 2 g2 rfl
        simp [p0, p1, p2, d0, d1, d2] at l0 l1 l2
        obtain ⟨rs, k6, _, _, _, hrl, hh⟩ := DataW.trod_struct hs l1
        match rs, hrl with
        | [r0, r1, r2], _ =>
          have m0 := hh 0 s0 rfl
          have m1 := hh 1 s1 rfl
          have m2 := hh 2 s2 rfl
          simp [q0, q1, q2, e0, e1, e2] at m0 m1 m2
          obtain ⟨b0, rfl, _⟩ := int_of t0 k0
          obtain ⟨b1, rfl, _⟩ := int_of t1 k1
          obtain ⟨b2, rfl, _⟩ := int_of t2 k2
          obtain ⟨b3, rfl, _⟩ := int_of t3 k3
          obtain ⟨b4, rfl, _⟩ := int_of u0 l0
          obtain ⟨b5, rfl, _⟩ := int_of v0 m0
          obtain ⟨b6, rfl, _⟩ := int_of v1 m1
          obtain ⟨b7, rfl, _⟩ := int_of v2 m2
          obtain ⟨b8, rfl, _⟩ := int_of u2 l2
          refine ⟨⟨b0, b1, b2, b3, ⟨b4, b5, b6, b7, b8⟩⟩, fun j hj => ?_⟩
          have := hcell j (by omega)
          rw [add_add] at this
          exact this
  obtain ⟨q, hq⟩ := choose_lt each
  by_cases h0 : 0 < len
  · obtain ⟨b, off, sp⟩ := a
    have hsp : sp = none := by simpa [Addr.add] using World.cell?_spot (show w.cell? _ = some (.int .i64 (q 0).k) from hq 0 h0 0 (by omega))
    subst hsp
    refine ⟨q, hl, hm, .inr ⟨b, off, rfl, fun i hi j hj => ?_⟩⟩
    have := hq i hi j hj
    rw [add_plain, ← Nat.add_assoc] at this
    exact this
  · exact ⟨q, hl, hm, .inl (by omega)⟩
end
/-- the cells of operation i, in every world behind. -/
def NineAt (w : World) (b o : Nat) (g : GO) : Prop := w.cell? ⟨b, o, none⟩ = some (.int .i64 g.k) ∧ w.cell? ⟨b, o + 1, none⟩ = some (.int .i64 g.r) ∧ w.cell? ⟨b, o + 2, none⟩ = some (.int .i64 g.c) ∧ w.cell? ⟨b, o + 3, none⟩ = some (.int .i64 g.n) ∧ w.cell? ⟨b, o + 4, none⟩ = some (.int .i32 g.x.r) ∧ w.cell? ⟨b, o + 5, none⟩ = some (.int .i64 g.x.fl) ∧ w.cell? ⟨b, o + 6, none⟩ = some (.int .i64 g.x.fg) ∧ w.cell? ⟨b, o + 7, none⟩ = some (.int .i64 g.x.bg) ∧ w.cell? ⟨b, o + 8, none⟩ = some (.int .i64 g.x.wd)
theorem op_at {W : World} {a : Option Addr} {len cap : Nat} {F : Nat → GO} (h : IsOps W a len cap F) (i : Nat) (hi : i < len) : ∃ b off, a = some ⟨b, off, none⟩ ∧ ∀ w, Below W.heap.size W w → NineAt w b (off + i * 9) (F i) := by
  rcases h.2.2 with h0 | ⟨b, off, rfl, h9⟩
  · omega
  · refine ⟨b, off, rfl, fun w hb => ?_⟩
    have e := fun j (hj : j < 9) v (hv : (ov (F i))[j]? = some v) => Gg.cell_then hb (Nat.le_refl _) (show W.cell? ⟨b, off + i * 9 + j, none⟩ = some v from (h9 i hi j hj).trans hv)
    exact ⟨e 0 (by omega) _ rfl, e 1 (by omega) _ rfl, e 2 (by omega) _ rfl, e 3 (by omega) _ rfl, e 4 (by omega) _ rfl, e 5 (by omega) _ rfl, e 6 (by omega) _ rfl, e 7 (by omega) _ rfl, e 8 (by omega) _ rfl⟩
/-- an operation in a block of its own. -/
def OpB (w : World) (k : Nat) (g : GO) : Prop := w.heap[k]? = some (.cells (ov g).toArray 39 (0, 0))
theorem OpB.nine {w : World} {k : Nat} {g : GO} (h : OpB w k g) : w.cell? ⟨k, 0, none⟩ = some (.int .i64 g.k) ∧ w.cell? ⟨k, 1, none⟩ = some (.int .i64 g.r) ∧ w.cell? ⟨k, 2, none⟩ = some (.int .i64 g.c) ∧ w.cell? ⟨k, 3, none⟩ = some (.int .i64 g.n) ∧ w.cell? ⟨k, 4, none⟩ = some (.int .i32 g.x.r) ∧ w.cell? ⟨k, 5, none⟩ = some (.int .i64 g.x.fl) ∧ w.cell? ⟨k, 6, none⟩ = some (.int .i64 g.x.fg) ∧ w.cell? ⟨k, 7, none⟩ = some (.int .i64 g.x.bg) ∧ w.cell? ⟨k, 8, none⟩ = some (.int .i64 g.x.wd) := by
  unfold OpB at h
  refine ⟨?_, ?_, ?_, ?_, ?_, ?_, ?_, ?_, ?_⟩ <;> (simp only [World.cell?, h]; rfl)
abbrev ovA (g : GO) : Value := .agg #[.int .i64 g.k, .int .i64 g.r, .int .i64 g.c, .int .i64 g.n, .int .i32 g.x.r, .int .i64 g.x.fl, .int .i64 g.x.fg, .int .i64 g.x.bg, .int .i64 g.x.wd]
theorem wpList_store_op {w : World} {ops : Array Oper} {rest : List Oper} {o : Oper} {a : Act} {Q : Exit → Act → World → Prop} (hgd : o.guard = none) (x y : Operand) (ho : o.op = .store 39 x y)
    (k : Nat) (g u : GO) (hx : a.eval x = .pointer (some ⟨k, 0, none⟩)) (hy : a.eval y = ovA g) (hg : OpB w k u)
    (hK : ∀ w', OpB w' k g → Kp k k w w' → wpList Try.prog ops Q rest (a.put o.dst undef) w') : wpList Try.prog ops Q (o :: rest) a w :=
  wpList_plain hgd fun _ hk => wp_store_row (P := Try.prog) 39 x y ho k _ hx hy 39 _ hg (by kernel_rfl) rfl (by simp [Value.oneCell']) (hk _ _ (hK _ (setRow_heap w k _ _ 39 _ hg)
    ⟨rfl, rfl, rfl, by simp, fun j _ h1 _ => setRow_other w k j _ h1⟩))
def zeroO : GO := ⟨0, 0, 0, 0, ⟨0, 0, 0, 0, 0⟩⟩
theorem zero_op (w : World) : OpB (w.alloc (.cells #[.int .i64 0, .int .i64 0, .int .i64 0, .int .i64 0, .int .i32 0, .int .i64 0, .int .i64 0, .int .i64 0, .int .i64 0] 39)) w.heap.size zeroO := heap_alloc_last w _
theorem Tp.other {W0 w w' : World} {p b R C k : Nat} {L : List Ce} (h : Tp W0 w p b R C L) (hk : Kp k k w w') (h0 : W0.heap.size ≤ k) (h1 : k ≠ p) (h2 : k ≠ b) : Tp W0 w' p b R C L :=
  ⟨Gu.G.other h.g hk (Ne.symm h1) (Ne.symm h2), hk.below h.bel (Nat.le_refl _) h0 h0, h.hp, h.hb⟩
theorem Tp.fresh {W0 w : World} {p b R C : Nat} {L : List Ce} (h : Tp W0 w p b R C L) : W0.heap.size ≤ w.heap.size ∧ w.heap.size ≠ p ∧ w.heap.size ≠ b := by
  have h1 := h.g.p_lt
  have h2 := h.g.b_lt
  have h3 := h.bel.size
  omega
/-- a grid of which its invariant is told. -/
def Ti (W0 w : World) (p : Nat) : Prop := ∃ b R C L, Tp W0 w p b R C L ∧ Iv R C L
section
variable (W0 w : World) (p b R C : Nat) (L : List Ce) (h : Tp W0 w p b R C L) (hi : Iv R C L)
include h hi
theorem putI (row col : Int) (c : Ce) : Calls Try.prog 21 #[.pointer (some ⟨p, 0, none⟩), .int .i64 row, .int .i64 col, cvA c] w fun e w' => e = .returned (.bool (putOk R C row col c)) ∧ Ti W0 w' p :=
  (putG p b R C row col c L w h.g).mono fun e w' ⟨h1, h2, h3⟩ => ⟨h1, _, _, _, _, h.kept h2 h3 (.inl rfl), iv_put hi row col c⟩
theorem eraseI (row fr t0 af ag ab : Int) : Calls Try.prog 22 #[.pointer (some ⟨p, 0, none⟩), .int .i64 row, .int .i64 fr, .int .i64 t0, .agg #[.int .i64 af, .int .i64 ag, .int .i64 ab]] w fun e w' => e = .returned (.tuple #[]) ∧ Ti W0 w' p :=
  (eraseG p b R C row fr t0 af ag ab L w h.g).mono fun e w' ⟨h1, h2, h3⟩ => ⟨h1, _, _, _, _, h.kept h2 h3 (.inl rfl), iv_erase hi _ _ _ _ _ _⟩
theorem shiftI (row col n af ag ab : Int) : Calls Try.prog 23 #[.pointer (some ⟨p, 0, none⟩), .int .i64 row, .int .i64 col, .int .i64 n, .agg #[.int .i64 af, .int .i64 ag, .int .i64 ab]] w fun e w' => e = .returned (.tuple #[]) ∧ Ti W0 w' p :=
  (shiftG p b R C row col n af ag ab L w h.g).mono fun e w' ⟨h1, h2, h3⟩ => ⟨h1, _, _, _, _, h.kept h2 h3 (.inl rfl), iv_shift hi _ _ _ _ _ _⟩
theorem scrollI (top bottom n af ag ab : Int) : Calls Try.prog 24 #[.pointer (some ⟨p, 0, none⟩), .int .i64 top, .int .i64 bottom, .int .i64 n, .agg #[.int .i64 af, .int .i64 ag, .int .i64 ab]] w fun e w' => e = .returned (.tuple #[]) ∧ Ti W0 w' p :=
  (scrollG p b R C top bottom n af ag ab L w h.g).mono fun e w' ⟨h1, h2, h3⟩ => ⟨h1, _, _, _, _, h.kept h2 h3 (.inl rfl), iv_scroll hi _ _ _ _ _ _⟩
theorem fillI (c : Ce) : Calls Try.prog 26 #[.pointer (some ⟨p, 0, none⟩), cvA c] w fun e w' => e = .returned (.tuple #[]) ∧ Ti W0 w' p :=
  (fillG p b R C c L w h.g).mono fun e w' ⟨h1, h2, h3⟩ => ⟨h1, _, _, _, _, h.kept h2 h3 (.inl rfl), iv_fill hi c⟩
/-- Resize: whatever it answers. -/
theorem resizeI (rows cols : Int) : Calls Try.prog 25 #[.pointer (some ⟨p, 0, none⟩), .int .i64 rows, .int .i64 cols] w fun e w' => ∃ v, e = .returned v ∧ Ti W0 w' p := by
  cases hz : sizeB rows cols with
  | true => exact (resizeG p b R C rows cols L w h.g hz).mono fun e w' ⟨b', h1, h2, h3, h4⟩ => ⟨_, h1, b', _, _, _, h.kept h2 h3 (.inr h4), iv_resize hi _ _⟩
  | false => exact (resizeNo p rows cols w hz).mono fun e w' ⟨h1, h2⟩ => ⟨_, h1, b, R, C, L, h2 ▸ h, hi⟩
end
end Go.Proofs.Ytfdjmlncdbpkgaa.Og
