/- tiklaw22.ClockGoes: the code's clock and the document's side by side; a slice of plays. -/
import Derived.Test.YtilblkccophnnaaStepsW
import Derived.Deep.SlicePairs
set_option linter.unusedVariables false
namespace Go.Proofs.Ytilblkccophnnaa.CkPl
open Go Go.RowKit Go.ChangeShapes Go.WideShapes Go.Deep Kit Nums Scale Scale2 Scales CkMath CkC CkD CkE CkN CkF CkTwo StepsW

/-- one play: its kind, two times, a speed. -/
structure Op5 where
  kind : Int
  now : Nat
  pos : Nat
  num : Nat
  den : Nat
instance : Inhabited Op5 := ⟨⟨0, 0, 0, 0, 0⟩⟩
structure Op5.ok (o : Op5) : Prop where
  now : o.now < 18446744073709551616
  pos : o.pos < 18446744073709551616
  num : o.num < 18446744073709551616
  den : o.den < 18446744073709551616
def IsOps (w : World) (a : Option Addr) (len cap : Nat) (F : Nat → Op5) : Prop :=
  len ≤ cap ∧ cap ≤ maxLen ∧ (len = 0 ∨ ∃ b off, a = some ⟨b, off, none⟩ ∧ ∀ i, i < len →
    w.cell? ⟨b, off + i * 5, none⟩ = some (.int .i64 (F i).kind) ∧ w.cell? ⟨b, off + i * 5 + 1, none⟩ = some (.int .u64 ((F i).now : Int)) ∧ w.cell? ⟨b, off + i * 5 + 2, none⟩ = some (.int .u64 ((F i).pos : Int)) ∧
    w.cell? ⟨b, off + i * 5 + 3, none⟩ = some (.int .u64 ((F i).num : Int)) ∧ w.cell? ⟨b, off + i * 5 + 4, none⟩ = some (.int .u64 ((F i).den : Int)) ∧ (F i).ok)
section
variable {H : Type} {enc : TypeId × Value → H} {P : Program} {w : World} {base : Nat} {spare : Nat → Bool} {held : Bool}
theorem nat_of {n : Nat} {t : TypeId} {c : Value} {y : DataW H × List MemPlace} (ht : P.underlying t = some (.int .u64)) (h : DataW.trod enc P w base spare held n t [c] = some y) :
    ∃ a : Nat, c = .int .u64 (a : Int) ∧ a < 18446744073709551616 := by
  obtain ⟨z, rfl, hw⟩ := int_of ht h
  obtain ⟨h0, h1⟩ := in64 hw
  obtain ⟨a, rfl⟩ := Int.eq_ofNat_of_zero_le h0
  exact ⟨a, rfl, by omega⟩
theorem open_ops {t e : TypeId} {f0 f1 f2 f3 s0 s1 : Field} {fuel : Nat} {a : Option Addr} {len cap : Nat} {x : DataW H × List MemPlace} (ht : P.underlying t = some (.slice e)) (he : P.underlying e = some (.struct #[f0, f1, f2, f3]))
    (hs : P.underlying f3.type = some (.struct #[s0, s1])) (ce : P.cellsOf e = 5) (o0 : f0.offset = 0) (o1 : f1.offset = 1) (o2 : f2.offset = 2) (o3 : f3.offset = 3) (p0 : s0.offset = 0) (p1 : s1.offset = 1)
    (c0 : P.cellsOf f0.type = 1) (c1 : P.cellsOf f1.type = 1) (c2 : P.cellsOf f2.type = 1) (c3 : P.cellsOf f3.type = 2) (d0 : P.cellsOf s0.type = 1) (d1 : P.cellsOf s1.type = 1)
    (t0 : P.underlying f0.type = some (.int .i64)) (t1 : P.underlying f1.type = some (.int .u64)) (t2 : P.underlying f2.type = some (.int .u64)) (u0 : P.underlying s0.type = some (.int .u64)) (u1 : P.underlying s1.type = some (.int .u64))
    (h : DataW.trod enc P w base spare held fuel t [.slice a len cap] = some x) : ∃ F, IsOps w a len cap F := by
  rcases open_slice ht h with ⟨hc, _⟩ | ⟨a, len', cap', m, n, D, Pl, hc, hb, hl, hm, hmm, rfl, hx⟩
  · simp at hc
    obtain ⟨rfl, rfl, rfl⟩ := hc
    exact ⟨fun _ => ⟨0, 0, 0, 0, 0⟩, Nat.le_refl _, Nat.zero_le _, .inl rfl⟩
  simp at hc
  obtain ⟨rfl, rfl, rfl⟩ := hc
  have hlm : len ≤ m := by rw [hmm]; split <;> omega
  have each : ∀ i, i < len → ∃ q : Op5, w.cell? (a.add (i * 5)) = some (.int .i64 q.kind) ∧ w.cell? (a.add (i * 5 + 1)) = some (.int .u64 (q.now : Int)) ∧ w.cell? (a.add (i * 5 + 2)) = some (.int .u64 (q.pos : Int)) ∧
      w.cell? (a.add (i * 5 + 3)) = some (.int .u64 (q.num : Int)) ∧ w.cell? (a.add (i * 5 + 4)) = some (.int .u64 (q.den : Int)) ∧ q.ok := by
    intro i hi
    obtain ⟨cs', h1, h2⟩ := hx i (by omega)
    rw [ce] at h1
    obtain ⟨_, hlen, hcell⟩ := World.cells?_some h1
    obtain ⟨xs, k, hk, hxy, _, hxl, hf⟩ := DataW.trod_struct he h2
    match xs, hxl, cs', hlen with
    | [y0, y1, y2, y3], _, [v0, v1, v2, v3, v4], _ =>
      have g0 := hf 0 f0 rfl
      have g1 := hf 1 f1 rfl
      have g2 := hf 2 f2 rfl
      have g3 := hf 3 f3 rfl
      simp [o0, o1, o2, o3, c0, c1, c2, c3] at g0 g1 g2 g3
      obtain ⟨ys, k2, _, _, _, hyl, hg⟩ := DataW.trod_struct hs g3
      match ys, hyl with
      | [z0, z1], _ =>
        have q0 := hg 0 s0 rfl
        have q1 := hg 1 s1 rfl
        simp [p0, p1, d0, d1] at q0 q1
        have e0 := hcell 0 (by omega)
        have e1 := hcell 1 (by omega)
        have e2 := hcell 2 (by omega)
        have e3 := hcell 3 (by omega)
        have e4 := hcell 4 (by omega)
        rw [add_add] at e0 e1 e2 e3 e4
        obtain ⟨b0, rfl, _⟩ := int_of t0 g0
        obtain ⟨b1, rfl, w1⟩ := nat_of t1 g1
        obtain ⟨b2, rfl, w2⟩ := nat_of t2 g2
        obtain ⟨b3, rfl, w3⟩ := nat_of u0 q0
        obtain ⟨b4, rfl, w4⟩ := nat_of u1 q1
        exact ⟨⟨b0, b1, b2, b3, b4⟩, by simpa using e0, by simpa using e1, by simpa using e2, by simpa using e3, by simpa using e4, ⟨w1, w2, w3, w4⟩⟩
  obtain ⟨q, hq⟩ := choose_lt each
  by_cases h0 : 0 < len
  · obtain ⟨b, off, sp⟩ := a
    have hsp : sp = none := by simpa [Addr.add] using World.cell?_spot (hq 0 h0).1
    subst hsp
    refine ⟨q, hl, hm, .inr ⟨b, off, rfl, fun i hi => ?_⟩⟩
    have := hq i hi
    rw [add_plain, add_plain, add_plain, add_plain, add_plain] at this
    exact this
  · exact ⟨q, hl, hm, .inl (by omega)⟩
end
/-- the code's clock and the document's. -/
structure Mx (w : World) (p q : Nat) (c d : Ck) (W : World) : Prop where
  cp : Cl 55 W p c
  cq : Cl 44 W q d
  wp : w.heap.size ≤ p
  wq : w.heap.size ≤ q
  bel : Below w.heap.size w W
/-- a play in a block of its own. -/
def Pl (W : World) (o : Nat) (k : Int) (t x n d : Nat) : Prop := W.heap[o]? = some (.cells #[.int .i64 k, .int .u64 (t : Int), .int .u64 (x : Int), .int .u64 (n : Int), .int .u64 (d : Int)] 37 (0, 0))
variable {w W W' : World} {p q o : Nat} {c d : Ck} {k : Int} {t x n y : Nat}
theorem Pl.c0 (h : Pl W o k t x n y) : W.cell? ⟨o, 0, none⟩ = some (.int .i64 k) := by have h' : W.heap[o]? = _ := h; simp [World.cell?, h']
theorem Pl.c1 (h : Pl W o k t x n y) : W.cell? ⟨o, 1, none⟩ = some (.int .u64 (t : Int)) := by have h' : W.heap[o]? = _ := h; simp [World.cell?, h']
theorem Pl.c2 (h : Pl W o k t x n y) : W.cell? ⟨o, 2, none⟩ = some (.int .u64 (x : Int)) := by have h' : W.heap[o]? = _ := h; simp [World.cell?, h']
theorem Pl.c3 (h : Pl W o k t x n y) : W.cell? ⟨o, 3, none⟩ = some (.int .u64 (n : Int)) := by have h' : W.heap[o]? = _ := h; simp [World.cell?, h']
theorem Pl.c4 (h : Pl W o k t x n y) : W.cell? ⟨o, 4, none⟩ = some (.int .u64 (y : Int)) := by have h' : W.heap[o]? = _ := h; simp [World.cell?, h']
theorem Pl.then_ (h : Pl W o k t x n y) (hb : Below W.heap.size W W') : Pl W' o k t x n y := (hb.block o (lt_of_block h)).trans h
theorem Pl.grown {T : TypeId} {r : Nat} {c : Ck} (h : Pl W o k t x n y) (hg : W.grownBy W' (some r)) (hr : Cl T W r c) (hT : T ≠ 37) : Pl W' o k t x n y := by
  refine (hg.block o (lt_of_block h) (fun e => ?_)).trans h
  injection e with e
  subst e
  have h' : W.heap[o]? = _ := h
  rw [show W.heap[o]? = _ from hr] at h'
  injection h' with h'
  injection h' with h1 h2 h3
  exact hT h2
theorem Mx.ne_ (h : Mx w p q c d W) : p ≠ q := h.cp.ne_ h.cq (by decide)
theorem Mx.then_ (h : Mx w p q c d W) (hb : Below W.heap.size W W') : Mx w p q c d W' := ⟨h.cp.then_ hb, h.cq.then_ hb, h.wp, h.wq, below_next h.bel hb⟩
theorem Mx.gp {g : Ck} (h : Mx w p q c d W) (hg : W.grownBy W' (some p)) (hc : Cl 55 W' p g) : Mx w p q g d W' := ⟨hc, h.cq.grown hg (Ne.symm h.ne_), h.wp, h.wq, below_of_grown h.bel hg h.wp⟩
theorem Mx.gq {g : Ck} (h : Mx w p q c d W) (hg : W.grownBy W' (some q)) (hc : Cl 44 W' q g) : Mx w p q c g W' := ⟨h.cp.grown hg h.ne_, hc, h.wp, h.wq, below_of_grown h.bel hg h.wq⟩
theorem goM (s : Nat) (h : Mx w p q c d W) (hpl : Pl W o k t x n y) (hk : Ckk c) (hs : s < 18446744073709551616) :
    Calls Try.prog 11 #[.pointer (some ⟨p, 0, none⟩), .int .u64 (s : Int)] W fun e W' => e = .returned (.int .u64 ((go c s).pos : Int)) ∧ Mx w p q (go c s) d W' ∧ Pl W' o k t x n y := by
  refine (goC p c s W h.cp hk hs).mono ?_
  rintro e W' ⟨rfl, hc, hg⟩
  exact ⟨rfl, h.gp hg hc, hpl.grown hg h.cp (by decide)⟩
theorem goN (s : Nat) (h : Mx w p q c d W) (hpl : Pl W o k t x n y) (hk : Ckk d) (hs : s < 18446744073709551616) :
    Calls Try.prog 12 #[.pointer (some ⟨q, 0, none⟩), .int .u64 (s : Int)] W fun e W' => e = .returned (.int .u64 ((go d s).pos : Int)) ∧ Mx w p q c (go d s) W' ∧ Pl W' o k t x n y := by
  refine (goR q d s W h.cq hk hs).mono ?_
  rintro e W' ⟨rfl, hc, hg⟩
  exact ⟨rfl, h.gq hg hc, hpl.grown hg h.cq (by decide)⟩
instance (s z : Nat) : Decidable (s ≤ mx ∧ z ≤ mx) := inferInstanceAs (Decidable (_ ∧ _))
def setK (c : Ck) (s z : Nat) : Ck := if s ≤ mx ∧ z ≤ mx then stood c s z else c
def setE (s z : Nat) : Int := if s ≤ mx ∧ z ≤ mx then 0 else 1
def turnK (c : Ck) (s a b : Nat) : Ck := if s ≤ mx ∧ mayN a b = true then turn c s a b else c
def turnE (s a b : Nat) : Int := if s ≤ mx ∧ mayN a b = true then 0 else 1
theorem setK_ok {c : Ck} (h : Ckk c) (s z : Nat) : Ckk (setK c s z) := by
  unfold setK
  split
  · rename_i hh
    exact ⟨⟨h.ok.den, h.ok.den, hh.2⟩, h.may, by have := hh.1; rw [mx_eq] at this; show s < _; omega⟩
  · exact h
theorem turnK_ok {c : Ck} (h : Ckk c) (s a b : Nat) (hs : s < 18446744073709551616) : Ckk (turnK c s a b) := by
  unfold turnK
  split
  · rename_i hh; exact turn_ckk h hs hh.2
  · exact h
theorem setM (s z : Nat) (h : Mx w p q c d W) (hpl : Pl W o k t x n y) :
    Calls Try.prog 13 #[.pointer (some ⟨p, 0, none⟩), .int .u64 (s : Int), .int .u64 (z : Int)] W fun e W' => e = .returned (.int .i64 (setE s z)) ∧ Mx w p q (setK c s z) d W' ∧ Pl W' o k t x n y := by
  refine (setC p c s z W h.cp).mono ?_
  unfold setE setK
  rintro e W' (⟨h1, h2, rfl, hc, hg⟩ | ⟨hno, rfl, rfl⟩)
  · rw [if_pos ⟨h1, h2⟩, if_pos ⟨h1, h2⟩]
    exact ⟨rfl, h.gp hg hc, hpl.grown hg h.cp (by decide)⟩
  · rw [if_neg hno, if_neg hno]
    exact ⟨rfl, h, hpl⟩
theorem setN (s z : Nat) (h : Mx w p q c d W) (hpl : Pl W o k t x n y) :
    Calls Try.prog 14 #[.pointer (some ⟨q, 0, none⟩), .int .u64 (s : Int), .int .u64 (z : Int)] W fun e W' => e = .returned (.int .i64 (setE s z)) ∧ Mx w p q c (setK d s z) W' ∧ Pl W' o k t x n y := by
  refine (setR q d s z W h.cq).mono ?_
  unfold setE setK
  rintro e W' (⟨h1, h2, rfl, hc, hg⟩ | ⟨hno, rfl, rfl⟩)
  · rw [if_pos ⟨h1, h2⟩, if_pos ⟨h1, h2⟩]
    exact ⟨rfl, h.gq hg hc, hpl.grown hg h.cq (by decide)⟩
  · rw [if_neg hno, if_neg hno]
    exact ⟨rfl, h, hpl⟩
theorem turnM (s a b : Nat) (h : Mx w p q c d W) (hpl : Pl W o k t x n y) (hk : Ckk c) (hs : s < 18446744073709551616) (ha : a < 18446744073709551616) (hb : b < 18446744073709551616) :
    Calls Try.prog 15 #[.pointer (some ⟨p, 0, none⟩), .int .u64 (s : Int), .agg #[.int .u64 (a : Int), .int .u64 (b : Int)]] W fun e W' => e = .returned (.int .i64 (turnE s a b)) ∧ Mx w p q (turnK c s a b) d W' ∧ Pl W' o k t x n y := by
  refine (turnC p c s a b W h.cp hk hs ha hb).mono ?_
  unfold turnE turnK
  rintro e W' (⟨h1, h2, rfl, hc, hg⟩ | ⟨hno, rfl, hb⟩)
  · rw [if_pos ⟨h1, h2⟩, if_pos ⟨h1, h2⟩]
    exact ⟨rfl, h.gp hg hc, hpl.grown hg h.cp (by decide)⟩
  · rw [if_neg hno, if_neg hno]
    exact ⟨rfl, h.then_ hb, hpl.then_ hb⟩
theorem turnN (s a b : Nat) (h : Mx w p q c d W) (hpl : Pl W o k t x n y) (hk : Ckk d) (hs : s < 18446744073709551616) (ha : a < 18446744073709551616) (hb : b < 18446744073709551616) :
    Calls Try.prog 16 #[.pointer (some ⟨q, 0, none⟩), .int .u64 (s : Int), .agg #[.int .u64 (a : Int), .int .u64 (b : Int)]] W fun e W' => e = .returned (.int .i64 (turnE s a b)) ∧ Mx w p q c (turnK d s a b) W' ∧ Pl W' o k t x n y := by
  refine (turnR q d s a b W h.cq hk hs ha hb).mono ?_
  unfold turnE turnK
  rintro e W' (⟨h1, h2, rfl, hc, hg⟩ | ⟨hno, rfl, hb⟩)
  · rw [if_pos ⟨h1, h2⟩, if_pos ⟨h1, h2⟩]
    exact ⟨rfl, h.gq hg hc, hpl.grown hg h.cq (by decide)⟩
  · rw [if_neg hno, if_neg hno]
    exact ⟨rfl, h.then_ hb, hpl.then_ hb⟩
theorem atM (s : Nat) (h : Mx w p q c d W) (hpl : Pl W o k t x n y) (hk : Ckk c) (hs : s < 18446744073709551616) :
    Calls Try.prog 17 #[.pointer (some ⟨p, 0, none⟩), .int .u64 (s : Int)] W fun e W' => e = .returned (.int .u64 ((reach c s).1 : Int)) ∧ Mx w p q c d W' ∧ Pl W' o k t x n y := by
  refine (atCC p c s W h.cp hk hs).mono ?_
  rintro e W' ⟨rfl, hb⟩
  exact ⟨rfl, h.then_ hb, hpl.then_ hb⟩
theorem atN (s : Nat) (h : Mx w p q c d W) (hpl : Pl W o k t x n y) (hk : Ckk d) (hs : s < 18446744073709551616) :
    Calls Try.prog 18 #[.pointer (some ⟨q, 0, none⟩), .int .u64 (s : Int)] W fun e W' => e = .returned (.int .u64 ((reach d s).1 : Int)) ∧ Mx w p q c d W' ∧ Pl W' o k t x n y := by
  refine (CkD.atR q d s W h.cq hk hs).mono ?_
  rintro e W' ⟨rfl, hb⟩
  exact ⟨rfl, h.then_ hb, hpl.then_ hb⟩
theorem speedM (h : Mx w p q c d W) (hpl : Pl W o k t x n y) :
    Calls Try.prog 20 #[.pointer (some ⟨p, 0, none⟩)] W fun e W' => e = .returned (.agg #[.int .u64 (c.num : Int), .int .u64 (c.den : Int)]) ∧ Mx w p q c d W' ∧ Pl W' o k t x n y := by
  refine (speedC p c W h.cp).mono ?_
  rintro e W' ⟨rfl, hb⟩
  exact ⟨rfl, h.then_ hb, hpl.then_ hb⟩
theorem plainM (a b : Int) (h : Mx w p q c d W) (hpl : Pl W o k t x n y) :
    Calls Try.prog 10 #[.agg #[.int .u64 a, .int .u64 b]] W fun e W' => e = .returned (.agg #[.int .u64 a, .int .u64 b]) ∧ Mx w p q c d W' ∧ Pl W' o k t x n y := by
  refine (plainC a b W).mono ?_
  rintro e W' ⟨rfl, hb⟩
  exact ⟨rfl, h.then_ hb, hpl.then_ hb⟩
end Go.Proofs.Ytilblkccophnnaa.CkPl
