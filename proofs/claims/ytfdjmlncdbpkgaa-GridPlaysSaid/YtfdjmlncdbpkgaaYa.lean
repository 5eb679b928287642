/- The grid and the document's grid, side by side, with a copy of each. -/
import Derived.Test.YtfdjmlncdbpkgaaXy
import Derived.Test.YtfdjmlncdbpkgaaXs
import Derived.Test.YtfdjmlncdbpkgaaOg
set_option linter.unusedVariables false
namespace Go.Proofs.Ytfdjmlncdbpkgaa.Ya
open Go Go.RowKit Kit Gm Gv Fl Me Cp Sl Gg Gh Gq Gk Gs Gt Gu Lw Xa Xf Xg Xs Xv Xw Xy Og
open Gr (eraseL eraseG)
open Ge (fillL fillG)
open Gp (GQ)
open Pr (Iv iv_put iv_erase iv_shift iv_scroll iv_fill iv_resize)

/-- where the two copies stand, and what they hold. -/
structure Cps where
  c1 : Nat
  e1 : Nat
  c2 : Nat
  e2 : Nat
  S : Nat
  D : Nat
  k1 : Nat
  k2 : Nat
  M : List Ce
/-- none of four blocks. -/
def Far (k p b q d : Nat) : Prop := k ≠ p ∧ k ≠ b ∧ k ≠ q ∧ k ≠ d
/-- both grids and both copies. -/
structure Bo (W0 w : World) (z : Cps) (p b R C : Nat) (L : List Ce) (q d R2 C2 : Nat) (L2 : List Ce) : Prop where
  tp : Tp W0 w p b R C L
  x : X w q d R2 C2 L2
  iv : Iv R2 C2 L2
  qp : q ≠ p
  qb : q ≠ b
  dp : d ≠ p
  db : d ≠ b
  hq : W0.heap.size ≤ q
  hd : W0.heap.size ≤ d
  gv : GV w z.c1 z.e1 z.S z.D z.k1 z.M
  xv : XV w z.c2 z.e2 z.S z.D z.k2 z.M
  f1 : Far z.c1 p b q d
  f2 : Far z.e1 p b q d
  f3 : Far z.c2 p b q d
  f4 : Far z.e2 p b q d
theorem XV.kept {w w' : World} {p b p' b' R C cap : Nat} {L : List Ce} (h : XV w p' b' R C cap L) (hk : Kp p b w w') (h1 : p' ≠ p) (h2 : p' ≠ b) (h3 : b' ≠ p) (h4 : b' ≠ b) : XV w' p' b' R C cap L :=
  ⟨hk.row h.obj h1 h2, fun j hj i hi => by rw [World.cell?_of_block (w := w) (hk.block b' h.b_lt h3 h4)]; exact h.cell j hj i hi, h.len, h.r1, h.r2, h.c1, h.c2, h.cap1⟩
theorem X.kept {w w' : World} {p b q d R C : Nat} {L : List Ce} (h : X w q d R C L) (hk : Kp p b w w') (h1 : q ≠ p) (h2 : q ≠ b) (h3 : d ≠ p) (h4 : d ≠ b) : X w' q d R C L :=
  ⟨hk.row h.obj h1 h2, hk.row h.row h3 h4, h.len, h.r1, h.r2, h.c1, h.c2⟩
theorem G.kept {w w' : World} {p b q d R C : Nat} {L : List Ce} (h : G w p b R C L) (hk : Kp q d w w') (h1 : p ≠ q) (h2 : p ≠ d) (h3 : b ≠ q) (h4 : b ≠ d) : G w' p b R C L :=
  ⟨hk.row h.obj h1 h2, hk.row h.row h3 h4, h.len, h.r1, h.r2, h.c1, h.c2⟩
theorem Far.left {k p b q d b' n : Nat} (h : Far k p b q d) (hb : b' = b ∨ n ≤ b') (hk : k < n) : Far k p b' q d := by
  rcases hb with rfl | hb
  · exact h
  · exact ⟨h.1, by omega, h.2.2⟩
theorem Far.right {k p b q d d' n : Nat} (h : Far k p b q d) (hd : d' = d ∨ n ≤ d') (hk : k < n) : Far k p b q d' := by
  rcases hd with rfl | hd
  · exact h
  · exact ⟨h.1, h.2.1, h.2.2.1, by omega⟩
section
variable {W0 w w' : World} {z : Cps} {p b R C : Nat} {L : List Ce} {q d R2 C2 : Nat} {L2 : List Ce}
theorem Bo.then_ (h : Bo W0 w z p b R C L q d R2 C2 L2) (hb : Below w.heap.size w w') : Bo W0 w' z p b R C L q d R2 C2 L2 :=
  ⟨h.tp.then_ hb, h.x.then_ hb (Nat.le_refl _), h.iv, h.qp, h.qb, h.dp, h.db, h.hq, h.hd, h.gv.then_ hb (Nat.le_refl _), h.xv.then_ hb (Nat.le_refl _), h.f1, h.f2, h.f3, h.f4⟩
theorem Bo.drewN (h : Bo W0 w z p b R C L q d R2 C2 L2) (n : Nat) : Bo W0 (w.drewN n) z p b R C L q d R2 C2 L2 :=
  ⟨h.tp.drewN n, h.x.drewN n, h.iv, h.qp, h.qb, h.dp, h.db, h.hq, h.hd, h.gv.drewN n, h.xv.drewN n, h.f1, h.f2, h.f3, h.f4⟩
theorem Bo.left (h : Bo W0 w z p b R C L q d R2 C2 L2) {b' R' C' : Nat} {L' : List Ce} (hg : G w' p b' R' C' L') (hk : Kp p b w w') (hb : b' = b ∨ w.heap.size ≤ b') : Bo W0 w' z p b' R' C' L' q d R2 C2 L2 := by
  have a1 := h.x.p_lt
  have a2 := h.x.b_lt
  have b1 : q ≠ b' := by rcases hb with rfl | hb; exact h.qb; omega
  have b2 : d ≠ b' := by rcases hb with rfl | hb; exact h.db; omega
  exact ⟨h.tp.kept hg hk hb, X.kept h.x hk h.qp h.qb h.dp h.db, h.iv, h.qp, b1, h.dp, b2, h.hq, h.hd, GV.kept h.gv hk h.f1.1 h.f1.2.1 h.f2.1 h.f2.2.1, XV.kept h.xv hk h.f3.1 h.f3.2.1 h.f4.1 h.f4.2.1,
    h.f1.left hb (obj_lt h.gv.obj), h.f2.left hb h.gv.b_lt, h.f3.left hb (obj_lt h.xv.obj), h.f4.left hb h.xv.b_lt⟩
theorem Bo.right (h : Bo W0 w z p b R C L q d R2 C2 L2) {d' R' C' : Nat} {L' : List Ce} (hx : X w' q d' R' C' L') (hi : Iv R' C' L') (hk : Kp q d w w') (hd : d' = d ∨ w.heap.size ≤ d') : Bo W0 w' z p b R C L q d' R' C' L' := by
  have a1 := h.tp.g.p_lt
  have a2 := h.tp.g.b_lt
  have b1 : d' ≠ p := by rcases hd with rfl | hd; exact h.dp; omega
  have b2 : d' ≠ b := by rcases hd with rfl | hd; exact h.db; omega
  have b3 : W0.heap.size ≤ d' := by rcases hd with rfl | hd; exact h.hd; exact Nat.le_trans h.tp.bel.size hd
  exact ⟨⟨G.kept h.tp.g hk (Ne.symm h.qp) (Ne.symm h.dp) (Ne.symm h.qb) (Ne.symm h.db), hk.below h.tp.bel (Nat.le_refl _) h.hq h.hd, h.tp.hp, h.tp.hb⟩, hx, hi, h.qp, h.qb, b1, b2, h.hq, b3,
    GV.kept h.gv hk h.f1.2.2.1 h.f1.2.2.2 h.f2.2.2.1 h.f2.2.2.2, XV.kept h.xv hk h.f3.2.2.1 h.f3.2.2.2 h.f4.2.2.1 h.f4.2.2.2,
    h.f1.right hd (obj_lt h.gv.obj), h.f2.right hd h.gv.b_lt, h.f3.right hd (obj_lt h.xv.obj), h.f4.right hd h.xv.b_lt⟩
/-- a block that was made later. -/
theorem Bo.fresh (h : Bo W0 w z p b R C L q d R2 C2 L2) {k : Nat} (hk : w.heap.size ≤ k) : Far k p b q d := by
  have h1 := h.tp.g.p_lt
  have h2 := h.tp.g.b_lt
  have h3 := h.x.p_lt
  have h4 := h.x.b_lt
  unfold Far; omega
end
/-- an operation's block stands. -/
theorem OpB.kept {w w' : World} {k p b : Nat} {g : GO} (h : OpB w k g) (hk : Kp p b w w') (h1 : k ≠ p) (h2 : k ≠ b) : OpB w' k g := hk.row h h1 h2
section
variable (W0 w : World) (z : Cps) (p b R C : Nat) (L : List Ce) (q d R2 C2 : Nat) (L2 : List Ce) (ob : Nat) (g : GO) (h : Bo W0 w z p b R C L q d R2 C2 L2) (hf : Far ob p b q d) (ho : OpB w ob g)
include h hf ho
/-- both grids behind an operation on the grid. -/
theorem left_of (v : Value) (R' C' : Nat) (L' : List Ce) (e : Ending) (w' : World) (hq : e = .returned v ∧ ∃ b', G w' p b' R' C' L' ∧ Kp p b w w' ∧ (b' = b ∨ w.heap.size ≤ b')) :
    e = .returned v ∧ ∃ b', Bo W0 w' z p b' R' C' L' q d R2 C2 L2 ∧ Far ob p b' q d ∧ OpB w' ob g := by
  obtain ⟨h1, b', h2, h3, h4⟩ := hq
  exact ⟨h1, b', h.left h2 h3 h4, hf.left h4 (obj_lt ho), OpB.kept ho h3 hf.1 hf.2.1⟩
theorem right_of (v : Value) (R' C' : Nat) (L' : List Ce) (hi : Iv R' C' L') (e : Ending) (w' : World) (hq : e = .returned v ∧ ∃ d', X w' q d' R' C' L' ∧ Kp q d w w' ∧ (d' = d ∨ w.heap.size ≤ d')) :
    e = .returned v ∧ ∃ d', Bo W0 w' z p b R C L q d' R' C' L' ∧ Far ob p b q d' ∧ OpB w' ob g := by
  obtain ⟨h1, d', h2, h3, h4⟩ := hq
  exact ⟨h1, d', h.right h2 hi h3 h4, hf.right h4 (obj_lt ho), OpB.kept ho h3 hf.2.2.1 hf.2.2.2⟩
/-- the left side's post. -/
abbrev LQ (W0 : World) (z : Cps) (p q d R' C' : Nat) (L' : List Ce) (R2 C2 : Nat) (L2 : List Ce) (ob : Nat) (g : GO) (v : Value) (e : Ending) (w' : World) : Prop :=
  e = .returned v ∧ ∃ b', Bo W0 w' z p b' R' C' L' q d R2 C2 L2 ∧ Far ob p b' q d ∧ OpB w' ob g
abbrev RQ (W0 : World) (z : Cps) (p b R C : Nat) (L : List Ce) (q R' C' : Nat) (L' : List Ce) (ob : Nat) (g : GO) (v : Value) (e : Ending) (w' : World) : Prop :=
  e = .returned v ∧ ∃ d', Bo W0 w' z p b R C L q d' R' C' L' ∧ Far ob p b q d' ∧ OpB w' ob g
theorem of_gq (v : Value) (L' : List Ce) (e : Ending) (w' : World) (hq : GQ v w p b R C L' e w') : LQ W0 z p q d R C L' R2 C2 L2 ob g v e w' :=
  left_of W0 w z p b R C L q d R2 C2 L2 ob g h hf ho v R C L' e w' ⟨hq.1, b, hq.2.1, hq.2.2, .inl rfl⟩
theorem of_xq (v : Value) (L' : List Ce) (hi : Iv R2 C2 L') (e : Ending) (w' : World) (hq : XQ v w q d R2 C2 L' e w') : RQ W0 z p b R C L q R2 C2 L' ob g v e w' :=
  right_of W0 w z p b R C L q d R2 C2 L2 ob g h hf ho v R2 C2 L' hi e w' ⟨hq.1, d, hq.2.1, hq.2.2.wide, .inl rfl⟩
theorem putGB (row col : Int) (c : Ce) : Calls Try.prog 21 #[.pointer (some ⟨p, 0, none⟩), .int .i64 row, .int .i64 col, cvA c] w (LQ W0 z p q d R C (putL R C L row col c) R2 C2 L2 ob g (.bool (putOk R C row col c))) :=
  (putG p b R C row col c L w h.tp.g).mono (of_gq W0 w z p b R C L q d R2 C2 L2 ob g h hf ho _ _)
theorem putXB (row col : Int) (c : Ce) : Calls Try.prog 37 #[.pointer (some ⟨q, 0, none⟩), .int .i64 row, .int .i64 col, cvA c] w (RQ W0 z p b R C L q R2 C2 (putL R2 C2 L2 row col c) ob g (.bool (putOk R2 C2 row col c))) :=
  (putX q d R2 C2 row col c L2 w h.x h.iv).mono (of_xq W0 w z p b R C L q d R2 C2 L2 ob g h hf ho _ _ (iv_put h.iv row col c))
theorem eraseGB (row fr t0 af ag ab : Int) : Calls Try.prog 22 #[.pointer (some ⟨p, 0, none⟩), .int .i64 row, .int .i64 fr, .int .i64 t0, .agg #[.int .i64 af, .int .i64 ag, .int .i64 ab]] w (LQ W0 z p q d R C (eraseL R C L row fr t0 af ag ab) R2 C2 L2 ob g (.tuple #[])) :=
  (eraseG p b R C row fr t0 af ag ab L w h.tp.g).mono (of_gq W0 w z p b R C L q d R2 C2 L2 ob g h hf ho _ _)
theorem eraseXB (row fr t0 af ag ab : Int) : Calls Try.prog 38 #[.pointer (some ⟨q, 0, none⟩), .int .i64 row, .int .i64 fr, .int .i64 t0, .agg #[.int .i64 af, .int .i64 ag, .int .i64 ab]] w (RQ W0 z p b R C L q R2 C2 (eraseL R2 C2 L2 row fr t0 af ag ab) ob g (.tuple #[])) :=
  (eraseX q d R2 C2 row fr t0 af ag ab L2 w h.x h.iv).mono (of_xq W0 w z p b R C L q d R2 C2 L2 ob g h hf ho _ _ (iv_erase h.iv row fr t0 af ag ab))
theorem shiftGB (row col n af ag ab : Int) : Calls Try.prog 23 #[.pointer (some ⟨p, 0, none⟩), .int .i64 row, .int .i64 col, .int .i64 n, .agg #[.int .i64 af, .int .i64 ag, .int .i64 ab]] w (LQ W0 z p q d R C (shiftL R C L row col n af ag ab) R2 C2 L2 ob g (.tuple #[])) :=
  (shiftG p b R C row col n af ag ab L w h.tp.g).mono (of_gq W0 w z p b R C L q d R2 C2 L2 ob g h hf ho _ _)
theorem shiftXB (row col n af ag ab : Int) : Calls Try.prog 39 #[.pointer (some ⟨q, 0, none⟩), .int .i64 row, .int .i64 col, .int .i64 n, .agg #[.int .i64 af, .int .i64 ag, .int .i64 ab]] w (RQ W0 z p b R C L q R2 C2 (shiftL R2 C2 L2 row col n af ag ab) ob g (.tuple #[])) :=
  (shiftX q d R2 C2 row col n af ag ab L2 w h.x h.iv).mono (of_xq W0 w z p b R C L q d R2 C2 L2 ob g h hf ho _ _ (iv_shift h.iv row col n af ag ab))
theorem scrollGB (row col n af ag ab : Int) : Calls Try.prog 24 #[.pointer (some ⟨p, 0, none⟩), .int .i64 row, .int .i64 col, .int .i64 n, .agg #[.int .i64 af, .int .i64 ag, .int .i64 ab]] w (LQ W0 z p q d R C (scrollL R C L row col n af ag ab) R2 C2 L2 ob g (.tuple #[])) :=
  (scrollG p b R C row col n af ag ab L w h.tp.g).mono (of_gq W0 w z p b R C L q d R2 C2 L2 ob g h hf ho _ _)
theorem scrollXB (row col n af ag ab : Int) : Calls Try.prog 40 #[.pointer (some ⟨q, 0, none⟩), .int .i64 row, .int .i64 col, .int .i64 n, .agg #[.int .i64 af, .int .i64 ag, .int .i64 ab]] w (RQ W0 z p b R C L q R2 C2 (scrollL R2 C2 L2 row col n af ag ab) ob g (.tuple #[])) :=
  (scrollX q d R2 C2 row col n af ag ab L2 w h.x h.iv).mono (of_xq W0 w z p b R C L q d R2 C2 L2 ob g h hf ho _ _ (iv_scroll h.iv row col n af ag ab))
theorem fillGB (c : Ce) : Calls Try.prog 26 #[.pointer (some ⟨p, 0, none⟩), cvA c] w (LQ W0 z p q d R C (fillL L c) R2 C2 L2 ob g (.tuple #[])) :=
  (fillG p b R C c L w h.tp.g).mono (of_gq W0 w z p b R C L q d R2 C2 L2 ob g h hf ho _ _)
theorem fillXB (c : Ce) : Calls Try.prog 42 #[.pointer (some ⟨q, 0, none⟩), cvA c] w (RQ W0 z p b R C L q R2 C2 (fillL L2 c) ob g (.tuple #[])) :=
  (fillX q d R2 C2 c L2 w h.x).mono (of_xq W0 w z p b R C L q d R2 C2 L2 ob g h hf ho _ _ (iv_fill h.iv c))
/-- what a Resize leaves: rows, columns, cells, answer. -/
def rsR (R : Nat) (rows cols : Int) : Nat := if sizeB rows cols then rows.toNat else R
def rsC (C : Nat) (rows cols : Int) : Nat := if sizeB rows cols then cols.toNat else C
def rsL (R C : Nat) (L : List Ce) (rows cols : Int) : List Ce := if sizeB rows cols then resizeL R C L rows.toNat cols.toNat else L
def rsN (rows cols : Int) : Int := if sizeB rows cols then 0 else 1
theorem resizeGB (rows cols : Int) : Calls Try.prog 25 #[.pointer (some ⟨p, 0, none⟩), .int .i64 rows, .int .i64 cols] w (LQ W0 z p q d (rsR R rows cols) (rsC C rows cols) (rsL R C L rows cols) R2 C2 L2 ob g (.int .i64 (rsN rows cols))) := by
  unfold rsR rsC rsL rsN
  cases hz : sizeB rows cols with
  | true =>
    rw [if_pos rfl, if_pos rfl, if_pos rfl, if_pos rfl]
    exact (resizeG p b R C rows cols L w h.tp.g hz).mono fun e w' ⟨b', h1, h2, h3, h4⟩ => left_of W0 w z p b R C L q d R2 C2 L2 ob g h hf ho _ _ _ _ e w' ⟨h1, b', h2, h3, .inr h4⟩
  | false => exact (resizeNo p rows cols w hz).mono fun e w' ⟨h1, h2⟩ => ⟨h1, b, h2 ▸ h, hf, h2 ▸ ho⟩
theorem resizeXB (rows cols : Int) : Calls Try.prog 41 #[.pointer (some ⟨q, 0, none⟩), .int .i64 rows, .int .i64 cols] w (RQ W0 z p b R C L q (rsR R2 rows cols) (rsC C2 rows cols) (rsL R2 C2 L2 rows cols) ob g (.int .i64 (rsN rows cols))) := by
  unfold rsR rsC rsL rsN
  cases hz : sizeB rows cols with
  | true =>
    rw [if_pos rfl, if_pos rfl, if_pos rfl, if_pos rfl]
    exact (resizeX q d R2 C2 rows cols L2 w h.x h.iv hz).mono fun e w' ⟨d', h1, h2, h3, h4⟩ => right_of W0 w z p b R C L q d R2 C2 L2 ob g h hf ho _ _ _ _ (iv_resize h.iv _ _) e w' ⟨h1, d', h2, ⟨h3.os, h3.tape, h3.output, h3.size, fun k hk g1 _ => h3.block k hk g1 g1⟩, .inr h4⟩
  | false => exact (resizeNoX q rows cols w hz).mono fun e w' ⟨h1, h2⟩ => ⟨h1, d, h2 ▸ h, hf, h2 ▸ ho⟩
end
end Go.Proofs.Ytfdjmlncdbpkgaa.Ya
