/- A grid and its copy, beside what stood. -/
import Derived.Test.YtfdjmlncdbpkgaaGu
import Derived.Test.YtfdjmlncdbpkgaaGe
set_option linter.unusedVariables false
namespace Go.Proofs.Ytfdjmlncdbpkgaa.Lw
open Go Go.RowKit Kit Gm Gv Fl Me Cp Sl Gg Gh Gp Gq Gk Gs Gt Gu
open Gr (unit attrB_ eraseL eraseG)
open Ge (fillL fillG)

theorem GV.kept {w w' : World} {p b p' b' R C cap : Nat} {L : List Ce} (h : GV w p' b' R C cap L) (hk : Kp p b w w') (h1 : p' ≠ p) (h2 : p' ≠ b) (h3 : b' ≠ p) (h4 : b' ≠ b) : GV w' p' b' R C cap L :=
  ⟨hk.row h.obj h1 h2, fun j hj i hi => by rw [World.cell?_of_block (w := w) (hk.block b' h.b_lt h3 h4)]; exact h.cell j hj i hi, h.len, h.r1, h.r2, h.c1, h.c2, h.cap1, h.cap2⟩
/-- a grid and a copy of one, made behind the world W0. -/
structure Tc (W0 w : World) (p b R C : Nat) (L : List Ce) (q d S D cap : Nat) (M : List Ce) : Prop where
  tp : Tp W0 w p b R C L
  cp : GV w q d S D cap M
  n1 : q ≠ p
  n2 : q ≠ b
  n3 : d ≠ p
  n4 : d ≠ b
  hq : W0.heap.size ≤ q
  hd : W0.heap.size ≤ d
section
variable {W0 w w' : World} {p b R C : Nat} {L : List Ce} {q d S D cap : Nat} {M : List Ce}
theorem Tc.q_lt (h : Tc W0 w p b R C L q d S D cap M) : q < w.heap.size := obj_lt h.cp.obj
theorem Tc.then_ (h : Tc W0 w p b R C L q d S D cap M) (hb : Below w.heap.size w w') : Tc W0 w' p b R C L q d S D cap M :=
  ⟨h.tp.then_ hb, h.cp.then_ hb (Nat.le_refl _), h.n1, h.n2, h.n3, h.n4, h.hq, h.hd⟩
theorem Tc.drew (h : Tc W0 w p b R C L q d S D cap M) : Tc W0 w.drew p b R C L q d S D cap M :=
  ⟨h.tp.drew, h.cp.drewN 1, h.n1, h.n2, h.n3, h.n4, h.hq, h.hd⟩
theorem Tc.kept (h : Tc W0 w p b R C L q d S D cap M) {b' R' C' : Nat} {L' : List Ce} (hg : G w' p b' R' C' L') (hk : Kp p b w w') (hb : b' = b ∨ w.heap.size ≤ b') : Tc W0 w' p b' R' C' L' q d S D cap M := by
  refine ⟨h.tp.kept hg hk hb, GV.kept h.cp hk h.n1 h.n2 h.n3 h.n4, h.n1, ?_, h.n3, ?_, h.hq, h.hd⟩
  · rcases hb with rfl | hb
    · exact h.n2
    · have := h.q_lt; omega
  · rcases hb with rfl | hb
    · exact h.n4
    · have := h.cp.b_lt; omega
/-- a cell of one's own, stored. -/
theorem Tc.put (h : Tc W0 w p b R C L q d S D cap M) {k : Nat} (hk : W0.heap.size ≤ k) (h1 : k ≠ p) (h2 : k ≠ b) (h3 : k ≠ q) (h4 : k ≠ d) (X : List Ce) : Tc W0 (putR w k X) p b R C L q d S D cap M := by
  have kp : Kp k k w (putR w k X) := (Kp.refl _ _ _).put X
  exact ⟨⟨G.other h.tp.g kp (Ne.symm h1) (Ne.symm h2), kp.below h.tp.bel (Nat.le_refl _) hk hk, h.tp.hp, h.tp.hb⟩, GV.kept h.cp kp (Ne.symm h3) (Ne.symm h3) (Ne.symm h4) (Ne.symm h4), h.n1, h.n2, h.n3, h.n4, h.hq, h.hd⟩
/-- a block that is none of theirs: it was made behind them. -/
theorem Tc.fresh (h : Tc W0 w p b R C L q d S D cap M) {k : Nat} (hk : w.heap.size ≤ k) : W0.heap.size ≤ k ∧ k ≠ p ∧ k ≠ b ∧ k ≠ q ∧ k ≠ d := by
  have h1 := h.tp.g.p_lt
  have h2 := h.tp.g.b_lt
  have h3 := h.q_lt
  have h4 := h.cp.b_lt
  have h5 := h.tp.bel.size
  omega
end
section
variable (W0 w : World) (p b R C : Nat) (L : List Ce) (q d S D cap : Nat) (M : List Ce)
theorem copyT (h : Tp W0 w p b R C L) : Calls Try.prog 12 #[.pointer (some ⟨p, 0, none⟩)] w fun e w' => ∃ q d cap, e = .returned (.pointer (some ⟨q, 0, none⟩)) ∧ Tc W0 w' p b R C L q d R C cap L :=
  (copyK p b R C _ L w h.g.view).mono fun e w' ⟨q, d, cap, h1, h2, h3, h4, h5⟩ => ⟨q, d, cap, h1, by
    have a1 := h.g.p_lt
    have a2 := h.g.b_lt
    have a3 := h.bel.size
    exact ⟨h.then_ h3, h2, by omega, by omega, by omega, by omega, by omega, by omega⟩⟩
theorem atTc (h : Tc W0 w p b R C L q d S D cap M) (row col : Int) (x : Ce) (hx : x = atC R C L row col) : Calls Try.prog 19 #[.pointer (some ⟨p, 0, none⟩), .int .i64 row, .int .i64 col] w fun e w' => e = .returned (cvA x) ∧ Tc W0 w' p b R C L q d S D cap M ∧ Below w.heap.size w w' :=
  (atK p b R C _ row col L w h.tp.g.view x hx).mono fun e w' ⟨h1, h2⟩ => ⟨h1, h.then_ h2, h2⟩
theorem atTo (h : Tc W0 w p b R C L q d S D cap M) (row col : Int) (x : Ce) (hx : x = atC S D M row col) : Calls Try.prog 19 #[.pointer (some ⟨q, 0, none⟩), .int .i64 row, .int .i64 col] w fun e w' => e = .returned (cvA x) ∧ Tc W0 w' p b R C L q d S D cap M ∧ Below w.heap.size w w' :=
  (atK q d S D cap row col M w h.cp x hx).mono fun e w' ⟨h1, h2⟩ => ⟨h1, h.then_ h2, h2⟩
theorem blankTc (h : Tc W0 w p b R C L q d S D cap M) (f g k : Int) : Calls Try.prog 28 #[.agg #[.int .i64 f, .int .i64 g, .int .i64 k]] w fun e w' => e = .returned (.agg #[.int .i32 32, .int .i64 0, .int .i64 0, .int .i64 k, .int .i64 0]) ∧ Tc W0 w' p b R C L q d S D cap M ∧ Below w.heap.size w w' :=
  (cBlankB f g k w).mono fun e w' ⟨h1, h2⟩ => ⟨h1, h.then_ h2, h2⟩
theorem firstTc (h : Tc W0 w p b R C L q d S D cap M) : Calls Try.prog 9 #[] w fun e w' => e = .returned (.bool true) ∧ Tc W0 w' p b R C L q d S D cap M :=
  (firstC w).mono fun e w' ⟨h1, h2⟩ => ⟨h1, h.then_ h2⟩
theorem firstTp (h : Tp W0 w p b R C L) : Calls Try.prog 9 #[] w fun e w' => e = .returned (.bool true) ∧ Tp W0 w' p b R C L :=
  (firstC w).mono fun e w' ⟨h1, h2⟩ => ⟨h1, h.then_ h2⟩
theorem shiftTc (h : Tc W0 w p b R C L q d S D cap M) (row col n af ag ab : Int) (L' : List Ce) (hL : shiftL R C L row col n af ag ab = L') : Calls Try.prog 23 #[.pointer (some ⟨p, 0, none⟩), .int .i64 row, .int .i64 col, .int .i64 n, .agg #[.int .i64 af, .int .i64 ag, .int .i64 ab]] w fun e w' => e = .returned (.tuple #[]) ∧ Tc W0 w' p b R C L' q d S D cap M := by
  subst hL
  exact (shiftG p b R C row col n af ag ab L w h.tp.g).mono fun e w' ⟨h1, h2, h3⟩ => ⟨h1, h.kept h2 h3 (.inl rfl)⟩
theorem scrollTc (h : Tc W0 w p b R C L q d S D cap M) (top bottom n af ag ab : Int) (L' : List Ce) (hL : scrollL R C L top bottom n af ag ab = L') : Calls Try.prog 24 #[.pointer (some ⟨p, 0, none⟩), .int .i64 top, .int .i64 bottom, .int .i64 n, .agg #[.int .i64 af, .int .i64 ag, .int .i64 ab]] w fun e w' => e = .returned (.tuple #[]) ∧ Tc W0 w' p b R C L' q d S D cap M := by
  subst hL
  exact (scrollG p b R C top bottom n af ag ab L w h.tp.g).mono fun e w' ⟨h1, h2, h3⟩ => ⟨h1, h.kept h2 h3 (.inl rfl)⟩
end
/-- a sign's width. -/
theorem widthB (r : Int) (w : World) (v : Int) (hv : Cell.widthZ r = v) : Calls Try.prog 29 #[.int .i32 r] w fun e w' => e = .returned (.int .i64 v) ∧ w = w' := by
  subst hv; exact Cell.width r w
/-- a grid of narrow signs. -/
def Flat (n : Nat) (L : List Ce) : Prop := L.length = n ∧ ∀ c ∈ L, c.wd = 0
theorem flat_rep (n : Nat) : Flat n (List.replicate n (Gm.blankC 0)) := ⟨List.length_replicate, fun c hc => by rw [List.eq_of_mem_replicate hc]; rfl⟩
theorem putL_len (R C : Nat) (L : List Ce) (row col : Int) (c : Ce) (hl : L.length = R * C) : (putL R C L row col c).length = L.length := by
  unfold putL
  split
  · rename_i h
    unfold putOk at h
    simp only [Bool.and_eq_true] at h
    obtain ⟨a1, a2, a3, a4⟩ := hasB_iff.1 h.1
    obtain ⟨r, rfl⟩ := Int.eq_ofNat_of_zero_le a1
    have hr : r < R := by omega
    have hq := row_nums hl hr
    rw [Int.toNat_natCast, List.length_append, List.length_append, mend_length, putRow_len, Gu.rowAt_len hl hr, List.length_take, List.length_drop, Nat.min_eq_left (by omega)]
    omega
  · rfl
theorem flat_put {R C : Nat} {L : List Ce} (h : Flat (R * C) L) (row col r : Int) : Flat (R * C) (putL R C L row col ⟨r, 0, 0, 0, 0⟩) := by
  refine ⟨(putL_len R C L row col _ h.1).trans h.1, ?_⟩
  unfold putL
  split
  · have hrow : ∀ c ∈ putRow C (Gq.rowAt L (row.toNat * C) C) col.toNat ⟨r, 0, 0, 0, 0⟩, c.wd = 0 := by
      intro c hc
      unfold putRow at hc
      rw [if_pos rfl] at hc
      rcases List.mem_or_eq_of_mem_set hc with hc | rfl
      · exact h.2 c (List.mem_of_mem_drop (List.mem_of_mem_take hc))
      · rfl
    rw [mend_flat hrow]
    intro c hc
    rcases List.mem_append.1 hc with hc | hc
    · rcases List.mem_append.1 hc with hc | hc
      · exact h.2 c (List.mem_of_mem_take hc)
      · exact hrow c hc
    · exact h.2 c (List.mem_of_mem_drop hc)
  · exact h.2
end Go.Proofs.Ytfdjmlncdbpkgaa.Lw
