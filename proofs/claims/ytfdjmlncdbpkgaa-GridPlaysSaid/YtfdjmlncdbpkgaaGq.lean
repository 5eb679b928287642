/- Package grid: Put of anything; a grid beside what stood; the chapter's examples. -/
import Derived.Test.YtfdjmlncdbpkgaaGp
set_option linter.unusedVariables false
namespace Go.Proofs.Ytfdjmlncdbpkgaa.Gq
open Go Go.RowKit Kit Gm Gv Fl Me Cp Sl Gg Gh Gp

def putOk (R C : Nat) (row col : Int) (c : Ce) : Bool := hasB R C row col && (mayC c && !(c.wd == 2))
def rowAt (L : List Ce) (q C : Nat) : List Ce := (L.drop q).take C
/-- the cells behind a Put. -/
def putL (R C : Nat) (L : List Ce) (row col : Int) (c : Ce) : List Ce :=
  if putOk R C row col c then L.take (row.toNat * C) ++ mend (putRow C (rowAt L (row.toNat * C) C) col.toNat c) ++ L.drop (row.toNat * C + C) else L
theorem hasB_iff {R C : Nat} {row col : Int} : hasB R C row col = true ↔ (0 ≤ row ∧ row < R ∧ 0 ≤ col ∧ col < C) := by simp [hasB]
theorem may_wd {c : Ce} (h : mayC c = true) (h2 : ¬ c.wd = 2) : c.wd = 0 ∨ c.wd = 1 := by
  unfold mayC Cell.mayB at h
  simp only [Bool.and_eq_true, Bool.or_eq_true, beq_iff_eq] at h
  omega
theorem kp_below {w w' : World} {p b R C : Nat} {L : List Ce} (h : G w p b R C L) (hb : Below w.heap.size w w') : G w' p b R C L ∧ Kp p b w w' := ⟨h.then_ hb (Nat.le_refl _), Kp.of hb⟩
/-- Put, of anything. -/
theorem putG (p b R C : Nat) (row col : Int) (c : Ce) (L : List Ce) (w : World) (h : G w p b R C L) :
    Calls Try.prog 21 #[.pointer (some ⟨p, 0, none⟩), .int .i64 row, .int .i64 col, cvA c] w (GQ (.bool (putOk R C row col c)) w p b R C (putL R C L row col c)) := by
  cases hz : putOk R C row col c with
  | false =>
    have e : putL R C L row col c = L := by unfold putL; rw [hz]; rfl
    rw [e]
    exact (putNo p b R C row col c L w h hz).mono fun e w' ⟨h1, h2⟩ => ⟨h1, kp_below h h2⟩
  | true =>
    have e : putL R C L row col c = L.take (row.toNat * C) ++ mend (putRow C (rowAt L (row.toNat * C) C) col.toNat c) ++ L.drop (row.toNat * C + C) := by unfold putL; rw [hz]; rfl
    rw [e]
    unfold putOk at hz
    simp only [Bool.and_eq_true, Bool.not_eq_true', beq_eq_false_iff_ne, ne_eq] at hz
    obtain ⟨h1, hm, h2⟩ := hz
    obtain ⟨a1, a2, a3, a4⟩ := hasB_iff.1 h1
    obtain ⟨r, rfl⟩ := Int.eq_ofNat_of_zero_le a1
    obtain ⟨k, rfl⟩ := Int.eq_ofNat_of_zero_le a3
    rw [Int.toNat_natCast, Int.toNat_natCast]
    have hr : r < R := by omega
    have hk : k < C := by omega
    have hq := row_nums h.len hr
    have hlen : (rowAt L (r * C) C).length = C := by unfold rowAt; rw [List.length_take, List.length_drop]; exact Nat.min_eq_left (by omega)
    have hsp : L = L.take (r * C) ++ rowAt L (r * C) C ++ L.drop (r * C + C) := row_split hq
    have hA : (L.take (r * C)).length = r * C := by rw [List.length_take]; exact Nat.min_eq_left (by omega)
    generalize L.take (r * C) = A at *
    generalize L.drop (r * C + C) = Z at *
    generalize rowAt L (r * C) C = M at *
    have hD : (M.take k).length = k := by rw [List.length_take]; exact Nat.min_eq_left (by omega)
    rw [hsp] at h
    obtain ⟨cr, cfl, cfg, cbg, cwd⟩ := c
    have hkM : k < M.length := by omega
    rcases may_wd hm h2 with hw | hw
    · dsimp only at hw
      subst hw
      have e1 : putRow C M k ⟨cr, cfl, cfg, cbg, 0⟩ = M.take k ++ ⟨cr, cfl, cfg, cbg, 0⟩ :: M.drop (k + 1) := by
        unfold putRow; rw [if_pos rfl]; exact set_split hkM _
      rw [e1]
      have hMs := mid_split hkM
      rw [hMs] at h hlen
      exact putA p b R C r k cr cfl cfg cbg A (M.take k) (M.drop (k + 1)) Z M[k] w h hr hk hA hD hlen hm
    · dsimp only at hw
      subst hw
      by_cases hl : k + 1 = C
      · have e1 : putRow C M k ⟨cr, cfl, cfg, cbg, 1⟩ = M.take k ++ ⟨32, 0, 0, cbg, 0⟩ :: M.drop (k + 1) := by
          unfold putRow; rw [if_neg (show ¬ (1 : Int) = 0 by decide), if_pos hl]; exact set_split hkM _
        rw [e1]
        have hMs := mid_split hkM
        rw [hMs] at h hlen
        exact putB p b R C r k cr cfl cfg cbg A (M.take k) (M.drop (k + 1)) Z M[k] w h hr hk hA hD hlen hm hl
      · have hk2 : k + 1 < M.length := by omega
        have e1 : putRow C M k ⟨cr, cfl, cfg, cbg, 1⟩ = M.take k ++ ⟨cr, cfl, cfg, cbg, 1⟩ :: ⟨0, cfl, cfg, cbg, 2⟩ :: M.drop (k + 2) := by
          unfold putRow; rw [if_neg (show ¬ (1 : Int) = 0 by decide), if_neg hl]; exact set_two hk2 _ _
        rw [e1]
        have hMs : M = M.take k ++ M[k] :: M[k + 1] :: M.drop (k + 2) := by
          rw [← List.drop_eq_getElem_cons hk2]; exact mid_split hkM
        rw [hMs] at h hlen
        exact putC p b R C r k cr cfl cfg cbg A (M.take k) (M.drop (k + 2)) Z M[k] M[k + 1] w h hr hk hA hD hlen hm (by omega)
/-- a grid made behind the world W0, which stands but for it. -/
structure Tp (W0 w : World) (p b R C : Nat) (L : List Ce) : Prop where
  g : G w p b R C L
  bel : Below W0.heap.size W0 w
  hp : W0.heap.size ≤ p
  hb : W0.heap.size ≤ b
theorem Tp.then_ {W0 w w' : World} {p b R C : Nat} {L : List Ce} (h : Tp W0 w p b R C L) (hb : Below w.heap.size w w') : Tp W0 w' p b R C L :=
  ⟨h.g.then_ hb (Nat.le_refl _), below_then h.bel hb h.bel.size, h.hp, h.hb⟩
theorem Tp.drewN {W0 w : World} {p b R C : Nat} {L : List Ce} (h : Tp W0 w p b R C L) (n : Nat) : Tp W0 (w.drewN n) p b R C L :=
  ⟨h.g.drewN n, below_drewN h.bel n, h.hp, h.hb⟩
theorem below_drew {B : Nat} {a w : World} (h : Below B a w) : Below B a w.drew := ⟨h.os, h.tape, h.output, h.size, h.block⟩
theorem Tp.drew {W0 w : World} {p b R C : Nat} {L : List Ce} (h : Tp W0 w p b R C L) : Tp W0 w.drew p b R C L :=
  ⟨h.g.drew, below_drew h.bel, h.hp, h.hb⟩
theorem Tp.kept {W0 w w' : World} {p b b' R C R' C' : Nat} {L L' : List Ce} (h : Tp W0 w p b R C L) (hg : G w' p b' R' C' L') (hk : Kp p b w w') (hb : b' = b ∨ w.heap.size ≤ b') : Tp W0 w' p b' R' C' L' :=
  ⟨hg, hk.below h.bel (Nat.le_refl _) h.hp h.hb, h.hp, by rcases hb with rfl | hb; exact h.hb; exact Nat.le_trans h.bel.size hb⟩
theorem putT (W0 : World) (p b R C : Nat) (row col : Int) (c : Ce) (L : List Ce) (w : World) (h : Tp W0 w p b R C L) (v : Bool) (hv : putOk R C row col c = v) (L' : List Ce) (hL : putL R C L row col c = L') :
    Calls Try.prog 21 #[.pointer (some ⟨p, 0, none⟩), .int .i64 row, .int .i64 col, cvA c] w fun e w' => e = .returned (.bool v) ∧ Tp W0 w' p b R C L' := by
  subst hv hL
  exact (putG p b R C row col c L w h.g).mono fun e w' ⟨h1, h2, h3⟩ => ⟨h1, h.kept h2 h3 (.inl rfl)⟩
theorem atT (W0 : World) (p b R C : Nat) (row col : Int) (L : List Ce) (w : World) (h : Tp W0 w p b R C L) (x : Ce) (hx : x = atC R C L row col) :
    Calls Try.prog 19 #[.pointer (some ⟨p, 0, none⟩), .int .i64 row, .int .i64 col] w fun e w' => e = .returned (cvA x) ∧ Tp W0 w' p b R C L :=
  (atK p b R C _ row col L w h.g.view x hx).mono fun e w' ⟨h1, h2⟩ => ⟨h1, h.then_ h2⟩
theorem rowsT (W0 : World) (p b R C : Nat) (L : List Ce) (w : World) (h : Tp W0 w p b R C L) : Calls Try.prog 15 #[.pointer (some ⟨p, 0, none⟩)] w fun e w' => e = .returned (.int .i64 (R : Int)) ∧ w = w' := rowsC p b R C _ L w h.g.view
theorem colsT (W0 : World) (p b R C : Nat) (L : List Ce) (w : World) (h : Tp W0 w p b R C L) : Calls Try.prog 16 #[.pointer (some ⟨p, 0, none⟩)] w fun e w' => e = .returned (.int .i64 (C : Int)) ∧ w = w' := colsC p b R C _ L w h.g.view
theorem sameT (W0 : World) (p b R C : Nat) (L : List Ce) (w : World) (h : Tp W0 w p b R C L) : Calls Try.prog 31 #[.pointer (some ⟨p, 0, none⟩), .pointer (some ⟨p, 0, none⟩)] w fun e w' => e = .returned (.bool true) ∧ Tp W0 w' p b R C L :=
  (sameSelf p b R C _ L w h.g.view).mono fun e w' ⟨h1, n, h2⟩ => ⟨h1, h2 ▸ h.drewN n⟩
/-- New, behind W0. -/
theorem newT (W0 : World) (R C : Nat) (w : World) (hb : Below W0.heap.size W0 w) (h : 1 ≤ R ∧ R ≤ 60 ∧ 1 ≤ C ∧ C ≤ 200) (L : List Ce) (hL : List.replicate (R * C) (Gm.blankC 0) = L) (r c : Int) (hr : r = (R : Int)) (hc : c = (C : Int)) :
    Calls Try.prog 10 #[.int .i64 r, .int .i64 c] w fun e w' => ∃ p b, e = .returned (.tuple #[.pointer (some ⟨p, 0, none⟩), .int .i64 0]) ∧ Tp W0 w' p b R C L := by
  subst hL hr hc
  have := hb.size
  exact (newYes R C w h).mono fun e w' ⟨h1, h2, h3⟩ => ⟨_, _, h1, h2, below_then hb h3 this, by omega, this⟩
theorem field2 (a b c d e : Value) (w : World) : (Instr.field 37 (.agg #[a, b, c, d, e]) 2).run Try.prog w = .ok e w := by kernel_rfl
theorem field0 (a b c d e : Value) (w : World) : (Instr.field 37 (.agg #[a, b, c, d, e]) 0).run Try.prog w = .ok a w := by kernel_rfl
theorem field1 (a b c d e : Value) (w : World) : (Instr.field 37 (.agg #[a, b, c, d, e]) 1).run Try.prog w = .ok (.agg #[b, c, d]) w := by kernel_rfl
def f0 : List Ce := [⟨32, 0, 0, 0, 0⟩, ⟨32, 0, 0, 0, 0⟩, ⟨32, 0, 0, 0, 0⟩]
def f1 : List Ce := [⟨19968, 0, 0, 0, 1⟩, ⟨0, 0, 0, 0, 2⟩, ⟨32, 0, 0, 0, 0⟩]
def f2 : List Ce := [⟨32, 0, 0, 0, 0⟩, ⟨65, 0, 0, 0, 0⟩, ⟨32, 0, 0, 0, 0⟩]
theorem new0 (W0 w : World) (hb : Below W0.heap.size W0 w) : Calls Try.prog 10 #[.int .i64 1, .int .i64 3] w fun e w' => ∃ p b, e = .returned (.tuple #[.pointer (some ⟨p, 0, none⟩), .int .i64 0]) ∧ Tp W0 w' p b 1 3 f0 :=
  newT W0 1 3 w hb (by decide) f0 rfl _ _ rfl rfl
theorem put0 (W0 w : World) (p b : Nat) (h : Tp W0 w p b 1 3 f0) : Calls Try.prog 21 #[.pointer (some ⟨p, 0, none⟩), .int .i64 0, .int .i64 0, .agg #[.int .i32 19968, .int .i64 0, .int .i64 0, .int .i64 0, .int .i64 1]] w fun e w' => e = .returned (.bool true) ∧ Tp W0 w' p b 1 3 f1 :=
  putT W0 p b 1 3 0 0 ⟨19968, 0, 0, 0, 1⟩ f0 w h true (by decide) f1 (by decide)
theorem put1 (W0 w : World) (p b : Nat) (h : Tp W0 w p b 1 3 f1) : Calls Try.prog 21 #[.pointer (some ⟨p, 0, none⟩), .int .i64 0, .int .i64 1, .agg #[.int .i32 65, .int .i64 0, .int .i64 0, .int .i64 0, .int .i64 0]] w fun e w' => e = .returned (.bool true) ∧ Tp W0 w' p b 1 3 f2 :=
  putT W0 p b 1 3 0 1 ⟨65, 0, 0, 0, 0⟩ f1 w h true (by decide) f2 (by decide)
theorem at1 (W0 w : World) (p b : Nat) (h : Tp W0 w p b 1 3 f1) : Calls Try.prog 19 #[.pointer (some ⟨p, 0, none⟩), .int .i64 0, .int .i64 1] w fun e w' => e = .returned (.agg #[.int .i32 0, .int .i64 0, .int .i64 0, .int .i64 0, .int .i64 2]) ∧ Tp W0 w' p b 1 3 f1 :=
  atT W0 p b 1 3 0 1 f1 w h ⟨0, 0, 0, 0, 2⟩ (by decide)
theorem at2 (W0 w : World) (p b : Nat) (h : Tp W0 w p b 1 3 f2) : Calls Try.prog 19 #[.pointer (some ⟨p, 0, none⟩), .int .i64 0, .int .i64 0] w fun e w' => e = .returned (.agg #[.int .i32 32, .int .i64 0, .int .i64 0, .int .i64 0, .int .i64 0]) ∧ Tp W0 w' p b 1 3 f2 :=
  atT W0 p b 1 3 0 0 f2 w h ⟨32, 0, 0, 0, 0⟩ (by decide)
theorem at3 (W0 w : World) (p b : Nat) (h : Tp W0 w p b 1 3 f2) : Calls Try.prog 19 #[.pointer (some ⟨p, 0, none⟩), .int .i64 0, .int .i64 1] w fun e w' => e = .returned (.agg #[.int .i32 65, .int .i64 0, .int .i64 0, .int .i64 0, .int .i64 0]) ∧ Tp W0 w' p b 1 3 f2 :=
  atT W0 p b 1 3 0 1 f2 w h ⟨65, 0, 0, 0, 0⟩ (by decide)
theorem at4 (W0 w : World) (p b : Nat) (h : Tp W0 w p b 1 3 f2) : Calls Try.prog 19 #[.pointer (some ⟨p, 0, none⟩), .int .i64 1, .int .i64 0] w fun e w' => e = .returned (.agg #[.int .i32 0, .int .i64 0, .int .i64 0, .int .i64 0, .int .i64 0]) ∧ Tp W0 w' p b 1 3 f2 :=
  atT W0 p b 1 3 1 0 f2 w h ⟨0, 0, 0, 0, 0⟩ (by decide)
theorem rows0 (W0 w : World) (p b : Nat) (h : Tp W0 w p b 1 3 f2) : Calls Try.prog 15 #[.pointer (some ⟨p, 0, none⟩)] w fun e w' => e = .returned (.int .i64 1) ∧ w = w' := rowsT W0 p b 1 3 f2 w h
theorem cols0 (W0 w : World) (p b : Nat) (h : Tp W0 w p b 1 3 f2) : Calls Try.prog 16 #[.pointer (some ⟨p, 0, none⟩)] w fun e w' => e = .returned (.int .i64 3) ∧ w = w' := colsT W0 p b 1 3 f2 w h
set_option maxRecDepth 100000 in
set_option maxHeartbeats 1000000 in
/-- the chapter's examples. -/
theorem firstC (w : World) : Calls Try.prog 9 #[] w fun e w' => e = .returned (.bool true) ∧ Below w.heap.size w w' := by
  have HB := Lib.hid (Below.refl w.heap.size w)
  have kf2 := field2
  have kf0 := field0
  go_enter Try.func9, Try.ntmps9
  go_wp2_with (first
    | (go_at_call 10; (with_reducible refine (new0 w _ HB.out).mono ?_); rintro e w1 ⟨p, b, rfl, ht⟩; have HT0 := Lib.hid ht; clear ht HB)
    | (go_at_call 21; (first
      | ((with_reducible refine (put0 w _ p b HT0.out).mono ?_); rintro e w2 ⟨rfl, ht⟩; have HT1 := Lib.hid ht; clear ht HT0)
      | ((with_reducible refine (put1 w _ p b HT2.out).mono ?_); rintro e w4 ⟨rfl, ht⟩; have HT3 := Lib.hid ht; clear ht HT2)))
    | (go_at_call 19; (first
      | ((with_reducible refine (at1 w _ p b HT1.out).mono ?_); rintro e w3 ⟨rfl, ht⟩; have HT2 := Lib.hid ht; clear ht HT1)
      | ((with_reducible refine (at2 w _ p b HT3.out).mono ?_); rintro e w5 ⟨rfl, ht⟩; have HT4 := Lib.hid ht; clear ht HT3)
      | ((with_reducible refine (at3 w _ p b HT4.out).mono ?_); rintro e w6 ⟨rfl, ht⟩; have HT5 := Lib.hid ht; clear ht HT4)
      | ((with_reducible refine (at4 w _ p b HT6.out).mono ?_); rintro e w8 ⟨rfl, ht⟩; have HT7 := Lib.hid ht; clear ht HT6)))
    | (go_at_call 15; (with_reducible refine (rows0 w _ p b HT5.out).mono ?_); rintro e w' ⟨rfl, rfl⟩)
    | (go_at_call 16; (with_reducible refine (cols0 w _ p b HT5.out).mono ?_); rintro e w' ⟨rfl, rfl⟩)
    | (go_at_call 31; (with_reducible refine (sameT w p b 1 3 f2 _ HT5.out).mono ?_); rintro e w7 ⟨rfl, ht⟩; have HT6 := Lib.hid ht; clear ht HT5))
  go_ret
  exact ⟨rfl, HT7.out.bel⟩
end Go.Proofs.Ytfdjmlncdbpkgaa.Gq
