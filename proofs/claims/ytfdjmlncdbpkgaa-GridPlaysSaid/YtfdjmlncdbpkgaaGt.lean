/- Package grid: Scroll. -/
import Derived.Test.YtfdjmlncdbpkgaaGs
set_option linter.unusedVariables false
namespace Go.Proofs.Ytfdjmlncdbpkgaa.Gt
open Go Go.RowKit Kit Gm Gv Fl Me Cp Sl Gg Gh Gp Gq Gk Gs
open Gr (unit attrB_)

def scrollOk (R : Nat) (top bottom : Int) : Bool := decide (0 ≤ top ∧ bottom < R ∧ top ≤ bottom)
/-- the cells behind a Scroll. -/
def scrollL (R C : Nat) (L : List Ce) (top bottom n af ag ab : Int) : List Ce :=
  if scrollOk R top bottom && Cell.attrB af ag ab then L.take (top.toNat * C) ++ slideL ((L.drop (top.toNat * C)).take ((bottom.toNat + 1 - top.toNat) * C)) (heldZ n (bottom - top + 1) * C) (Gm.blankC ab) ++ L.drop ((bottom.toNat + 1) * C) else L
set_option maxRecDepth 100000 in
set_option maxHeartbeats 1000000 in
/-- Scroll, of nothing. -/
theorem scrollNo (p b R C : Nat) (top bottom n af ag ab : Int) (L : List Ce) (w : World) (h : G w p b R C L) (hz : (scrollOk R top bottom && Cell.attrB af ag ab) = false) :
    Calls Try.prog 24 #[.pointer (some ⟨p, 0, none⟩), .int .i64 top, .int .i64 bottom, .int .i64 n, .agg #[.int .i64 af, .int .i64 ag, .int .i64 ab]] w fun e w' => e = .returned unit ∧ Below w.heap.size w w' := by
  have HG := Lib.hid (h.alloc (.cells #[.int .i64 af, .int .i64 ag, .int .i64 ab] 35))
  have HB := Lib.hid (below_one w (.cells #[.int .i64 af, .int .i64 ag, .int .i64 ab] 35))
  have HF := Lib.hid (heap_last w #[.int .i64 af, .int .i64 ag, .int .i64 ab] 35)
  generalize hw0 : w.alloc (.cells #[.int .i64 af, .int .i64 ag, .int .i64 ab] 35) = w0 at *
  obtain ⟨a0, a1, a2⟩ := three HF.out
  obtain ⟨p0, p1, p2⟩ := three HG.out.obj
  have hc : top < 0 ∨ (0 ≤ top ∧ (R : Int) ≤ bottom) ∨ (0 ≤ top ∧ bottom < R ∧ bottom < top) ∨ (0 ≤ top ∧ bottom < R ∧ top ≤ bottom ∧ Cell.attrB af ag ab = false) := by
    simp only [scrollOk, Bool.and_eq_false_iff, decide_eq_false_iff_not] at hz
    rcases hz with hz | hz
    · omega
    · by_cases q : 0 ≤ top ∧ bottom < R ∧ top ≤ bottom
      · exact .inr (.inr (.inr ⟨q.1, q.2.1, q.2.2, hz⟩))
      · omega
  clear h hz
  rcases hc with h1 | ⟨h1, h2⟩ | ⟨h1, h2, h3⟩ | ⟨h1, h2, h3, hy⟩
  · go_enter Try.func24, Try.ntmps24
    go_wp2
    exact bodyPost_ret (v := .tuple #[]) (by simp [results, Try.results24, go_sem]) rfl ⟨rfl, HB.out⟩
  · go_enter Try.func24, Try.ntmps24
    go_wp2
    exact bodyPost_ret (v := .tuple #[]) (by simp [results, Try.results24, go_sem]) rfl ⟨rfl, HB.out⟩
  · go_enter Try.func24, Try.ntmps24
    go_wp2
    exact bodyPost_ret (v := .tuple #[]) (by simp [results, Try.results24, go_sem]) rfl ⟨rfl, HB.out⟩
  · have HY := Lib.hid hy
    clear hy
    go_enter Try.func24, Try.ntmps24
    go_wp2_with (go_at_call 30; (with_reducible refine (attrB_ af ag ab false HY.out _).mono ?_); rintro e w1 ⟨rfl, hb1⟩; have HB1 := Lib.hid (below_then HB.out hb1 HB.out.size); clear hb1)
    exact bodyPost_ret (v := .tuple #[]) (by simp [results, Try.results24, go_sem]) rfl ⟨rfl, HB1.out⟩
theorem wr_any {x : Int} (h0 : -1000000 ≤ x) (h1 : x ≤ 1000000) : IntKind.i64.wrap x = x ∧ wrap64 x = x := by
  have : IntKind.i64.wrap x = x := IntWalk.i64_in _ (by omega)
  exact ⟨this, by unfold wrap64; omega⟩
set_option maxRecDepth 100000 in
set_option maxHeartbeats 1000000 in
/-- Scroll. -/
theorem scrollYes (p b R C t u : Nat) (n af ag ab : Int) (A M Z : List Ce) (w : World) (h : G w p b R C (A ++ M ++ Z)) (htu : t ≤ u) (hu : u < R) (hA : A.length = t * C) (hM : M.length = (u + 1 - t) * C) (hy : Cell.attrB af ag ab = true) :
    Calls Try.prog 24 #[.pointer (some ⟨p, 0, none⟩), .int .i64 (t : Int), .int .i64 (u : Int), .int .i64 n, .agg #[.int .i64 af, .int .i64 ag, .int .i64 ab]] w (GQ unit w p b R C (A ++ slideL M (heldZ n ((u : Int) - t + 1) * C) (Gm.blankC ab) ++ Z)) := by
  have HH := Lib.hid h
  have HG := Lib.hid (h.alloc (.cells #[.int .i64 af, .int .i64 ag, .int .i64 ab] 35))
  have HB := Lib.hid (below_one w (.cells #[.int .i64 af, .int .i64 ag, .int .i64 ab] 35))
  have HF := Lib.hid (heap_last w #[.int .i64 af, .int .i64 ag, .int .i64 ab] 35)
  generalize hw0 : w.alloc (.cells #[.int .i64 af, .int .i64 ag, .int .i64 ab] 35) = w0 at *
  obtain ⟨b0, b1, b2⟩ := three HF.out
  obtain ⟨p0, p1, p2⟩ := three HG.out.obj
  have h200 : C ≤ 200 := h.c2
  have h60 : R ≤ 60 := h.r2
  have hC1 : 1 ≤ C := h.c1
  have HNE := Lib.hid (Nat.ne_of_gt h.b_lt)
  have HNP := Lib.hid h.ne
  have hsm := h.small
  have HY := Lib.hid hy
  obtain ⟨q, hq⟩ : ∃ q, q = t * C := ⟨_, rfl⟩
  obtain ⟨k, hk⟩ : ∃ k, k = u + 1 - t := ⟨_, rfl⟩
  obtain ⟨m, hm⟩ : ∃ m, m = k * C := ⟨_, rfl⟩
  have hs : (u + 1) * C = q + m := by rw [hq, hm, ← Nat.add_mul, hk]; congr 1; omega
  have hAq : A.length = q := by rw [hA, hq]
  have hMm : M.length = m := by rw [hM, hm, hk]
  have hn : (A ++ M ++ Z).length = q + m + Z.length := by rw [List.length_append, List.length_append, hAq, hMm]
  have hm0 : 0 < m := by rw [hm]; exact Nat.mul_pos (by omega) hC1
  have hku : (u : Int) - t + 1 = (k : Int) := by omega
  rw [hku]
  obtain ⟨H, hH⟩ : ∃ H, heldZ n (k : Int) = H := ⟨_, rfl⟩
  rw [hH]
  have hb1 : -(k : Int) ≤ H ∧ H ≤ k := by rw [← hH]; unfold heldZ; omega
  have H49 := Lib.hid (fun w1 => heldC n (k : Int) w1 (by omega) (by omega) H hH)
  have hz1 : -(m : Int) ≤ H * C ∧ H * C ≤ m := by
    rw [hm, Int.natCast_mul]
    constructor
    · rw [← Int.neg_mul]; exact Int.mul_le_mul_of_nonneg_right hb1.1 (by omega)
    · exact Int.mul_le_mul_of_nonneg_right hb1.2 (by omega)
  obtain ⟨z, hz⟩ : ∃ z, H * (C : Int) = z := ⟨_, rfl⟩
  rw [hz] at hz1
  rw [hz]
  have HZz := Lib.hid hz
  have HEL := Lib.hid (show (slideL M z (Gm.blankC ab)).length = M.length from slideL_len M z _ (by rw [hMm]; omega) (by rw [hMm]; omega))
  have HSl := Lib.hid (fun (w1 : World) (cap : Nat) (hb : RB w1 b (A ++ M ++ Z)) (hc : m ≤ cap ∧ cap ≤ 9223372036854775000) => slideC b A M Z m cap z ⟨32, 0, 0, ab, 0⟩ w1 hb hMm.symm (by omega) hm0 hc.1 hc.2 hz1.1 hz1.2)
  have HQ := Lib.hid (show q * 5 = A.length * 5 by rw [hAq])
  have HCap := Lib.hid (show m ≤ (A ++ M ++ Z).length - q ∧ (A ++ M ++ Z).length - q ≤ 9223372036854775000 by rw [hn]; rw [hn] at hsm; omega)
  obtain ⟨s, hs2⟩ : ∃ s, s = q + m := ⟨_, rfl⟩
  have e4 : ¬ (A ++ M ++ Z).length = q := by omega
  have e5 : q ≤ s := by omega
  have e6 : s ≤ (A ++ M ++ Z).length := by omega
  have e7 : s - q = m := by omega
  have i1 : (t : Int) * (C : Int) = (q : Int) := by rw [hq]; exact (Int.natCast_mul t C).symm
  have i3 : ((u : Int) + 1) * (C : Int) = (s : Int) := by rw [hs2, ← hs]; exact (Int.natCast_mul _ _).symm
  have E1 := Lib.hid (wr_of (x := (t : Int) * (C : Int)) (by rw [i1]; exact Int.natCast_nonneg _) (by rw [i1]; omega) i1)
  have E2 := Lib.hid (wr_of (x := (u : Int) + 1) (by omega) (by omega) rfl)
  have E3 := Lib.hid (wr_of (x := ((u : Int) + 1) * (C : Int)) (by rw [i3]; exact Int.natCast_nonneg _) (by rw [i3]; omega) i3)
  have E4 := Lib.hid (wr_any (x := z) (by omega) (by omega))
  have E5 := Lib.hid (show IntKind.i64.wrap ((u : Int) - (t : Int)) = (u : Int) - (t : Int) from (wr_any (by omega) (by omega)).1)
  have E6 := Lib.hid (show (u : Int) - (t : Int) + 1 = (k : Int) from hku)
  have x1 : (t : Int) ≤ (u : Int) := by omega
  have x2 : (u : Int) < (R : Int) := by omega
  have x3 : (0 : Int) ≤ (t : Int) := by omega
  generalize (A ++ M ++ Z).length = n0 at *
  clear h hy hA hM hn hb1 hH hm hq hk hs hs2 i1 i3 hsm hz1 hm0 hAq hMm hku hz
  have x4 := E6.out
  go_enter Try.func24, Try.ntmps24
  go_wp2_with (first
    | (go_at_call 30; (with_reducible refine (attrB_ af ag ab true HY.out _).mono ?_); rintro e w1 ⟨rfl, hb1⟩; have HB1 := Lib.hid (below_then HB.out hb1 HB.out.size); have HG1 := Lib.hid (HG.out.then_ hb1 (Nat.le_refl _)); replace b0 := Gg.cell_then hb1 (Nat.le_refl _) b0; replace b1 := Gg.cell_then hb1 (Nat.le_refl _) b1; replace b2 := Gg.cell_then hb1 (Nat.le_refl _) b2; replace p1 := Gg.cell_then hb1 (Nat.le_refl _) p1; replace p2 := Gg.cell_then hb1 (Nat.le_refl _) p2; clear hb1 HG HB))
  clear x4
  have e1 := E1.out.1
  have e2 := E2.out.1
  have e3 := E3.out.1
  have f3 := E3.out.2
  have f1 := E1.out.2
  have eh : H * (C : Int) = z := HZz.out
  have eh2 := E4.out.1
  have HRB := Lib.hid (show RB w1.drew b (A ++ M ++ Z) from HG1.out.row)
  go_region_held3 (fun wk => wk.cell? ⟨w.heap.size, 0, none⟩ = some (.int .i64 af) ∧ wk.cell? ⟨w.heap.size, 1, none⟩ = some (.int .i64 ag) ∧ wk.cell? ⟨w.heap.size, 2, none⟩ = some (.int .i64 ab) ∧ wk.cell? ⟨p, 1, none⟩ = some (.int .i64 (C : Int)) ∧ wk.cell? ⟨p, 2, none⟩ = some (.slice (some ⟨b, 0, none⟩) n0 n0)) (first | exact ⟨b0, b1, b2, p1, p2⟩ | exact HX4.out | exact HX3.out) (first
    | (go_at_call 49; (with_reducible refine (H49.out _).mono ?_); rintro e w' ⟨rfl, rfl⟩)
    | (go_at_call 28; (with_reducible refine (cBlankB af ag ab _).mono ?_); rintro e w3 ⟨rfl, hb3⟩; have HX3 := Lib.hid (And.intro (Gg.cell_then hb3 (Nat.le_refl _) b0) (And.intro (Gg.cell_then hb3 (Nat.le_refl _) b1) (And.intro (Gg.cell_then hb3 (Nat.le_refl _) b2) (And.intro (Gg.cell_then hb3 (Nat.le_refl _) p1) (Gg.cell_then hb3 (Nat.le_refl _) p2))))); have HRB3 := Lib.hid (HRB.out.then_ hb3 (Nat.le_refl _)); have HB3 := Lib.hid (below_then (below_drew HB1.out) hb3 (below_drew HB1.out).size); clear hb3)
    | (go_at_call 48; rw [HQ.out]; (with_reducible refine (HSl.out _ _ HRB3.out HCap.out).mono ?_); rintro e w4 ⟨rfl, hr4, hk4⟩; have HX4 := Lib.hid (And.intro (cell_kept hk4 HX3.out.1 HNE.out HNE.out) (And.intro (cell_kept hk4 HX3.out.2.1 HNE.out HNE.out) (And.intro (cell_kept hk4 HX3.out.2.2.1 HNE.out HNE.out) (And.intro (cell_kept hk4 HX3.out.2.2.2.1 HNP.out HNP.out) (cell_kept hk4 HX3.out.2.2.2.2 HNP.out HNP.out))))); have HR4 := Lib.hid hr4; have HK4 := Lib.hid hk4; clear hr4 hk4))
  go_wp2
  go_end0
  obtain ⟨g1, g2⟩ := G.put HH.out HB3.out HR4.out HK4.out (by rw [List.length_append, List.length_append, List.length_append, List.length_append]; have := HEL.out; exact congrArg (fun x => A.length + x + Z.length) this)
  exact ⟨rfl, g1, g2⟩
/-- Scroll, of anything. -/
theorem scrollG (p b R C : Nat) (top bottom n af ag ab : Int) (L : List Ce) (w : World) (h : G w p b R C L) :
    Calls Try.prog 24 #[.pointer (some ⟨p, 0, none⟩), .int .i64 top, .int .i64 bottom, .int .i64 n, .agg #[.int .i64 af, .int .i64 ag, .int .i64 ab]] w (GQ unit w p b R C (scrollL R C L top bottom n af ag ab)) := by
  cases hz : (scrollOk R top bottom && Cell.attrB af ag ab) with
  | false =>
    have e : scrollL R C L top bottom n af ag ab = L := by unfold scrollL; rw [hz]; rfl
    rw [e]
    exact (scrollNo p b R C top bottom n af ag ab L w h hz).mono fun e w' ⟨h1, h2⟩ => ⟨h1, kp_below h h2⟩
  | true =>
    have e : scrollL R C L top bottom n af ag ab = L.take (top.toNat * C) ++ slideL ((L.drop (top.toNat * C)).take ((bottom.toNat + 1 - top.toNat) * C)) (heldZ n (bottom - top + 1) * C) (Gm.blankC ab) ++ L.drop ((bottom.toNat + 1) * C) := by unfold scrollL; rw [hz]; rfl
    rw [e]
    simp only [Bool.and_eq_true, scrollOk, decide_eq_true_eq] at hz
    obtain ⟨⟨a1, a2, a3⟩, h3⟩ := hz
    obtain ⟨t, rfl⟩ := Int.eq_ofNat_of_zero_le a1
    obtain ⟨u, rfl⟩ := Int.eq_ofNat_of_zero_le (show 0 ≤ bottom by omega)
    rw [Int.toNat_natCast, Int.toNat_natCast]
    have htu : t ≤ u := by omega
    have hu : u < R := by omega
    have hq := row_nums h.len hu
    have hs : (u + 1) * C = t * C + (u + 1 - t) * C := by rw [← Nat.add_mul]; congr 1; omega
    have hs2 : (u + 1) * C ≤ L.length := by rw [Nat.add_mul]; omega
    have hA : (L.take (t * C)).length = t * C := by rw [List.length_take]; exact Nat.min_eq_left (by omega)
    have hM : ((L.drop (t * C)).take ((u + 1 - t) * C)).length = (u + 1 - t) * C := by rw [List.length_take, List.length_drop]; exact Nat.min_eq_left (by omega)
    have hsp : L = L.take (t * C) ++ (L.drop (t * C)).take ((u + 1 - t) * C) ++ L.drop ((u + 1) * C) := by rw [hs]; exact row_split (by omega)
    generalize L.take (t * C) = A at *
    generalize L.drop ((u + 1) * C) = Z at *
    generalize (L.drop (t * C)).take ((u + 1 - t) * C) = M at *
    rw [hsp] at h
    exact scrollYes p b R C t u n af ag ab A M Z w h htu hu hA hM h3
end Go.Proofs.Ytfdjmlncdbpkgaa.Gt
