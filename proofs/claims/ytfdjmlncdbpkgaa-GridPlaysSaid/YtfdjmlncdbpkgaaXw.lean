/- The document's Scroll. -/
import Derived.Test.YtfdjmlncdbpkgaaXv
set_option linter.unusedVariables false
namespace Go.Proofs.Ytfdjmlncdbpkgaa.Xw
open Go Go.RowKit Kit Gm Gv Fl Me Cp Sl Gg Gh Gp Gq Gk Xa Xb Xm Xn Xf Xe Xg Xu Xv
open Ge (unit)
open Gs (heldZ)
open Gt (scrollL scrollOk wr_any)
open Pr (Iv)

/-- a list in which all ahead of place k is new. -/
def mix (T L : List Ce) (k : Nat) : List Ce := T.take k ++ L.drop k
theorem mix_len {T L : List Ce} (k : Nat) (h : T.length = L.length) : (mix T L k).length = L.length := by
  unfold mix; rw [List.length_append, List.length_take, List.length_drop]; omega
theorem mix_split {T L : List Ce} {k : Nat} (hk : k < L.length) : mix T L k = T.take k ++ L[k] :: L.drop (k + 1) := by
  unfold mix; rw [List.drop_eq_getElem_cons hk]
theorem mix_put {T L : List Ce} {k : Nat} {c : Ce} (h : T[k]? = some c) : T.take k ++ c :: L.drop (k + 1) = mix T L (k + 1) := by
  unfold mix; rw [take_next h]; simp
theorem mix_get {T L : List Ce} (h : T.length = L.length) (k i : Nat) : (mix T L k)[i]? = if i < k then T[i]? else L[i]? := by
  unfold mix
  rw [List.getElem?_append, List.length_take, List.getElem?_take, List.getElem?_drop]
  by_cases h1 : i < T.length
  · by_cases h2 : i < k
    · rw [if_pos (by omega), if_pos h2, if_pos h2]
    · rw [if_neg (by omega), if_neg h2]; congr 1; omega
  · by_cases h2 : i < k
    · rw [if_neg (by omega), if_pos h2, List.getElem?_eq_none (by omega), List.getElem?_eq_none (by omega)]
    · rw [if_neg (by omega), if_neg h2]
      rw [List.getElem?_eq_none (by omega), List.getElem?_eq_none (by omega)]
theorem mix_jump {T L : List Ce} {k j : Nat} (hl : T.length = L.length) (hkj : k ≤ j) (h : ∀ i, k ≤ i → i < j → T[i]? = L[i]?) : mix T L k = mix T L j := by
  apply List.ext_getElem?
  intro i
  rw [mix_get hl, mix_get hl]
  by_cases h1 : i < k
  · rw [if_pos h1, if_pos (by omega)]
  · by_cases h2 : i < j
    · rw [if_neg h1, if_pos h2]; exact (h i (by omega) h2).symm
    · rw [if_neg h1, if_neg h2]
theorem mix_zero (T L : List Ce) : mix T L 0 = L := by simp [mix]
theorem mix_all {T L : List Ce} (h : T.length = L.length) : mix T L L.length = T := by
  unfold mix; rw [List.drop_length, List.append_nil, ← h, List.take_length]
theorem mid_front {A S M Z : List Ce} {i : Nat} (h : i < A.length) : (A ++ S ++ Z)[i]? = (A ++ M ++ Z)[i]? := by
  rw [List.append_assoc, List.append_assoc, List.getElem?_append_left h, List.getElem?_append_left h]
theorem mid_back {A S M Z : List Ce} {i : Nat} (hl : S.length = M.length) (h : A.length + M.length ≤ i) : (A ++ S ++ Z)[i]? = (A ++ M ++ Z)[i]? := by
  rw [List.getElem?_append_right (by rw [List.length_append]; omega), List.getElem?_append_right (by rw [List.length_append]; omega), List.length_append, List.length_append, hl]
/-- what a Scroll leaves, cell by cell. -/
theorem scroll_pure {R C t u k : Nat} {L T : List Ce} {n : Int} {x0 : Ce} (hl : L.length = R * C) (htu : t ≤ u) (hu : u < R) (hk : k = u + 1 - t) {H : Int} (hH : heldZ n (k : Int) = H) (hb : -(k : Int) ≤ H ∧ H ≤ (k : Int))
    (hT : T = L.take (t * C) ++ slideL ((L.drop (t * C)).take ((u + 1 - t) * C)) (H * C) x0 ++ L.drop ((u + 1) * C)) :
    T.length = L.length ∧ mix T L (t * C) = L ∧ mix T L ((t + k) * C) = T ∧ ∀ i c, i < k → c < C → T[(t + i) * C + c]? = if 0 ≤ (i : Int) + H ∧ (i : Int) + H < (k : Int) then L[(t + ((i : Int) + H).toNat) * C + c]? else some x0 := by
  subst hk
  have hat := fun r x hr hx => Pr.scroll_at (x0 := x0) (Z := L.drop ((u + 1) * C)) hl htu hu rfl rfl rfl H hb.1 hb.2 r x hr hx
  rw [← hT] at hat
  have hq := row_nums hl hu
  have hs : (u + 1) * C = t * C + (u + 1 - t) * C := by rw [← Nat.add_mul]; congr 1; omega
  have hs2 : (u + 1) * C ≤ L.length := by rw [Nat.add_mul]; omega
  have hA : (L.take (t * C)).length = t * C := by rw [List.length_take]; exact Nat.min_eq_left (by omega)
  have hM : ((L.drop (t * C)).take ((u + 1 - t) * C)).length = (u + 1 - t) * C := by rw [List.length_take, List.length_drop]; exact Nat.min_eq_left (by omega)
  have hz1 : -(((u + 1 - t) * C : Nat) : Int) ≤ H * C ∧ H * C ≤ (((u + 1 - t) * C : Nat) : Int) := by
    rw [Int.natCast_mul]
    constructor
    · rw [← Int.neg_mul]; exact Int.mul_le_mul_of_nonneg_right hb.1 (by omega)
    · exact Int.mul_le_mul_of_nonneg_right hb.2 (by omega)
  have hS : (slideL ((L.drop (t * C)).take ((u + 1 - t) * C)) (H * C) x0).length = ((L.drop (t * C)).take ((u + 1 - t) * C)).length := slideL_len _ _ _ (by rw [hM]; exact hz1.1) (by rw [hM]; exact hz1.2)
  have hsp : L = L.take (t * C) ++ (L.drop (t * C)).take ((u + 1 - t) * C) ++ L.drop ((u + 1) * C) := by rw [hs]; exact row_split (by omega)
  have hTl : T.length = L.length := by
    rw [hT, List.length_append, List.length_append, hS, ← List.length_append, ← List.length_append, ← hsp]
  have hf : ∀ i, i < t * C → T[i]? = L[i]? := fun i hi => by
    rw [hT]
    exact (mid_front (M := (L.drop (t * C)).take ((u + 1 - t) * C)) (by rw [hA]; exact hi)).trans (congrArg (fun x => x[i]?) hsp.symm)
  have hbk : ∀ i, (u + 1) * C ≤ i → T[i]? = L[i]? := fun i hi => by
    rw [hT]
    exact (mid_back hS (by rw [hA, hM, ← hs]; exact hi)).trans (congrArg (fun x => x[i]?) hsp.symm)
  refine ⟨hTl, ?_, ?_, fun i c hi hc => ?_⟩
  · rw [← mix_jump hTl (Nat.zero_le _) (fun i _ h => hf i h), mix_zero]
  · rw [show (t + (u + 1 - t)) = u + 1 by omega, mix_jump hTl hs2 (fun i h _ => hbk i h), mix_all hTl]
  · rw [hat (t + i) c (by omega) hc, if_neg (by omega), show t + i - t = i by omega]
theorem below_more {w0 w w1 : World} {b : Nat} (h : Kp b b w0 w) (hb : Below w.heap.size w w1) : Kp b b w0 w1 := h.trans (Kp.of hb) (.inl rfl)
set_option maxRecDepth 100000 in
set_option maxHeartbeats 2000000 in
/-- Scroll, of nothing. -/
theorem scrollNoX (p b R C : Nat) (top bottom n af ag ab : Int) (L : List Ce) (w : World) (h : X w p b R C L) (hz : (scrollOk R top bottom && Cell.attrB af ag ab) = false) :
    Calls Try.prog 40 #[.pointer (some ⟨p, 0, none⟩), .int .i64 top, .int .i64 bottom, .int .i64 n, .agg #[.int .i64 af, .int .i64 ag, .int .i64 ab]] w fun e w' => e = .returned unit ∧ Below w.heap.size w w' := by
  have HB := Lib.hid (below_one w (.cells #[.int .i64 af, .int .i64 ag, .int .i64 ab] 35))
  have HG := Lib.hid (h.then_ HB.out (Nat.le_refl _))
  have HF := Lib.hid (heap_last w #[.int .i64 af, .int .i64 ag, .int .i64 ab] 35)
  generalize hw0 : w.alloc (.cells #[.int .i64 af, .int .i64 ag, .int .i64 ab] 35) = w0 at *
  obtain ⟨a0, a1, a2⟩ := three HF.out
  obtain ⟨p0, p1, p2⟩ := three HG.out.obj
  have hc : top < 0 ∨ (0 ≤ top ∧ bottom < top) ∨ (0 ≤ top ∧ top ≤ bottom ∧ (R : Int) ≤ bottom) ∨ (0 ≤ top ∧ top ≤ bottom ∧ bottom < R ∧ Cell.attrB af ag ab = false) := by
    simp only [scrollOk, Bool.and_eq_false_iff, decide_eq_false_iff_not] at hz
    rcases hz with hz | hz
    · omega
    · by_cases q : 0 ≤ top ∧ bottom < R ∧ top ≤ bottom
      · exact .inr (.inr (.inr ⟨q.1, q.2.2, q.2.1, hz⟩))
      · omega
  clear h hz
  rcases hc with h1 | ⟨h1, h2⟩ | ⟨h1, h2, h3⟩ | ⟨h1, h2, h3, hy⟩
  · go_enter Try.func40, Try.ntmps40
    go_wp2
    exact bodyPost_ret (v := .tuple #[]) (by simp [results, Try.results40, go_sem]) rfl ⟨rfl, HB.out⟩
  · go_enter Try.func40, Try.ntmps40
    go_wp2
    exact bodyPost_ret (v := .tuple #[]) (by simp [results, Try.results40, go_sem]) rfl ⟨rfl, HB.out⟩
  · go_enter Try.func40, Try.ntmps40
    go_wp2
    exact bodyPost_ret (v := .tuple #[]) (by simp [results, Try.results40, go_sem]) rfl ⟨rfl, HB.out⟩
  · have HY := Lib.hid hy
    clear hy
    go_enter Try.func40, Try.ntmps40
    go_wp2_with (go_at_call 56; (with_reducible refine (rAttrB af ag ab false HY.out _).mono ?_); rintro e w1 ⟨rfl, hb1⟩; have HB1 := Lib.hid (below_then HB.out hb1 HB.out.size); clear hb1)
    exact bodyPost_ret (v := .tuple #[]) (by simp [results, Try.results40, go_sem]) rfl ⟨rfl, HB1.out⟩
theorem held_b2 {n H : Int} {k : Nat} (h : heldZ n (k : Int) = H) : -(k : Int) ≤ H ∧ H ≤ (k : Int) := h ▸ held_b n k
/-- the numbers of a cell that comes from another row. -/
theorem from_nums {t i k C R c n : Nat} {H : Int} (h0 : 0 ≤ (i : Int) + H) (h1 : (i : Int) + H < (k : Int)) (htk : t + k ≤ R) (hc : c < C) (hn : n = R * C) (hs : n ≤ 12000) (hR : R ≤ 60) :
    ∃ v q s : Nat, v = t + ((i : Int) + H).toNat ∧ IntKind.i64.wrap (((t + i : Nat) : Int) + H) = (v : Int) ∧ wrap64 (((t + i : Nat) : Int) + H) = (v : Int) ∧ s = v * C + c ∧ s < n ∧ IntKind.i64.wrap ((v : Int) * (C : Int)) = (q : Int) ∧ wrap64 ((v : Int) * (C : Int)) = (q : Int) ∧ IntKind.i64.wrap ((q : Int) + (c : Int)) = (s : Int) ∧ wrap64 ((q : Int) + (c : Int)) = (s : Int) := by
  obtain ⟨z, hz⟩ : ∃ z, z = (i : Int) + H := ⟨_, rfl⟩
  have e : ((t + i : Nat) : Int) + H = (t : Int) + z := by omega
  rw [e, ← hz]
  rw [← hz] at h0 h1
  clear hz e
  obtain ⟨y, rfl⟩ := Int.eq_ofNat_of_zero_le h0
  rw [Int.toNat_natCast]
  have hv : t + y < R := by omega
  have ev := wr_of (x := (t : Int) + (y : Int)) (y := ((t + y : Nat) : Int)) (by omega) (by omega) (by omega)
  obtain ⟨q, s, hq, hs2, hsn, e1, e2, e3, e4⟩ := place_nums hn hv hc hs
  exact ⟨t + y, q, s, rfl, ev.1, ev.2, by rw [hs2, hq], hsn, e1, e2, e3, e4⟩
/-- where a cell comes from. -/
theorem sc_case {T L : List Ce} {R C t k i c s r n : Nat} {H : Int} {x0 : Ce} (hat : T[(t + i) * C + c]? = if 0 ≤ (i : Int) + H ∧ (i : Int) + H < (k : Int) then L[(t + ((i : Int) + H).toNat) * C + c]? else some x0) (hr : r = t + i) (hs : s = r * C + c) (hi : i < k) (hc : c < C) (htk : t + k ≤ R) (hR : R ≤ 60) (hl : L.length = n) (hn : n = R * C) (hsm : n ≤ 12000) (hH : -(k : Int) ≤ H ∧ H ≤ k) :
    ∃ z : Int, IntKind.i64.wrap ((i : Int) + H) = z ∧ wrap64 ((i : Int) + H) = z ∧ ((z < 0 ∧ T[s]? = some x0) ∨ (0 ≤ z ∧ (k : Int) ≤ z ∧ T[s]? = some x0) ∨ (0 ≤ z ∧ z < k ∧ ∃ (v q' s' : Nat) (d : Ce), IntKind.i64.wrap ((r : Int) + H) = (v : Int) ∧ wrap64 ((r : Int) + H) = (v : Int) ∧ s' < n ∧ IntKind.i64.wrap ((v : Int) * (C : Int)) = (q' : Int) ∧ wrap64 ((v : Int) * (C : Int)) = (q' : Int) ∧ IntKind.i64.wrap ((q' : Int) + (c : Int)) = (s' : Int) ∧ wrap64 ((q' : Int) + (c : Int)) = (s' : Int) ∧ L[s']? = some d ∧ T[s]? = some d)) := by
  rw [← hr, ← hs] at hat
  have e := wr_any (x := (i : Int) + H) (by omega) (by omega)
  refine ⟨(i : Int) + H, e.1, e.2, ?_⟩
  clear e
  by_cases c1 : (i : Int) + H < 0
  · exact .inl ⟨c1, by rw [hat, if_neg (by omega)]⟩
  · by_cases c2 : (k : Int) ≤ (i : Int) + H
    · exact .inr (.inl ⟨by omega, c2, by rw [hat, if_neg (by omega)]⟩)
    · obtain ⟨v, q', s', hv, e1, e2, hs', hsn, e3, e4, e5, e6⟩ := from_nums (t := t) (i := i) (k := k) (C := C) (c := c) (H := H) (by omega) (by omega) htk hc hn hsm hR
      rw [← hr] at e1 e2
      rw [if_pos ⟨by omega, by omega⟩, ← hv, ← hs', List.getElem?_eq_getElem (l := L) (i := s') (by rw [hl]; exact hsn)] at hat
      exact .inr (.inr ⟨by omega, by omega, v, q', s', L[s']'(by rw [hl]; exact hsn), e1, e2, hsn, e3, e4, e5, e6, List.getElem?_eq_getElem _, hat⟩)
theorem row_wrap {t i k R : Nat} (hi : i < k) (h : t + k ≤ R) (hR : R ≤ 60) : ∃ r : Nat, r = t + i ∧ r < R ∧ IntKind.i64.wrap ((t : Int) + (i : Int)) = (r : Int) ∧ wrap64 ((t : Int) + (i : Int)) = (r : Int) ∧ i + 1 ≤ k ∧ k - (i + 1) < k - i ∧ IntKind.i64.wrap ((i : Int) + 1) = (i : Int) + 1 ∧ wrap64 ((i : Int) + 1) = (i : Int) + 1 := by
  have e := wr_of (x := (t : Int) + (i : Int)) (y := ((t + i : Nat) : Int)) (by omega) (by omega) (by omega)
  have e2 := succ_wrap (k := i) (C := 60) (by omega) (by omega)
  exact ⟨t + i, rfl, by omega, e.1, e.2, by omega, by omega, e2.1, e2.2⟩
theorem below_row {B b : Nat} {w w1 w2 : World} {L : List Ce} (h : Below B w w1) (hb : B ≤ b) (e : putR w1 b L = w2) : Below B w w2 := by rw [← e]; exact below_setRow h hb _
set_option maxRecDepth 100000 in
set_option maxHeartbeats 4000000 in
/-- Scroll. -/
theorem scrollYesX (p b R C t u : Nat) (n af ag ab : Int) (L T : List Ce) (w : World) (h : X w p b R C L) (htu : t ≤ u) (hu : u < R) (hy : Cell.attrB af ag ab = true)
    (hT : T = L.take (t * C) ++ slideL ((L.drop (t * C)).take ((u + 1 - t) * C)) (heldZ n ((u : Int) - t + 1) * C) (Gm.blankC ab) ++ L.drop ((u + 1) * C)) :
    Calls Try.prog 40 #[.pointer (some ⟨p, 0, none⟩), .int .i64 (t : Int), .int .i64 (u : Int), .int .i64 n, .agg #[.int .i64 af, .int .i64 ag, .int .i64 ab]] w (RowP b T w) := by
  have HB := Lib.hid (below_one w (.cells #[.int .i64 af, .int .i64 ag, .int .i64 ab] 35))
  have HG := Lib.hid (h.then_ HB.out (Nat.le_refl _))
  have HFo := Lib.hid (heap_last w #[.int .i64 af, .int .i64 ag, .int .i64 ab] 35)
  generalize hw0 : w.alloc (.cells #[.int .i64 af, .int .i64 ag, .int .i64 ab] 35) = w0 at *
  obtain ⟨a0, a1, a2⟩ := three HFo.out
  obtain ⟨p0, p1, p2⟩ := three HG.out.obj
  have HM := Lib.hid (rAttrB af ag ab true hy w0)
  have HNE := Lib.hid h.ne
  have HNw := Lib.hid (show w.heap.size ≠ b from fun e => by have := h.b_lt; omega)
  obtain ⟨k, hk⟩ : ∃ k, k = u + 1 - t := ⟨_, rfl⟩
  have hku : (u : Int) - t + 1 = (k : Int) := by omega
  rw [hku] at hT
  obtain ⟨H, hH⟩ : ∃ H, heldZ n (k : Int) = H := ⟨_, rfl⟩
  have hb1 := held_b2 hH
  rw [hH] at hT
  obtain ⟨y, k1, k2⟩ := held_ite hH
  obtain ⟨hTl, hT0, hT1, hTat⟩ := scroll_pure h.len htu hu hk hH hb1 hT
  have HTL := Lib.hid hTl
  have HT0 := Lib.hid hT0
  have HT1 := Lib.hid hT1
  have HTat := Lib.hid hTat
  have HCP := Lib.hid (fun (w1 : World) (hb : Below w0.heap.size w0 w1) => copyX p b R C _ L w1 (HG.out.then_ hb (Nat.le_refl _)).view)
  have hsm := h.small
  have hr2 := h.r2
  have hc2 := h.c2
  have HLen := Lib.hid h.len
  have HSm := Lib.hid hsm
  have HR2 := Lib.hid hr2
  have HC2 := Lib.hid hc2
  have htk : t + k ≤ R := by omega
  have HTK := Lib.hid htk
  have HHb := Lib.hid hb1
  have E5 := Lib.hid (show IntKind.i64.wrap ((u : Int) - (t : Int)) = (u : Int) - (t : Int) from (wr_any (by omega) (by omega)).1)
  have z0 : decide ((t : Int) < 0) = false := decide_eq_false (Int.not_lt.2 (Int.natCast_nonneg t))
  have x1 : (t : Int) ≤ (u : Int) := by omega
  have x2 : (u : Int) < (R : Int) := by omega
  have x3 : (0 : Int) ≤ (t : Int) := by omega
  have x4 := hku
  have x5 : IntKind.i64.wrap (-(k : Int)) = -(k : Int) := (wr_any (by omega) (by omega)).1
  have x6 : k ≤ 60 := by omega
  have x7 := E5.out
  have HRB0 := Lib.hid HG.out.row
  generalize hnl : L.length = nl at *
  have HNL := Lib.hid hnl
  clear h hu htu hy hT hk hku hH hb1 hTl hT0 hT1 hTat hsm htk hnl
  go_enter Try.func40, Try.ntmps40
  go_wp2_with (first
    | (go_at_call 56; (with_reducible refine HM.out.mono ?_); rintro e w1 ⟨rfl, hb1⟩; have HB1 := Lib.hid hb1; replace a0 := Gg.cell_then hb1 (Nat.le_refl _) a0; replace a1 := Gg.cell_then hb1 (Nat.le_refl _) a1; replace a2 := Gg.cell_then hb1 (Nat.le_refl _) a2; replace p1 := Gg.cell_then hb1 (Nat.le_refl _) p1; replace p2 := Gg.cell_then hb1 (Nat.le_refl _) p2; have HR1 := Lib.hid (HRB0.out.then_ hb1 (Nat.le_refl _)); clear hb1)
    | (go_at_call 13; (with_reducible refine (HCP.out _ HB1.out).mono ?_); rintro e w2 ⟨P2, b2, cap2, rfl, hv2, hb2, hp2n, hb2n⟩; have HV2 := Lib.hid hv2; have HB2 := Lib.hid hb2; have HA0 := Lib.hid (Gg.cell_then hb2 (Nat.le_refl _) a0); have HA1 := Lib.hid (Gg.cell_then hb2 (Nat.le_refl _) a1); have HA2 := Lib.hid (Gg.cell_then hb2 (Nat.le_refl _) a2); have HP1 := Lib.hid (Gg.cell_then hb2 (Nat.le_refl _) p1); have HP2 := Lib.hid (Gg.cell_then hb2 (Nat.le_refl _) p2); have HR2' := Lib.hid (HR1.out.then_ hb2 (Nat.le_refl _)); clear hb2 hv2))
  clear a0 a1 a2 p0 p1 p2 k1 k2 x4 x5 x7
  have HNb2 := Lib.hid (show b2 ≠ b from fun e => by have := HR1.out.lt; omega)
  have HNp2 := Lib.hid (show P2 ≠ b from fun e => by have := HR1.out.lt; omega)
  have HQ2 := Lib.hid (show w2.cell? ⟨P2, 2, none⟩ = some (.slice (some ⟨b2, 0, none⟩) nl cap2) from by have := (three HV2.out.obj).2.2; rwa [HNL.out] at this)
  have HCS2 := Lib.hid HV2.out.cell
  have HCL2 := Lib.hid HV2.out.b_lt
  have HKW := Lib.hid (below_then (below_then HB.out HB1.out HB.out.size) HB2.out (Nat.le_trans HB.out.size HB1.out.size))
  clear hr2 hc2 x1 x2 x3 x6 z0 hp2n hb2n hw0
  go_loopw [12] (fun s12 wr => ∃ i : Nat, i ≤ k ∧ s12 = .int .i64 i ∧ Hid (RB wr b (mix T L ((t + i) * C))) ∧ Hid (Kp b b w2 wr)) (fun s12 _ => k - (intOf s12).toNat)
  case atStart => exact ⟨0, Nat.zero_le _, rfl, Lib.hid (by rw [Nat.add_zero, HT0.out]; exact HR2'.out), Lib.hid (Kp.refl _ _ _)⟩
  case round =>
    obtain ⟨i, hi, rfl, HR, HK⟩ := hrel
    obtain ⟨wo, rfl⟩ : ∃ wo : World, wo = wr := ⟨_, rfl⟩
    by_cases hlt : i < k
    · obtain ⟨r, hr, hrR, t1, t2, hi1, hi2, t3, t4⟩ := row_wrap hlt HTK.out HR2.out
      have HKi := Lib.hid (And.intro hi1 hi2)
      have HRr := Lib.hid hr
      have HrR := Lib.hid hrR
      have Hlt := Lib.hid hlt
      have HRn := Lib.hid (show (t + (i + 1)) * C = r * C + C by rw [hr, ← Nat.succ_mul]; rfl)
      have hltI : (i : Int) < (k : Int) := Int.ofNat_lt.2 hlt
      clear hi1 hi2 hr hrR hi
      have p1 := cell_kept HK.out HP1.out HNE.out HNE.out
      go_wp2
      clear p1
      go_loopw [13] (fun s13 wr => ∃ c : Nat, c ≤ C ∧ s13 = .int .i64 c ∧ Hid (RB wr b (mix T L (r * C + c))) ∧ Hid (Kp b b w2 wr)) (fun s13 _ => C - (intOf s13).toNat)
      case atStart => exact ⟨0, Nat.zero_le _, rfl, Lib.hid (by rw [HRr.out, Nat.add_zero]; exact HR.out), HK⟩
      case round =>
        obtain ⟨c, hc, rfl, HRc, HKc⟩ := hrel
        have p1 := cell_kept HKc.out HP1.out HNE.out HNE.out
        by_cases hltc : c < C
        · have HPc1 := Lib.hid p1
          have HPc2 := Lib.hid (cell_kept HKc.out HP2.out HNE.out HNE.out)
          have HKc1 := Lib.hid (show c + 1 ≤ C ∧ C - (c + 1) < C - c by omega)
          obtain ⟨v1, v2⟩ := succ_wrap hltc HC2.out
          have a0 := cell_kept HKc.out HA0.out HNw.out HNw.out
          have a1 := cell_kept HKc.out HA1.out HNw.out HNw.out
          have a2 := cell_kept HKc.out HA2.out HNw.out HNw.out
          obtain ⟨q, s, hq, hs, hsn, e1, e2, e3, e4⟩ := place_nums HLen.out HrR.out hltc HSm.out
          have hs2 : s = r * C + c := by rw [hs, hq]
          obtain ⟨z, g1, g2, hz⟩ := sc_case (HTat.out i c Hlt.out hltc) HRr.out hs2 Hlt.out hltc HTK.out HR2.out HNL.out HLen.out HSm.out HHb.out
          have HSs := Lib.hid (show s + 1 = r * C + (c + 1) by rw [hs2, Nat.add_assoc])
          have hsL : s < L.length := by rw [HNL.out]; exact hsn
          have hms := mix_split (T := T) hsL
          generalize L[s] = x0 at hms
          have HRs := Lib.hid (show RB wr b (T.take s ++ x0 :: L.drop (s + 1)) by rw [← hms, hs2]; exact HRc.out)
          have HQs := Lib.hid (show s * 5 = (T.take s).length * 5 by rw [List.length_take, HTL.out, Nat.min_eq_left (Nat.le_of_lt hsn)])
          clear hms hq hs hs2 hc hsL
          rcases hz with ⟨z1, ho⟩ | ⟨z0, z1, ho⟩ | ⟨z0, z1, v, q', s', d, m1, m2, hs'n, m3, m4, m5, m6, hd, ho⟩
          · have HTs := Lib.hid ho
            clear ho
            go_wp2_with (first
            | (go_at_call 35; (with_reducible refine (rBlankB af ag ab _).mono ?_); rintro e w4 ⟨rfl, hb4⟩; have HB4 := Lib.hid hb4; have HXB := Lib.hid (show RB (w4.alloc (.cells #[.int .i32 0, .int .i64 0, .int .i64 0, .int .i64 0, .int .i64 0] 37)) w4.heap.size ([] ++ zeroC :: []) from heap_last _ _ _); clear hb4)
            | ((with_reducible refine wpList_store_cell rfl _ _ rfl w4.heap.size 0 ⟨32, 0, 0, ab, 0⟩ rfl rfl HXB.out q0 ?_); intro w5 hw5; have HX5 := Lib.hid (show RB w5 w4.heap.size ([] ++ ⟨32, 0, 0, ab, 0⟩ :: []) by rw [← hw5]; exact HXB.out.put _); have HB5 := Lib.hid (below_row (below_then HB4.out (below_one w4 _) HB4.out.size) HB4.out.size hw5); clear hw5))
            have p1' := cell_then HB5.out (Nat.le_refl _) HPc1.out
            have p2' := cell_then HB5.out (Nat.le_refl _) HPc2.out
            obtain ⟨f0, f1, f2, f3, f4⟩ := five (show w5.heap[w4.heap.size]? = some (.cells #[.int .i32 32, .int .i64 0, .int .i64 0, .int .i64 ab, .int .i64 0] 37 (0, 0)) from HX5.out)
            have HRd := Lib.hid (RB.drew (HRs.out.then_ HB5.out (Nat.le_refl _)))
            have HKx := Lib.hid (Kp.drew (below_more HKc.out HB5.out))
            go_still_tail 16, (by kernel_rfl)
            change wpList _ _ _ _ _ w5.drew
            go_wp2_with ((with_reducible refine wpList_store_cell rfl _ _ rfl b (s * 5) ⟨32, 0, 0, ab, 0⟩ rfl rfl HRd.out HQs.out ?_); intro w7 hw7; have HR7 : Hid (RB w7 b (mix T L (r * C + (c + 1)))) := Lib.hid (by rw [← HSs.out, ← mix_put HTs.out, ← hw7]; exact HRd.out.put _); have HK7 := Lib.hid (show Kp b b w2 w7 by rw [← hw7]; exact HKx.out.put _); clear hw7)
            first
              | exact ⟨⟨c + 1, HKc1.out.1, by go_num, HR7, HK7⟩, by simp only [intOf]; exact HKc1.out.2⟩
              | (go_roundw
                 · exact ⟨c + 1, HKc1.out.1, by go_num, HR7, HK7⟩
                 · simp only [intOf]; exact HKc1.out.2)
          · have HTs := Lib.hid ho
            clear ho
            go_wp2_with (first
            | (go_at_call 35; (with_reducible refine (rBlankB af ag ab _).mono ?_); rintro e w4 ⟨rfl, hb4⟩; have HB4 := Lib.hid hb4; have HXB := Lib.hid (show RB (w4.alloc (.cells #[.int .i32 0, .int .i64 0, .int .i64 0, .int .i64 0, .int .i64 0] 37)) w4.heap.size ([] ++ zeroC :: []) from heap_last _ _ _); clear hb4)
            | ((with_reducible refine wpList_store_cell rfl _ _ rfl w4.heap.size 0 ⟨32, 0, 0, ab, 0⟩ rfl rfl HXB.out q0 ?_); intro w5 hw5; have HX5 := Lib.hid (show RB w5 w4.heap.size ([] ++ ⟨32, 0, 0, ab, 0⟩ :: []) by rw [← hw5]; exact HXB.out.put _); have HB5 := Lib.hid (below_row (below_then HB4.out (below_one w4 _) HB4.out.size) HB4.out.size hw5); clear hw5))
            have p1' := cell_then HB5.out (Nat.le_refl _) HPc1.out
            have p2' := cell_then HB5.out (Nat.le_refl _) HPc2.out
            obtain ⟨f0, f1, f2, f3, f4⟩ := five (show w5.heap[w4.heap.size]? = some (.cells #[.int .i32 32, .int .i64 0, .int .i64 0, .int .i64 ab, .int .i64 0] 37 (0, 0)) from HX5.out)
            have HRd := Lib.hid (RB.drew (HRs.out.then_ HB5.out (Nat.le_refl _)))
            have HKx := Lib.hid (Kp.drew (below_more HKc.out HB5.out))
            go_still_tail 16, (by kernel_rfl)
            change wpList _ _ _ _ _ w5.drew
            go_wp2_with ((with_reducible refine wpList_store_cell rfl _ _ rfl b (s * 5) ⟨32, 0, 0, ab, 0⟩ rfl rfl HRd.out HQs.out ?_); intro w7 hw7; have HR7 : Hid (RB w7 b (mix T L (r * C + (c + 1)))) := Lib.hid (by rw [← HSs.out, ← mix_put HTs.out, ← hw7]; exact HRd.out.put _); have HK7 := Lib.hid (show Kp b b w2 w7 by rw [← hw7]; exact HKx.out.put _); clear hw7)
            first
              | exact ⟨⟨c + 1, HKc1.out.1, by go_num, HR7, HK7⟩, by simp only [intOf]; exact HKc1.out.2⟩
              | (go_roundw
                 · exact ⟨c + 1, HKc1.out.1, by go_num, HR7, HK7⟩
                 · simp only [intOf]; exact HKc1.out.2)
          · have HTs := Lib.hid ho
            obtain ⟨y0, y1, y2, y3, y4⟩ := cs_fives (cs_kept HCS2.out HKc.out HNb2.out HCL2.out) s' d hd
            have HY0 := Lib.hid y0
            have HY1 := Lib.hid y1
            have HY2 := Lib.hid y2
            have HY3 := Lib.hid y3
            have HY4 := Lib.hid y4
            have HPq := Lib.hid (cell_kept HKc.out HQ2.out HNp2.out HNp2.out)
            clear ho hd y0 y1 y2 y3 y4
            go_wp2_with (first
            | (go_at_call 35; (with_reducible refine (rBlankB af ag ab _).mono ?_); rintro e w4 ⟨rfl, hb4⟩; have HB4 := Lib.hid hb4; have HXB := Lib.hid (show RB (w4.alloc (.cells #[.int .i32 0, .int .i64 0, .int .i64 0, .int .i64 0, .int .i64 0] 37)) w4.heap.size ([] ++ zeroC :: []) from heap_last _ _ _); clear hb4)
            | ((with_reducible refine wpList_store_cell rfl _ _ rfl w4.heap.size 0 ⟨32, 0, 0, ab, 0⟩ rfl rfl HXB.out q0 ?_); intro w5 hw5; have HX5 := Lib.hid (show RB w5 w4.heap.size ([] ++ ⟨32, 0, 0, ab, 0⟩ :: []) by rw [← hw5]; exact HXB.out.put _); have HB5 := Lib.hid (below_row (below_then HB4.out (below_one w4 _) HB4.out.size) HB4.out.size hw5); clear hw5))
            have y0 := cell_then HB5.out (Nat.le_refl _) HY0.out
            have y1 := cell_then HB5.out (Nat.le_refl _) HY1.out
            have y2 := cell_then HB5.out (Nat.le_refl _) HY2.out
            have y3 := cell_then HB5.out (Nat.le_refl _) HY3.out
            have y4 := cell_then HB5.out (Nat.le_refl _) HY4.out
            have pq := cell_then HB5.out (Nat.le_refl _) HPq.out
            have pc := cell_then HB5.out (Nat.le_refl _) HPc1.out
            obtain ⟨dr, df, dg, db, dw⟩ := d
            dsimp only at y0 y1 y2 y3 y4
            have HXd := Lib.hid (RB.drew HX5.out)
            go_still_tail 18, (by kernel_rfl)
            change wpList _ _ _ _ _ w5.drew
            go_wp2_with ((with_reducible refine wpList_store_cell rfl _ _ rfl w4.heap.size 0 ⟨dr, df, dg, db, dw⟩ rfl rfl HXd.out q0 ?_); intro w6 hw6; have HX6 := Lib.hid (show RB w6 w4.heap.size ([] ++ ⟨dr, df, dg, db, dw⟩ :: []) by rw [← hw6]; exact HXd.out.put _); have HB6 := Lib.hid (below_row (below_drew HB5.out) HB4.out.size hw6); clear hw6)
            clear y0 y1 y2 y3 y4 pq pc
            have p1' := cell_then HB6.out (Nat.le_refl _) HPc1.out
            have p2' := cell_then HB6.out (Nat.le_refl _) HPc2.out
            obtain ⟨f0, f1, f2, f3, f4⟩ := five (show w6.heap[w4.heap.size]? = some (.cells #[.int .i32 dr, .int .i64 df, .int .i64 dg, .int .i64 db, .int .i64 dw] 37 (0, 0)) from HX6.out)
            have HRd := Lib.hid (RB.drew (HRs.out.then_ HB6.out (Nat.le_refl _)))
            have HKx := Lib.hid (Kp.drew (below_more HKc.out HB6.out))
            go_still_tail 16, (by kernel_rfl)
            change wpList _ _ _ _ _ w6.drew
            go_wp2_with ((with_reducible refine wpList_store_cell rfl _ _ rfl b (s * 5) ⟨dr, df, dg, db, dw⟩ rfl rfl HRd.out HQs.out ?_); intro w7 hw7; have HR7 : Hid (RB w7 b (mix T L (r * C + (c + 1)))) := Lib.hid (by rw [← HSs.out, ← mix_put HTs.out, ← hw7]; exact HRd.out.put _); have HK7 := Lib.hid (show Kp b b w2 w7 by rw [← hw7]; exact HKx.out.put _); clear hw7)
            first
              | exact ⟨⟨c + 1, HKc1.out.1, by go_num, HR7, HK7⟩, by simp only [intOf]; exact HKc1.out.2⟩
              | (go_roundw
                 · exact ⟨c + 1, HKc1.out.1, by go_num, HR7, HK7⟩
                 · simp only [intOf]; exact HKc1.out.2)
        · obtain rfl : c = C := by omega
          have HRn2 := Lib.hid (show RB wr b (mix T L ((t + (i + 1)) * c)) by rw [HRn.out]; exact HRc.out)
          go_wp2
          first
            | exact ⟨⟨i + 1, HKi.out.1, by go_num, HRn2, HKc⟩, by simp only [intOf]; exact HKi.out.2⟩
            | (go_roundw
               · exact ⟨i + 1, HKi.out.1, by go_num, HRn2, HKc⟩
               · simp only [intOf]; exact HKi.out.2)
    · obtain rfl : i = k := by omega
      go_wp2
      go_end0
      exact ⟨rfl, by have := HR.out; rwa [HT1.out] at this, (Kp.of HKW.out).trans HK.out (.inl rfl)⟩
/-- Scroll, of anything. -/
theorem scrollX (p b R C : Nat) (top bottom n af ag ab : Int) (L : List Ce) (w : World) (h : X w p b R C L) (hi : Iv R C L) :
    Calls Try.prog 40 #[.pointer (some ⟨p, 0, none⟩), .int .i64 top, .int .i64 bottom, .int .i64 n, .agg #[.int .i64 af, .int .i64 ag, .int .i64 ab]] w (XQ unit w p b R C (scrollL R C L top bottom n af ag ab)) := by
  cases hz : (scrollOk R top bottom && Cell.attrB af ag ab) with
  | false =>
    have e : scrollL R C L top bottom n af ag ab = L := by unfold scrollL; rw [hz]; rfl
    rw [e]
    exact (scrollNoX p b R C top bottom n af ag ab L w h hz).mono fun e w' ⟨h1, h2⟩ => XQ.of_below h h1 h2
  | true =>
    have hT : scrollL R C L top bottom n af ag ab = L.take (top.toNat * C) ++ slideL ((L.drop (top.toNat * C)).take ((bottom.toNat + 1 - top.toNat) * C)) (heldZ n (bottom - top + 1) * C) (Gm.blankC ab) ++ L.drop ((bottom.toNat + 1) * C) := by unfold scrollL; rw [hz]; rfl
    have hl := (Pr.iv_scroll hi top bottom n af ag ab).len
    generalize scrollL R C L top bottom n af ag ab = T at *
    simp only [Bool.and_eq_true, scrollOk, decide_eq_true_eq] at hz
    obtain ⟨⟨a1, a2, a3⟩, h3⟩ := hz
    obtain ⟨t, rfl⟩ := Int.eq_ofNat_of_zero_le a1
    obtain ⟨u, rfl⟩ := Int.eq_ofNat_of_zero_le (show 0 ≤ bottom by omega)
    rw [Int.toNat_natCast, Int.toNat_natCast] at hT
    exact (scrollYesX p b R C t u n af ag ab L T w h (by omega) (by omega) h3 hT).mono fun e w' hq' => XQ.of_row h hq' (by rw [hl, h.len])
end Go.Proofs.Ytfdjmlncdbpkgaa.Xw
