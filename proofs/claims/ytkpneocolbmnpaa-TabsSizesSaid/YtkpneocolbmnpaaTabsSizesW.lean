/- tiklaw10.TabsSizes: the walk. -/
import Derived.Test.YtkpneocolbmnpaaTabs4
set_option linter.unusedVariables false
namespace Go.Proofs.Ytkpneocolbmnpaa.TabsSizesW
open Go Go.RowKit Kit Ints TabsMath Tabs

def OutP (w : World) (e : Ending) (w' : World) : Prop := e = .returned (.bool true) ∧ Below w.heap.size w w'
/-- every eighth number. -/
def wantU (k : Nat) : List Int := (List.range k).map fun j : Nat => 8 * ((j : Int) + 1)
theorem wantU_succ (k : Nat) : wantU (k + 1) = wantU k ++ [8 * ((k : Int) + 1)] := by simp [wantU, List.range_succ]
theorem wantU_len (k : Nat) : (wantU k).length = k := by simp [wantU]
theorem res_tgt (M k : Nat) (h : k < M) : (resL [] M).getD k false = (decide (0 < k) && decide (k % 8 = 0)) := by rw [resL_at _ _ _ h]; simp [tgt]
theorem stops_res (M : Nat) : ∀ k, k ≤ M → stopsU (resL [] M) k = wantU ((k - 1) / 8) := by
  intro k
  induction k with
  | zero => intro _; rfl
  | succ k ih =>
    intro h
    rw [stopsU, ih (by omega), res_tgt M k (by omega), Nat.add_sub_cancel]
    by_cases h1 : 0 < k ∧ k % 8 = 0
    · rw [if_pos (by simp [h1]), show k / 8 = (k - 1) / 8 + 1 by omega, wantU_succ, show (k : Int) = 8 * ((((k - 1) / 8 : Nat) : Int) + 1) by omega]
    · rw [if_neg (by simp; omega), List.append_nil]
      by_cases h0 : k = 0
      · subst h0; rfl
      · rw [show k / 8 = (k - 1) / 8 by omega]
theorem next_far (l : List Bool) (last : Nat) (hl : ∀ k, l.getD k false = true → k % 8 = 0) : ∀ f n c, c + f = last → (last + 7) / 8 < n + (c + 7) / 8 → nextG l last f n c = last := by
  intro f
  induction f with
  | zero => intro n c _ _; rw [nextG]
  | succ f ih =>
    intro n c h hn
    rw [nextG]
    split
    · rename_i hc
      have := hl c hc
      rw [if_neg (by omega)]
      exact ih _ _ (by omega) (by omega)
    · exact ih _ _ (by omega) (by omega)
theorem prev_far (l : List Bool) (hl : ∀ k, l.getD k false = true → k % 8 = 0) : ∀ c n, c / 8 < n → prevG l c n = 0 := by
  intro c
  induction c with
  | zero => intro n _; rw [prevG]
  | succ c ih =>
    intro n hn
    rw [prevG]
    split
    · rename_i hc
      have := hl _ hc
      rw [if_neg (by omega)]
      exact ih _ (by omega)
    · exact ih _ (by omega)
theorem res_8 (M k : Nat) (h : (resL [] M).getD k false = true) : k % 8 = 0 := by
  by_cases hk : k < M
  · rw [res_tgt M k hk] at h; simp at h; exact h.2
  · rw [List.getD_eq_getElem?_getD, List.getElem?_eq_none (by rw [resL_len]; omega)] at h; cases h
theorem all_new (M : Nat) (h : M < 201) (h1 : 1 ≤ M) : stops (resL [] M) = wantU ((M - 1) / 8) ∧ nextZ (resL [] M) 0 99 = (M : Int) - 1 ∧ prevZ (resL [] M) M 99 = 0 := by
  refine ⟨?_, ?_, ?_⟩
  · rw [stops, resL_len]; exact stops_res M M (Nat.le_refl _)
  · rw [nextZ, nextN, resL_len]
    rw [show clampN 0 (M - 1) = 0 by unfold clampN; omega]
    by_cases hM : M = 1
    · subst hM; rfl
    · rw [next_far _ _ (res_8 M) _ _ _ (by omega) (by omega)]; omega
  · rw [prevZ, prevN, resL_len, prev_far _ (res_8 M) _ _ (by unfold clampN; omega)]; rfl
theorem any_at {l : List Int} {x : Int} : l.any (· == x) = decide (x ∈ l) := by
  rw [Bool.eq_iff_iff]; simp
theorem has_stop (l : List Bool) (i : Nat) (h : i < l.length) : (stops l).any (· == (i : Int)) = l.getD i false := by
  rw [any_at, Bool.eq_iff_iff, decide_eq_true_iff]
  constructor
  · intro hm
    obtain ⟨j, h1, _, h3⟩ := stopsU_mem l l.length _ hm
    obtain rfl : i = j := by omega
    exact h3
  · intro hv; exact stopsU_has l l.length i h hv
theorem resL_res (N M : Nat) : resL (resL [] N) M = resL [] M := by
  unfold resL
  refine List.map_congr_left fun c _ => ?_
  show tgt (resL [] N) c = tgt [] c
  rw [tgt, resL_len]
  split
  · rename_i h; exact resL_at [] N c h
  · simp [tgt]
theorem res_at (N i : Nat) (h : i < N) : (resL [] N).getD i false = (decide (0 < i) && decide (i % 8 = 0)) := by rw [resL_at _ _ _ h]; simp [tgt]
theorem set_same (l : List Bool) (i : Nat) (h : i < l.length) (v : Bool) (hv : l.getD i false = v) : l.set i v = l := by
  apply List.ext_getElem
  · simp
  · intro j h1 h2
    rw [List.getElem_set]
    split
    · rename_i e; subst e
      simp [h] at hv
      exact hv.symm
    · rfl
theorem inB_yes (l : List Bool) (i : Nat) (h : i < l.length) : inB l (i : Int) = true := by unfold inB; exact decide_eq_true (by omega)
theorem inB_no (l : List Bool) (x : Int) (h : x < 0 ∨ (l.length : Int) ≤ x) : inB l x = false := by unfold inB; exact decide_eq_false (by omega)
/-- Set and Clear of a column that is. -/
theorem setY (p b : Nat) (l : List Bool) (i : Nat) (w : World) (h : St w p b l) (hl : l.length ≤ 200) (hi : i < l.length) :
    Calls Try.prog 29 #[.pointer (some ⟨p, 0, none⟩), .int .i64 (i : Int)] w fun e w' => e = .returned (.bool true) ∧ St w' p b (l.set i true) ∧ w.grownBy w' (some b) := by
  refine (setC p b l i w h hl).mono ?_
  rintro e w' ⟨rfl, hs, hg⟩
  rw [inB_yes l i hi] at hs ⊢
  exact ⟨rfl, by simpa using hs, hg⟩
theorem clearY (p b : Nat) (l : List Bool) (i : Nat) (w : World) (h : St w p b l) (hl : l.length ≤ 200) (hi : i < l.length) :
    Calls Try.prog 31 #[.pointer (some ⟨p, 0, none⟩), .int .i64 (i : Int)] w fun e w' => e = .returned (.bool true) ∧ St w' p b (l.set i false) ∧ w.grownBy w' (some b) := by
  refine (clearC p b l i w h hl).mono ?_
  rintro e w' ⟨rfl, hs, hg⟩
  rw [inB_yes l i hi] at hs ⊢
  exact ⟨rfl, by simpa using hs, hg⟩
theorem setN (p b : Nat) (l : List Bool) (x : Int) (w : World) (h : St w p b l) (hl : l.length ≤ 200) (hi : x < 0 ∨ (l.length : Int) ≤ x) :
    Calls Try.prog 29 #[.pointer (some ⟨p, 0, none⟩), .int .i64 x] w fun e w' => e = .returned (.bool false) ∧ St w' p b l ∧ w.grownBy w' (some b) := by
  refine (setC p b l x w h hl).mono ?_
  rintro e w' ⟨rfl, hs, hg⟩
  rw [inB_no l x hi] at hs ⊢
  exact ⟨rfl, hs, hg⟩
theorem clearN (p b : Nat) (l : List Bool) (x : Int) (w : World) (h : St w p b l) (hl : l.length ≤ 200) (hi : x < 0 ∨ (l.length : Int) ≤ x) :
    Calls Try.prog 31 #[.pointer (some ⟨p, 0, none⟩), .int .i64 x] w fun e w' => e = .returned (.bool false) ∧ St w' p b l ∧ w.grownBy w' (some b) := by
  refine (clearC p b l x w h hl).mono ?_
  rintro e w' ⟨rfl, hs, hg⟩
  rw [inB_no l x hi] at hs ⊢
  exact ⟨rfl, hs, hg⟩
theorem below_put {w W W' : World} {b : Nat} (h : Below w.heap.size w W) (hg : W.grownBy W' (some b)) (hb : w.heap.size ≤ b) : Below w.heap.size w W' := h.trans (below_of_grown hg hb h.size)
set_option maxRecDepth 100000 in
set_option maxHeartbeats 2000000 in
theorem outNo (cols more at_ : Int) (w : World) (hc : cols < 1 ∨ 200 < cols) :
    Calls Try.prog 11 #[.int .i64 cols, .int .i64 more, .int .i64 at_] w (OutP w) := by
  go_enter Try.func11, Try.ntmps11
  go_wp2_with fail
  refine (first _).mono ?_
  rintro e w1 ⟨rfl, hb1⟩
  go_wp2_with fail
  refine (newNo cols _ hc).mono ?_
  rintro e w2 ⟨rfl, hb2⟩
  go_wp2_with fail
  refine (first _).mono ?_
  rintro e w3 ⟨rfl, hb3⟩
  go_wp2
  go_ret
  exact ⟨rfl, below_next (below_next hb1 hb2) hb3⟩
set_option maxRecDepth 100000 in
set_option maxHeartbeats 2000000 in
theorem outC (N : Nat) (more at_ : Int) (w : World) (h1 : 1 ≤ N) (h2 : N ≤ 200) (hc : at_ < 0 ∨ (N : Int) ≤ at_) :
    Calls Try.prog 11 #[.int .i64 (N : Int), .int .i64 more, .int .i64 at_] w (OutP w) := by
  rcases hc with hc | hc
  all_goals
    go_enter Try.func11, Try.ntmps11
    go_wp2_with fail
    refine (first _).mono ?_
    rintro e w1 ⟨rfl, hb1⟩
    go_wp2_with fail
    refine (newC N _ h1 h2).mono ?_
    rintro e w2 ⟨b, rfl, hst, hb2, _⟩
    clear hst
    go_wp2_with fail
  all_goals
    refine (first _).mono ?_
    rintro e w3 ⟨rfl, hb3⟩
    go_wp2
    go_ret
    exact ⟨rfl, below_next (below_next hb1 hb2) hb3⟩
set_option maxRecDepth 100000 in
set_option maxHeartbeats 8000000 in
theorem main (N i : Nat) (more : Int) (w : World) (h1 : 1 ≤ N) (h2 : N ≤ 200) (hi : i < N) :
    Calls Try.prog 11 #[.int .i64 (N : Int), .int .i64 more, .int .i64 (i : Int)] w (OutP w) := by
  go_enter Try.func11, Try.ntmps11
  go_wp2_with fail
  refine (first _).mono ?_
  rintro e w1 ⟨rfl, hb1⟩
  go_wp2_with fail
  refine (newC N _ h1 h2).mono ?_
  rintro e w2 ⟨b, rfl, hst, hb2, hbb⟩
  have hP := hb1.size
  have hB : Below w.heap.size w w2 := below_next hb1 hb2
  generalize w1.heap.size = P at *
  have hbo : w.heap.size ≤ b := by omega
  clear hb1 hb2
  have HV := Lib.hid (res_at N i hi)
  have HL := Lib.hid (resL_len [] N)
  have HN := Lib.hid (fun M (h : M < 201) (h1 : 1 ≤ M) => all_new M h h1)
  have HRR := Lib.hid (resL_res N)
  generalize resL [] N = l at *
  have hl : l.length ≤ 200 := by rw [HL.out]; exact h2
  have hil : i < l.length := by rw [HL.out]; exact hi
  have m0 : (0 : Int) ≤ (i : Int) % 8 := by omega
  obtain ⟨on, hon⟩ : ∃ on : Bool, on = l.getD i false := ⟨_, rfl⟩
  have HON := Lib.hid hon
  have h8 : on = true ∧ ((i : Int) % 8 == 0) = true ∧ (0 : Int) < (i : Int) ∨ on = false ∧ ((i : Int) % 8 == 0) = true ∧ (i : Int) ≤ 0 ∨ on = false ∧ ((i : Int) % 8 == 0) = false ∧ True := by
    rw [hon, HV.out]
    by_cases ha : 0 < i <;> by_cases hb : i % 8 = 0
    · left; simp [ha, hb]; omega
    · right; right; simp [ha, hb]; omega
    · right; left; simp [ha, hb]; omega
    · omega
  clear hon
  have hs1 : (stops (l.set i true)).length ≤ 1000000 := by have := stopsU_len (l.set i true) (l.set i true).length; simp only [stops]; simp at this ⊢; omega
  have hs2 : (stops ((l.set i true).set i false)).length ≤ 1000000 := by have := stopsU_len ((l.set i true).set i false) ((l.set i true).set i false).length; simp only [stops]; simp at this ⊢; omega
  have H1 := Lib.hid (show (stops (l.set i true)).any (· == (i : Int)) = true by rw [has_stop _ i (by simpa using hil)]; simp [hil])
  have H2 := Lib.hid (show (stops ((l.set i true).set i false)).any (· == (i : Int)) = false by rw [has_stop _ i (by simpa using hil)]; simp [hil])
  have hl1 : (l.set i true).length ≤ 200 := by simpa using hl
  have hl2 : ((l.set i true).set i false).length ≤ 200 := by simpa using hl
  have hi1 : i < (l.set i true).length := by simpa using hil
  have hi2 : i < ((l.set i true).set i false).length := by simpa using hil
  have hlN : ((l.set i true).set i false).length ≤ N := by simp; rw [HL.out]; exact Nat.le_refl _
  have E1 := Lib.hid (show on = true → ((l.set i true).set i false).set i true = l from fun h => by rw [List.set_set, List.set_set]; exact set_same l i hil true (HON.out.symm.trans h))
  have E2 := Lib.hid (show on = false → (l.set i true).set i false = l from fun h => by rw [List.set_set]; exact set_same l i hil false (HON.out.symm.trans h))
  generalize hl1e : l.set i true = l1 at *
  generalize hl2e : l1.set i false = l2 at *
  have Hl1 := Lib.hid hl1e
  have Hl2 := Lib.hid hl2e
  clear hl1e hl2e HV
  rcases h8 with ⟨rfl, h8, h0⟩ | ⟨rfl, h8, h0⟩ | ⟨rfl, h8, h0⟩
  all_goals
    go_wp2_with fail
    refine (setY P b l i w2 hst hl hil).mono ?_
    rw [Hl1.out]
    rintro e w3 ⟨rfl, hst, hg⟩
    have hB := below_put hB hg hbo
    clear hg
    go_wp2_with fail
    refine (listC P b l1 w3 hst hl1).mono ?_
    rintro e w4 ⟨la, lcap, rfl, hcap, hI, hb4⟩
    have hst := hst.then_ hb4 (Nat.le_refl _)
    have hB := below_next hB hb4
    go_wp2_with fail
    refine (hasC la lcap (stops l1) i w4 hs1 hI).mono ?_
    rw [H1.out]
    rintro e w5 ⟨rfl, rfl⟩
    clear hcap hI hb4
    go_wp2_with fail
    refine (clearY P b l1 i w4 hst hl1 hi1).mono ?_
    rw [Hl2.out]
    rintro e w5 ⟨rfl, hst, hg⟩
    have hB := below_put hB hg hbo
    clear hg
    go_wp2_with fail
    refine (listC P b l2 w5 hst hl2).mono ?_
    rintro e w6 ⟨la, lcap, rfl, hcap, hI, hb4⟩
    have hst := hst.then_ hb4 (Nat.le_refl _)
    have hB := below_next hB hb4
    go_wp2_with fail
    refine (hasC la lcap (stops l2) i w6 hs2 hI).mono ?_
    rw [H2.out]
    rintro e w7 ⟨rfl, rfl⟩
    clear hcap hI hb4
    go_wp2_with fail
    refine (setN P b l2 N w6 hst hl2 (by omega)).mono ?_
    rintro e w7 ⟨rfl, hst, hg⟩
    have hB := below_put hB hg hbo
    clear hg
    go_wp2_with fail
    refine (clearN P b l2 (-1) w7 hst hl2 (by omega)).mono ?_
    rintro e w8 ⟨rfl, hst, hg⟩
    have hB := below_put hB hg hbo
    clear hg
    go_wp2_with fail
  all_goals first
    | ((with_reducible refine (setY P b l2 i w8 hst hl2 hi2).mono ?_); rw [E1.out (by first | rfl | trivial)]; rintro e w9 ⟨rfl, hst, hg⟩; have hB := below_put hB hg hbo; clear hg; go_wp2_with fail)
    | (have hst : St w8 P b l := (by rw [← E2.out (by first | rfl | trivial)]; exact hst); obtain ⟨w9, rfl⟩ : ∃ w9 : World, w9 = w8 := ⟨_, rfl⟩)
  all_goals
    rcases (show more < 1 ∨ 200 < more ∨ (1 ≤ more ∧ more ≤ 200) by omega) with hm | hm | hm
    · refine (resizeNo P more w9 (by omega)).mono ?_
      rintro e w10 ⟨rfl, rfl⟩
      go_wp2_with fail
      all_goals
        refine (first _).mono ?_
        rintro e w11 ⟨rfl, hb11⟩
        go_wp2
        go_ret
        exact ⟨rfl, below_next hB hb11⟩
    · refine (resizeNo P more w9 (by omega)).mono ?_
      rintro e w10 ⟨rfl, rfl⟩
      go_wp2_with fail
      all_goals
        refine (first _).mono ?_
        rintro e w11 ⟨rfl, hb11⟩
        go_wp2
        go_ret
        exact ⟨rfl, below_next hB hb11⟩
    · obtain ⟨M, rfl⟩ := Int.eq_ofNat_of_zero_le (show 0 ≤ more by omega)
      have hM1 : 1 ≤ M := by omega
      have hM2 : M ≤ 200 := by omega
      have hcell := hst.cp
      refine (resizeC P (some ⟨b, 0, none⟩) l M w9 ⟨hst.1, .inr ⟨b, rfl, hst.2⟩⟩ hl hM1 hM2).mono ?_
      rintro e wq ⟨rfl, hst, hg⟩
      rw [Int.toNat_natCast, HRR.out] at hst
      have hBq := below_put hB hg hP
      obtain ⟨q1, q2, q3⟩ := HN.out M (by omega) hM1
      have Q1 := Lib.hid q1
      have Q2 := Lib.hid q2
      have Q3 := Lib.hid q3
      have QL := Lib.hid (resL_len [] M)
      generalize resL [] M = lm at *
      generalize w9.heap.size = b2 at *
      have HST := Lib.hid hst
      have HBQ := Lib.hid hBq
      clear q1 q2 q3 hst hBq hg hcell
      obtain ⟨i0, hi0, hz0, hz1, hz2⟩ := info_parts info3
      go_wp2
      go_loopw [11, 12] (fun s11 s12 wr => ∃ k : Nat, 8 * k < M ∧ s12 = .int .i64 (8 * ((k : Int) + 1)) ∧ wr.ownsRow wq.heap.size 3 1 s11 k (cellsI (wantU k)) ∧ Below wq.heap.size wq wr) (fun _ s12 _ => M + 8 - (intOf s12).toNat)
      case atStart => exact ⟨0, by omega, rfl, World.ownsRow_nil _ _ _ _, Below.refl _ _⟩
      case round =>
        obtain ⟨k, hk, rfl, hown, hb⟩ := hrel
        by_cases hlt : 8 * ((k : Int) + 1) < (M : Int)
        · have hS := Lib.hid (wantU_succ k)
          go_wp2_with (at_builtin; refine wpList_append_own _ rfl _ _ 34 rfl wq.heap.size 3 i0 (.int .i64 0) 1 8 Try.underlying34 hi0 hz0 hz1 hz2 rfl (by decide) _ _ _ rfl (World.ownsRow.alloc hown _) ⟨wr.heap.size, 0, none⟩ 1 1 [.int .i64 (8 * ((k : Int) + 1))] rfl rfl (cell_one_new _ _ _) (fun x hx => by simp at hx; subst hx; rfl) (by unfold maxLen; omega) (by omega) (by simp only [World.size_alloc]; have := hb.size; omega) ?_; intro v2 wa hown2 hgrow2 hnil2)
          have hb2 : Below wq.heap.size wr wa := ((Below.refl _ _).alloc hb.size _).grown hgrow2 (by have := hb.size; simp; omega) (fun j hj => (hown.lt j hj).1)
          go_roundw
          case rel =>
            refine ⟨k + 1, by omega, by (congr 1), ?_, hb.trans hb2⟩
            rw [hS.out, ← cellsI_app]; exact hown2
          case measure => simp [intOf]; omega
        · have hkM : (M - 1) / 8 = k := by omega
          have hlw := wantU_len k
          obtain ⟨a2, cap2, rfl, hcap2, hI2, _⟩ := row_ints hlw.symm hown
          rw [hkM] at Q1
          have hst2 := HST.out.then_ hb (Nat.le_refl _)
          have HLL := Lib.hid hlw
          obtain ⟨wt, rfl⟩ : ∃ wt : World, wt = wr := ⟨_, rfl⟩
          clear hlw hown
          go_wp2_with fail
          refine (listC P b2 lm wt hst2 (by rw [QL.out]; exact hM2)).mono ?_
          rw [Q1.out]
          rintro e wl ⟨a3, cap3, rfl, hcap3, hI3, hb3⟩
          have HI2 := Lib.hid (ints_then hb3 (Nat.le_refl _) hI2)
          have HI3 := Lib.hid hI3
          have hst3 := hst2.then_ hb3 (Nat.le_refl _)
          have hBl : Below w.heap.size w wl := below_next (below_next HBQ.out hb) hb3
          have hkk : k ≤ 25 := by omega
          clear hI2 hI3 hb3 hb hst2
          generalize wantU k = X at *
          have hX : X.length ≤ 25 := by rw [HLL.out]; exact hkk
          have hne0 : ((X.length : Int) != (X.length : Int)) = false := by simp
          go_wp2
          go_loopw [14] (fun s14 W => ∃ j d : Nat, j ≤ X.length ∧ s14 = .int .i64 (j : Int) ∧ W = wl.drewN d) (fun s14 _ => X.length - (intOf s14).toNat)
          case atStart => exact ⟨0, 0, Nat.zero_le _, rfl, rfl⟩
          case round =>
            obtain ⟨j, d, hj, rfl, rfl⟩ := hrel
            by_cases hlt2 : j < X.length
            · obtain ⟨b4, o4, rfl, hc4⟩ : ∃ sb so, a2 = some ⟨sb, so, none⟩ ∧ wl.cell? ⟨sb, so + j, none⟩ = some (.int .i64 X[j]) := by
                rcases HI2.out with h | ⟨sb, so, h, hh⟩
                · subst h; simp at hlt2
                · exact ⟨sb, so, h, hh j hlt2⟩
              obtain ⟨b5, o5, rfl, hc5⟩ : ∃ sb so, a3 = some ⟨sb, so, none⟩ ∧ wl.cell? ⟨sb, so + j, none⟩ = some (.int .i64 X[j]) := by
                rcases HI3.out with h | ⟨sb, so, h, hh⟩
                · subst h; simp at hlt2
                · exact ⟨sb, so, h, hh j hlt2⟩
              generalize X[j] = x at *
              have hne : ((x : Int) != x) = false := by simp
              go_wp2
              go_quiet (fail)
              go_wp2
              go_roundw
              case rel => exact ⟨j + 1, _, by omega, by go_num, rfl⟩
              case measure => simp [intOf]; omega
            · obtain rfl : j = X.length := by omega
              go_wp2_with fail
              refine (first _).mono ?_
              rintro e w6 ⟨rfl, hb6⟩
              have hst6 := (hst3.drewN d).then_ hb6 (Nat.le_refl _)
              go_wp2_with fail
              refine (nextC P b2 lm 0 99 _ hst6 (by rw [QL.out]; omega) (by rw [QL.out]; omega) (by omega)).mono ?_
              rw [Q2.out]
              rintro e w7 ⟨rfl, rfl⟩
              go_wp2_with fail
              refine (prevC P b2 lm M 99 _ hst6 (by rw [QL.out]; omega) (by rw [QL.out]; omega) (by omega)).mono ?_
              rw [Q3.out]
              rintro e w7 ⟨rfl, rfl⟩
              go_wp2
              go_ret
              exact ⟨rfl, below_next (below_drewN hBl d) hb6⟩
theorem walk (cols more at_ : Int) (W : World) (_w0 : (Lit.int .i64 cols).wf = true) (_w1 : (Lit.int .i64 more).wf = true) (_w2 : (Lit.int .i64 at_).wf = true) :
    Calls Try.prog 11 #[.int .i64 cols, .int .i64 more, .int .i64 at_] W fun e w' => e = .returned (.bool true) ∧ Below W.heap.size W w' := by
  by_cases hc : 1 ≤ cols ∧ cols ≤ 200
  · obtain ⟨N, rfl⟩ := Int.eq_ofNat_of_zero_le (show 0 ≤ cols by omega)
    by_cases h : 0 ≤ at_ ∧ at_ < N
    · obtain ⟨i, rfl⟩ := Int.eq_ofNat_of_zero_le h.1
      exact main N i more W (by omega) (by omega) (by omega)
    · exact outC N more at_ W (by omega) (by omega) (by omega)
  · exact outNo cols more at_ W (by omega)
end Go.Proofs.Ytkpneocolbmnpaa.TabsSizesW
