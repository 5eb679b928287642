/- Package sgr: Apply, of whatever params. -/
import Derived.Test.YtkpneocolbmnpaaSgr
import Derived.Test.YtkpneocolbmnpaaCol
import Derived.LoopTactic
import Derived.Deep.QuietTactic
import Derived.BigQuiet

set_option linter.unusedVariables false
namespace Go.Proofs.Ytkpneocolbmnpaa.Apply
open Go Go.RowKit Kit Sgr Col

theorem colZ_len (was : Int) (l : List Int) : (colZ was l).2.length ≤ l.length := by
  unfold colZ
  split
  · simp
  · split
    · split
      · simp
      · split <;> simp <;> omega
    · split
      · split
        · split <;> simp <;> omega
        · simp
      · simp
/-- one param, or a colour: the looks, and what is left. -/
def step (s : Int × Int × Int) (c : Int) (r : List Int) : (Int × Int × Int) × List Int :=
  if c = 38 then ((s.1, (colZ s.2.1 r).1, s.2.2), (colZ s.2.1 r).2)
  else if c = 48 then ((s.1, s.2.1, (colZ s.2.2 r).1), (colZ s.2.2 r).2)
  else ((oneF s.1 c, oneFg s.2.1 c, oneBg s.2.2 c), r)
theorem step_len (s : Int × Int × Int) (c : Int) (r : List Int) : (step s c r).2.length ≤ r.length := by
  unfold step; split
  · exact colZ_len _ _
  · split
    · exact colZ_len _ _
    · exact Nat.le_refl _
def applyL (s : Int × Int × Int) : List Int → Int × Int × Int
  | [] => s
  | c :: r => applyL (step s c r).1 (step s c r).2
termination_by l => l.length
decreasing_by simp only [List.length_cons]; have := step_len s c r; omega
theorem applyL_nil (s : Int × Int × Int) : applyL s [] = s := by rw [applyL]
theorem applyL_cons (s : Int × Int × Int) (c : Int) (r : List Int) : applyL s (c :: r) = applyL (step s c r).1 (step s c r).2 := by rw [applyL]
/-- Apply. -/
def applyA (s : Int × Int × Int) (l : List Int) : Int × Int × Int := if l = [] then (0, 0, 0) else applyL s l
def agg3 (s : Int × Int × Int) : Value := .agg #[.int .i64 s.1, .int .i64 s.2.1, .int .i64 s.2.2]
def lenOf : Value → Nat
  | .slice _ n _ => n
  | _ => 0
/-- three cells at the head of a block. -/
def Box (w : World) (p : Nat) (s : Int × Int × Int) : Prop :=
  (w.cell? ⟨p, 0, none⟩ = some (.int .i64 s.1) ∧ w.cell? ⟨p, 1, none⟩ = some (.int .i64 s.2.1) ∧ w.cell? ⟨p, 2, none⟩ = some (.int .i64 s.2.2)) ∧
  w.frozen? ⟨p, 0, none⟩ = false ∧ w.frozen? ⟨p, 1, none⟩ = false ∧ w.frozen? ⟨p, 2, none⟩ = false
def RelA (R : Int × Int × Int) (w : World) (s1 : Value) (wr : World) : Prop :=
  ∃ (s : Int × Int × Int) (l : List Int) (a : Option Addr) (cap : Nat), s1 = .slice a l.length cap ∧ l.length ≤ cap ∧ cap ≤ 9223372036854775807 ∧ l.length < 9223372036854775000 ∧
    Ints w a l ∧ R = applyL s l ∧ Box wr w.heap.size s ∧ Box wr (w.heap.size + 1) (0, 0, 0) ∧ Below w.heap.size w wr
theorem ints_then {B : Nat} {W w1 : World} (hb : Below B W w1) (hB : W.heap.size ≤ B) {a : Option Addr} {l : List Int} (h : Ints W a l) : Ints w1 a l := by
  rcases h with h | ⟨b, off, rfl, h⟩
  · exact .inl h
  · refine .inr ⟨b, off, rfl, fun i hi => ?_⟩
    have hlt := World.block_lt_of_cell? W _ (h i hi)
    rw [hb.cell (p := ⟨b, off + i, none⟩) (Nat.lt_of_lt_of_le hlt hB)]; exact h i hi
theorem cell_then {B : Nat} {W w1 : World} (hb : Below B W w1) (hB : W.heap.size ≤ B) {b o : Nat} {v : Value} (h : W.cell? ⟨b, o, none⟩ = some v) : w1.cell? ⟨b, o, none⟩ = some v := by
  have hlt := World.block_lt_of_cell? W _ h
  rw [hb.cell (p := ⟨b, o, none⟩) (Nat.lt_of_lt_of_le hlt hB)]; exact h
theorem box_then {B : Nat} {W w1 : World} (hb : Below B W w1) (hB : W.heap.size ≤ B) {p : Nat} {s : Int × Int × Int} (h : Box W p s) : Box w1 p s := by
  obtain ⟨⟨c0, c1, c2⟩, f0, f1, f2⟩ := h
  have hlt := Nat.lt_of_lt_of_le (World.block_lt_of_cell? W _ c0) hB
  refine ⟨⟨?_, ?_, ?_⟩, ?_, ?_, ?_⟩
  · rw [hb.cell (p := ⟨p, 0, none⟩) hlt]; exact c0
  · rw [hb.cell (p := ⟨p, 1, none⟩) hlt]; exact c1
  · rw [hb.cell (p := ⟨p, 2, none⟩) hlt]; exact c2
  · rw [hb.frozen (p := ⟨p, 0, none⟩) hlt]; exact f0
  · rw [hb.frozen (p := ⟨p, 1, none⟩) hlt]; exact f1
  · rw [hb.frozen (p := ⟨p, 2, none⟩) hlt]; exact f2
theorem set_cells {w : World} {p : Nat} {x0 x1 x2 : Value} (h0 : w.cell? ⟨p, 0, none⟩ = some x0) (h1 : w.cell? ⟨p, 1, none⟩ = some x1) (h2 : w.cell? ⟨p, 2, none⟩ = some x2) (k : Nat) (v : Value) (hk : k = 0 ∨ k = 1 ∨ k = 2) (i : Nat) (hi : i = 0 ∨ i = 1 ∨ i = 2) :
    (w.setCell ⟨p, k, none⟩ v).cell? ⟨p, i, none⟩ = some (if i = k then v else if i = 0 then x0 else if i = 1 then x1 else x2) := by
  by_cases h : i = k
  · subst h
    rw [if_pos rfl]
    rcases hk with rfl | rfl | rfl
    · exact World.cell?_setCell_same _ _ _ h0
    · exact World.cell?_setCell_same _ _ _ h1
    · exact World.cell?_setCell_same _ _ _ h2
  · rw [if_neg h, World.cell?_setCell_other _ _ _ _ (by intro e; simp only [Addr.mk.injEq] at e; omega)]
    rcases hi with rfl | rfl | rfl <;> simp [h0, h1, h2]
theorem three_set {w : World} {p : Nat} {x0 x1 x2 : Value} (h0 : w.cell? ⟨p, 0, none⟩ = some x0) (h1 : w.cell? ⟨p, 1, none⟩ = some x1) (h2 : w.cell? ⟨p, 2, none⟩ = some x2) :
    (∀ v, (w.setCell ⟨p, 0, none⟩ v).cell? ⟨p, 0, none⟩ = some v) ∧ (∀ u v, ((w.setCell ⟨p, 0, none⟩ u).setCell ⟨p, 1, none⟩ v).cell? ⟨p, 1, none⟩ = some v) ∧ (∀ t u v, (((w.setCell ⟨p, 0, none⟩ t).setCell ⟨p, 1, none⟩ u).setCell ⟨p, 2, none⟩ v).cell? ⟨p, 2, none⟩ = some v) := by
  refine ⟨fun _ => World.cell?_setCell_same _ _ _ h0, fun u v => World.cell?_setCell_same _ _ _ (u := x1) ?_, fun t u v => World.cell?_setCell_same _ _ _ (u := x2) ?_⟩
  · rw [World.cell?_setCell_other _ _ _ _ (by intro e; simp at e)]; exact h1
  · rw [World.cell?_setCell_other _ _ _ _ (by intro e; simp at e), World.cell?_setCell_other _ _ _ _ (by intro e; simp at e)]; exact h2
theorem ints_drewN {w : World} {a : Option Addr} {l : List Int} (n : Nat) (h : Ints w a l) : Ints (w.drewN n) a l := h
theorem below_drewN {B : Nat} {a w : World} (h : Below B a w) (n : Nat) : Below B a (w.drewN n) := ⟨h.os, h.tape, h.output, h.size, h.block⟩
theorem box_set {w : World} {p : Nat} {s : Int × Int × Int} (h : Box w p s) (x y z : Int) : Box (((w.setCell ⟨p, 0, none⟩ (.int .i64 x)).setCell ⟨p, 1, none⟩ (.int .i64 y)).setCell ⟨p, 2, none⟩ (.int .i64 z)) p (x, y, z) := by
  obtain ⟨⟨c0, c1, c2⟩, f0, f1, f2⟩ := h
  obtain ⟨n0, n1, n2⟩ := three_set c0 c1 c2
  refine ⟨⟨?_, ?_, n2 _ _ _⟩, ?_, ?_, ?_⟩
  · rw [World.cell?_setCell_other _ _ _ _ (by intro e; simp at e), World.cell?_setCell_other _ _ _ _ (by intro e; simp at e)]; exact n0 _
  · rw [World.cell?_setCell_other _ _ _ _ (by intro e; simp at e)]; exact n1 _ _
  all_goals simpa [go_sem]
theorem box_far {w : World} {p : Nat} {s : Int × Int × Int} (h : Box w p s) (a : Addr) (v : Value) (ha : a.block ≠ p) : Box (w.setCell a v) p s := by
  obtain ⟨⟨c0, c1, c2⟩, f0, f1, f2⟩ := h
  refine ⟨⟨?_, ?_, ?_⟩, ?_, ?_, ?_⟩
  all_goals first
    | (rw [World.cell?_setCell_other _ _ _ _ (by intro e; subst e; exact ha rfl)]; assumption)
    | simpa [go_sem]
theorem box_1 {w : World} {p : Nat} {s : Int × Int × Int} (h : Box w p s) (v : Int) : Box (w.setCell ⟨p, 1, none⟩ (.int .i64 v)) p (s.1, v, s.2.2) := by
  obtain ⟨⟨c0, c1, c2⟩, f0, f1, f2⟩ := h
  refine ⟨⟨?_, ?_, ?_⟩, ?_, ?_, ?_⟩
  · rw [World.cell?_setCell_other _ _ _ _ (by intro e; simp at e)]; exact c0
  · exact World.cell?_setCell_same _ _ _ c1
  · rw [World.cell?_setCell_other _ _ _ _ (by intro e; simp at e)]; exact c2
  all_goals simpa [go_sem]
theorem box_2 {w : World} {p : Nat} {s : Int × Int × Int} (h : Box w p s) (v : Int) : Box (w.setCell ⟨p, 2, none⟩ (.int .i64 v)) p (s.1, s.2.1, v) := by
  obtain ⟨⟨c0, c1, c2⟩, f0, f1, f2⟩ := h
  refine ⟨⟨?_, ?_, ?_⟩, ?_, ?_, ?_⟩
  · rw [World.cell?_setCell_other _ _ _ _ (by intro e; simp at e)]; exact c0
  · rw [World.cell?_setCell_other _ _ _ _ (by intro e; simp at e)]; exact c1
  · exact World.cell?_setCell_same _ _ _ c2
  all_goals simpa [go_sem]
theorem ints_back {w wr : World} (hb : Below w.heap.size w wr) {n b o : Nat} (hbw : b < w.heap.size) {A : Option Addr} {M : List Int} (h : Ints (wr.drewN n) A M) (hA : A = none ∨ ∃ b' o1 o', (some ⟨b, o, none⟩ : Option Addr) = some ⟨b', o1, none⟩ ∧ A = some ⟨b', o', none⟩) : Ints w A M := by
  rcases h with h | ⟨b2, off, rfl, h⟩
  · exact .inl h
  · rcases hA with hA | ⟨b', o1, o', e1, e2⟩
    · cases hA
    · refine .inr ⟨b2, off, rfl, fun i hi => ?_⟩
      have : b2 < w.heap.size := by simp at e1 e2; omega
      rw [← hb.cell (p := ⟨b2, off + i, none⟩) this]; exact h i hi
set_option maxRecDepth 100000 in
set_option maxHeartbeats 4000000 in
theorem applyC (f fg bg : Int) (a : Option Addr) (l : List Int) (cap : Nat) (w : World) (hcap : l.length ≤ cap) (hcm : cap ≤ 9223372036854775807) (hn : l.length < 9223372036854775000) (h : Ints w a l) (h0 : 0 < l.length) :
    Calls Try.prog 23 #[.agg #[.int .i64 f, .int .i64 fg, .int .i64 bg], .slice a l.length cap] w fun e w' => e = .returned (agg3 (applyL (f, fg, bg) l)) ∧ Below w.heap.size w w' := by
  have hl : ((l.length : Int) == 0) = false := by simp; intro h; subst h; simp at h0
  generalize hR : applyL (f, fg, bg) l = R
  have HR := Lib.hid hR
  have HI := Lib.hid h
  clear hR h
  go_enter Try.func23, Try.ntmps23
  go_wp2
  go_loopw [1] (fun s1 wr => RelA R w s1 wr) (fun s1 _ => lenOf s1)
  case atStart => 
    refine ⟨(f, fg, bg), l, a, cap, rfl, hcap, hcm, hn, HI.out, HR.out.symm, ⟨⟨?_, ?_, ?_⟩, ?_, ?_, ?_⟩, ⟨⟨?_, ?_, ?_⟩, ?_, ?_, ?_⟩, ?_⟩
    all_goals first | (simp [go_sem]; done) | skip
    exact ((Below.refl _ _).alloc (Nat.le_refl _) _).alloc (by simp) _
  case round =>
    obtain ⟨s, m, a', c', rfl, hc1, hc2, hm, hi, hE, hB0, hB1, hbel⟩ := hrel
    obtain ⟨⟨p0, p1, p2⟩, q0, q1, q2⟩ := hB0
    cases m with
    | nil =>
      obtain ⟨⟨u0, u1, u2⟩, v0, v1, v2⟩ := hB1
      have HE := Lib.hid hE
      clear hE
      obtain ⟨n0, n1, n2⟩ := three_set u0 u1 u2
      simp only [List.length_nil]
      go_wp2
      refine bodyPost_ret (v := agg3 s) (by simp [results, Try.results23, go_sem, n0, n1, n2, agg3]) rfl ?_
      rw [applyL_nil] at HE
      refine ⟨by rw [HE.out], ?_⟩
      have hle : w.heap.size ≤ w.heap.size + 1 := by omega
      exact ((hbel.setCell hle _).setCell hle _).setCell hle _
    | cons x r =>
      obtain ⟨b, off, rfl⟩ : ∃ b off, a' = some ⟨b, off, none⟩ := by
        rcases hi with h | ⟨b, off, e, _⟩
        · cases h
        · exact ⟨b, off, e⟩
      have x0 : w.cell? ⟨b, off, none⟩ = some (.int .i64 x) := Col.ints_at hi 0 (by simp)
      have y0 := Apply.cell_then hbel (Nat.le_refl _) x0
      have HT := Lib.hid (show Ints w (some ⟨b, off + 1, none⟩) r from tail_ints (l := [x]) (m := r) rfl hi)
      have HE := Lib.hid hE
      clear hE hi
      simp only [List.length_cons] at hc1 hm
      have hbw : b < w.heap.size := by have := World.block_lt_of_cell? w _ x0; simpa using this
      clear x0
      by_cases hc : c' = 1
      · subst hc
        have HN := Lib.hid (show r = [] from List.eq_nil_of_length_eq_zero (by omega))
        have hr0 : (x :: r).length = 1 := by simp only [List.length_cons]; omega
        rw [hr0]
        clear hr0
        by_cases h38 : x = 38
        · subst h38
          go_wp2
          go_quiet (fail)
          go_wp2_with fail
          refine (colNone _ _ (some ⟨b, off, none⟩) _ _).mono ?_
          rintro e w1 ⟨a2, cap2, rfl, ⟨hl2, hcap2⟩, hi2, ⟨n2, rfl⟩, hA⟩
          go_wp2
          refine ⟨⟨s, [], a2, cap2, rfl, Nat.zero_le _, hcap2, by decide, .inl rfl, ?_, box_1 ⟨⟨p0, p1, p2⟩, q0, q1, q2⟩ _, box_far hB1 _ _ (by simp), (below_drewN hbel _).setCell (Nat.le_refl _) _⟩, by show (0 : Nat) < 1; decide⟩
          rw [HE.out, HN.out, applyL_cons, step, if_pos rfl]
          rfl
        · by_cases h48 : x = 48
          · subst h48
            go_wp2
            go_quiet (fail)
            go_wp2_with fail
            refine (colNone _ _ (some ⟨b, off, none⟩) _ _).mono ?_
            rintro e w1 ⟨a2, cap2, rfl, ⟨hl2, hcap2⟩, hi2, ⟨n2, rfl⟩, hA⟩
            go_wp2
            refine ⟨⟨s, [], a2, cap2, rfl, Nat.zero_le _, hcap2, by decide, .inl rfl, ?_, box_2 ⟨⟨p0, p1, p2⟩, q0, q1, q2⟩ _, box_far hB1 _ _ (by simp), (below_drewN hbel _).setCell (Nat.le_refl _) _⟩, by show (0 : Nat) < 1; decide⟩
            rw [HE.out, HN.out, applyL_cons, step, if_neg (by decide), if_pos rfl]
            rfl
          · have e38 : (x == 38) = false := by simpa using h38
            have e48 : (x == 48) = false := by simpa using h48
            go_wp2
            go_quiet (fail)
            go_wp2_with fail
            refine (oneC _ _ _ _ _).mono ?_
            rintro e w1 ⟨rfl, hb1⟩
            have HB := box_then hb1 (Nat.le_refl _) (w1 := w1) (W := wr.drewN _) ⟨⟨p0, p1, p2⟩, q0, q1, q2⟩
            have HB1 := box_then hb1 (Nat.le_refl _) (w1 := w1) (W := wr.drewN _) hB1
            obtain ⟨⟨z0, z1, z2⟩, t0, t1, t2⟩ := HB
            go_wp2
            refine ⟨⟨(oneF s.1 x, oneFg s.2.1 x, oneBg s.2.2 x), [], _, _, rfl, Nat.zero_le _, by decide, by decide, .inl rfl, ?_, ?_, ?_, ?_⟩, by simp [lenOf]⟩
            · rw [HE.out, HN.out, applyL_cons, step, if_neg h38, if_neg h48]
            · exact box_set ⟨⟨z0, z1, z2⟩, t0, t1, t2⟩ _ _ _
            · exact box_far (box_far (box_far HB1 _ _ (by simp)) _ _ (by simp)) _ _ (by simp)
            · exact (((below_then (below_drewN hbel _) hb1 hbel.size).setCell (Nat.le_refl _) _).setCell (Nat.le_refl _) _).setCell (Nat.le_refl _) _
      · have hlt : 1 < c' := by omega
        by_cases h38 : x = 38
        · subst h38
          go_wp2
          go_quiet (fail)
          go_wp2_with fail
          refine (colC _ _ r _ _ (by omega) (by omega) (by omega) (ints_drewN _ (ints_then hbel (Nat.le_refl _) HT.out))).mono ?_
          rintro e w1 ⟨a2, cap2, rfl, ⟨hl2, hcap2⟩, hi2, ⟨n2, rfl⟩, hA⟩
          go_wp2
          have hlen := colZ_len s.2.1 r
          refine ⟨⟨(s.1, (colZ s.2.1 r).1, s.2.2), (colZ s.2.1 r).2, a2, cap2, rfl, hl2, hcap2, by omega, ints_back hbel hbw hi2 hA, ?_, box_1 ⟨⟨p0, p1, p2⟩, q0, q1, q2⟩ _, box_far hB1 _ _ (by simp), (below_drewN hbel _).setCell (Nat.le_refl _) _⟩, by show (colZ _ r).2.length < r.length + 1; omega⟩
          rw [HE.out, applyL_cons, step, if_pos rfl]
        · by_cases h48 : x = 48
          · subst h48
            go_wp2
            go_quiet (fail)
            go_wp2_with fail
            refine (colC _ _ r _ _ (by omega) (by omega) (by omega) (ints_drewN _ (ints_then hbel (Nat.le_refl _) HT.out))).mono ?_
            rintro e w1 ⟨a2, cap2, rfl, ⟨hl2, hcap2⟩, hi2, ⟨n2, rfl⟩, hA⟩
            go_wp2
            have hlen := colZ_len s.2.2 r
            refine ⟨⟨(s.1, s.2.1, (colZ s.2.2 r).1), (colZ s.2.2 r).2, a2, cap2, rfl, hl2, hcap2, by omega, ints_back hbel hbw hi2 hA, ?_, box_2 ⟨⟨p0, p1, p2⟩, q0, q1, q2⟩ _, box_far hB1 _ _ (by simp), (below_drewN hbel _).setCell (Nat.le_refl _) _⟩, by show (colZ _ r).2.length < r.length + 1; omega⟩
            rw [HE.out, applyL_cons, step, if_neg (by decide), if_pos rfl]
          · 
            have e38 : (x == 38) = false := by simpa using h38
            have e48 : (x == 48) = false := by simpa using h48
            go_wp2
            go_quiet (fail)
            go_wp2_with fail
            refine (oneC _ _ _ _ _).mono ?_
            rintro e w1 ⟨rfl, hb1⟩
            have HB := box_then hb1 (Nat.le_refl _) (w1 := w1) (W := wr.drewN _) ⟨⟨p0, p1, p2⟩, q0, q1, q2⟩
            have HB1 := box_then hb1 (Nat.le_refl _) (w1 := w1) (W := wr.drewN _) hB1
            obtain ⟨⟨z0, z1, z2⟩, t0, t1, t2⟩ := HB
            go_wp2
            refine ⟨⟨(oneF s.1 x, oneFg s.2.1 x, oneBg s.2.2 x), r, _, _, rfl, by omega, by omega, by omega, HT.out, ?_, ?_, ?_, ?_⟩, by simp [lenOf]⟩
            · rw [HE.out, applyL_cons, step, if_neg h38, if_neg h48]
            · exact box_set ⟨⟨z0, z1, z2⟩, t0, t1, t2⟩ _ _ _
            · exact box_far (box_far (box_far HB1 _ _ (by simp)) _ _ (by simp)) _ _ (by simp)
            · exact (((below_then (below_drewN hbel _) hb1 hbel.size).setCell (Nat.le_refl _) _).setCell (Nat.le_refl _) _).setCell (Nat.le_refl _) _
end Go.Proofs.Ytkpneocolbmnpaa.Apply
