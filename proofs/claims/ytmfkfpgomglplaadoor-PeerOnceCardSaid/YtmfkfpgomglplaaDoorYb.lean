/- PeerOnce: the walk. -/
import Derived.Test.YtmfkfpgomglplaaDoorYa
import Derived.Deep.CutRange
import Derived.Deep.CutBlock
set_option linter.unusedVariables false
namespace Go.Proofs.YtmfkfpgomglplaaDoor.Yb
open Go Go.RowKit Kit Mb Sha Ap Mc1 Sc Mx Sb Pd Su Pa Hm Mm Tg Mf Pk Se Wn Op Pe Ps Pt Oq Pu Ar Ya


set_option maxRecDepth 100000 in
set_option maxHeartbeats 8000000 in
theorem main (ka : Option Addr) (kc : Nat) (key : List Nat) (v : Int) (ba : Option Addr) (bc : Nat) (B : List Part) (pa : Option Addr) (pc : Nat) (P : List Int) (fa : Option Addr) (fc : Nat) (f : List Nat) (w : World)
    (ks : Sl w ka key) (k0 : ka = none → kc = 0) (kl : ∀ c ∈ key, c < 256) (kcap : key.length ≤ kc) (kb : key.length ≤ 140737488351232) (hBs : Pts w ba B) (hP : Pv.Is w pa P) (hf : Sl w fa f) (hfc : f.length ≤ fc) (hf0 : fa = none → fc = 0) (hfx : ∀ c ∈ f, c < 256) (hfl : f.length ≤ 140737488351232) (hT : TabR w) (hB : TabB w) :
    Calls Tryd.prog 11 #[.slice ka key.length kc, .int .i64 v, .slice ba B.length bc, .slice pa P.length pc, .slice fa f.length fc] w fun e w' => e = .returned (.bool true) ∧ Below w.heap.size w w' := by
  have KS := Lib.hid ks
  have K0 := Lib.hid k0
  have KL := Lib.hid kl
  have KB := Lib.hid kb
  have KC := Lib.hid kcap
  have KB2 := Lib.hid (show key.length ≤ 140737488355328 by omega)
  have HBS := Lib.hid hBs
  have HP := Lib.hid hP
  have HF := Lib.hid hf
  have HFC := Lib.hid hfc
  have HF0 := Lib.hid hf0
  have HFX := Lib.hid hfx
  have HFL := Lib.hid hfl
  have HT := Lib.hid hT
  have HB := Lib.hid hB
  clear ks k0 kl kb kcap hBs hP hf hfc hf0 hfx hT hB
  go_enter Tryd.func11, Tryd.ntmps11
  go_upto_block 0 with (go_at_call 37; (with_reducible refine (qfirst w HT.out HB.out).mono ?_); rintro e w0 ⟨rfl, b0⟩; have HB0 := Lib.hid b0; clear b0)
  go_cut [11, 12] from 33 to 50 (fun s11 s12 wx => ∃ (i N : Nat), s12 = .int .i64 (i : Int) ∧ s11 = .int .i64 (N : Int) ∧ f.length ≤ N ∧ Below w.heap.size w wx)
  case first =>
    go_wp2_with fail
    go_loopw [11, 12] (fun s11 s12 wr => ∃ (i N : Nat), i ≤ B.length ∧ i ≤ 100 ∧ s12 = .int .i64 (i : Int) ∧ s11 = .int .i64 (N : Int) ∧ f.length ≤ N ∧ N ≤ f.length + 20001 * i ∧ Below w.heap.size w wr) (fun _ s12 _ => B.length - (intOf s12).toNat)
    case atStart => exact ⟨0, f.length, Nat.zero_le _, Nat.zero_le _, rfl, rfl, Nat.le_refl _, by omega, HB0.out⟩
    case round =>
      obtain ⟨i, N, hi, hi2, rfl, rfl, hN1, hN2, hW⟩ := hrel
      have HW := Lib.hid hW
      have hfl2 := HFL.out
      have HN1 := Lib.hid hN1
      have HN2 := Lib.hid hN2
      clear hW
      by_cases h1 : i < B.length
      · by_cases h2 : i < 100
        · rcases HBS.out.1 with h0 | ⟨b, off, rfl, hc⟩
          · rw [h0] at h1; exact absurd h1 (Nat.not_lt_zero _)
          have cx := cell_then HW.out (Nat.le_refl _) (hc i h1)
          obtain ⟨p, hp⟩ : ∃ p, p = B[i] := ⟨_, rfl⟩
          rw [← hp] at cx
          unfold Part.v at cx
          obtain ⟨M, hM⟩ : ∃ M : Nat, M = min p.l.length 20001 := ⟨_, rfl⟩
          have hm : min (p.l.length : Int) 20001 = (M : Int) := by omega
          have HM : Hid (M ≤ 20001) := Lib.hid (by omega)
          have HX : Hid (f.length ≤ N + M ∧ N + M ≤ f.length + 20001 * (i + 1)) := Lib.hid (by omega)
          have hNM : N + M ≤ 140737490351332 := by omega
          have e1 : (i : Int) < (B.length : Int) := by omega
          have e2 : (i : Int) < 100 := by omega
          clear hc hp hM hN1 hN2 hfl2
          go_wp2
          go_roundw
          case rel => exact ⟨i + 1, N + M, by omega, by omega, by go_num, by go_num, HX.out.1, HX.out.2, HW.out⟩
          case measure => simp [intOf]; omega
        · have e1 : (i : Int) < (B.length : Int) := by omega
          have e2 : ¬ (i : Int) < 100 := by omega
          go_wp2
          go_meet
          exact ⟨i, N, rfl, rfl, HN1.out, HW.out⟩
      · have e1 : ¬ (i : Int) < (B.length : Int) := by omega
        go_wp2
        go_meet
        exact ⟨i, N, rfl, rfl, HN1.out, HW.out⟩
  case rest =>
    obtain ⟨i, N, rfl, rfl, hN, hW⟩ := hcut
    have HN := Lib.hid hN
    have HW := Lib.hid hW
    clear hN hW HB0
    by_cases g1 : 1000 < key.length
    · have t1 : 1000 < (key.length : Int) := (by omega)
      go_wp2_with (first
        | (go_at_call 39; (with_reducible refine (newAny1 ka _ kc key v wc rfl (sl_then HW.out (Nat.le_refl _) KS.out) K0.out KB2.out).mono ?_); rintro e w1 ⟨p1, c1, rfl, b1⟩; have HB1 := Lib.hid (below_then HW.out b1 HW.out.size); clear b1)
        | (go_at_call 39; (with_reducible refine (newAny2 ka _ kc key v w1 rfl (sl_then HB1.out (Nat.le_refl _) KS.out) K0.out KB2.out).mono ?_); rintro e w2 ⟨p2, c2, rfl, b2⟩; have HB2 := Lib.hid (below_then HB1.out b2 HB1.out.size); clear b2)
        | (go_at_call 37; (with_reducible refine (qfirst w2 (tabR_then HB2.out HT.out) (tabB_then HB2.out HB.out)).mono ?_); rintro e w9 ⟨rfl, b9⟩; have HB9 := Lib.hid (below_then HB2.out b9 HB2.out.size); clear b9))
      go_ret
      exact ⟨rfl, HB9.out⟩
    by_cases g2 : 100 < B.length
    · have t1 : ¬ 1000 < (key.length : Int) := (by omega); have t2 : 100 < (B.length : Int) := (by omega)
      go_wp2_with (first
        | (go_at_call 39; (with_reducible refine (newAny1 ka _ kc key v wc rfl (sl_then HW.out (Nat.le_refl _) KS.out) K0.out KB2.out).mono ?_); rintro e w1 ⟨p1, c1, rfl, b1⟩; have HB1 := Lib.hid (below_then HW.out b1 HW.out.size); clear b1)
        | (go_at_call 39; (with_reducible refine (newAny2 ka _ kc key v w1 rfl (sl_then HB1.out (Nat.le_refl _) KS.out) K0.out KB2.out).mono ?_); rintro e w2 ⟨p2, c2, rfl, b2⟩; have HB2 := Lib.hid (below_then HB1.out b2 HB1.out.size); clear b2)
        | (go_at_call 37; (with_reducible refine (qfirst w2 (tabR_then HB2.out HT.out) (tabB_then HB2.out HB.out)).mono ?_); rintro e w9 ⟨rfl, b9⟩; have HB9 := Lib.hid (below_then HB2.out b9 HB2.out.size); clear b9))
      go_ret
      exact ⟨rfl, HB9.out⟩
    by_cases g3 : 300 < P.length
    · have t1 : ¬ 1000 < (key.length : Int) := (by omega); have t2 : ¬ 100 < (B.length : Int) := (by omega); have t3 : 300 < (P.length : Int) := (by omega)
      go_wp2_with (first
        | (go_at_call 39; (with_reducible refine (newAny1 ka _ kc key v wc rfl (sl_then HW.out (Nat.le_refl _) KS.out) K0.out KB2.out).mono ?_); rintro e w1 ⟨p1, c1, rfl, b1⟩; have HB1 := Lib.hid (below_then HW.out b1 HW.out.size); clear b1)
        | (go_at_call 39; (with_reducible refine (newAny2 ka _ kc key v w1 rfl (sl_then HB1.out (Nat.le_refl _) KS.out) K0.out KB2.out).mono ?_); rintro e w2 ⟨p2, c2, rfl, b2⟩; have HB2 := Lib.hid (below_then HB1.out b2 HB1.out.size); clear b2)
        | (go_at_call 37; (with_reducible refine (qfirst w2 (tabR_then HB2.out HT.out) (tabB_then HB2.out HB.out)).mono ?_); rintro e w9 ⟨rfl, b9⟩; have HB9 := Lib.hid (below_then HB2.out b9 HB2.out.size); clear b9))
      go_ret
      exact ⟨rfl, HB9.out⟩
    by_cases g4 : 20000 < N
    · have t1 : ¬ 1000 < (key.length : Int) := (by omega); have t2 : ¬ 100 < (B.length : Int) := (by omega); have t3 : ¬ 300 < (P.length : Int) := (by omega); have t4 : 20000 < (N : Int) := (by omega)
      go_wp2_with (first
        | (go_at_call 39; (with_reducible refine (newAny1 ka _ kc key v wc rfl (sl_then HW.out (Nat.le_refl _) KS.out) K0.out KB2.out).mono ?_); rintro e w1 ⟨p1, c1, rfl, b1⟩; have HB1 := Lib.hid (below_then HW.out b1 HW.out.size); clear b1)
        | (go_at_call 39; (with_reducible refine (newAny2 ka _ kc key v w1 rfl (sl_then HB1.out (Nat.le_refl _) KS.out) K0.out KB2.out).mono ?_); rintro e w2 ⟨p2, c2, rfl, b2⟩; have HB2 := Lib.hid (below_then HB1.out b2 HB1.out.size); clear b2)
        | (go_at_call 37; (with_reducible refine (qfirst w2 (tabR_then HB2.out HT.out) (tabB_then HB2.out HB.out)).mono ?_); rintro e w9 ⟨rfl, b9⟩; have HB9 := Lib.hid (below_then HB2.out b9 HB2.out.size); clear b9))
      go_ret
      exact ⟨rfl, HB9.out⟩
    by_cases g5 : 0 ≤ v ∧ v < 8
    case neg =>
      have t1 : ¬ 1000 < (key.length : Int) := (by omega); have t2 : ¬ 100 < (B.length : Int) := (by omega); have t3 : ¬ 300 < (P.length : Int) := (by omega); have t4 : ¬ 20000 < (N : Int) := (by omega)
      go_wp2_with (first
        | (go_at_call 39; (with_reducible refine (newNo1 ka key.length kc v wc g5).mono ?_); rintro e w1 ⟨rfl, b1⟩; have HB1 := Lib.hid (below_then HW.out b1 HW.out.size); clear b1)
        | (go_at_call 39; (with_reducible refine (newNo2 ka key.length kc v w1 g5).mono ?_); rintro e w2 ⟨rfl, b2⟩; have HB2 := Lib.hid (below_then HB1.out b2 HB1.out.size); clear b2)
        | (go_at_call 37; (with_reducible refine (qfirst w2 (tabR_then HB2.out HT.out) (tabB_then HB2.out HB.out)).mono ?_); rintro e w9 ⟨rfl, b9⟩; have HB9 := Lib.hid (below_then HB2.out b9 HB2.out.size); clear b9))
      go_ret
      exact ⟨rfl, HB9.out⟩
    obtain ⟨V, rfl⟩ := Int.eq_ofNat_of_zero_le g5.1
    have H8 := Lib.hid (show V < 8 by omega)
    have K8 := Lib.hid (show key.length ≤ 800000 by omega)
    have HBL := Lib.hid (show B.length ≤ 100 by omega)
    have HPL := Lib.hid (show P.length ≤ 300 by omega)
    have HFL2 := Lib.hid (show f.length ≤ 20000 by have := HN.out; omega)
    have t1 : ¬ 1000 < (key.length : Int) := by omega
    have t2 : ¬ 100 < (B.length : Int) := by omega
    have t3 : ¬ 300 < (P.length : Int) := by omega
    have t4 : ¬ 20000 < (N : Int) := by omega
    have HG := Lib.hid (And.intro g1 (And.intro g2 (And.intro g3 g4)))
    clear g1 g2 g3 g4 g5 hfl
    go_wp2_with (first
      | (go_at_call 39; (with_reducible refine (newA ka _ kc key _ V wc rfl rfl (sl_then HW.out (Nat.le_refl _) KS.out) K0.out KB2.out H8.out).mono ?_); rintro e w1 ⟨xa, rfl, pA, la, ha, b1⟩; have PA := Lib.hid (And.intro pA (And.intro la (And.intro ha (below_then HW.out b1 HW.out.size)))); have LA := Lib.hid (Nat.le_trans HW.out.size la); clear pA la ha b1)
      | (go_at_call 39; (with_reducible refine (newB ka _ kc key _ V w1 rfl rfl (sl_then PA.out.2.2.2 (Nat.le_refl _) KS.out) K0.out KB2.out H8.out).mono ?_); rintro e w2 ⟨xb, rfl, pB, lb, hb, b2⟩; have HW2 := Lib.hid (show Two w xa xb (qa key V 5) (qb key V 0 (-1)) w2 from ⟨PA.out.1.then_ b2, pB, LA.out, Nat.le_trans PA.out.2.2.1 lb, hb, below_then PA.out.2.2.2 b2 PA.out.2.2.2.size⟩); clear pB lb hb b2))
    clear t1 t2 t3 t4
    have d1 : decide (1000 < (key.length : Int)) = false := decide_eq_false (by have := HG.out; omega)
    have d2 : decide (100 < (B.length : Int)) = false := decide_eq_false (by have := HG.out; omega)
    have d3 : decide (300 < (P.length : Int)) = false := decide_eq_false (by have := HG.out; omega)
    have d4 : decide (20000 < (N : Int)) = false := decide_eq_false (by have := HG.out; omega)
    simp only [d1, d2, d3, d4, Bool.or_self]
    clear d1 d2 d3 d4
    go_loopw [17, 18] (fun s17 s18 wr => ∃ (i : Nat) (ps : List (Option Addr × Nat × Nat)), i ≤ B.length ∧ ps.length = i ∧ s18 = .int .i64 (i : Int) ∧ Ya.Rs wr w2.heap.size s17 ps ∧ Ya.Dg wr key V B w2.heap.size ps ∧ Two w xa xb (qa key V (i + 5)) (qb key V 0 (-1)) wr ∧ w2.heap.size ≤ wr.heap.size ∧ ∀ j, j < i → (B.getD j ⟨none, 0, []⟩).l.length ≤ 1200) (fun _ s18 _ => B.length - (intOf s18).toNat)
    case atStart => exact ⟨0, [], Nat.zero_le _, rfl, rfl, Ya.rs_nil _ _, fun j hj => by simp at hj, HW2.out, Nat.le_refl _, fun j hj => absurd hj (Nat.not_lt_zero _)⟩
    case round =>
      obtain ⟨i, ps, hi, hpl, rfl, hR, hD, hW, hz, hS⟩ := hrel
      have HR := Lib.hid hR
      have HD := Lib.hid hD
      have HWr := Lib.hid hW
      have HZ := Lib.hid hz
      have HPS := Lib.hid hpl
      have HS := Lib.hid hS
      clear hR hD hW hz hpl hS
      by_cases hlt : i < B.length
      · obtain ⟨b, off, rfl, HX⟩ : ∃ b off, ba = some ⟨b, off, none⟩ ∧ Hid (∀ i, (h : i < B.length) → w.cell? ⟨b, off + i, none⟩ = some B[i].v) := by
          rcases HBS.out.1 with h0 | ⟨b, off, e, hc⟩
          · rw [h0] at hlt; exact absurd hlt (Nat.not_lt_zero _)
          · exact ⟨b, off, e, Lib.hid hc⟩
        obtain ⟨p, hp⟩ : ∃ p, p = B[i] := ⟨_, rfl⟩
        have HC0 : Hid (w.cell? ⟨b, off + i, none⟩ = some (.slice p.a p.l.length p.cap)) := Lib.hid (by rw [HX.out i hlt, ← hp]; rfl)
        have cx := cell_then HWr.out.bel (Nat.le_refl _) HC0.out
        have HPT : Hid (Pt wr p) := Lib.hid (pt_then (show Pt w p by rw [hp]; exact HBS.out.2 _ (List.getElem_mem hlt)) HWr.out.bel)
        have HPB : Hid (B.getD i ⟨none, 0, []⟩ = p) := Lib.hid (by rw [List.getD_eq_getElem?_getD, List.getElem?_eq_getElem hlt, hp]; rfl)
        have HLT := Lib.hid hlt
        have e1 : (i : Int) < (B.length : Int) := by omega
        clear hp
        by_cases hl : p.l.length ≤ 1200
        · have HL := Lib.hid hl
          have e2 : (p.l.length : Int) ≤ 1200 := by omega
          have e3 : decide ((p.l.length : Int) ≤ 1200) = true := decide_eq_true e2
          obtain ⟨n, hn⟩ : ∃ n, n = (msg key V B i).length := ⟨_, rfl⟩
          have HNN := Lib.hid hn
          clear hl hn
          go_wp2_with (first
            | (go_at_call 41; (with_reducible refine (sendI xa key V i n p B wr HNN.out KL.out K8.out H8.out HLT.out HBL.out HPB.out HL.out HWr.out.px HPT.out (HWr.out.tabR HT.out) (HWr.out.tabB HB.out)).mono ?_); rintro e w3 ⟨db, dc, rfl, q1, q2, q3⟩; have H3 := Lib.hid (HWr.out.setX q3 q2); have hs3 := q3.size; have hfar : ∀ k, k < wr.heap.size → w2.heap.size ≤ k → w3.heap[k]? = wr.heap[k]? := (fun k h1 h2 => q3.block k h1 (.inr (Nat.le_trans (Nat.le_trans HW2.out.xy (Nat.le_trans (Pl.le HW2.out.py) HW2.out.yw)) h2))); have HR3 := Lib.hid (Ya.rs_far HR.out hfar); have HD3 := Lib.hid (show Ya.Dg w3 key V B w2.heap.size ps from fun j hj => Pv.rb_far (HD.out j hj) (fun k h1 h2 _ => hfar k h1 h2)); have HN3 := Lib.hid (rb_base q1 HZ.out); have HZ3 := Lib.hid (Nat.le_trans HZ.out hs3); have cy := cell_then H3.out.bel (Nat.le_refl _) HC0.out; clear q1 q2 q3 hs3 hfar)
            | (at_builtin; refine Ya.app_rs rfl _ _ rfl w2.heap.size _ ps rfl (Ya.rs_far HR3.out (fun k h1 _ => Below.heap_alloc _ _ _ h1)) w3.heap.size (db, n, dc) rfl (by rw [cell_of_row _ w3.heap.size 0 _ 22 (0, 0) (heap_alloc_last w3 _)]; rfl) (by have := HPS.out; have := HBL.out; omega) (by have := HZ3.out; simp; omega) ?_; intro v5 w5 o5 g5; have h4 := Two.alloc H3.out (.cells #[.slice db n dc] 22); have r4 := Ya.rs_far HR3.out (w' := w3.alloc (.cells #[.slice db n dc] 22)) (fun k h1 _ => Below.heap_alloc _ _ _ h1); have H5 := Lib.hid (show Two w xa xb (qa key V (i + 1 + 5)) (qb key V 0 (-1)) w5 from by
                have hlow : Bt w2.heap.size (w3.heap.size + 1) (w3.alloc (.cells #[.slice db n dc] 22)) w5 := ⟨g5.os, g5.tape, g5.output, g5.size, fun k hk hx => g5.block k hk (fun e => by have := r4.lt k e.symm; simp at hk; omega)⟩
                have hyw := HW2.out.yw
                have hxy := HW2.out.xy
                have hyl := Pl.le HW2.out.py
                exact ⟨h4.px.apart hlow (.inl (by omega)), h4.py.apart hlow (.inl (by omega)), h4.lx, h4.xy, Nat.le_trans h4.yw g5.size, hlow.below h4.bel (by have := HW2.out.bel.size; omega) h4.bel.size⟩); have HD5 := Lib.hid (show Ya.Dg w5 key V B w2.heap.size (ps ++ [(db, n, dc)]) from Ya.dg_snoc (fun j hj => Ya.rb_grown r4 (rb_alloc (HD3.out j hj) _) g5) (Ya.rb_grown r4 (rb_alloc (show Rb w3 w2.heap.size (Ya.dv (db, n, dc)) (msg key V B ps.length) by rw [HPS.out]; exact HN3.out) _) g5)); have HR5 := Lib.hid o5; have HZ5 := Lib.hid (show w2.heap.size ≤ w5.heap.size from Nat.le_trans HZ3.out (Nat.le_trans (by simp) g5.size)); clear o5 g5 h4 r4))
          go_roundw
          case rel => exact ⟨i + 1, ps ++ [(db, n, dc)], HLT.out, by have := HPS.out; simp; omega, by go_num, HR5.out, HD5.out, H5.out, HZ5.out, fun j hj => by
            by_cases hj2 : j < i
            · exact HS.out j hj2
            · obtain rfl : j = i := by omega
              rw [HPB.out]; exact HL.out⟩
          case measure => simp [intOf]; omega
        · have HL := Lib.hid (show 1200 < p.l.length by omega)
          have HI1 : Hid (i ≤ 100) := Lib.hid (by have := HBL.out; omega)
          have e2 : ¬ (p.l.length : Int) ≤ 1200 := by omega
          have e3 : decide ((p.l.length : Int) ≤ 1200) = false := decide_eq_false e2
          clear hl
          go_wp2_with (first
            | (go_at_call 41; (with_reducible refine (sendNo xa key V i p wr HI1.out HL.out HWr.out.px).mono ?_); rintro e w3 ⟨rfl, rfl⟩)
            | (go_at_call 37; (with_reducible refine (qfirst wr (HWr.out.tabR HT.out) (HWr.out.tabB HB.out)).mono ?_); rintro e w9 ⟨rfl, b9⟩; have HB9 := Lib.hid (below_then HWr.out.bel b9 HWr.out.bel.size); clear b9))
          go_ret
          exact ⟨rfl, HB9.out⟩
      · obtain rfl : i = B.length := Nat.le_antisymm hi (Nat.not_lt.1 hlt)
        obtain ⟨la, lc, rfl⟩ : ∃ la lc, u17 = .slice la B.length lc := by
          rcases HR.out.2 with ⟨e, h0⟩ | ⟨g, cap, cur, e, _⟩
          · exact ⟨none, 0, by rw [e, ← HPS.out, h0]⟩
          · exact ⟨_, cap, by rw [e, HPS.out]⟩
        have HDW := Lib.hid (dw_of HPS.out HR.out HD.out)
        generalize (fun o => (ps.getD o (none, 0, 0)).1) = A at *
        generalize (fun o => (ps.getD o (none, 0, 0)).2.2) = C at *
        have HYW := Lib.hid (show xb.hi ≤ w2.heap.size from HW2.out.yw)
        clear HR HD hlt hi HPS HW2
        have hxx : ¬ (B.length : Int) < (B.length : Int) := by omega
        go_wp2
        obtain ⟨wo, rfl⟩ : ∃ wo : World, wo = wr := ⟨_, rfl⟩
        go_loopw [21, 22] (fun s21 s22 wr => ∃ (k lst : Nat) (L ad : Int), k ≤ P.length ∧ lst ≤ B.length ∧ Hid (L = (lst : Int) - 1) ∧ s22 = .int .i64 (k : Int) ∧ s21 = .int .i64 L ∧ Two w xa xb (qa key V (B.length + 5)) (qb key V (inN lst) ad) wr ∧ Ya.Dw wr key V B w2.heap.size la A C) (fun _ s22 _ => P.length - (intOf s22).toNat)
        case atStart => exact ⟨0, 0, -1, -1, Nat.zero_le _, Nat.zero_le _, Lib.hid rfl, rfl, rfl, HWr.out, HDW.out⟩
        case round =>
          clear HWr HDW HZ
          obtain ⟨k, lst, L, ad, hk, hls, HLS, rfl, rfl, hW, hD⟩ := hrel
          have HWr := Lib.hid hW
          have HD := Lib.hid hD
          have HLL := Lib.hid hls
          clear hW hD hls
          by_cases hlt : k < P.length
          · obtain ⟨pb, po, rfl, hpc⟩ := HP.out.at_ hlt
            have co := cell_then HWr.out.bel (Nat.le_refl _) (hpc k hlt)
            have HLT := Lib.hid hlt
            clear hpc
            generalize P[k] = o at *
            have HQB := Lib.hid (qb_ok KL.out K8.out V (inN lst) ad H8.out)
            have HFS := Lib.hid (sl_then HWr.out.bel (Nat.le_refl _) HF.out)
            have HFL3 := Lib.hid (show f.length ≤ 100000 by have := HFL2.out; omega)
            by_cases ho0 : o < 0
            · by_cases hq : TfOk (qb key V (inN lst) ad) f
              · obtain ⟨M, hM⟩ : ∃ M, f.length = M + 16 := ⟨f.length - 16, by have := hq.1; omega⟩
                obtain ⟨x1, y1, x2, y2, e1, e2, r1, r2⟩ := Ml.part_next (show Pt w ⟨fa, fc, f⟩ from ⟨HF.out, HF0.out, HFC.out, HFX.out⟩) M (show M ≤ f.length by omega)
                have HR1 := Lib.hid r1
                have HR2 := Lib.hid r2
                have HQ := Lib.hid hq
                have HM := Lib.hid hM
                have hM2 : (f.length : Int) - 16 = (M : Int) := by omega
                have hM3 : ¬ (M : Int) < 0 := by omega
                have hM5 : M ≤ 20000 := by have := HFL2.out; omega
                have HTG : Hid (f.drop M = tagL key (f.take M)) := Lib.hid (by
                  have e := hq.2.1
                  rw [show f.length - 16 = M by omega] at e
                  exact e.symm)
                have HTL : Hid (M = (f.take M).length) := Lib.hid (by rw [List.length_take]; omega)
                have HT8 : Hid ((f.take M).length ≤ 800000) := Lib.hid (by rw [List.length_take]; have := HFL2.out; omega)
                have HDL : Hid (f.length - M = (f.drop M).length) := Lib.hid (by rw [List.length_drop])
                have H16 : Hid (16 = (f.drop M).length) := Lib.hid (by rw [List.length_drop]; omega)
                have HDX : Hid (∀ c ∈ f.drop M, c < 256) := Lib.hid (fun c hc => HFX.out c (List.mem_of_mem_drop hc))
                clear hq hM r1 r2
                go_wp2_with (go_at_call 43; (with_reducible refine (takeFyes xb (qb key V (inN lst) ad) fa f.length fc M f wr HQ.out HM.out HWr.out.py HQB.out rfl HFL3.out HFC.out HFS.out HFX.out (HWr.out.tabR HT.out) (HWr.out.tabB HB.out)).mono ?_); rintro e w3 ⟨xb3, xc3, n3, rfl, h6, h7⟩; have HB3 := Lib.hid (h6.below HWr.out.bel (Nat.le_trans HWr.out.lx (Nat.le_trans (Pl.le HWr.out.px) HWr.out.xy)) HWr.out.bel.size); have HB4 : Hid (Below w.heap.size w w3.drew) := Lib.hid HB3.out.drew; clear h6)
                refine wp_region_held_drew (S := (fun _ => True)) (by kernel_rfl) ?_ (fun hHeld => ?_)
                · ((try dsimp only); (first | done | trivial))
                refine wpAnyH_take (i := 0) (oi := { dst := some 159, op := Op.move (Operand.tmp 26), type := 36, pos := _, after := #[], guard := none }) (v := ?_) rfl (by kernel_rfl) (by kernel_rfl) (by kernel_rfl) (fun _ _ _ h => h) (Or.inl ⟨by rfl, ?_⟩) (by assumption) ?_
                rotate_left
                · ((intro w hSw); (try dsimp only at hSw); go_simp; (try with_reducible rfl))
                try simp only [Act.put, List.setIfInBounds_toArray, List.set_cons_zero, List.set_cons_succ]
                refine wpAnyH_take (i := 1) (oi := { dst := some 160, op := Op.binOp BinOp.eql 36 (Operand.tmp 159) (Operand.const (Value.int IntKind.i64 0)) 36, type := 4, pos := _, after := #[{ on := 0, ground := Ground.data }], guard := none }) (v := ?_) rfl (by kernel_rfl) (by kernel_rfl) (by kernel_rfl) (fun _ _ _ h => h) (Or.inl ⟨by rfl, ?_⟩) (by assumption) ?_
                rotate_left
                · ((intro w hSw); (try dsimp only at hSw); go_simp; (try with_reducible rfl))
                try simp only [Act.put, List.setIfInBounds_toArray, List.set_cons_zero, List.set_cons_succ]
                refine wpAnyH_take (i := 2) (oi := { dst := some 161, op := Op.move (Operand.tmp 160), type := 4, pos := _, after := #[{ on := 1, ground := Ground.data }], guard := none }) (v := ?_) rfl (by kernel_rfl) (by kernel_rfl) (by kernel_rfl) (fun _ _ _ h => h) (Or.inl ⟨by rfl, ?_⟩) (by assumption) ?_
                rotate_left
                · ((intro w hSw); (try dsimp only at hSw); go_simp; (try with_reducible rfl))
                try simp only [Act.put, List.setIfInBounds_toArray, List.set_cons_zero, List.set_cons_succ]
                refine wpAnyH_take (i := 3) (oi := { dst := some 162, op := Op.move (Operand.tmp 24), type := 3, pos := _, after := #[{ on := 2, ground := Ground.guard }], guard := some (2, true) }) (v := ?_) rfl (by kernel_rfl) (by kernel_rfl) (by kernel_rfl) (fun _ _ _ h => h) (Or.inl ⟨by rfl, ?_⟩) (by assumption) ?_
                rotate_left
                · ((intro w hSw); (try dsimp only at hSw); go_simp; (try with_reducible rfl))
                try simp only [Act.put, List.setIfInBounds_toArray, List.set_cons_zero, List.set_cons_succ]
                refine wpAnyH_take (i := 4) (oi := { dst := some 163, op := Op.binOp BinOp.lss 3 (Operand.tmp 162) (Operand.const (Value.int IntKind.i64 0)) 3, type := 4, pos := _, after := #[{ on := 3, ground := Ground.data }, { on := 2, ground := Ground.guard }], guard := some (2, true) }) (v := ?_) rfl (by kernel_rfl) (by kernel_rfl) (by kernel_rfl) (fun _ _ _ h => h) (Or.inl ⟨by rfl, ?_⟩) (by assumption) ?_
                rotate_left
                · ((intro w hSw); (try dsimp only at hSw); go_simp; (try with_reducible rfl))
                try simp only [Act.put, List.setIfInBounds_toArray, List.set_cons_zero, List.set_cons_succ]
                refine wpAnyH_take (i := 5) (oi := { dst := some 164, op := Op.move (Operand.tmp 163), type := 4, pos := _, after := #[{ on := 4, ground := Ground.data }, { on := 2, ground := Ground.chain }, { on := 2, ground := Ground.guard }], guard := some (2, true) }) (v := ?_) rfl (by kernel_rfl) (by kernel_rfl) (by kernel_rfl) (fun _ _ _ h => h) (Or.inl ⟨by rfl, ?_⟩) (by assumption) ?_
                rotate_left
                · ((intro w hSw); (try dsimp only at hSw); go_simp; (try with_reducible rfl))
                try simp only [Act.put, List.setIfInBounds_toArray, List.set_cons_zero, List.set_cons_succ]
                refine wpAnyH_take (i := 6) (oi := { dst := some 165, op := Op.move (Operand.tmp 0), type := 22, pos := _, after := #[{ on := 5, ground := Ground.guard }], guard := some (5, false) }) (v := ?_) rfl (by kernel_rfl) (by kernel_rfl) (by kernel_rfl) (fun _ _ _ h => h) (Or.inl ⟨by rfl, ?_⟩) (by assumption) ?_
                rotate_left
                · ((intro w hSw); (try dsimp only at hSw); go_simp; (try with_reducible rfl))
                try simp only [Act.put, List.setIfInBounds_toArray, List.set_cons_zero, List.set_cons_succ]
                refine wpAnyH_take (i := 7) (oi := { dst := some 166, op := Op.move (Operand.tmp 4), type := 22, pos := _, after := #[{ on := 5, ground := Ground.guard }], guard := some (5, false) }) (v := ?_) rfl (by kernel_rfl) (by kernel_rfl) (by kernel_rfl) (fun _ _ _ h => h) (Or.inl ⟨by rfl, ?_⟩) (by assumption) ?_
                rotate_left
                · ((intro w hSw); (try dsimp only at hSw); go_simp; (try with_reducible rfl))
                try simp only [Act.put, List.setIfInBounds_toArray, List.set_cons_zero, List.set_cons_succ]
                refine wpAnyH_take (i := 8) (oi := { dst := some 167, op := Op.move (Operand.tmp 24), type := 3, pos := _, after := #[{ on := 5, ground := Ground.guard }], guard := some (5, false) }) (v := ?_) rfl (by kernel_rfl) (by kernel_rfl) (by kernel_rfl) (fun _ _ _ h => h) (Or.inl ⟨by rfl, ?_⟩) (by assumption) ?_
                rotate_left
                · ((intro w hSw); (try dsimp only at hSw); go_simp; (try with_reducible rfl))
                try simp only [Act.put, List.setIfInBounds_toArray, List.set_cons_zero, List.set_cons_succ]
                refine wpAnyH_take (i := 9) (oi := { dst := some 168, op := Op.slice 22 (Operand.tmp 166) none (some (Operand.tmp 167)) none, type := 22, pos := _, after := #[{ on := 7, ground := Ground.data }, { on := 8, ground := Ground.data }, { on := 5, ground := Ground.guard }], guard := some (5, false) }) (v := ?_) rfl (by kernel_rfl) (by kernel_rfl) (by kernel_rfl) (fun _ _ _ h => h) (Or.inl ⟨by rfl, ?_⟩) (by assumption) ?_
                rotate_left
                · ((intro w hSw); (try dsimp only at hSw); go_simp; (try with_reducible rfl))
                try simp only [Act.put, List.setIfInBounds_toArray, List.set_cons_zero, List.set_cons_succ]
                refine wpAnyH_take (i := 11) (oi := { dst := some 170, op := Op.move (Operand.tmp 4), type := 22, pos := _, after := #[{ on := 5, ground := Ground.guard }], guard := some (5, false) }) (v := ?_) rfl (by kernel_rfl) (by kernel_rfl) (by kernel_rfl) (fun _ _ _ h => h) (Or.inl ⟨by rfl, ?_⟩) (by assumption) ?_
                rotate_left
                · ((intro w hSw); (try dsimp only at hSw); go_simp; (try with_reducible rfl))
                try simp only [Act.put, List.setIfInBounds_toArray, List.set_cons_zero, List.set_cons_succ]
                refine wpAnyH_take (i := 12) (oi := { dst := some 171, op := Op.move (Operand.tmp 24), type := 3, pos := _, after := #[{ on := 5, ground := Ground.guard }], guard := some (5, false) }) (v := ?_) rfl (by kernel_rfl) (by kernel_rfl) (by kernel_rfl) (fun _ _ _ h => h) (Or.inl ⟨by rfl, ?_⟩) (by assumption) ?_
                rotate_left
                · ((intro w hSw); (try dsimp only at hSw); go_simp; (try with_reducible rfl))
                try simp only [Act.put, List.setIfInBounds_toArray, List.set_cons_zero, List.set_cons_succ]
                refine wpAnyH_take (i := 13) (oi := { dst := some 172, op := Op.slice 22 (Operand.tmp 170) (some (Operand.tmp 171)) none none, type := 22, pos := _, after := #[{ on := 11, ground := Ground.data }, { on := 12, ground := Ground.data }, { on := 5, ground := Ground.guard }], guard := some (5, false) }) (v := ?_) rfl (by kernel_rfl) (by kernel_rfl) (by kernel_rfl) (fun _ _ _ h => h) (Or.inl ⟨by rfl, ?_⟩) (by assumption) ?_
                rotate_left
                · ((intro w hSw); (try dsimp only at hSw); go_simp; (try with_reducible rfl))
                try simp only [Act.put, List.setIfInBounds_toArray, List.set_cons_zero, List.set_cons_succ]
                refine wpAnyH_ready (rs := [10]) (by kernel_rfl) (by simp) ?_
                refine (AllReadyH.cons (o := { dst := some 169, op := Op.call { callee := Callee.value (Operand.func 21), args := #[Operand.tmp 165, Operand.tmp 168], argTypes := #[22, 22] }, type := 22, pos := _, after := #[{ on := 6, ground := Ground.data }, { on := 9, ground := Ground.data }, { on := 5, ground := Ground.chain }, { on := 5, ground := Ground.guard }], guard := some (5, false) }) rfl (fun K hK => ?_) AllReadyH.nil)
                go_simp
                (with_reducible refine (dtagN ka kc key x1 y1 M (f.take M) (f.drop M) _ HTG.out HTL.out (sl_then HB4.out (Nat.le_refl _) KS.out) K0.out KC.out KL.out K8.out (pt_then HR1.out HB4.out) HT8.out).mono ?_); rintro e w5 ⟨hb, ho, hc, rfl, q1, q2⟩; have HT5 := Lib.hid q1; have HB5 := Lib.hid (below_then HB4.out q2 HB4.out.size); clear q1 q2
                go_wp2_with fail
                refine hK.out _ _ ?_ (fun hHeld => ?_)
                · ((try dsimp only); (first | done | trivial))
                clear hK K
                try simp only [Act.put, List.setIfInBounds_toArray, List.set_cons_zero, List.set_cons_succ]
                refine wpAnyH_ready (rs := [14]) (by kernel_rfl) (by simp) ?_
                refine (AllReadyH.cons (o := { dst := some 173, op := Op.call { callee := Callee.value (Operand.func 15), args := #[Operand.tmp 169, Operand.tmp 172], argTypes := #[22, 22] }, type := 4, pos := _, after := #[{ on := 10, ground := Ground.data }, { on := 13, ground := Ground.data }, { on := 10, ground := Ground.chain }, { on := 5, ground := Ground.guard }], guard := some (5, false) }) rfl (fun K hK => ?_) AllReadyH.nil)
                go_simp
                (with_reducible refine (bytesD _ x2 hc y2 16 (f.length - M) (f.drop M) (f.drop M) w5 true H16.out HDL.out (Ml.sl_of HT5.out) (pt_sl (pt_then HR2.out HB5.out)) HDX.out HDX.out (decide_eq_true rfl).symm).mono ?_); rintro e w' ⟨rfl, rfl⟩
                go_wp2_with fail
                refine hK.out _ _ ?_ (fun hHeld => ?_)
                · ((try dsimp only); (first | done | trivial))
                clear hK K
                try simp only [Act.put, List.setIfInBounds_toArray, List.set_cons_zero, List.set_cons_succ]
                refine wpAnyH_take (i := 15) (oi := { dst := some 174, op := Op.unOp UnOp.not 4 (Operand.tmp 173), type := 4, pos := _, after := #[{ on := 14, ground := Ground.data }, { on := 5, ground := Ground.guard }], guard := some (5, false) }) (v := ?_) rfl (by kernel_rfl) (by kernel_rfl) (by kernel_rfl) (fun _ _ _ h => h) (Or.inl ⟨by rfl, ?_⟩) (by assumption) ?_
                rotate_left
                · ((intro w hSw); (try dsimp only at hSw); go_simp; (try with_reducible rfl))
                try simp only [Act.put, List.setIfInBounds_toArray, List.set_cons_zero, List.set_cons_succ]
                refine wpAnyH_take (i := 16) (oi := { dst := some 175, op := Op.pick (Operand.tmp 164) (Operand.const (Value.bool true)) (Operand.tmp 174), type := 4, pos := _, after := #[{ on := 5, ground := Ground.data }, { on := 15, ground := Ground.data }, { on := 2, ground := Ground.guard }], guard := some (2, true) }) (v := ?_) rfl (by kernel_rfl) (by kernel_rfl) (by kernel_rfl) (fun _ _ _ h => h) (Or.inl ⟨by rfl, ?_⟩) (by assumption) ?_
                rotate_left
                · ((intro w hSw); (try dsimp only at hSw); go_simp; (try with_reducible rfl))
                try simp only [Act.put, List.setIfInBounds_toArray, List.set_cons_zero, List.set_cons_succ]
                refine wpAnyH_take (i := 17) (oi := { dst := some 176, op := Op.pick (Operand.tmp 161) (Operand.tmp 175) (Operand.const (Value.bool false)), type := 4, pos := _, after := #[{ on := 2, ground := Ground.data }, { on := 16, ground := Ground.data }], guard := none }) (v := ?_) rfl (by kernel_rfl) (by kernel_rfl) (by kernel_rfl) (fun _ _ _ h => h) (Or.inl ⟨by rfl, ?_⟩) (by assumption) ?_
                rotate_left
                · ((intro w hSw); (try dsimp only at hSw); go_simp; (try with_reducible rfl))
                try simp only [Act.put, List.setIfInBounds_toArray, List.set_cons_zero, List.set_cons_succ]
                refine wpAnyH_done (by kernel_rfl) ?_ _
                go_wp2_with (go_at_call 37; (with_reducible refine (qfirst w5 (tabR_then HB5.out HT.out) (tabB_then HB5.out HB.out)).mono ?_); rintro e w9 ⟨rfl, b9⟩; have HB9 := Lib.hid (below_then HB5.out b9 HB5.out.size); clear b9)
                go_ret
                exact ⟨rfl, HB9.out⟩
              · have HQ := Lib.hid hq
                have hfl4 : f.length ≤ 20000 := HFL2.out
                clear hq
                go_wp2_with (go_at_call 43; (with_reducible refine (takeFno xb (qb key V (inN lst) ad) fa f.length fc f wr HQ.out HWr.out.py HQB.out rfl HFL3.out HFC.out HFS.out HFX.out (HWr.out.tabR HT.out) (HWr.out.tabB HB.out)).mono ?_); rintro e w3 ⟨E, hE, rfl, b3⟩; have H3 := Lib.hid (show Two w xa xb (qa key V (B.length + 5)) (qb key V (inN lst) ad) w3.drew from (HWr.out.then_ b3).then_ (Below.refl _ w3).drew); have HD3 := Lib.hid (show Ya.Dw w3.drew key V B w2.heap.size la A C from (HD.out.then_ b3).then_ (Below.refl _ w3).drew); clear b3)
                refine wp_region_held_drew (S := (fun _ => True)) (by kernel_rfl) ?_ (fun hHeld => ?_)
                · ((try dsimp only); (first | done | trivial))
                refine wpAnyH_take (i := 0) (oi := { dst := some 159, op := Op.move (Operand.tmp 26), type := 36, pos := _, after := #[], guard := none }) (v := ?_) rfl (by kernel_rfl) (by kernel_rfl) (by kernel_rfl) (fun _ _ _ h => h) (Or.inl ⟨by rfl, ?_⟩) (by assumption) ?_
                rotate_left
                · ((intro w hSw); (try dsimp only at hSw); go_simp; (try with_reducible rfl))
                try simp only [Act.put, List.setIfInBounds_toArray, List.set_cons_zero, List.set_cons_succ]
                refine wpAnyH_take (i := 1) (oi := { dst := some 160, op := Op.binOp BinOp.eql 36 (Operand.tmp 159) (Operand.const (Value.int IntKind.i64 0)) 36, type := 4, pos := _, after := #[{ on := 0, ground := Ground.data }], guard := none }) (v := ?_) rfl (by kernel_rfl) (by kernel_rfl) (by kernel_rfl) (fun _ _ _ h => h) (Or.inl ⟨by rfl, ?_⟩) (by assumption) ?_
                rotate_left
                · ((intro w hSw); (try dsimp only at hSw); go_simp; (try with_reducible rfl))
                try simp only [Act.put, List.setIfInBounds_toArray, List.set_cons_zero, List.set_cons_succ]
                refine wpAnyH_take (i := 2) (oi := { dst := some 161, op := Op.move (Operand.tmp 160), type := 4, pos := _, after := #[{ on := 1, ground := Ground.data }], guard := none }) (v := ?_) rfl (by kernel_rfl) (by kernel_rfl) (by kernel_rfl) (fun _ _ _ h => h) (Or.inl ⟨by rfl, ?_⟩) (by assumption) ?_
                rotate_left
                · ((intro w hSw); (try dsimp only at hSw); go_simp; (try with_reducible rfl))
                try simp only [Act.put, List.setIfInBounds_toArray, List.set_cons_zero, List.set_cons_succ]
                refine wpAnyH_take (i := 3) (oi := { dst := some 162, op := Op.move (Operand.tmp 24), type := 3, pos := _, after := #[{ on := 2, ground := Ground.guard }], guard := some (2, true) }) (v := undef) rfl (by kernel_rfl) (by kernel_rfl) (by kernel_rfl) (fun _ _ _ h => h) (Or.inr ⟨by rfl, rfl⟩) (by assumption) ?_
                try simp only [Act.put, List.setIfInBounds_toArray, List.set_cons_zero, List.set_cons_succ]
                refine wpAnyH_take (i := 4) (oi := { dst := some 163, op := Op.binOp BinOp.lss 3 (Operand.tmp 162) (Operand.const (Value.int IntKind.i64 0)) 3, type := 4, pos := _, after := #[{ on := 3, ground := Ground.data }, { on := 2, ground := Ground.guard }], guard := some (2, true) }) (v := undef) rfl (by kernel_rfl) (by kernel_rfl) (by kernel_rfl) (fun _ _ _ h => h) (Or.inr ⟨by rfl, rfl⟩) (by assumption) ?_
                try simp only [Act.put, List.setIfInBounds_toArray, List.set_cons_zero, List.set_cons_succ]
                refine wpAnyH_take (i := 5) (oi := { dst := some 164, op := Op.move (Operand.tmp 163), type := 4, pos := _, after := #[{ on := 4, ground := Ground.data }, { on := 2, ground := Ground.chain }, { on := 2, ground := Ground.guard }], guard := some (2, true) }) (v := undef) rfl (by kernel_rfl) (by kernel_rfl) (by kernel_rfl) (fun _ _ _ h => h) (Or.inr ⟨by rfl, rfl⟩) (by assumption) ?_
                try simp only [Act.put, List.setIfInBounds_toArray, List.set_cons_zero, List.set_cons_succ]
                refine wpAnyH_take (i := 6) (oi := { dst := some 165, op := Op.move (Operand.tmp 0), type := 22, pos := _, after := #[{ on := 5, ground := Ground.guard }], guard := some (5, false) }) (v := undef) rfl (by kernel_rfl) (by kernel_rfl) (by kernel_rfl) (fun _ _ _ h => h) (Or.inr ⟨by rfl, rfl⟩) (by assumption) ?_
                try simp only [Act.put, List.setIfInBounds_toArray, List.set_cons_zero, List.set_cons_succ]
                refine wpAnyH_take (i := 7) (oi := { dst := some 166, op := Op.move (Operand.tmp 4), type := 22, pos := _, after := #[{ on := 5, ground := Ground.guard }], guard := some (5, false) }) (v := undef) rfl (by kernel_rfl) (by kernel_rfl) (by kernel_rfl) (fun _ _ _ h => h) (Or.inr ⟨by rfl, rfl⟩) (by assumption) ?_
                try simp only [Act.put, List.setIfInBounds_toArray, List.set_cons_zero, List.set_cons_succ]
                refine wpAnyH_take (i := 8) (oi := { dst := some 167, op := Op.move (Operand.tmp 24), type := 3, pos := _, after := #[{ on := 5, ground := Ground.guard }], guard := some (5, false) }) (v := undef) rfl (by kernel_rfl) (by kernel_rfl) (by kernel_rfl) (fun _ _ _ h => h) (Or.inr ⟨by rfl, rfl⟩) (by assumption) ?_
                try simp only [Act.put, List.setIfInBounds_toArray, List.set_cons_zero, List.set_cons_succ]
                refine wpAnyH_take (i := 9) (oi := { dst := some 168, op := Op.slice 22 (Operand.tmp 166) none (some (Operand.tmp 167)) none, type := 22, pos := _, after := #[{ on := 7, ground := Ground.data }, { on := 8, ground := Ground.data }, { on := 5, ground := Ground.guard }], guard := some (5, false) }) (v := undef) rfl (by kernel_rfl) (by kernel_rfl) (by kernel_rfl) (fun _ _ _ h => h) (Or.inr ⟨by rfl, rfl⟩) (by assumption) ?_
                try simp only [Act.put, List.setIfInBounds_toArray, List.set_cons_zero, List.set_cons_succ]
                refine wpAnyH_take (i := 10) (oi := { dst := some 169, op := Op.call { callee := Callee.value (Operand.func 21), args := #[Operand.tmp 165, Operand.tmp 168], argTypes := #[22, 22] }, type := 22, pos := _, after := #[{ on := 6, ground := Ground.data }, { on := 9, ground := Ground.data }, { on := 5, ground := Ground.chain }, { on := 5, ground := Ground.guard }], guard := some (5, false) }) (v := undef) rfl (by kernel_rfl) (by kernel_rfl) (by kernel_rfl) (fun _ _ _ h => h) (Or.inr ⟨by rfl, rfl⟩) (by assumption) ?_
                try simp only [Act.put, List.setIfInBounds_toArray, List.set_cons_zero, List.set_cons_succ]
                refine wpAnyH_take (i := 11) (oi := { dst := some 170, op := Op.move (Operand.tmp 4), type := 22, pos := _, after := #[{ on := 5, ground := Ground.guard }], guard := some (5, false) }) (v := undef) rfl (by kernel_rfl) (by kernel_rfl) (by kernel_rfl) (fun _ _ _ h => h) (Or.inr ⟨by rfl, rfl⟩) (by assumption) ?_
                try simp only [Act.put, List.setIfInBounds_toArray, List.set_cons_zero, List.set_cons_succ]
                refine wpAnyH_take (i := 12) (oi := { dst := some 171, op := Op.move (Operand.tmp 24), type := 3, pos := _, after := #[{ on := 5, ground := Ground.guard }], guard := some (5, false) }) (v := undef) rfl (by kernel_rfl) (by kernel_rfl) (by kernel_rfl) (fun _ _ _ h => h) (Or.inr ⟨by rfl, rfl⟩) (by assumption) ?_
                try simp only [Act.put, List.setIfInBounds_toArray, List.set_cons_zero, List.set_cons_succ]
                refine wpAnyH_take (i := 13) (oi := { dst := some 172, op := Op.slice 22 (Operand.tmp 170) (some (Operand.tmp 171)) none none, type := 22, pos := _, after := #[{ on := 11, ground := Ground.data }, { on := 12, ground := Ground.data }, { on := 5, ground := Ground.guard }], guard := some (5, false) }) (v := undef) rfl (by kernel_rfl) (by kernel_rfl) (by kernel_rfl) (fun _ _ _ h => h) (Or.inr ⟨by rfl, rfl⟩) (by assumption) ?_
                try simp only [Act.put, List.setIfInBounds_toArray, List.set_cons_zero, List.set_cons_succ]
                refine wpAnyH_take (i := 14) (oi := { dst := some 173, op := Op.call { callee := Callee.value (Operand.func 15), args := #[Operand.tmp 169, Operand.tmp 172], argTypes := #[22, 22] }, type := 4, pos := _, after := #[{ on := 10, ground := Ground.data }, { on := 13, ground := Ground.data }, { on := 10, ground := Ground.chain }, { on := 5, ground := Ground.guard }], guard := some (5, false) }) (v := undef) rfl (by kernel_rfl) (by kernel_rfl) (by kernel_rfl) (fun _ _ _ h => h) (Or.inr ⟨by rfl, rfl⟩) (by assumption) ?_
                try simp only [Act.put, List.setIfInBounds_toArray, List.set_cons_zero, List.set_cons_succ]
                refine wpAnyH_take (i := 15) (oi := { dst := some 174, op := Op.unOp UnOp.not 4 (Operand.tmp 173), type := 4, pos := _, after := #[{ on := 14, ground := Ground.data }, { on := 5, ground := Ground.guard }], guard := some (5, false) }) (v := undef) rfl (by kernel_rfl) (by kernel_rfl) (by kernel_rfl) (fun _ _ _ h => h) (Or.inr ⟨by rfl, rfl⟩) (by assumption) ?_
                try simp only [Act.put, List.setIfInBounds_toArray, List.set_cons_zero, List.set_cons_succ]
                refine wpAnyH_take (i := 16) (oi := { dst := some 175, op := Op.pick (Operand.tmp 164) (Operand.const (Value.bool true)) (Operand.tmp 174), type := 4, pos := _, after := #[{ on := 5, ground := Ground.data }, { on := 15, ground := Ground.data }, { on := 2, ground := Ground.guard }], guard := some (2, true) }) (v := undef) rfl (by kernel_rfl) (by kernel_rfl) (by kernel_rfl) (fun _ _ _ h => h) (Or.inr ⟨by rfl, rfl⟩) (by assumption) ?_
                try simp only [Act.put, List.setIfInBounds_toArray, List.set_cons_zero, List.set_cons_succ]
                refine wpAnyH_take (i := 17) (oi := { dst := some 176, op := Op.pick (Operand.tmp 161) (Operand.tmp 175) (Operand.const (Value.bool false)), type := 4, pos := _, after := #[{ on := 2, ground := Ground.data }, { on := 16, ground := Ground.data }], guard := none }) (v := ?_) rfl (by kernel_rfl) (by kernel_rfl) (by kernel_rfl) (fun _ _ _ h => h) (Or.inl ⟨by rfl, ?_⟩) (by assumption) ?_
                rotate_left
                · ((intro w hSw); (try dsimp only at hSw); go_simp; (try with_reducible rfl))
                try simp only [Act.put, List.setIfInBounds_toArray, List.set_cons_zero, List.set_cons_succ]
                refine wpAnyH_done (by kernel_rfl) ?_ _
                go_wp2
                go_roundw
                case rel => exact ⟨k + 1, lst, L, ad, HLT.out, HLL.out, HLS, by go_num, rfl, H3.out, HD3.out⟩
                case measure => simp [intOf]; omega
            by_cases ho1 : (B.length : Int) ≤ o
            · by_cases hq : TfOk (qb key V (inN lst) ad) f
              · obtain ⟨M, hM⟩ : ∃ M, f.length = M + 16 := ⟨f.length - 16, by have := hq.1; omega⟩
                obtain ⟨x1, y1, x2, y2, e1, e2, r1, r2⟩ := Ml.part_next (show Pt w ⟨fa, fc, f⟩ from ⟨HF.out, HF0.out, HFC.out, HFX.out⟩) M (show M ≤ f.length by omega)
                have HR1 := Lib.hid r1
                have HR2 := Lib.hid r2
                have HQ := Lib.hid hq
                have HM := Lib.hid hM
                have hM2 : (f.length : Int) - 16 = (M : Int) := by omega
                have hM3 : ¬ (M : Int) < 0 := by omega
                have hM5 : M ≤ 20000 := by have := HFL2.out; omega
                have HTG : Hid (f.drop M = tagL key (f.take M)) := Lib.hid (by
                  have e := hq.2.1
                  rw [show f.length - 16 = M by omega] at e
                  exact e.symm)
                have HTL : Hid (M = (f.take M).length) := Lib.hid (by rw [List.length_take]; omega)
                have HT8 : Hid ((f.take M).length ≤ 800000) := Lib.hid (by rw [List.length_take]; have := HFL2.out; omega)
                have HDL : Hid (f.length - M = (f.drop M).length) := Lib.hid (by rw [List.length_drop])
                have H16 : Hid (16 = (f.drop M).length) := Lib.hid (by rw [List.length_drop]; omega)
                have HDX : Hid (∀ c ∈ f.drop M, c < 256) := Lib.hid (fun c hc => HFX.out c (List.mem_of_mem_drop hc))
                clear hq hM r1 r2
                go_wp2_with (go_at_call 43; (with_reducible refine (takeFyes xb (qb key V (inN lst) ad) fa f.length fc M f wr HQ.out HM.out HWr.out.py HQB.out rfl HFL3.out HFC.out HFS.out HFX.out (HWr.out.tabR HT.out) (HWr.out.tabB HB.out)).mono ?_); rintro e w3 ⟨xb3, xc3, n3, rfl, h6, h7⟩; have HB3 := Lib.hid (h6.below HWr.out.bel (Nat.le_trans HWr.out.lx (Nat.le_trans (Pl.le HWr.out.px) HWr.out.xy)) HWr.out.bel.size); have HB4 : Hid (Below w.heap.size w w3.drew) := Lib.hid HB3.out.drew; clear h6)
                refine wp_region_held_drew (S := (fun _ => True)) (by kernel_rfl) ?_ (fun hHeld => ?_)
                · ((try dsimp only); (first | done | trivial))
                refine wpAnyH_take (i := 0) (oi := { dst := some 159, op := Op.move (Operand.tmp 26), type := 36, pos := _, after := #[], guard := none }) (v := ?_) rfl (by kernel_rfl) (by kernel_rfl) (by kernel_rfl) (fun _ _ _ h => h) (Or.inl ⟨by rfl, ?_⟩) (by assumption) ?_
                rotate_left
                · ((intro w hSw); (try dsimp only at hSw); go_simp; (try with_reducible rfl))
                try simp only [Act.put, List.setIfInBounds_toArray, List.set_cons_zero, List.set_cons_succ]
                refine wpAnyH_take (i := 1) (oi := { dst := some 160, op := Op.binOp BinOp.eql 36 (Operand.tmp 159) (Operand.const (Value.int IntKind.i64 0)) 36, type := 4, pos := _, after := #[{ on := 0, ground := Ground.data }], guard := none }) (v := ?_) rfl (by kernel_rfl) (by kernel_rfl) (by kernel_rfl) (fun _ _ _ h => h) (Or.inl ⟨by rfl, ?_⟩) (by assumption) ?_
                rotate_left
                · ((intro w hSw); (try dsimp only at hSw); go_simp; (try with_reducible rfl))
                try simp only [Act.put, List.setIfInBounds_toArray, List.set_cons_zero, List.set_cons_succ]
                refine wpAnyH_take (i := 2) (oi := { dst := some 161, op := Op.move (Operand.tmp 160), type := 4, pos := _, after := #[{ on := 1, ground := Ground.data }], guard := none }) (v := ?_) rfl (by kernel_rfl) (by kernel_rfl) (by kernel_rfl) (fun _ _ _ h => h) (Or.inl ⟨by rfl, ?_⟩) (by assumption) ?_
                rotate_left
                · ((intro w hSw); (try dsimp only at hSw); go_simp; (try with_reducible rfl))
                try simp only [Act.put, List.setIfInBounds_toArray, List.set_cons_zero, List.set_cons_succ]
                refine wpAnyH_take (i := 3) (oi := { dst := some 162, op := Op.move (Operand.tmp 24), type := 3, pos := _, after := #[{ on := 2, ground := Ground.guard }], guard := some (2, true) }) (v := ?_) rfl (by kernel_rfl) (by kernel_rfl) (by kernel_rfl) (fun _ _ _ h => h) (Or.inl ⟨by rfl, ?_⟩) (by assumption) ?_
                rotate_left
                · ((intro w hSw); (try dsimp only at hSw); go_simp; (try with_reducible rfl))
                try simp only [Act.put, List.setIfInBounds_toArray, List.set_cons_zero, List.set_cons_succ]
                refine wpAnyH_take (i := 4) (oi := { dst := some 163, op := Op.binOp BinOp.lss 3 (Operand.tmp 162) (Operand.const (Value.int IntKind.i64 0)) 3, type := 4, pos := _, after := #[{ on := 3, ground := Ground.data }, { on := 2, ground := Ground.guard }], guard := some (2, true) }) (v := ?_) rfl (by kernel_rfl) (by kernel_rfl) (by kernel_rfl) (fun _ _ _ h => h) (Or.inl ⟨by rfl, ?_⟩) (by assumption) ?_
                rotate_left
                · ((intro w hSw); (try dsimp only at hSw); go_simp; (try with_reducible rfl))
                try simp only [Act.put, List.setIfInBounds_toArray, List.set_cons_zero, List.set_cons_succ]
                refine wpAnyH_take (i := 5) (oi := { dst := some 164, op := Op.move (Operand.tmp 163), type := 4, pos := _, after := #[{ on := 4, ground := Ground.data }, { on := 2, ground := Ground.chain }, { on := 2, ground := Ground.guard }], guard := some (2, true) }) (v := ?_) rfl (by kernel_rfl) (by kernel_rfl) (by kernel_rfl) (fun _ _ _ h => h) (Or.inl ⟨by rfl, ?_⟩) (by assumption) ?_
                rotate_left
                · ((intro w hSw); (try dsimp only at hSw); go_simp; (try with_reducible rfl))
                try simp only [Act.put, List.setIfInBounds_toArray, List.set_cons_zero, List.set_cons_succ]
                refine wpAnyH_take (i := 6) (oi := { dst := some 165, op := Op.move (Operand.tmp 0), type := 22, pos := _, after := #[{ on := 5, ground := Ground.guard }], guard := some (5, false) }) (v := ?_) rfl (by kernel_rfl) (by kernel_rfl) (by kernel_rfl) (fun _ _ _ h => h) (Or.inl ⟨by rfl, ?_⟩) (by assumption) ?_
                rotate_left
                · ((intro w hSw); (try dsimp only at hSw); go_simp; (try with_reducible rfl))
                try simp only [Act.put, List.setIfInBounds_toArray, List.set_cons_zero, List.set_cons_succ]
                refine wpAnyH_take (i := 7) (oi := { dst := some 166, op := Op.move (Operand.tmp 4), type := 22, pos := _, after := #[{ on := 5, ground := Ground.guard }], guard := some (5, false) }) (v := ?_) rfl (by kernel_rfl) (by kernel_rfl) (by kernel_rfl) (fun _ _ _ h => h) (Or.inl ⟨by rfl, ?_⟩) (by assumption) ?_
                rotate_left
                · ((intro w hSw); (try dsimp only at hSw); go_simp; (try with_reducible rfl))
                try simp only [Act.put, List.setIfInBounds_toArray, List.set_cons_zero, List.set_cons_succ]
                refine wpAnyH_take (i := 8) (oi := { dst := some 167, op := Op.move (Operand.tmp 24), type := 3, pos := _, after := #[{ on := 5, ground := Ground.guard }], guard := some (5, false) }) (v := ?_) rfl (by kernel_rfl) (by kernel_rfl) (by kernel_rfl) (fun _ _ _ h => h) (Or.inl ⟨by rfl, ?_⟩) (by assumption) ?_
                rotate_left
                · ((intro w hSw); (try dsimp only at hSw); go_simp; (try with_reducible rfl))
                try simp only [Act.put, List.setIfInBounds_toArray, List.set_cons_zero, List.set_cons_succ]
                refine wpAnyH_take (i := 9) (oi := { dst := some 168, op := Op.slice 22 (Operand.tmp 166) none (some (Operand.tmp 167)) none, type := 22, pos := _, after := #[{ on := 7, ground := Ground.data }, { on := 8, ground := Ground.data }, { on := 5, ground := Ground.guard }], guard := some (5, false) }) (v := ?_) rfl (by kernel_rfl) (by kernel_rfl) (by kernel_rfl) (fun _ _ _ h => h) (Or.inl ⟨by rfl, ?_⟩) (by assumption) ?_
                rotate_left
                · ((intro w hSw); (try dsimp only at hSw); go_simp; (try with_reducible rfl))
                try simp only [Act.put, List.setIfInBounds_toArray, List.set_cons_zero, List.set_cons_succ]
                refine wpAnyH_take (i := 11) (oi := { dst := some 170, op := Op.move (Operand.tmp 4), type := 22, pos := _, after := #[{ on := 5, ground := Ground.guard }], guard := some (5, false) }) (v := ?_) rfl (by kernel_rfl) (by kernel_rfl) (by kernel_rfl) (fun _ _ _ h => h) (Or.inl ⟨by rfl, ?_⟩) (by assumption) ?_
                rotate_left
                · ((intro w hSw); (try dsimp only at hSw); go_simp; (try with_reducible rfl))
                try simp only [Act.put, List.setIfInBounds_toArray, List.set_cons_zero, List.set_cons_succ]
                refine wpAnyH_take (i := 12) (oi := { dst := some 171, op := Op.move (Operand.tmp 24), type := 3, pos := _, after := #[{ on := 5, ground := Ground.guard }], guard := some (5, false) }) (v := ?_) rfl (by kernel_rfl) (by kernel_rfl) (by kernel_rfl) (fun _ _ _ h => h) (Or.inl ⟨by rfl, ?_⟩) (by assumption) ?_
                rotate_left
                · ((intro w hSw); (try dsimp only at hSw); go_simp; (try with_reducible rfl))
                try simp only [Act.put, List.setIfInBounds_toArray, List.set_cons_zero, List.set_cons_succ]
                refine wpAnyH_take (i := 13) (oi := { dst := some 172, op := Op.slice 22 (Operand.tmp 170) (some (Operand.tmp 171)) none none, type := 22, pos := _, after := #[{ on := 11, ground := Ground.data }, { on := 12, ground := Ground.data }, { on := 5, ground := Ground.guard }], guard := some (5, false) }) (v := ?_) rfl (by kernel_rfl) (by kernel_rfl) (by kernel_rfl) (fun _ _ _ h => h) (Or.inl ⟨by rfl, ?_⟩) (by assumption) ?_
                rotate_left
                · ((intro w hSw); (try dsimp only at hSw); go_simp; (try with_reducible rfl))
                try simp only [Act.put, List.setIfInBounds_toArray, List.set_cons_zero, List.set_cons_succ]
                refine wpAnyH_ready (rs := [10]) (by kernel_rfl) (by simp) ?_
                refine (AllReadyH.cons (o := { dst := some 169, op := Op.call { callee := Callee.value (Operand.func 21), args := #[Operand.tmp 165, Operand.tmp 168], argTypes := #[22, 22] }, type := 22, pos := _, after := #[{ on := 6, ground := Ground.data }, { on := 9, ground := Ground.data }, { on := 5, ground := Ground.chain }, { on := 5, ground := Ground.guard }], guard := some (5, false) }) rfl (fun K hK => ?_) AllReadyH.nil)
                go_simp
                (with_reducible refine (dtagN ka kc key x1 y1 M (f.take M) (f.drop M) _ HTG.out HTL.out (sl_then HB4.out (Nat.le_refl _) KS.out) K0.out KC.out KL.out K8.out (pt_then HR1.out HB4.out) HT8.out).mono ?_); rintro e w5 ⟨hb, ho, hc, rfl, q1, q2⟩; have HT5 := Lib.hid q1; have HB5 := Lib.hid (below_then HB4.out q2 HB4.out.size); clear q1 q2
                go_wp2_with fail
                refine hK.out _ _ ?_ (fun hHeld => ?_)
                · ((try dsimp only); (first | done | trivial))
                clear hK K
                try simp only [Act.put, List.setIfInBounds_toArray, List.set_cons_zero, List.set_cons_succ]
                refine wpAnyH_ready (rs := [14]) (by kernel_rfl) (by simp) ?_
                refine (AllReadyH.cons (o := { dst := some 173, op := Op.call { callee := Callee.value (Operand.func 15), args := #[Operand.tmp 169, Operand.tmp 172], argTypes := #[22, 22] }, type := 4, pos := _, after := #[{ on := 10, ground := Ground.data }, { on := 13, ground := Ground.data }, { on := 10, ground := Ground.chain }, { on := 5, ground := Ground.guard }], guard := some (5, false) }) rfl (fun K hK => ?_) AllReadyH.nil)
                go_simp
                (with_reducible refine (bytesD _ x2 hc y2 16 (f.length - M) (f.drop M) (f.drop M) w5 true H16.out HDL.out (Ml.sl_of HT5.out) (pt_sl (pt_then HR2.out HB5.out)) HDX.out HDX.out (decide_eq_true rfl).symm).mono ?_); rintro e w' ⟨rfl, rfl⟩
                go_wp2_with fail
                refine hK.out _ _ ?_ (fun hHeld => ?_)
                · ((try dsimp only); (first | done | trivial))
                clear hK K
                try simp only [Act.put, List.setIfInBounds_toArray, List.set_cons_zero, List.set_cons_succ]
                refine wpAnyH_take (i := 15) (oi := { dst := some 174, op := Op.unOp UnOp.not 4 (Operand.tmp 173), type := 4, pos := _, after := #[{ on := 14, ground := Ground.data }, { on := 5, ground := Ground.guard }], guard := some (5, false) }) (v := ?_) rfl (by kernel_rfl) (by kernel_rfl) (by kernel_rfl) (fun _ _ _ h => h) (Or.inl ⟨by rfl, ?_⟩) (by assumption) ?_
                rotate_left
                · ((intro w hSw); (try dsimp only at hSw); go_simp; (try with_reducible rfl))
                try simp only [Act.put, List.setIfInBounds_toArray, List.set_cons_zero, List.set_cons_succ]
                refine wpAnyH_take (i := 16) (oi := { dst := some 175, op := Op.pick (Operand.tmp 164) (Operand.const (Value.bool true)) (Operand.tmp 174), type := 4, pos := _, after := #[{ on := 5, ground := Ground.data }, { on := 15, ground := Ground.data }, { on := 2, ground := Ground.guard }], guard := some (2, true) }) (v := ?_) rfl (by kernel_rfl) (by kernel_rfl) (by kernel_rfl) (fun _ _ _ h => h) (Or.inl ⟨by rfl, ?_⟩) (by assumption) ?_
                rotate_left
                · ((intro w hSw); (try dsimp only at hSw); go_simp; (try with_reducible rfl))
                try simp only [Act.put, List.setIfInBounds_toArray, List.set_cons_zero, List.set_cons_succ]
                refine wpAnyH_take (i := 17) (oi := { dst := some 176, op := Op.pick (Operand.tmp 161) (Operand.tmp 175) (Operand.const (Value.bool false)), type := 4, pos := _, after := #[{ on := 2, ground := Ground.data }, { on := 16, ground := Ground.data }], guard := none }) (v := ?_) rfl (by kernel_rfl) (by kernel_rfl) (by kernel_rfl) (fun _ _ _ h => h) (Or.inl ⟨by rfl, ?_⟩) (by assumption) ?_
                rotate_left
                · ((intro w hSw); (try dsimp only at hSw); go_simp; (try with_reducible rfl))
                try simp only [Act.put, List.setIfInBounds_toArray, List.set_cons_zero, List.set_cons_succ]
                refine wpAnyH_done (by kernel_rfl) ?_ _
                go_wp2_with (go_at_call 37; (with_reducible refine (qfirst w5 (tabR_then HB5.out HT.out) (tabB_then HB5.out HB.out)).mono ?_); rintro e w9 ⟨rfl, b9⟩; have HB9 := Lib.hid (below_then HB5.out b9 HB5.out.size); clear b9)
                go_ret
                exact ⟨rfl, HB9.out⟩
              · have HQ := Lib.hid hq
                have hfl4 : f.length ≤ 20000 := HFL2.out
                clear hq
                go_wp2_with (go_at_call 43; (with_reducible refine (takeFno xb (qb key V (inN lst) ad) fa f.length fc f wr HQ.out HWr.out.py HQB.out rfl HFL3.out HFC.out HFS.out HFX.out (HWr.out.tabR HT.out) (HWr.out.tabB HB.out)).mono ?_); rintro e w3 ⟨E, hE, rfl, b3⟩; have H3 := Lib.hid (show Two w xa xb (qa key V (B.length + 5)) (qb key V (inN lst) ad) w3.drew from (HWr.out.then_ b3).then_ (Below.refl _ w3).drew); have HD3 := Lib.hid (show Ya.Dw w3.drew key V B w2.heap.size la A C from (HD.out.then_ b3).then_ (Below.refl _ w3).drew); clear b3)
                refine wp_region_held_drew (S := (fun _ => True)) (by kernel_rfl) ?_ (fun hHeld => ?_)
                · ((try dsimp only); (first | done | trivial))
                refine wpAnyH_take (i := 0) (oi := { dst := some 159, op := Op.move (Operand.tmp 26), type := 36, pos := _, after := #[], guard := none }) (v := ?_) rfl (by kernel_rfl) (by kernel_rfl) (by kernel_rfl) (fun _ _ _ h => h) (Or.inl ⟨by rfl, ?_⟩) (by assumption) ?_
                rotate_left
                · ((intro w hSw); (try dsimp only at hSw); go_simp; (try with_reducible rfl))
                try simp only [Act.put, List.setIfInBounds_toArray, List.set_cons_zero, List.set_cons_succ]
                refine wpAnyH_take (i := 1) (oi := { dst := some 160, op := Op.binOp BinOp.eql 36 (Operand.tmp 159) (Operand.const (Value.int IntKind.i64 0)) 36, type := 4, pos := _, after := #[{ on := 0, ground := Ground.data }], guard := none }) (v := ?_) rfl (by kernel_rfl) (by kernel_rfl) (by kernel_rfl) (fun _ _ _ h => h) (Or.inl ⟨by rfl, ?_⟩) (by assumption) ?_
                rotate_left
                · ((intro w hSw); (try dsimp only at hSw); go_simp; (try with_reducible rfl))
                try simp only [Act.put, List.setIfInBounds_toArray, List.set_cons_zero, List.set_cons_succ]
                refine wpAnyH_take (i := 2) (oi := { dst := some 161, op := Op.move (Operand.tmp 160), type := 4, pos := _, after := #[{ on := 1, ground := Ground.data }], guard := none }) (v := ?_) rfl (by kernel_rfl) (by kernel_rfl) (by kernel_rfl) (fun _ _ _ h => h) (Or.inl ⟨by rfl, ?_⟩) (by assumption) ?_
                rotate_left
                · ((intro w hSw); (try dsimp only at hSw); go_simp; (try with_reducible rfl))
                try simp only [Act.put, List.setIfInBounds_toArray, List.set_cons_zero, List.set_cons_succ]
                refine wpAnyH_take (i := 3) (oi := { dst := some 162, op := Op.move (Operand.tmp 24), type := 3, pos := _, after := #[{ on := 2, ground := Ground.guard }], guard := some (2, true) }) (v := undef) rfl (by kernel_rfl) (by kernel_rfl) (by kernel_rfl) (fun _ _ _ h => h) (Or.inr ⟨by rfl, rfl⟩) (by assumption) ?_
                try simp only [Act.put, List.setIfInBounds_toArray, List.set_cons_zero, List.set_cons_succ]
                refine wpAnyH_take (i := 4) (oi := { dst := some 163, op := Op.binOp BinOp.lss 3 (Operand.tmp 162) (Operand.const (Value.int IntKind.i64 0)) 3, type := 4, pos := _, after := #[{ on := 3, ground := Ground.data }, { on := 2, ground := Ground.guard }], guard := some (2, true) }) (v := undef) rfl (by kernel_rfl) (by kernel_rfl) (by kernel_rfl) (fun _ _ _ h => h) (Or.inr ⟨by rfl, rfl⟩) (by assumption) ?_
                try simp only [Act.put, List.setIfInBounds_toArray, List.set_cons_zero, List.set_cons_succ]
                refine wpAnyH_take (i := 5) (oi := { dst := some 164, op := Op.move (Operand.tmp 163), type := 4, pos := _, after := #[{ on := 4, ground := Ground.data }, { on := 2, ground := Ground.chain }, { on := 2, ground := Ground.guard }], guard := some (2, true) }) (v := undef) rfl (by kernel_rfl) (by kernel_rfl) (by kernel_rfl) (fun _ _ _ h => h) (Or.inr ⟨by rfl, rfl⟩) (by assumption) ?_
                try simp only [Act.put, List.setIfInBounds_toArray, List.set_cons_zero, List.set_cons_succ]
                refine wpAnyH_take (i := 6) (oi := { dst := some 165, op := Op.move (Operand.tmp 0), type := 22, pos := _, after := #[{ on := 5, ground := Ground.guard }], guard := some (5, false) }) (v := undef) rfl (by kernel_rfl) (by kernel_rfl) (by kernel_rfl) (fun _ _ _ h => h) (Or.inr ⟨by rfl, rfl⟩) (by assumption) ?_
                try simp only [Act.put, List.setIfInBounds_toArray, List.set_cons_zero, List.set_cons_succ]
                refine wpAnyH_take (i := 7) (oi := { dst := some 166, op := Op.move (Operand.tmp 4), type := 22, pos := _, after := #[{ on := 5, ground := Ground.guard }], guard := some (5, false) }) (v := undef) rfl (by kernel_rfl) (by kernel_rfl) (by kernel_rfl) (fun _ _ _ h => h) (Or.inr ⟨by rfl, rfl⟩) (by assumption) ?_
                try simp only [Act.put, List.setIfInBounds_toArray, List.set_cons_zero, List.set_cons_succ]
                refine wpAnyH_take (i := 8) (oi := { dst := some 167, op := Op.move (Operand.tmp 24), type := 3, pos := _, after := #[{ on := 5, ground := Ground.guard }], guard := some (5, false) }) (v := undef) rfl (by kernel_rfl) (by kernel_rfl) (by kernel_rfl) (fun _ _ _ h => h) (Or.inr ⟨by rfl, rfl⟩) (by assumption) ?_
                try simp only [Act.put, List.setIfInBounds_toArray, List.set_cons_zero, List.set_cons_succ]
                refine wpAnyH_take (i := 9) (oi := { dst := some 168, op := Op.slice 22 (Operand.tmp 166) none (some (Operand.tmp 167)) none, type := 22, pos := _, after := #[{ on := 7, ground := Ground.data }, { on := 8, ground := Ground.data }, { on := 5, ground := Ground.guard }], guard := some (5, false) }) (v := undef) rfl (by kernel_rfl) (by kernel_rfl) (by kernel_rfl) (fun _ _ _ h => h) (Or.inr ⟨by rfl, rfl⟩) (by assumption) ?_
                try simp only [Act.put, List.setIfInBounds_toArray, List.set_cons_zero, List.set_cons_succ]
                refine wpAnyH_take (i := 10) (oi := { dst := some 169, op := Op.call { callee := Callee.value (Operand.func 21), args := #[Operand.tmp 165, Operand.tmp 168], argTypes := #[22, 22] }, type := 22, pos := _, after := #[{ on := 6, ground := Ground.data }, { on := 9, ground := Ground.data }, { on := 5, ground := Ground.chain }, { on := 5, ground := Ground.guard }], guard := some (5, false) }) (v := undef) rfl (by kernel_rfl) (by kernel_rfl) (by kernel_rfl) (fun _ _ _ h => h) (Or.inr ⟨by rfl, rfl⟩) (by assumption) ?_
                try simp only [Act.put, List.setIfInBounds_toArray, List.set_cons_zero, List.set_cons_succ]
                refine wpAnyH_take (i := 11) (oi := { dst := some 170, op := Op.move (Operand.tmp 4), type := 22, pos := _, after := #[{ on := 5, ground := Ground.guard }], guard := some (5, false) }) (v := undef) rfl (by kernel_rfl) (by kernel_rfl) (by kernel_rfl) (fun _ _ _ h => h) (Or.inr ⟨by rfl, rfl⟩) (by assumption) ?_
                try simp only [Act.put, List.setIfInBounds_toArray, List.set_cons_zero, List.set_cons_succ]
                refine wpAnyH_take (i := 12) (oi := { dst := some 171, op := Op.move (Operand.tmp 24), type := 3, pos := _, after := #[{ on := 5, ground := Ground.guard }], guard := some (5, false) }) (v := undef) rfl (by kernel_rfl) (by kernel_rfl) (by kernel_rfl) (fun _ _ _ h => h) (Or.inr ⟨by rfl, rfl⟩) (by assumption) ?_
                try simp only [Act.put, List.setIfInBounds_toArray, List.set_cons_zero, List.set_cons_succ]
                refine wpAnyH_take (i := 13) (oi := { dst := some 172, op := Op.slice 22 (Operand.tmp 170) (some (Operand.tmp 171)) none none, type := 22, pos := _, after := #[{ on := 11, ground := Ground.data }, { on := 12, ground := Ground.data }, { on := 5, ground := Ground.guard }], guard := some (5, false) }) (v := undef) rfl (by kernel_rfl) (by kernel_rfl) (by kernel_rfl) (fun _ _ _ h => h) (Or.inr ⟨by rfl, rfl⟩) (by assumption) ?_
                try simp only [Act.put, List.setIfInBounds_toArray, List.set_cons_zero, List.set_cons_succ]
                refine wpAnyH_take (i := 14) (oi := { dst := some 173, op := Op.call { callee := Callee.value (Operand.func 15), args := #[Operand.tmp 169, Operand.tmp 172], argTypes := #[22, 22] }, type := 4, pos := _, after := #[{ on := 10, ground := Ground.data }, { on := 13, ground := Ground.data }, { on := 10, ground := Ground.chain }, { on := 5, ground := Ground.guard }], guard := some (5, false) }) (v := undef) rfl (by kernel_rfl) (by kernel_rfl) (by kernel_rfl) (fun _ _ _ h => h) (Or.inr ⟨by rfl, rfl⟩) (by assumption) ?_
                try simp only [Act.put, List.setIfInBounds_toArray, List.set_cons_zero, List.set_cons_succ]
                refine wpAnyH_take (i := 15) (oi := { dst := some 174, op := Op.unOp UnOp.not 4 (Operand.tmp 173), type := 4, pos := _, after := #[{ on := 14, ground := Ground.data }, { on := 5, ground := Ground.guard }], guard := some (5, false) }) (v := undef) rfl (by kernel_rfl) (by kernel_rfl) (by kernel_rfl) (fun _ _ _ h => h) (Or.inr ⟨by rfl, rfl⟩) (by assumption) ?_
                try simp only [Act.put, List.setIfInBounds_toArray, List.set_cons_zero, List.set_cons_succ]
                refine wpAnyH_take (i := 16) (oi := { dst := some 175, op := Op.pick (Operand.tmp 164) (Operand.const (Value.bool true)) (Operand.tmp 174), type := 4, pos := _, after := #[{ on := 5, ground := Ground.data }, { on := 15, ground := Ground.data }, { on := 2, ground := Ground.guard }], guard := some (2, true) }) (v := undef) rfl (by kernel_rfl) (by kernel_rfl) (by kernel_rfl) (fun _ _ _ h => h) (Or.inr ⟨by rfl, rfl⟩) (by assumption) ?_
                try simp only [Act.put, List.setIfInBounds_toArray, List.set_cons_zero, List.set_cons_succ]
                refine wpAnyH_take (i := 17) (oi := { dst := some 176, op := Op.pick (Operand.tmp 161) (Operand.tmp 175) (Operand.const (Value.bool false)), type := 4, pos := _, after := #[{ on := 2, ground := Ground.data }, { on := 16, ground := Ground.data }], guard := none }) (v := ?_) rfl (by kernel_rfl) (by kernel_rfl) (by kernel_rfl) (fun _ _ _ h => h) (Or.inl ⟨by rfl, ?_⟩) (by assumption) ?_
                rotate_left
                · ((intro w hSw); (try dsimp only at hSw); go_simp; (try with_reducible rfl))
                try simp only [Act.put, List.setIfInBounds_toArray, List.set_cons_zero, List.set_cons_succ]
                refine wpAnyH_done (by kernel_rfl) ?_ _
                go_wp2
                go_roundw
                case rel => exact ⟨k + 1, lst, L, ad, HLT.out, HLL.out, HLS, by go_num, rfl, H3.out, HD3.out⟩
                case measure => simp [intOf]; omega
            obtain ⟨o, rfl⟩ := Int.eq_ofNat_of_zero_le (show 0 ≤ o by omega)
            have ho : o < B.length := by omega
            obtain ⟨gl, rfl, hgl, cg⟩ := HD.out.cell o ho
            obtain ⟨n, hn⟩ : ∃ n, n = (msg key V B o).length := ⟨_, rfl⟩
            rw [← hn] at cg
            have HNN := Lib.hid hn
            have HOO := Lib.hid ho
            obtain ⟨b, off, rfl, HX⟩ : ∃ b off, ba = some ⟨b, off, none⟩ ∧ Hid (∀ i, (h : i < B.length) → w.cell? ⟨b, off + i, none⟩ = some B[i].v) := by
              rcases HBS.out.1 with h0 | ⟨b, off, e, hc⟩
              · rw [h0] at ho; exact absurd ho (Nat.not_lt_zero _)
              · exact ⟨b, off, e, Lib.hid hc⟩
            obtain ⟨p, hp⟩ : ∃ p, p = B[o] := ⟨_, rfl⟩
            have HC0 : Hid (w.cell? ⟨b, off + o, none⟩ = some (.slice p.a p.l.length p.cap)) := Lib.hid (by rw [hp]; exact HX.out o ho)
            have HP0 : Hid (Pt w p) := Lib.hid (by rw [hp]; exact HBS.out.2 _ (List.getElem_mem ho))
            have HPB : Hid (B.getD o ⟨none, 0, []⟩ = p) := Lib.hid (by rw [List.getD_eq_getElem?_getD, List.getElem?_eq_getElem ho, hp]; rfl)
            have HP12 := Lib.hid (HS.out o ho)
            have HPL8 : Hid (∀ c ∈ p.l, c < 256) := Lib.hid HP0.out.2.2.2
            have HPX : Hid (∀ c ∈ (B.getD o ⟨none, 0, []⟩).l, c < 256) := Lib.hid (by rw [HPB.out]; exact HP0.out.2.2.2)
            obtain ⟨o6, ho6⟩ : ∃ o6, o6 = o + 6 := ⟨_, rfl⟩
            have HO6 := Lib.hid ho6
            have HSIX := Lib.hid (six o o6 (by have := HBL.out; omega) ho6)
            have n1 : ¬ (o : Int) < 0 := by omega
            have n2 : ¬ (B.length : Int) ≤ (o : Int) := by omega
            have n3 : (o : Int) < (B.length : Int) := by omega
            clear hn hgl hp ho6 ho0 ho1
            by_cases hnw : lst ≤ o
            · have HN6 := Lib.hid (in_new hnw)
              have m1 : L < (o : Int) := by have := HLS.out; omega
              have m2 : max L (o : Int) = (o : Int) := Int.max_eq_right (Int.le_of_lt m1)
              have m3 : decide (L < (o : Int)) = true := decide_eq_true m1
              clear hnw
              obtain ⟨s1, s2, s3⟩ := HSIX.out
              go_wp2_with (first
                | (go_at_call 43; (with_reducible refine (takeI xb key V o o6 (inN lst) n ad B (A o) (C o) wr HO6.out KL.out K8.out H8.out HOO.out HBL.out HN6.out HNN.out HP12.out HPX.out HWr.out.py (HD.out.cap o HOO.out) (HD.out.bytes o HOO.out) (HWr.out.tabR HT.out) (HWr.out.tabB HB.out)).mono ?_); rw [HPB.out]; rintro e w3 ⟨yb, yc, rfl, q1, q2, q3, q4, q5, q6⟩; have H3 := Lib.hid (HWr.out.setY q6 q5); have HD3 := Lib.hid (HD.out.bt q6 HYW.out); have cb := cell_then H3.out.bel (Nat.le_refl _) HC0.out; have HY := Lib.hid q1; have HPP := Lib.hid (show Sl w3 p.a p.l from (pt_then HP0.out H3.out.bel).1); clear q1 q2 q3 q4 q5 q6)
                | (go_at_call 15; (with_reducible refine (bytesD yb p.a yc p.cap p.l.length p.l.length p.l p.l w3 true rfl rfl HY.out HPP.out HPL8.out HPL8.out (decide_eq_true rfl).symm).mono ?_); rintro e w' ⟨rfl, rfl⟩)
                | (go_at_call 45; (with_reducible refine (addrI xb key V o6 (o : Int) w3 H3.out.py).mono ?_); rintro e w' ⟨rfl, rfl⟩)
                | (go_at_call 47; (with_reducible refine (inI2 xb key V o6 (o : Int) w3 H3.out.py).mono ?_); rintro e w' ⟨rfl, rfl⟩))
              go_roundw
              case rel => exact ⟨k + 1, o + 1, (o : Int), (o : Int), HLT.out, HOO.out, Lib.hid (by omega), by go_num, rfl, by rw [in_next, ← HO6.out]; exact H3.out, HD3.out⟩
              case measure => simp [intOf]; omega
            · have HN6 := Lib.hid (in_old hnw)
              have m1 : ¬ L < (o : Int) := by have := HLS.out; omega
              have m2 : max L (o : Int) = L := Int.max_eq_left (Int.not_lt.1 m1)
              have m3 : decide (L < (o : Int)) = false := decide_eq_false m1
              clear hnw
              go_wp2_with (first
                | (go_at_call 43; (with_reducible refine (takeJ xb key V o (inN lst) n ad B (A o) (C o) wr KL.out K8.out H8.out HOO.out HBL.out HN6.out HNN.out HP12.out HPX.out HWr.out.py (HD.out.cap o HOO.out) (HD.out.bytes o HOO.out) (HWr.out.tabR HT.out) (HWr.out.tabB HB.out)).mono ?_); rintro e w3 ⟨rfl, b3⟩; have H3 := Lib.hid (HWr.out.then_ b3); have HD3 := Lib.hid (HD.out.then_ b3); clear b3))
              go_roundw
              case rel => exact ⟨k + 1, lst, L, ad, HLT.out, HLL.out, HLS, by go_num, rfl, H3.out, HD3.out⟩
              case measure => simp [intOf]; omega
          · obtain rfl : k = P.length := Nat.le_antisymm hk (Nat.not_lt.1 hlt)
            obtain ⟨T, hT⟩ : ∃ T, B.length + 5 = T := ⟨_, rfl⟩
            have HF5 := Lib.hid (five B.length T (by have := HBL.out; omega) hT)
            rw [hT] at HWr
            have hkk : ¬ (P.length : Int) < (P.length : Int) := by omega
            clear hT
            obtain ⟨s1, s2, s3⟩ := HF5.out
            go_wp2_with (first
              | (go_at_call 37; (with_reducible refine (qfirst wr (HWr.out.tabR HT.out) (HWr.out.tabB HB.out)).mono ?_); rintro e w9 ⟨rfl, b9⟩; have H9 := Lib.hid (HWr.out.then_ b9); clear b9)
              | (go_at_call 46; (with_reducible refine (outA xa key V T w9 H9.out.px).mono ?_); rintro e w' ⟨rfl, rfl⟩)
              | (go_at_call 45; (with_reducible refine (addrA xa key V T w9 H9.out.px).mono ?_); rintro e w' ⟨rfl, rfl⟩))
            go_ret
            exact ⟨rfl, H9.out.bel⟩

end Go.Proofs.YtmfkfpgomglplaaDoor.Yb
