/- The document's Fill. -/
import Derived.Test.YtfdjmlncdbpkgaaXn
import Derived.Test.YtfdjmlncdbpkgaaGe
set_option linter.unusedVariables false
namespace Go.Proofs.Ytfdjmlncdbpkgaa.Xf
open Go Go.RowKit Kit Gm Gv Fl Me Cp Sl Gg Gh Gp Gq Gk Xa Xb Xn
open Ge (unit fillL)

/-- what is left when the document's grid was written. -/
def XQ (v : Value) (w : World) (p b R C : Nat) (L' : List Ce) (e : Ending) (w' : World) : Prop := e = .returned v ∧ X w' p b R C L' ∧ Kp b b w w'
theorem XQ.of_below {w w' : World} {p b R C : Nat} {L : List Ce} {v : Value} {e : Ending} (h : X w p b R C L) (he : e = .returned v) (hb : Below w.heap.size w w') : XQ v w p b R C L e w' := ⟨he, h.then_ hb (Nat.le_refl _), Kp.of hb⟩
theorem XQ.put {w w0 w1 : World} {p b R C : Nat} {L L' : List Ce} {v : Value} {e : Ending} (h : X w p b R C L) (he : e = .returned v) (hb : Below w.heap.size w w0) (hr : RB w1 b L') (hk : Kp b b w0 w1) (hl : L'.length = L.length) : XQ v w p b R C L' e w1 :=
  ⟨he, (h.then_ hb (Nat.le_refl _)).row_new hr hk hl, (Kp.of hb).trans hk (.inl rfl)⟩
set_option maxRecDepth 100000 in
set_option maxHeartbeats 1000000 in
theorem fillX (p b R C : Nat) (c : Ce) (L : List Ce) (w : World) (h : X w p b R C L) :
    Calls Try.prog 42 #[.pointer (some ⟨p, 0, none⟩), cvA c] w (XQ unit w p b R C (fillL L c)) := by
  obtain ⟨cr, cfl, cfg, cbg, cwd⟩ := c
  have HH := Lib.hid h
  have HB := Lib.hid (below_one w (.cells #[.int .i32 cr, .int .i64 cfl, .int .i64 cfg, .int .i64 cbg, .int .i64 cwd] 37))
  have HG := Lib.hid (h.then_ HB.out (Nat.le_refl _))
  have HF := Lib.hid (heap_last w #[.int .i32 cr, .int .i64 cfl, .int .i64 cfg, .int .i64 cbg, .int .i64 cwd] 37)
  generalize hw0 : w.alloc (.cells #[.int .i32 cr, .int .i64 cfl, .int .i64 cfg, .int .i64 cbg, .int .i64 cwd] 37) = w0 at *
  obtain ⟨c0, c1, c2, c3, c4⟩ := five HF.out
  cases hm : mayC ⟨cr, cfl, cfg, cbg, cwd⟩ with
  | false =>
    have HM := Lib.hid (rMayK ⟨cr, cfl, cfg, cbg, cwd⟩ false w0 hm)
    have e1 : fillL L ⟨cr, cfl, cfg, cbg, cwd⟩ = L := by unfold fillL; rw [hm]; rfl
    rw [e1]
    clear e1 h hm
    go_enter Try.func42, Try.ntmps42
    go_wp2_with (go_at_call 54; (with_reducible refine HM.out.mono ?_); rintro e w1 ⟨rfl, hb1⟩; have HB1 := Lib.hid (below_then HB.out hb1 HB.out.size); clear hb1)
    exact bodyPost_ret (v := .tuple #[]) (by simp [results, Try.results42, go_sem]) rfl (XQ.of_below HH.out rfl HB1.out)
  | true =>
    have HM := Lib.hid (rMayK ⟨cr, cfl, cfg, cbg, cwd⟩ true w0 hm)
    by_cases h0 : cwd = 0
    · subst h0
      have HE := Lib.hid (show fillL L ⟨cr, cfl, cfg, cbg, 0⟩ = List.replicate L.length ⟨cr, cfl, cfg, cbg, 0⟩ by unfold fillL; rw [hm]; simp)
      obtain ⟨p0, p1, p2⟩ := three HG.out.obj
      have HSm := Lib.hid h.small
      have HNp := Lib.hid h.ne
      have HNw := Lib.hid (show w.heap.size ≠ b from fun e => by have := h.b_lt; omega)
      generalize hL' : fillL L ⟨cr, cfl, cfg, cbg, 0⟩ = L' at *
      generalize hn : L.length = n at *
      have HN := Lib.hid hn
      have hs := HSm.out
      clear h hm hL' hn
      go_enter Try.func42, Try.ntmps42
      go_wp2_with (go_at_call 54; (with_reducible refine HM.out.mono ?_); rintro e w1 ⟨rfl, hb1⟩; have HB1 := Lib.hid (below_then HB.out hb1 HB.out.size); replace c0 := Gg.cell_then hb1 (Nat.le_refl _) c0; replace c1 := Gg.cell_then hb1 (Nat.le_refl _) c1; replace c2 := Gg.cell_then hb1 (Nat.le_refl _) c2; replace c3 := Gg.cell_then hb1 (Nat.le_refl _) c3; replace c4 := Gg.cell_then hb1 (Nat.le_refl _) c4; replace p2 := Gg.cell_then hb1 (Nat.le_refl _) p2; have HR1 := Lib.hid (HG.out.row.then_ hb1 (Nat.le_refl _)); clear hb1)
      have HC0 := Lib.hid c0
      have HC1 := Lib.hid c1
      have HC2 := Lib.hid c2
      have HC3 := Lib.hid c3
      have HC4 := Lib.hid c4
      have HP2 := Lib.hid p2
      clear c0 c1 c2 c3 c4 p0 p1 p2
      go_loopw [4] (fun s4 wr => ∃ (k : Nat) (T : List Ce), k + T.length = n ∧ s4 = .int .i64 k ∧ Hid (RB wr b (List.replicate k ⟨cr, cfl, cfg, cbg, 0⟩ ++ T)) ∧ Hid (Kp b b w1 wr)) (fun s4 _ => n - (intOf s4).toNat)
      case atStart => exact ⟨0, L, by have := HN.out; omega, rfl, Lib.hid (by simpa using HR1.out), Lib.hid (Kp.refl _ _ _)⟩
      case round =>
        obtain ⟨k, T, hk, rfl, HR, HK⟩ := hrel
        have p2 := cell_kept HK.out HP2.out HNp.out HNp.out
        cases T with
        | nil =>
          obtain rfl : k = n := by simpa using hk
          go_wp2
          go_end0
          exact XQ.put HH.out rfl HB1.out (by have := HR.out; rw [HE.out]; simpa using this) HK.out (by rw [HE.out, List.length_replicate]; exact HN.out.symm)
        | cons d T =>
          have hlt : k < n := by simp only [List.length_cons] at hk; omega
          have HKk := Lib.hid (show k + 1 + T.length = n ∧ n - (k + 1) < n - k by simp only [List.length_cons] at hk; omega)
          have c0 := cell_kept HK.out HC0.out HNw.out HNw.out
          have c1 := cell_kept HK.out HC1.out HNw.out HNw.out
          have c2 := cell_kept HK.out HC2.out HNw.out HNw.out
          have c3 := cell_kept HK.out HC3.out HNw.out HNw.out
          have c4 := cell_kept HK.out HC4.out HNw.out HNw.out
          have HRd := Lib.hid (show RB wr.drew b (List.replicate k ⟨cr, cfl, cfg, cbg, 0⟩ ++ d :: T) from HR.out)
          have HQ := Lib.hid (show k * 5 = (List.replicate k (⟨cr, cfl, cfg, cbg, 0⟩ : Ce)).length * 5 by rw [List.length_replicate])
          clear hk
          go_wp2
          go_still_tail 7, (by kernel_rfl)
          change wpList _ _ _ _ _ wr.drew
          go_wp2_with ((with_reducible refine wpList_store_cell rfl _ _ rfl b (k * 5) ⟨cr, cfl, cfg, cbg, 0⟩ rfl rfl HRd.out HQ.out ?_); intro w3 hw3; have HR3 : Hid (RB w3 b (List.replicate (k + 1) ⟨cr, cfl, cfg, cbg, 0⟩ ++ T)) := Lib.hid (by rw [List.replicate_succ', List.append_assoc, ← hw3]; exact HRd.out.put _); have HK3 := Lib.hid (show Kp b b w1 w3 by rw [← hw3]; exact (Kp.drew HK.out).put _); clear hw3)
          first
            | exact ⟨⟨k + 1, T, HKk.out.1, by go_num, HR3, HK3⟩, by simp only [intOf]; exact HKk.out.2⟩
            | (go_roundw
               · exact ⟨k + 1, T, HKk.out.1, by go_num, HR3, HK3⟩
               · simp only [intOf]; exact HKk.out.2)
    · have e1 : fillL L ⟨cr, cfl, cfg, cbg, cwd⟩ = L := by
        unfold fillL; rw [if_neg]; simpa using fun _ => h0
      rw [e1]
      have z0 : (cwd != 0) = true := by simpa using h0
      clear e1 h hm
      go_enter Try.func42, Try.ntmps42
      go_wp2_with (go_at_call 54; (with_reducible refine HM.out.mono ?_); rintro e w1 ⟨rfl, hb1⟩; have HB1 := Lib.hid (below_then HB.out hb1 HB.out.size); replace c4 := Gg.cell_then hb1 (Nat.le_refl _) c4; clear hb1)
      exact bodyPost_ret (v := .tuple #[]) (by simp [results, Try.results42, go_sem]) rfl (XQ.of_below HH.out rfl HB1.out)
end Go.Proofs.Ytfdjmlncdbpkgaa.Xf
