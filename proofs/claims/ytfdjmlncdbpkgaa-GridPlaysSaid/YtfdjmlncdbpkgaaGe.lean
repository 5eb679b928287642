/- Package grid: Fill, Erase. -/
import Derived.Test.YtfdjmlncdbpkgaaGk
set_option linter.unusedVariables false
namespace Go.Proofs.Ytfdjmlncdbpkgaa.Ge
open Go Go.RowKit Kit Gm Gv Fl Me Cp Sl Gg Gh Gp Gq Gk

/-- nothing to answer. -/
abbrev unit : Value := .tuple #[]
theorem GQ.of_below {w w' : World} {p b R C : Nat} {L : List Ce} {v : Value} {e : Ending} (h : G w p b R C L) (he : e = .returned v) (hb : Below w.heap.size w w') : GQ v w p b R C L e w' := ⟨he, kp_below h hb⟩
/-- the cells behind a Fill. -/
def fillL (L : List Ce) (c : Ce) : List Ce := if mayC c && c.wd == 0 then List.replicate L.length c else L
set_option maxRecDepth 100000 in
set_option maxHeartbeats 1000000 in
/-- Fill. -/
theorem fillG (p b R C : Nat) (c : Ce) (L : List Ce) (w : World) (h : G w p b R C L) :
    Calls Try.prog 26 #[.pointer (some ⟨p, 0, none⟩), cvA c] w (GQ unit w p b R C (fillL L c)) := by
  obtain ⟨cr, cfl, cfg, cbg, cwd⟩ := c
  have HH := Lib.hid h
  have HG := Lib.hid (h.alloc (.cells #[.int .i32 cr, .int .i64 cfl, .int .i64 cfg, .int .i64 cbg, .int .i64 cwd] 37))
  have HB := Lib.hid (below_one w (.cells #[.int .i32 cr, .int .i64 cfl, .int .i64 cfg, .int .i64 cbg, .int .i64 cwd] 37))
  have HF := Lib.hid (heap_last w #[.int .i32 cr, .int .i64 cfl, .int .i64 cfg, .int .i64 cbg, .int .i64 cwd] 37)
  generalize hw0 : w.alloc (.cells #[.int .i32 cr, .int .i64 cfl, .int .i64 cfg, .int .i64 cbg, .int .i64 cwd] 37) = w0 at *
  obtain ⟨c0, c1, c2, c3, c4⟩ := five HF.out
  cases hm : mayC ⟨cr, cfl, cfg, cbg, cwd⟩ with
  | false =>
    have HM := Lib.hid (mayK ⟨cr, cfl, cfg, cbg, cwd⟩ false w0 hm)
    have e1 : fillL L ⟨cr, cfl, cfg, cbg, cwd⟩ = L := by unfold fillL; rw [hm]; rfl
    rw [e1]
    clear e1 h hm
    go_enter Try.func26, Try.ntmps26
    go_wp2_with (go_at_call 27; (with_reducible refine HM.out.mono ?_); rintro e w1 ⟨rfl, hb1⟩; have HB1 := Lib.hid (below_then HB.out hb1 HB.out.size); clear hb1)
    go_end0
    exact GQ.of_below HH.out rfl HB1.out
  | true =>
    have HM := Lib.hid (mayK ⟨cr, cfl, cfg, cbg, cwd⟩ true w0 hm)
    by_cases h0 : cwd = 0
    · subst h0
      have HE := Lib.hid (show fillL L ⟨cr, cfl, cfg, cbg, 0⟩ = [] ++ List.replicate L.length ⟨cr, cfl, cfg, cbg, 0⟩ ++ [] by unfold fillL; rw [hm]; simp)
      obtain ⟨p0, p1, p2⟩ := three HG.out.obj
      have HSm := Lib.hid h.small
      have HLen := Lib.hid (show L.length = L.length from rfl)
      have HA := Lib.hid (show AtP L.length (some ⟨b, 0, none⟩) b [] from fun _ => rfl)
      have HRB := Lib.hid (show RB w0 b ([] ++ L ++ []) by have := HG.out.row; simpa using this)
      generalize hL' : fillL L ⟨cr, cfl, cfg, cbg, 0⟩ = L' at *
      have hFill := fun (w1 : World) (hb : Below w0.heap.size w0 w1) => fillP b [] L [] (some ⟨b, 0, none⟩) L.length L.length ⟨cr, cfl, cfg, cbg, 0⟩ w1 (HRB.out.then_ hb (Nat.le_refl _)) rfl HA.out (by have := HSm.out; omega)
      generalize hn : L.length = n at *
      have HFill := Lib.hid hFill
      have HN := Lib.hid hn
      clear h hm hL' hn hFill
      go_enter Try.func26, Try.ntmps26
      go_wp2_with (go_at_call 27; (with_reducible refine HM.out.mono ?_); rintro e w1 ⟨rfl, hb1⟩; have HB1 := Lib.hid (below_then HB.out hb1 HB.out.size); have HB2 := Lib.hid (below_drew hb1); replace c0 := Gg.cell_then hb1 (Nat.le_refl _) c0; replace c1 := Gg.cell_then hb1 (Nat.le_refl _) c1; replace c2 := Gg.cell_then hb1 (Nat.le_refl _) c2; replace c3 := Gg.cell_then hb1 (Nat.le_refl _) c3; replace c4 := Gg.cell_then hb1 (Nat.le_refl _) c4; replace p2 := Gg.cell_then hb1 (Nat.le_refl _) p2; clear hb1)
      go_still_tail 5, (by kernel_rfl)
      go_wp2_with (go_at_call 47; (with_reducible refine (HFill.out _ HB2.out).mono ?_); rintro e w3 ⟨rfl, hr3, hk3⟩; have HR3 := Lib.hid hr3; have HK3 := Lib.hid hk3; clear hr3 hk3)
      go_end0
      obtain ⟨g1, g2⟩ := G.put HH.out (below_drew HB1.out) HR3.out HK3.out (by simp; exact HN.out.symm)
      exact ⟨rfl, by rw [HE.out]; exact g1, g2⟩
    · have e1 : fillL L ⟨cr, cfl, cfg, cbg, cwd⟩ = L := by
        unfold fillL; rw [if_neg]; simpa using fun _ => h0
      rw [e1]
      have z0 : (cwd == 0) = false := by simpa using h0
      clear e1 h hm
      go_enter Try.func26, Try.ntmps26
      go_wp2_with (go_at_call 27; (with_reducible refine HM.out.mono ?_); rintro e w1 ⟨rfl, hb1⟩; have HB1 := Lib.hid (below_then HB.out hb1 HB.out.size); replace c4 := Gg.cell_then hb1 (Nat.le_refl _) c4; clear hb1)
      go_end0
      exact GQ.of_below HH.out rfl HB1.out
end Go.Proofs.Ytfdjmlncdbpkgaa.Ge
