/- Package grid: Copy, Cells. -/
import Derived.Test.YtfdjmlncdbpkgaaGq
import Derived.Laws.OwnMore
import Derived.Laws.AppendOwn
import Derived.Laws.Cover4
set_option linter.unusedVariables false
namespace Go.Proofs.Ytfdjmlncdbpkgaa.Gk
open Go Go.RowKit Kit Gm Gv Fl Me Cp Sl Gg Gh Gp Gq

/-- cells that a slice shows. -/
def CS (w : World) (b : Nat) (L : List Ce) : Prop := ∀ j, (h : j < L.length) → ∀ i, i < 5 → w.cell? ⟨b, j * 5 + i, none⟩ = (cv L[j])[i]?
theorem cs_flat {w : World} {b : Nat} {L : List Ce} (h : CS w b L) : ∀ j u, (flat L)[j]? = some u → w.cell? ((⟨b, 0, none⟩ : Addr).add j) = some u := by
  intro j u hu
  have hadd : (⟨b, 0, none⟩ : Addr).add j = ⟨b, j, none⟩ := by unfold Addr.add; split <;> simp_all
  have hj : j < (flat L).length := (List.getElem?_eq_some_iff.1 hu).1
  rw [flat_len] at hj
  have hk : j / 5 < L.length := by omega
  have e := h (j / 5) hk (j % 5) (by omega)
  rw [show j / 5 * 5 + j % 5 = j by omega] at e
  rw [hadd, e, ← flat_at (j / 5) hk (j % 5) (by omega), show j / 5 * 5 + j % 5 = j by omega]
  exact hu
/-- what an own row of cells shows. -/
theorem own_cs {w : World} {base g n cap : Nat} {L : List Ce} (hn : n = L.length) (h : w.ownsRow base 37 5 (.slice (some ⟨g, 0, none⟩) n cap) n (flat L)) : CS w g L := by
  subst hn
  intro j hj i hi
  rw [h.cellAt (j * 5 + i) (by omega)]
  exact flat_at j hj i hi
theorem CS.then_ {w w1 : World} {b : Nat} {L : List Ce} (h : CS w b L) (h0 : 0 < L.length) (hb : Below w.heap.size w w1) : CS w1 b L := by
  intro j hj i hi
  have hlt := World.block_lt_of_cell? w _ (show w.cell? ⟨b, 0 * 5 + 0, none⟩ = some (.int .i32 (L[0]'h0).r) from h 0 h0 0 (by omega))
  rw [hb.cell (p := ⟨b, j * 5 + i, none⟩) hlt]
  exact h j hj i hi
/-- a copy of a list of cells. -/
def ClQ (w : World) (n : Nat) (L : List Ce) (e : Ending) (w' : World) : Prop := ∃ g c, e = .returned (.slice (some ⟨g, 0, none⟩) n c) ∧ w.heap.size ≤ g ∧ n ≤ c ∧ c ≤ 9223372036854775807 ∧ CS w' g L ∧ Below w.heap.size w w'
set_option maxRecDepth 100000 in
/-- slices.Clone, of cells. -/
theorem cloneC (b n cap : Nat) (L : List Ce) (w : World) (hn : n = L.length) (h0 : 0 < n) (hm : n ≤ 1000000) (h : CS w b L) :
    Calls Try.prog 36 #[.slice (some ⟨b, 0, none⟩) n cap] w (ClQ w n L) := by
  have HS := Lib.hid (cs_flat (h.then_ (by omega) (below_one w (.cells #[] 37))))
  have HR := Lib.hid (show (w.alloc (.cells #[] 37)).ownsRow w.heap.size 37 5 (.slice (some ⟨w.heap.size, 0, none⟩) 0 0) 0 [] from World.ownsRow_made w #[] 0 (Nat.le_refl _) (by simp) rfl)
  have HB := Lib.hid (below_one w (.cells #[] 37))
  have HN := Lib.hid hn
  have HM := Lib.hid hm
  have H0 := Lib.hid h0
  have ke := fun (w1 : World) => Lib.run_eql_slice_nil (P := Try.prog) w1 41 37 (some ⟨b, 0, none⟩) n cap 0 0 Try.underlying41
  have HI := Lib.hid (info_parts info37)
  clear h hn hm h0
  go_enter Try.func36, Try.ntmps36
  go_wp2_with (at_builtin; obtain ⟨i0, hi, hz, hs, hb⟩ := HI.out; have hl5 : (flat L).length = n * 5 := (by rw [flat_len, HN.out]); have hM := HM.out; refine wpList_append_own _ rfl _ _ 41 rfl w.heap.size 37 i0 _ 5 40 Try.underlying41 hi hz hs hb rfl (by decide) _ 0 _ rfl HR.out ⟨b, 0, none⟩ n cap (flat L) rfl hl5 HS.out (flat_one L) (by unfold maxLen; omega) (by omega) HB.out.size ?_; intro v' w2 h2 h3 _; rw [Nat.zero_add, List.nil_append] at h2; have HO := Lib.hid h2; have HG := Lib.hid (HB.out.grown h3 HB.out.size (fun j hj => (HR.out.lt j hj).1)); clear h2 h3 hl5 hM)
  go_ret
  rcases HO.out.2 with ⟨_, h0⟩ | ⟨g, c, cur, rfl, hb, hg, hnc, hmx, hcs, htake⟩
  · exact absurd h0 (Nat.ne_of_gt H0.out)
  · exact ⟨g, c, rfl, hb, hnc, by unfold maxLen at hmx; exact hmx, own_cs HN.out HO.out, HG.out⟩
/-- a copy of a grid. -/
def CpQ (w : World) (R C : Nat) (L : List Ce) (e : Ending) (w' : World) : Prop := ∃ p b cap, e = .returned (.pointer (some ⟨p, 0, none⟩)) ∧ GV w' p b R C cap L ∧ Below w.heap.size w w' ∧ w.heap.size ≤ p ∧ w.heap.size ≤ b
set_option maxRecDepth 100000 in
theorem copyK (p b R C cap : Nat) (L : List Ce) (w : World) (h : GV w p b R C cap L) : Calls Try.prog 12 #[.pointer (some ⟨p, 0, none⟩)] w (CpQ w R C L) := by
  have HV := Lib.hid h
  obtain ⟨p0, p1, p2⟩ := three h.obj
  have HC := Lib.hid (fun (w1 : World) (hb : Below w.heap.size w w1) => cloneC b L.length cap L w1 rfl h.pos (by have := h.small; omega) (CS.then_ h.cell h.pos hb))
  generalize hn : L.length = n at *
  have HN := Lib.hid hn
  have HB := Lib.hid (Below.refl w.heap.size w)
  clear h hn
  go_enter Try.func12, Try.ntmps12
  go_wp2
  go_region_held3 (fun wk => wk.cell? ⟨p, 0, none⟩ = some (.int .i64 (R : Int)) ∧ wk.cell? ⟨p, 1, none⟩ = some (.int .i64 (C : Int)) ∧ wk.cell? ⟨p, 2, none⟩ = some (.slice (some ⟨b, 0, none⟩) n cap)) (first | exact ⟨p0, p1, p2⟩ | exact ⟨Gg.cell_then b2 (Nat.le_refl _) p0, Gg.cell_then b2 (Nat.le_refl _) p1, Gg.cell_then b2 (Nat.le_refl _) p2⟩ | (go_split_ands; refine ⟨?_, ?_, ?_⟩ <;> (refine Gg.cell_then (below_one _ _) (Nat.le_refl _) ?_; assumption))) (first
    | (go_at_call 36; (with_reducible refine (HC.out _ (below_drew HB.out)).mono ?_); rintro e w2 ⟨g, c, rfl, hg, hnc, hc, hcs, b2⟩))
  go_wp2
  go_ret
  have hv := HV.out
  have hb2 : Below w.heap.size w w2 := below_undrew b2
  have h0 : 0 < L.length := hv.pos
  refine ⟨w2.heap.size, g, c, rfl, ⟨?_, CS.then_ hcs h0 (below_one _ _), hv.len, hv.r1, hv.r2, hv.c1, hv.c2, by rw [HN.out]; exact hnc, hc⟩, below_then hb2 (below_one _ _) hb2.size, hb2.size, hg⟩
  rw [HN.out]; exact heap_last _ _ _
set_option maxRecDepth 100000 in
theorem cellsC (p b R C cap : Nat) (L : List Ce) (w : World) (h : GV w p b R C cap L) : Calls Try.prog 18 #[.pointer (some ⟨p, 0, none⟩)] w (ClQ w L.length L) := by
  obtain ⟨p0, p1, p2⟩ := three h.obj
  have HC := Lib.hid (cloneC b L.length cap L w rfl h.pos (by have := h.small; omega) h.cell)
  generalize hn : L.length = n at *
  clear h hn
  go_enter Try.func18, Try.ntmps18
  go_wp2_with (go_at_call 36; (with_reducible refine HC.out.mono ?_); rintro e w2 ⟨g, c, rfl, hg, hnc, hc, hcs, b2⟩)
  go_ret
  exact ⟨g, c, rfl, hg, hnc, hc, hcs, b2⟩
end Go.Proofs.Ytfdjmlncdbpkgaa.Gk
