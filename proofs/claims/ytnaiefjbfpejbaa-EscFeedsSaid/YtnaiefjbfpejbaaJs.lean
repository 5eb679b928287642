/- The document's events that are alike. -/
import Derived.Test.YtnaiefjbfpejbaaJp
import Derived.Deep.CutRange
import Derived.Deep.RegionHeld3
set_option linter.unusedVariables false
namespace Go.Proofs.Ytnaiefjbfpejbaa.Js
open Go Go.RowKit Kit Ep Eb Er Ea Es Et Eu Ev Ek Ew Ex Ey Ez Fa Fb Ga Gb Ia Ib Ic Iq Jt Jo Jf Jp


theorem evJ_cells {w : World} {g c : Nat} {qs : List EW} (h : EvJ w (.slice (some ⟨g, 0, none⟩) qs.length c) qs) (j : Nat) (hj : j < qs.length) (i : Nat) (hi : i < 7) : w.cell? ⟨g, j * 7 + i, none⟩ = (ecells qs[j])[i]? := by
  rw [h.1.cellAt (j * 7 + i) (by omega)]
  exact flat_ev j hj i hi
theorem evJ_ints {w : World} {V : Value} {qs : List EW} (h : EvJ w V qs) (q : EW) (hq : q ∈ qs) : Ints.Ints w q.a q.E.pa := by
  have h1 := h.2 q hq
  rcases h1.2 with ⟨e, h0⟩ | ⟨g1, cap, cur, e, _, _⟩
  · exact .inl (List.eq_nil_of_length_eq_zero h0)
  · unfold pvV at e
    injection e with e1 e2 e3
    refine .inr ⟨g1, 0, e1, fun i hi => ?_⟩
    have h3 : pvV q = .slice (some ⟨g1, 0, none⟩) q.E.pa.length q.c := by rw [← e1]; rfl
    rw [h3] at h1
    rw [Nat.zero_add, h1.cellAt i (by omega)]
    simp [iv, hi]
theorem evJ_at {w wr : World} {g c : Nat} {qs : List EW} (h : EvJ w (.slice (some ⟨g, 0, none⟩) qs.length c) qs) (hb : Below w.heap.size w wr) (j : Nat) (hj : j < qs.length) : wr.cell? ⟨g, j * 7, none⟩ = some (.int .i64 (qs[j].E.kind : Int)) ∧ wr.cell? ⟨g, j * 7 + 1, none⟩ = some (.int .i32 qs[j].E.rune) ∧ wr.cell? ⟨g, j * 7 + 2, none⟩ = some (.slice qs[j].a qs[j].E.pa.length qs[j].c) ∧ wr.cell? ⟨g, j * 7 + 3, none⟩ = some (.int .i32 qs[j].E.pv) ∧ wr.cell? ⟨g, j * 7 + 4, none⟩ = some (.int .i32 qs[j].E.it) ∧ wr.cell? ⟨g, j * 7 + 5, none⟩ = some (.int .i32 qs[j].E.fi) ∧ wr.cell? ⟨g, j * 7 + 6, none⟩ = some (.string qs[j].E.tx) :=
  ⟨cell_then hb (Nat.le_refl _) (evJ_cells h j hj 0 (by decide)), cell_then hb (Nat.le_refl _) (evJ_cells h j hj 1 (by decide)), cell_then hb (Nat.le_refl _) (evJ_cells h j hj 2 (by decide)), cell_then hb (Nat.le_refl _) (evJ_cells h j hj 3 (by decide)), cell_then hb (Nat.le_refl _) (evJ_cells h j hj 4 (by decide)), cell_then hb (Nat.le_refl _) (evJ_cells h j hj 5 (by decide)), cell_then hb (Nat.le_refl _) (evJ_cells h j hj 6 (by decide))⟩
/-- the two copies. -/
def TwoE (wr : World) (E : Ev) (p1 p2 : Value) (s6 s7 : Value) (wx : World) : Prop := ∃ p q, s6 = .pointer (some ⟨p, 0, none⟩) ∧ s7 = .pointer (some ⟨q, 0, none⟩) ∧ wx.heap[p]? = some (.cells (evC E p1) 50 (0, 0)) ∧ wx.heap[q]? = some (.cells (evC E p2) 50 (0, 0)) ∧ Below wr.heap.size wr wx
theorem two_ab {wr : World} {E : Ev} {p1 p2 : Value} : TwoE wr E p1 p2 (.pointer (some ⟨wr.heap.size, 0, none⟩)) (.pointer (some ⟨wr.heap.size + 1, 0, none⟩)) ((wr.alloc (.cells (evC E p1) 50)).alloc (.cells (evC E p2) 50)).drew :=
  ⟨_, _, rfl, rfl, (Below.heap_alloc _ _ _ (by simp)).trans (heap_alloc_last wr _), (by rw [show wr.heap.size + 1 = (wr.alloc (.cells (evC E p1) 50)).heap.size by simp]; exact heap_alloc_last _ _), (past_two wr _ _).drew⟩
theorem two_ba {wr : World} {E : Ev} {p1 p2 : Value} : TwoE wr E p1 p2 (.pointer (some ⟨wr.heap.size + 1, 0, none⟩)) (.pointer (some ⟨wr.heap.size, 0, none⟩)) ((wr.alloc (.cells (evC E p2) 50)).alloc (.cells (evC E p1) 50)).drew :=
  ⟨_, _, rfl, rfl, (by rw [show wr.heap.size + 1 = (wr.alloc (.cells (evC E p2) 50)).heap.size by simp]; exact heap_alloc_last _ _), (Below.heap_alloc _ _ _ (by simp)).trans (heap_alloc_last wr _), (past_two wr _ _).drew⟩
theorem evJ_same {qs rs : List EW} (h : qs.map EW.E = rs.map EW.E) (j : Nat) (hj : j < qs.length) (hk : j < rs.length) : rs[j].E = qs[j].E := ev_same h j hj hk
set_option maxRecDepth 100000 in
set_option maxHeartbeats 4000000 in
/-- the document's events, one by one. -/
theorem sameEvC (va ua : Option Addr) (vc uc n1 n2 : Nat) (qs rs : List EW) (w : World) (e1 : n1 = qs.length) (e2 : n2 = rs.length) (hV : EvJ w (.slice va qs.length vc) qs) (hU : EvJ w (.slice ua rs.length uc) rs) (he : qs.map EW.E = rs.map EW.E) (hpa : ∀ q ∈ qs, q.E.pa.length ≤ 100000) (hl : qs.length ≤ 100000) :
    Calls Try.prog 9 #[.slice va n1 vc, .slice ua n2 uc] w fun e w' => e = .returned (.bool true) ∧ Below w.heap.size w w' := by
  have hlen : rs.length = qs.length := by have := congrArg List.length he; simpa using this.symm
  subst e1 e2
  rw [hlen] at hU ⊢
  have hU' : EvJ w (.slice ua rs.length uc) rs := by rw [hlen]; exact hU
  have HV := Lib.hid hV
  have HU := Lib.hid hU'
  have HE := Lib.hid he
  have HPA := Lib.hid hpa
  have HLEN := Lib.hid hlen
  have HW := Lib.hid (Below.refl w.heap.size w)
  clear hV hU hU' he hpa hlen
  go_enter Try.func9, Try.ntmps9
  go_wp2
  go_loopw [5] (fun s5 wr => ∃ i : Nat, i ≤ qs.length ∧ s5 = .int .i64 (i : Int) ∧ Below w.heap.size w wr) (fun s5 _ => qs.length - (intOf s5).toNat)
  case atStart => exact ⟨0, Nat.zero_le _, rfl, HW.out⟩
  case round =>
    obtain ⟨i, hi, rfl, hB⟩ := hrel
    have HB := Lib.hid hB
    clear hB
    by_cases hlt : i < qs.length
    · have hlt2 : i < rs.length := by rw [HLEN.out]; exact hlt
      obtain ⟨gV, cV, hVV⟩ := own_some7 HV.out.1 (Nat.lt_of_le_of_lt (Nat.zero_le _) hlt)
      have hva : va = some ⟨gV, 0, none⟩ := by injection hVV
      subst hva
      obtain ⟨gU, cU, hUU⟩ := own_some7 HU.out.1 (Nat.lt_of_le_of_lt (Nat.zero_le _) hlt2)
      have hua : ua = some ⟨gU, 0, none⟩ := by injection hUU
      subst hua
      obtain ⟨x0, x1, x2, x3, x4, x5, x6⟩ := evJ_at HV.out HB.out i hlt
      obtain ⟨y0, y1, y2, y3, y4, y5, y6⟩ := evJ_at HU.out HB.out i hlt2
      have hE := evJ_same HE.out i hlt hlt2
      rw [hE] at y0 y1 y2 y3 y4 y5 y6
      have HI1 := Lib.hid (Ints.ints_then HB.out (Nat.le_refl _) (evJ_ints HV.out qs[i] (List.getElem_mem hlt)))
      have HI2 := Lib.hid (Ints.ints_then HB.out (Nat.le_refl _) (evJ_ints HU.out rs[i] (List.getElem_mem hlt2)))
      have HP := Lib.hid (HPA.out qs[i] (List.getElem_mem hlt))
      rw [hE] at HI2
      obtain ⟨E, hEE⟩ : ∃ E, E = qs[i].E := ⟨_, rfl⟩
      obtain ⟨a1, ha1⟩ : ∃ a, a = qs[i].a := ⟨_, rfl⟩
      obtain ⟨a2, ha2⟩ : ∃ a, a = rs[i].a := ⟨_, rfl⟩
      obtain ⟨c1, hc1⟩ : ∃ a, a = qs[i].c := ⟨_, rfl⟩
      obtain ⟨c2, hc2⟩ : ∃ a, a = rs[i].c := ⟨_, rfl⟩
      rw [← hEE] at x0 x1 x2 x3 x4 x5 x6 y0 y1 y2 y3 y4 y5 y6
      rw [← ha1, ← hc1] at x2
      rw [← ha2, ← hc2] at y2
      rw [← hEE] at HI1 HI2 HP
      rw [← ha1] at HI1
      rw [← ha2] at HI2
      have HC : Hid ((fun W => W.cell? ⟨gV, i * 7, none⟩ = some (.int .i64 (E.kind : Int)) ∧ W.cell? ⟨gV, i * 7 + 1, none⟩ = some (.int .i32 E.rune) ∧ W.cell? ⟨gV, i * 7 + 2, none⟩ = some (.slice a1 E.pa.length c1) ∧ W.cell? ⟨gV, i * 7 + 3, none⟩ = some (.int .i32 E.pv) ∧ W.cell? ⟨gV, i * 7 + 4, none⟩ = some (.int .i32 E.it) ∧ W.cell? ⟨gV, i * 7 + 5, none⟩ = some (.int .i32 E.fi) ∧ W.cell? ⟨gV, i * 7 + 6, none⟩ = some (.string E.tx) ∧ W.cell? ⟨gU, i * 7, none⟩ = some (.int .i64 (E.kind : Int)) ∧ W.cell? ⟨gU, i * 7 + 1, none⟩ = some (.int .i32 E.rune) ∧ W.cell? ⟨gU, i * 7 + 2, none⟩ = some (.slice a2 E.pa.length c2) ∧ W.cell? ⟨gU, i * 7 + 3, none⟩ = some (.int .i32 E.pv) ∧ W.cell? ⟨gU, i * 7 + 4, none⟩ = some (.int .i32 E.it) ∧ W.cell? ⟨gU, i * 7 + 5, none⟩ = some (.int .i32 E.fi) ∧ W.cell? ⟨gU, i * 7 + 6, none⟩ = some (.string E.tx)) wr) := Lib.hid ⟨x0, x1, x2, x3, x4, x5, x6, y0, y1, y2, y3, y4, y5, y6⟩
      have hlI : (i : Int) < (qs.length : Int) := by omega
      clear hE hEE ha1 ha2 hc1 hc2 hVV hUU
      go_upto_region 6 with fail
      go_cut [6, 7] from 13 to 74 (fun s6 s7 wx => TwoE wr E (.slice a1 E.pa.length c1) (.slice a2 E.pa.length c2) s6 s7 wx)
      case first =>
        go_region_held3 (fun W => W.cell? ⟨gV, i * 7, none⟩ = some (.int .i64 (E.kind : Int)) ∧ W.cell? ⟨gV, i * 7 + 1, none⟩ = some (.int .i32 E.rune) ∧ W.cell? ⟨gV, i * 7 + 2, none⟩ = some (.slice a1 E.pa.length c1) ∧ W.cell? ⟨gV, i * 7 + 3, none⟩ = some (.int .i32 E.pv) ∧ W.cell? ⟨gV, i * 7 + 4, none⟩ = some (.int .i32 E.it) ∧ W.cell? ⟨gV, i * 7 + 5, none⟩ = some (.int .i32 E.fi) ∧ W.cell? ⟨gV, i * 7 + 6, none⟩ = some (.string E.tx) ∧ W.cell? ⟨gU, i * 7, none⟩ = some (.int .i64 (E.kind : Int)) ∧ W.cell? ⟨gU, i * 7 + 1, none⟩ = some (.int .i32 E.rune) ∧ W.cell? ⟨gU, i * 7 + 2, none⟩ = some (.slice a2 E.pa.length c2) ∧ W.cell? ⟨gU, i * 7 + 3, none⟩ = some (.int .i32 E.pv) ∧ W.cell? ⟨gU, i * 7 + 4, none⟩ = some (.int .i32 E.it) ∧ W.cell? ⟨gU, i * 7 + 5, none⟩ = some (.int .i32 E.fi) ∧ W.cell? ⟨gU, i * 7 + 6, none⟩ = some (.string E.tx)) (first | (go_split_ands; refine ⟨?_, ?_, ?_, ?_, ?_, ?_, ?_, ?_, ?_, ?_, ?_, ?_, ?_, ?_⟩ <;> (repeat (first | with_reducible assumption | (with_reducible refine past_alloc ?_) | (with_reducible refine past_drew ?_) | (with_reducible refine past_set ?_ (by first | assumption))))) | done) (fail)
        all_goals go_wp2
        all_goals go_meet
        all_goals first | exact two_ab | exact two_ba
      case rest =>
        clear x0 x1 x2 x3 x4 x5 x6 y0 y1 y2 y3 y4 y5 y6
        obtain ⟨p, q, rfl, rfl, hp, hq, hb⟩ := hcut
        have HJ1 := Lib.hid (Ints.ints_then hb (Nat.le_refl _) HI1.out)
        have HJ2 := Lib.hid (Ints.ints_then hb (Nat.le_refl _) HI2.out)
        have HBC := Lib.hid (below_then HB.out hb HB.out.size)
        obtain ⟨x0, x1, x2, x3, x4, x5, x6⟩ := seven hp
        obtain ⟨y0, y1, y2, y3, y4, y5, y6⟩ := seven hq
        clear hp hq hb HC HI1 HI2
        go_wp2_with (go_at_call 16; (with_reducible refine (Fb.intsS a1 a2 E.pa.length E.pa.length c1 c2 E.pa wc rfl rfl HP.out HJ1.out HJ2.out).mono ?_); rintro e w3 ⟨rfl, nd, rfl⟩; have HB3 := Lib.hid (below_drewN HBC.out nd))
        go_roundw
        case rel => exact ⟨i + 1, hlt, by go_num, HB3.out⟩
        case measure =>
          show qs.length - ((i : Int) + 1).toNat < qs.length - (i : Int).toNat
          omega
    · obtain rfl : i = qs.length := by omega
      go_wp2
      go_ret
      exact ⟨rfl, HB.out⟩

end Go.Proofs.Ytnaiefjbfpejbaa.Js
