/- Lists of events that are alike. -/
import Derived.Test.YtnaiefjbfpejbaaGa
set_option linter.unusedVariables false
namespace Go.Proofs.Ytnaiefjbfpejbaa.Gb
open Go Go.RowKit Kit Ep Eb Er Ea Es Et Eu Ev Ek Ew Ex Ey Ez Fa Fb Fc Fd Ga


theorem ev_at {w wr : World} {g c : Nat} {qs : List EW} (h : EvI w (.slice (some ⟨g, 0, none⟩) qs.length c) qs) (hb : Below w.heap.size w wr) (j : Nat) (hj : j < qs.length) : wr.cell? ⟨g, j * 7, none⟩ = some (.int .i64 (qs[j].E.kind : Int)) ∧ wr.cell? ⟨g, j * 7 + 1, none⟩ = some (.int .i32 qs[j].E.rune) ∧ wr.cell? ⟨g, j * 7 + 2, none⟩ = some (.slice qs[j].a qs[j].E.pa.length qs[j].c) ∧ wr.cell? ⟨g, j * 7 + 3, none⟩ = some (.int .i32 qs[j].E.pv) ∧ wr.cell? ⟨g, j * 7 + 4, none⟩ = some (.int .i32 qs[j].E.it) ∧ wr.cell? ⟨g, j * 7 + 5, none⟩ = some (.int .i32 qs[j].E.fi) ∧ wr.cell? ⟨g, j * 7 + 6, none⟩ = some (.string qs[j].E.tx) :=
  ⟨cell_then hb (Nat.le_refl _) (ev_cells h j hj 0 (by decide)), cell_then hb (Nat.le_refl _) (ev_cells h j hj 1 (by decide)), cell_then hb (Nat.le_refl _) (ev_cells h j hj 2 (by decide)), cell_then hb (Nat.le_refl _) (ev_cells h j hj 3 (by decide)), cell_then hb (Nat.le_refl _) (ev_cells h j hj 4 (by decide)), cell_then hb (Nat.le_refl _) (ev_cells h j hj 5 (by decide)), cell_then hb (Nat.le_refl _) (ev_cells h j hj 6 (by decide))⟩
theorem ev_same {qs rs : List EW} (h : qs.map EW.E = rs.map EW.E) (j : Nat) (hj : j < qs.length) (hk : j < rs.length) : rs[j].E = qs[j].E := by
  have h1 : (qs.map EW.E)[j]? = (rs.map EW.E)[j]? := by rw [h]
  simp [hj, hk] at h1
  exact h1.symm
set_option maxRecDepth 100000 in
set_option maxHeartbeats 2000000 in
/-- events, one by one. -/
theorem eachC (va ua : Option Addr) (vc uc n1 n2 : Nat) (qs rs : List EW) (w : World) (e1 : n1 = qs.length) (e2 : n2 = qs.length) (hV : EvI w (.slice va qs.length vc) qs) (hU : EvI w (.slice ua rs.length uc) rs) (he : qs.map EW.E = rs.map EW.E) (hpa : ∀ q ∈ qs, q.E.pa.length ≤ 100000) (hl : qs.length ≤ 100000) :
    Calls Try.prog 19 #[.slice va n1 vc, .slice ua n2 uc, .func (.func 20) #[] #[]] w fun e w' => e = .returned (.bool true) ∧ Below w.heap.size w w' := by
  subst e1 e2
  have hlen : rs.length = qs.length := by have := congrArg List.length he; simpa using this.symm
  have HV := Lib.hid hV
  have HU := Lib.hid hU
  have HE := Lib.hid he
  have HPA := Lib.hid hpa
  have HLEN := Lib.hid hlen
  have HW := Lib.hid (Below.refl w.heap.size w)
  clear hV hU he hpa hlen
  go_enter Try.func19, Try.ntmps19
  go_wp2
  go_loopw [17] (fun s17 wr => ∃ i : Nat, i ≤ qs.length ∧ s17 = .int .i64 (i : Int) ∧ Below w.heap.size w wr) (fun s17 _ => qs.length - (intOf s17).toNat)
  case atStart => exact ⟨0, Nat.zero_le _, rfl, HW.out⟩
  case round =>
    obtain ⟨i, hi, rfl, hB⟩ := hrel
    have HB := Lib.hid hB
    clear hB
    by_cases hlt : i < qs.length
    · have hlt2 : i < rs.length := by rw [HLEN.out]; exact hlt
      obtain ⟨gV, cV, hVV⟩ := own_some7 HV.out.1 (Nat.lt_of_le_of_lt (Nat.zero_le _) hlt)
      have hva : va = some ⟨gV, 0, none⟩ := by injection hVV
      subst hva
      obtain ⟨gU, cU, hUU⟩ := own_some7 HU.out.1 (Nat.lt_of_le_of_lt (Nat.zero_le _) hlt2)
      have hua : ua = some ⟨gU, 0, none⟩ := by injection hUU
      subst hua
      obtain ⟨x0, x1, x2, x3, x4, x5, x6⟩ := ev_at HV.out HB.out i hlt
      obtain ⟨y0, y1, y2, y3, y4, y5, y6⟩ := ev_at HU.out HB.out i hlt2
      have hE := ev_same HE.out i hlt hlt2
      rw [hE] at y0 y1 y2 y3 y4 y5 y6
      have HI1 := Lib.hid (Ints.ints_then HB.out (Nat.le_refl _) (ev_ints HV.out qs[i] (List.getElem_mem hlt)))
      have HI2 := Lib.hid (Ints.ints_then HB.out (Nat.le_refl _) (ev_ints HU.out rs[i] (List.getElem_mem hlt2)))
      have HP := Lib.hid (HPA.out qs[i] (List.getElem_mem hlt))
      rw [hE] at HI2
      obtain ⟨E, hEE⟩ : ∃ E, E = qs[i].E := ⟨_, rfl⟩
      obtain ⟨a1, ha1⟩ : ∃ a, a = qs[i].a := ⟨_, rfl⟩
      obtain ⟨a2, ha2⟩ : ∃ a, a = rs[i].a := ⟨_, rfl⟩
      obtain ⟨c1, hc1⟩ : ∃ a, a = qs[i].c := ⟨_, rfl⟩
      obtain ⟨c2, hc2⟩ : ∃ a, a = rs[i].c := ⟨_, rfl⟩
      rw [← hEE] at x0 x1 x2 x3 x4 x5 x6 y0 y1 y2 y3 y4 y5 y6
      rw [← ha1, ← hc1] at x2
      rw [← ha2, ← hc2] at y2
      rw [← hEE] at HI1 HI2 HP
      rw [← ha1] at HI1
      rw [← ha2] at HI2
      have HJ1 := Lib.hid (Ints.ints_alloc (o := (.cells #[.int .i64 (E.kind : Int), .int .i32 E.rune, .slice a2 E.pa.length c2, .int .i32 E.pv, .int .i32 E.it, .int .i32 E.fi, .string E.tx] 40)) (Ints.ints_alloc (o := (.cells #[.int .i64 (E.kind : Int), .int .i32 E.rune, .slice a1 E.pa.length c1, .int .i32 E.pv, .int .i32 E.it, .int .i32 E.fi, .string E.tx] 40)) HI1.out))
      have HJ2 := Lib.hid (Ints.ints_alloc (o := (.cells #[.int .i64 (E.kind : Int), .int .i32 E.rune, .slice a2 E.pa.length c2, .int .i32 E.pv, .int .i32 E.it, .int .i32 E.fi, .string E.tx] 40)) (Ints.ints_alloc (o := (.cells #[.int .i64 (E.kind : Int), .int .i32 E.rune, .slice a1 E.pa.length c1, .int .i32 E.pv, .int .i32 E.it, .int .i32 E.fi, .string E.tx] 40)) HI2.out))
      have HBB := Lib.hid (below_then HB.out (past_two wr (.cells #[.int .i64 (E.kind : Int), .int .i32 E.rune, .slice a1 E.pa.length c1, .int .i32 E.pv, .int .i32 E.it, .int .i32 E.fi, .string E.tx] 40) (.cells #[.int .i64 (E.kind : Int), .int .i32 E.rune, .slice a2 E.pa.length c2, .int .i32 E.pv, .int .i32 E.it, .int .i32 E.fi, .string E.tx] 40)) HB.out.size)
      obtain ⟨z0, z1, z2, z3, z4, z5, z6⟩ := ev_at HU.out (HB.out.alloc HB.out.size (.cells #[.int .i64 (E.kind : Int), .int .i32 E.rune, .slice a1 E.pa.length c1, .int .i32 E.pv, .int .i32 E.it, .int .i32 E.fi, .string E.tx] 40)) i hlt2
      rw [hE] at z0 z1 z2 z3 z4 z5 z6
      rw [← hEE] at z0 z1 z2 z3 z4 z5 z6
      rw [← ha2, ← hc2] at z2
      have hlI : (i : Int) < (qs.length : Int) := by omega
      clear hE hEE ha1 ha2 hc1 hc2 hVV hUU
      go_wp2_with (go_at_call 20; (with_reducible refine (sameC E a1 a2 c1 c2 _ HJ1.out HJ2.out HP.out).mono ?_); rintro e w3 ⟨rfl, bq⟩; have HB3 := Lib.hid (below_then HBB.out bq HBB.out.size); clear bq)
      exact ⟨⟨i + 1, hlt, rfl, HB3.out⟩, by show qs.length - ((i : Int) + 1).toNat < qs.length - (i : Int).toNat; omega⟩
    · obtain rfl : i = qs.length := by omega
      go_wp2
      go_ret
      exact ⟨rfl, HB.out⟩
/-- two lists of events that are alike. -/
theorem samesC (va ua : Option Addr) (vc uc n1 n2 : Nat) (qs rs : List EW) (w : World) (e1 : n1 = qs.length) (e2 : n2 = qs.length) (hV : EvI w (.slice va qs.length vc) qs) (hU : EvI w (.slice ua rs.length uc) rs) (he : qs.map EW.E = rs.map EW.E) (hpa : ∀ q ∈ qs, q.E.pa.length ≤ 100000) (hl : qs.length ≤ 100000) :
    Calls Try.prog 14 #[.slice va n1 vc, .slice ua n2 uc] w fun e w' => e = .returned (.bool true) ∧ Below w.heap.size w w' := by
  have HX := Lib.hid (eachC va ua vc uc n1 n2 qs rs w e1 e2 hV hU he hpa hl)
  clear e1 e2 hV hU he hpa hl
  go_enter Try.func14, Try.ntmps14
  go_wp2_with (go_at_call 19; (with_reducible refine HX.out.mono ?_); rintro e w1 ⟨rfl, bq⟩)
  go_ret
  exact ⟨rfl, bq⟩

end Go.Proofs.Ytnaiefjbfpejbaa.Gb
