/- The document's Resize. -/
import Derived.Test.YtfdjmlncdbpkgaaXw
set_option linter.unusedVariables false
namespace Go.Proofs.Ytfdjmlncdbpkgaa.Xy
open Go Go.RowKit Kit Gm Gv Fl Me Cp Sl Gg Gh Gp Gq Gk Xa Xb Xm Xn Xf Xe Xg Xv Xw
open Gu (b0C resRow resizeL resizeL_len rowAt_len)
open Pr (Iv row_lt rowAt_get res_at)
open Ge (unit)

/-- the cells that a Resize copies, not yet mended. -/
def rawL (R C : Nat) (L : List Ce) (S D : Nat) : List Ce := (List.range (S * D)).map fun j => if j / D < R ∧ j % D < C then L.getD (j / D * C + j % D) b0C else b0C
section
variable {R C S D i c : Nat} {L : List Ce}
theorem raw_len : (rawL R C L S D).length = S * D := by simp [rawL]
theorem raw_at (hi : i < S) (hc : c < D) : (rawL R C L S D)[i * D + c]? = some (if i < R ∧ c < C then L.getD (i * C + c) b0C else b0C) := by
  have hlt : i * D + c < S * D := row_lt hi hc
  have d1 : (i * D + c) / D = i := by rw [Nat.mul_comm, Nat.mul_add_div (by omega), Nat.div_eq_of_lt hc, Nat.add_zero]
  have d2 : (i * D + c) % D = c := by rw [Nat.mul_comm, Nat.mul_add_mod, Nat.mod_eq_of_lt hc]
  unfold rawL
  rw [List.getElem?_map, List.getElem?_range hlt]
  simp only [Option.map_some, d1, d2]
theorem place_of {j : Nat} (hj : j < S * D) : ∃ i c, i < S ∧ c < D ∧ j = i * D + c := by
  have hD : 0 < D := by
    rcases Nat.eq_zero_or_pos D with h | h
    · rw [h] at hj; omega
    · exact h
  exact ⟨j / D, j % D, Nat.div_lt_of_lt_mul (by rw [Nat.mul_comm]; exact hj), Nat.mod_lt _ hD, (Nat.div_add_mod' j D).symm⟩
theorem rep_at {n j : Nat} (hj : j < n) : (List.replicate n b0C)[j]? = some b0C := by rw [List.getElem?_replicate, if_pos hj]
theorem raw_rowend {n2 : Nat} (hi : i < S) (hn : n2 = min D C) : mix (rawL R C L S D) (List.replicate (S * D) b0C) (i * D + n2) = mix (rawL R C L S D) (List.replicate (S * D) b0C) ((i + 1) * D) := by
  refine mix_jump (by rw [raw_len, List.length_replicate]) (by rw [Nat.succ_mul]; omega) fun j h1 h2 => ?_
  have h3 : (i + 1) * D ≤ S * D := Nat.mul_le_mul_right D hi
  rw [rep_at (by omega)]
  rw [Nat.succ_mul] at h2
  have e : j = i * D + (j - i * D) := by omega
  rw [e, raw_at hi (show j - i * D < D by omega), if_neg (by omega)]
theorem raw_end {m : Nat} (hm : m = min S R) : mix (rawL R C L S D) (List.replicate (S * D) b0C) (m * D) = rawL R C L S D := by
  have hl : (rawL R C L S D).length = (List.replicate (S * D) b0C).length := by rw [raw_len, List.length_replicate]
  have hz := mix_all hl
  rw [List.length_replicate] at hz
  rw [mix_jump (j := S * D) hl (Nat.mul_le_mul_right D (by omega)) fun j h1 h2 => ?_, hz]
  · obtain ⟨i, c, hi, hc, rfl⟩ := place_of h2
    have hmi : m ≤ i := by
      rcases Nat.lt_or_ge i m with h | h
      · have := row_lt h hc; omega
      · exact h
    rw [rep_at h2, raw_at hi hc, if_neg (by omega)]
theorem raw_row (hl : L.length = R * C) (hi : i < S) : mend (Gq.rowAt (rawL R C L S D) (i * D) D) = Gq.rowAt (resizeL R C L S D) (i * D) D := by
  have h1 := rowAt_len (L := rawL R C L S D) raw_len hi
  have h2 := rowAt_len (L := resizeL R C L S D) (resizeL_len R C L S D) hi
  by_cases hR : i < R
  · have h3 := rowAt_len hl hR
    have e : Gq.rowAt (rawL R C L S D) (i * D) D = (Gq.rowAt L (i * C) C).take D ++ List.replicate (D - (Gq.rowAt L (i * C) C).length) b0C := by
      apply List.ext_getElem?
      intro x
      by_cases hx : x < D
      · rw [rowAt_get _ _ _ _ hx, raw_at hi hx, List.getElem?_append, List.length_take, h3, List.getElem?_take, List.getElem?_replicate]
        by_cases hC : x < C
        · have h4 : i * C + x < L.length := by rw [hl]; exact row_lt hR hC
          rw [if_pos ⟨hR, hC⟩, if_pos (by omega), if_pos hx, rowAt_get _ _ _ _ hC, List.getD_eq_getElem?_getD, List.getElem?_eq_getElem h4]; rfl
        · rw [if_neg (by omega), if_neg (by omega), if_pos (by omega)]
      · rw [List.getElem?_eq_none (by omega), List.getElem?_eq_none (by rw [List.length_append, List.length_take, List.length_replicate]; omega)]
    rw [e]
    change resRow D _ = _
    apply List.ext_getElem?
    intro x
    by_cases hx : x < D
    · rw [rowAt_get _ _ _ _ hx, res_at hl i x hi hx, if_pos hR]
    · rw [List.getElem?_eq_none (by rw [Gu.resRow_len]; omega), List.getElem?_eq_none (by omega)]
  · have e : Gq.rowAt (rawL R C L S D) (i * D) D = List.replicate D b0C := by
      apply List.ext_getElem?
      intro x
      by_cases hx : x < D
      · rw [rowAt_get _ _ _ _ hx, raw_at hi hx, if_neg (by omega), rep_at hx]
      · rw [List.getElem?_eq_none (by omega), List.getElem?_eq_none (by rw [List.length_replicate]; omega)]
    rw [e, mend_flat fun c hc => by rw [List.eq_of_mem_replicate hc]; rfl]
    apply List.ext_getElem?
    intro x
    by_cases hx : x < D
    · rw [rowAt_get _ _ _ _ hx, res_at hl i x hi hx, if_neg hR, rep_at hx]
    · rw [List.getElem?_eq_none (by rw [List.length_replicate]; omega), List.getElem?_eq_none (by omega)]
theorem raw_wd (h : ∀ c ∈ L, c.wd = 0 ∨ c.wd = 1 ∨ c.wd = 2) : ∀ c ∈ rawL R C L S D, c.wd = 0 ∨ c.wd = 1 ∨ c.wd = 2 := by
  intro c hc
  unfold rawL at hc
  obtain ⟨j, _, rfl⟩ := List.mem_map.1 hc
  split
  · rw [List.getD_eq_getElem?_getD]
    cases e : L[j / D * C + j % D]? with
    | none => exact .inl rfl
    | some x => exact h x (List.mem_of_getElem? e)
  · exact .inl rfl
/-- one row more is mended. -/
theorem mend_step (T1 T0 : List Ce) (i D : Nat) (h : mend (Gq.rowAt T0 (i * D) D) = Gq.rowAt T1 (i * D) D) (hd : D ≤ (T0.drop (i * D)).length) :
    mix T1 T0 (i * D) = T1.take (i * D) ++ Gq.rowAt T0 (i * D) D ++ T0.drop (i * D + D) ∧ T1.take (i * D) ++ mend (Gq.rowAt T0 (i * D) D) ++ T0.drop (i * D + D) = mix T1 T0 ((i + 1) * D) := by
  constructor
  · unfold mix Gq.rowAt
    rw [List.append_assoc, ← List.drop_drop, List.take_append_drop]
  · rw [h, Nat.succ_mul]
    unfold mix Gq.rowAt
    rw [List.take_add]
end
/-- what a Resize leaves. -/
def XRs (v : Value) (w : World) (p S D : Nat) (L' : List Ce) (e : Ending) (w' : World) : Prop := ∃ b', e = .returned v ∧ X w' p b' S D L' ∧ Kp p p w w' ∧ w.heap.size ≤ b'
theorem wp_store_field {o : Oper} {a : Act} {w : World} {K : Act → World → Prop} {Q : Exit → Act → World → Prop} (ty : TypeId) (x y : Operand) (ho : o.op = .store ty x y) (hi : (Try.prog.info? ty).map (·.size) = some 1)
    (p i : Nat) (v x0 x1 x2 : Value) (hx : a.eval x = .pointer (some ⟨p, i, none⟩)) (hy : a.eval y = v) (h : w.heap[p]? = some (.cells #[x0, x1, x2] 43 (0, 0))) (hv : v.oneCell' = true) (i3 : i < 3)
    (hK : ∀ w', w'.heap[p]? = some (.cells (#[x0, x1, x2].setIfInBounds i v) 43 (0, 0)) → Kp p p w w' → K (a.put o.dst undef) w') : o.wp Try.prog a w K Q := by
  have hst := run_storeCells_at Try.prog p i 43 [v] 0 #[x0, x1, x2] w h (by simp; omega) (fun u hu => by simp at hu; subst hu; exact hv)
  have hc : v.cells = #[v] := by cases v <;> first | rfl | cases hv
  have hrun : (storeVar ty ⟨p, i, none⟩ v).run Try.prog w = .ok () (w.setRow p (#[x0, x1, x2].setIfInBounds i v)) := by
    cases hq : Try.prog.info? ty with
    | none => simp [hq] at hi
    | some j =>
      have hs : j.size = 1 := by simpa [hq] using hi
      have e : ((#[x0, x1, x2] : Array Value).toList.take (i + 0) ++ [v] ++ (#[x0, x1, x2] : Array Value).toList.drop (i + 0 + [v].length)).toArray = #[x0, x1, x2].setIfInBounds i v := by
        match i, i3 with
        | 0, _ => rfl
        | 1, _ => rfl
        | 2, _ => rfl
      rw [e] at hst
      simp [storeVar, sizeOf, typeInfo, hq, hc, hs]
      exact hst.trans (by simp)
  unfold Oper.wp execOp
  simp only [ho, hx, hy, Instr.storeAt, Instr.sureAddr, Sem.run_bind, Sem.run_pure, Result.andThen_ok, hrun]
  exact hK _ (setRow_heap _ _ _ _ 43 _ h) ⟨rfl, rfl, rfl, by simp, fun j hj h1 _ => setRow_other _ _ _ _ h1⟩
set_option maxRecDepth 100000 in
/-- Resize, to no size. -/
theorem resizeNoX (p : Nat) (rows cols : Int) (w : World) (hz : sizeB rows cols = false) :
    Calls Try.prog 41 #[.pointer (some ⟨p, 0, none⟩), .int .i64 rows, .int .i64 cols] w fun e w' => e = .returned (.int .i64 1) ∧ w = w' := by
  have H11 := Lib.hid (Xn.newNo rows cols w hz)
  clear hz
  go_enter Try.func41, Try.ntmps41
  go_wp2_with (go_at_call 11; (with_reducible refine H11.out.mono ?_); rintro e w' ⟨rfl, rfl⟩)
  go_ret
  exact ⟨rfl, rfl⟩
theorem mend_row {w : World} {p b S D j : Nat} {T1 T0 : List Ce} (h : X w p b S D (mix T1 T0 (j * D))) (hj : j < S) (h0 : T0.length = S * D) (h1 : T1.length = S * D) (hrow : mend (Gq.rowAt T0 (j * D) D) = Gq.rowAt T1 (j * D) D) (hwd : ∀ c ∈ T0, c.wd = 0 ∨ c.wd = 1 ∨ c.wd = 2) :
    Calls Try.prog 55 #[.pointer (some ⟨p, 0, none⟩), .int .i64 (j : Int)] w fun e w' => e = .returned unit ∧ X w' p b S D (mix T1 T0 ((j + 1) * D)) ∧ Kp b b w w' := by
  have hq := row_nums h0 hj
  obtain ⟨e1, e2⟩ := mend_step T1 T0 j D hrow (by rw [List.length_drop]; omega)
  have hA : (T1.take (j * D)).length = j * D := by rw [List.length_take]; exact Nat.min_eq_left (by omega)
  have hx := h
  rw [e1] at hx
  refine (mendX p b S D j _ _ _ w hx hj hA (rowAt_len h0 hj) (fun c hc => hwd c (List.mem_of_mem_drop (List.mem_of_mem_take hc)))).mono fun e w' hq' => ?_
  obtain ⟨g1, g2, g3⟩ := RowP.of hq'
  rw [e2] at g2
  exact ⟨g1, h.row_new g2 g3 (by rw [mix_len _ (by rw [h0, h1]), mix_len _ (by rw [h0, h1])]), g3⟩
theorem min_ite (a b : Nat) : (if (b : Int) < (a : Int) then (b : Int) else (a : Int)) = ((min a b : Nat) : Int) ∧ (if b < a then (b : Int) else (a : Int)) = ((min a b : Nat) : Int) := by
  constructor <;> split <;> omega
set_option maxRecDepth 100000 in
set_option maxHeartbeats 4000000 in
/-- Resize. -/
theorem resizeYesX (p b R C S D : Nat) (L : List Ce) (w : World) (h : X w p b R C L) (hi : Iv R C L) (hs : 1 ≤ S ∧ S ≤ 60 ∧ 1 ≤ D ∧ D ≤ 200) :
    Calls Try.prog 41 #[.pointer (some ⟨p, 0, none⟩), .int .i64 (S : Int), .int .i64 (D : Int)] w (XRs (.int .i64 0) w p S D (resizeL R C L S D)) := by
  obtain ⟨p2, hp2⟩ : ∃ p2, p2 = w.heap.size + 1 := ⟨_, rfl⟩
  obtain ⟨b2, hb2⟩ : ∃ b2, b2 = w.heap.size := ⟨_, rfl⟩
  have H11 := Lib.hid (show Calls Try.prog 11 #[.int .i64 (S : Int), .int .i64 (D : Int)] w fun e w' => e = .returned (.tuple #[.pointer (some ⟨p2, 0, none⟩), .int .i64 0]) ∧ X w' p2 b2 S D (List.replicate (S * D) b0C) ∧ Below w.heap.size w w' by rw [hp2, hb2]; exact newYes S D w hs)
  have hpl := h.p_lt
  have hbl := h.b_lt
  have HPP := Lib.hid (show p2 ≠ p by omega)
  have HPB2 := Lib.hid (show p ≠ b2 by omega)
  have HP2B2 := Lib.hid (show p2 ≠ b2 by omega)
  have HBB2 := Lib.hid (show b ≠ b2 by omega)
  have HB2P := Lib.hid (show b2 ≠ p by omega)
  have HB2G := Lib.hid (show w.heap.size ≤ b2 by omega)
  have HPL := Lib.hid hpl
  have HBL := Lib.hid hbl
  obtain ⟨m, hm⟩ : ∃ m, m = min S R := ⟨_, rfl⟩
  obtain ⟨n2, hn2⟩ : ∃ n2, n2 = min D C := ⟨_, rfl⟩
  obtain ⟨kM, kM2⟩ := min_ite S R
  obtain ⟨kN, kN2⟩ := min_ite D C
  rw [← hm] at kM kM2
  rw [← hn2] at kN kN2
  have hmS : m ≤ S := by omega
  have hmR : m ≤ R := by omega
  have hnD : n2 ≤ D := by omega
  have hnC : n2 ≤ C := by omega
  have HmS := Lib.hid hmS
  have HmR := Lib.hid hmR
  have HnD := Lib.hid hnD
  have HnC := Lib.hid hnC
  have HS := Lib.hid hs
  have HLen := Lib.hid h.len
  have HSm := Lib.hid h.small
  have HRE := Lib.hid (fun (i : Nat) (hi : i < S) => raw_rowend (R := R) (C := C) (L := L) (D := D) hi hn2)
  have HEND := Lib.hid (raw_end (R := R) (C := C) (S := S) (D := D) (L := L) hm)
  have HAT := Lib.hid (fun (i c : Nat) (hi : i < S) (hc : c < D) => raw_at (R := R) (C := C) (L := L) hi hc)
  have HROW := Lib.hid (fun (i : Nat) (hi : i < S) => raw_row (S := S) (D := D) h.len hi)
  have HWD := Lib.hid (raw_wd (R := R) (C := C) (S := S) (D := D) (fun c hc => may_wds (hi.may c hc)))
  have HTL := Lib.hid (show (rawL R C L S D).length = S * D from raw_len)
  have HT1L := Lib.hid (show (resizeL R C L S D).length = S * D from resizeL_len R C L S D)
  have HSD := Lib.hid (show S * D ≤ 12000 from Nat.mul_le_mul hs.2.1 hs.2.2.2)
  have HH := Lib.hid h
  obtain ⟨nB, hnB⟩ : ∃ nB, S * D = nB := ⟨_, rfl⟩
  have HNB := Lib.hid hnB
  have HBlen := Lib.hid (show (List.replicate nB b0C).length = nB from List.length_replicate)
  rw [hnB] at HTL HT1L HSD HEND H11
  have HRE' := Lib.hid (show ∀ i, i < S → mix (rawL R C L S D) (List.replicate nB b0C) (i * D + n2) = mix (rawL R C L S D) (List.replicate nB b0C) ((i + 1) * D) by rw [← hnB]; exact HRE.out)
  generalize hT0 : rawL R C L S D = T0 at *
  generalize hT1 : resizeL R C L S D = T1 at *
  generalize hBk : List.replicate nB b0C = Bk at *
  generalize hnl : L.length = nl at *
  have HNL := Lib.hid hnl
  clear h hi hs hpl hbl hp2 hb2 hm hn2 hmS hmR hnD hnC HRE hnB hT0 hT1 hBk hnl
  go_enter Try.func41, Try.ntmps41
  go_wp2_with (go_at_call 11; (with_reducible refine H11.out.mono ?_); rintro e w1 ⟨rfl, hx1, hb1⟩; have HX1 := Lib.hid hx1; have HB1 := Lib.hid hb1; have HP0 := Lib.hid (Gg.cell_then hb1 (Nat.le_refl _) (three HH.out.obj).1); obtain ⟨pr0, pr1, pr2⟩ := three HH.out.obj; replace pr0 := Gg.cell_then hb1 (Nat.le_refl _) pr0; clear hx1 hb1)
  have HP1 := Lib.hid (Gg.cell_then HB1.out (Nat.le_refl _) pr1)
  have HP2 := Lib.hid (show w1.cell? ⟨p, 2, none⟩ = some (.slice (some ⟨b, 0, none⟩) nl nl) by have := Gg.cell_then HB1.out (Nat.le_refl _) pr2; rwa [HNL.out] at this)
  have HQ0 := Lib.hid (three HX1.out.obj).1
  have HQ1 := Lib.hid (three HX1.out.obj).2.1
  have HQ2 := Lib.hid (show w1.cell? ⟨p2, 2, none⟩ = some (.slice (some ⟨b2, 0, none⟩) nB nB) by have := (three HX1.out.obj).2.2; rwa [HBlen.out] at this)
  have HRW1 := Lib.hid HX1.out.row
  have HRBb := Lib.hid (HH.out.row.then_ HB1.out (Nat.le_refl _))
  have HPL1 := Lib.hid (Nat.lt_of_lt_of_le HPL.out HB1.out.size)
  have HBL1 := Lib.hid (Nat.lt_of_lt_of_le HBL.out HB1.out.size)
  clear pr0 pr1 pr2
  go_loopw [9] (fun s9 wr => ∃ i : Nat, i ≤ m ∧ s9 = .int .i64 i ∧ Hid (RB wr b2 (mix T0 Bk (i * D))) ∧ Hid (Kp b2 b2 w1 wr)) (fun s9 _ => m - (intOf s9).toNat)
  case atStart => exact ⟨0, Nat.zero_le _, rfl, Lib.hid (by rw [Nat.zero_mul, mix_zero]; exact HRW1.out), Lib.hid (Kp.refl _ _ _)⟩
  case round =>
    obtain ⟨i, hi, rfl, HR, HK⟩ := hrel
    obtain ⟨wo, rfl⟩ : ∃ wo : World, wo = wr := ⟨_, rfl⟩
    have p0 := cell_kept HK.out HP0.out HPB2.out HPB2.out
    by_cases hlt : i < m
    · have HKi := Lib.hid (show i + 1 ≤ m ∧ m - (i + 1) < m - i by omega)
      have HiS := Lib.hid (Nat.lt_of_lt_of_le hlt HmS.out)
      have HiR := Lib.hid (Nat.lt_of_lt_of_le hlt HmR.out)
      obtain ⟨u1, u2⟩ := succ_wrap (k := i) (C := 200) (Nat.lt_of_lt_of_le HiS.out (Nat.le_trans HS.out.2.1 (by decide))) (Nat.le_refl _)
      have hltI : (i : Int) < (m : Int) := Int.ofNat_lt.2 hlt
      clear hi
      go_wp2
      clear p0
      go_loopw [10] (fun s10 wr => ∃ c : Nat, c ≤ n2 ∧ s10 = .int .i64 c ∧ Hid (RB wr b2 (mix T0 Bk (i * D + c))) ∧ Hid (Kp b2 b2 w1 wr)) (fun s10 _ => n2 - (intOf s10).toNat)
      case atStart => exact ⟨0, Nat.zero_le _, rfl, Lib.hid (by rw [Nat.add_zero]; exact HR.out), HK⟩
      case round =>
        obtain ⟨c, hc, rfl, HRc, HKc⟩ := hrel
        have p1 := cell_kept HKc.out HP1.out HPB2.out HPB2.out
        by_cases hltc : c < n2
        · have p2' := cell_kept HKc.out HP2.out HPB2.out HPB2.out
          have q2 := cell_kept HKc.out HQ2.out HP2B2.out HP2B2.out
          have hcD := Nat.lt_of_lt_of_le hltc HnD.out
          have hcC := Nat.lt_of_lt_of_le hltc HnC.out
          have HKc1 := Lib.hid (show c + 1 ≤ n2 ∧ n2 - (c + 1) < n2 - c by omega)
          obtain ⟨v1, v2⟩ := succ_wrap hcD HS.out.2.2.2
          obtain ⟨qa, sa, hqa, hsa, hsan, e1, e2, e3, e4⟩ := place_nums HNB.out.symm HiS.out hcD HSD.out
          obtain ⟨qb, sb, hqb, hsb, hsbn, f1, f2, f3, f4⟩ := place_nums HLen.out HiR.out hcC HSm.out
          have hta := HAT.out i c HiS.out hcD
          have hsbL : sb < L.length := by rw [HNL.out]; exact hsbn
          rw [if_pos ⟨HiR.out, hcC⟩, show i * D + c = sa by rw [hsa, hqa], show i * C + c = sb by rw [hsb, hqb], List.getD_eq_getElem?_getD, List.getElem?_eq_getElem hsbL, Option.getD_some] at hta
          have hcs : CS w1 b L := fun j hj i hi => HRBb.out.cell j hj i hi
          obtain ⟨y0, y1, y2, y3, y4⟩ := cs_fives (cs_kept hcs HKc.out HBB2.out HBL1.out) sb _ (List.getElem?_eq_getElem hsbL)
          have hsaB : sa < Bk.length := by rw [HBlen.out]; exact hsan
          have hms := mix_split (T := T0) hsaB
          generalize Bk[sa] = x0 at hms
          generalize L[sb] = d at *
          have HTs := Lib.hid hta
          have HSs := Lib.hid (show sa + 1 = i * D + (c + 1) by rw [hsa, hqa, Nat.add_assoc])
          have HRs := Lib.hid (show RB wr.drew b2 (T0.take sa ++ x0 :: Bk.drop (sa + 1)) by rw [← hms, hsa, hqa]; exact RB.drew HRc.out)
          have HQs := Lib.hid (show sa * 5 = (T0.take sa).length * 5 by rw [List.length_take, HTL.out, Nat.min_eq_left (Nat.le_of_lt hsan)])
          obtain ⟨dr, df, dg, db, dw⟩ := d
          dsimp only at y0 y1 y2 y3 y4
          have hltcI : (c : Int) < (n2 : Int) := Int.ofNat_lt.2 hltc
          clear hms hqa hsa hqb hsb hta hcs hc hcD hcC hsaB hsbL
          go_wp2
          go_still_tail 24, (by kernel_rfl)
          change wpList _ _ _ _ _ wr.drew
          go_wp2_with ((with_reducible refine wpList_store_cell rfl _ _ rfl b2 (sa * 5) ⟨dr, df, dg, db, dw⟩ rfl rfl HRs.out HQs.out ?_); intro w7 hw7; have HR7 : Hid (RB w7 b2 (mix T0 Bk (i * D + (c + 1)))) := Lib.hid (by rw [← HSs.out, ← mix_put HTs.out, ← hw7]; exact HRs.out.put _); have HK7 := Lib.hid (show Kp b2 b2 w1 w7 by rw [← hw7]; exact (Kp.drew HKc.out).put _); clear hw7)
          first
            | exact ⟨⟨c + 1, HKc1.out.1, by go_num, HR7, HK7⟩, by simp only [intOf]; exact HKc1.out.2⟩
            | (go_roundw
               · exact ⟨c + 1, HKc1.out.1, by go_num, HR7, HK7⟩
               · simp only [intOf]; exact HKc1.out.2)
        · obtain rfl : c = n2 := by omega
          have HRn2 := Lib.hid (show RB wr b2 (mix T0 Bk ((i + 1) * D)) by rw [← HRE'.out i HiS.out]; exact HRc.out)
          go_wp2
          first
            | exact ⟨⟨i + 1, HKi.out.1, by go_num, HRn2, HKc⟩, by simp only [intOf]; exact HKi.out.2⟩
            | (go_roundw
               · exact ⟨i + 1, HKi.out.1, by go_num, HRn2, HKc⟩
               · simp only [intOf]; exact HKi.out.2)
    · obtain rfl : i = m := by omega
      have d0 := cell_kept HK.out HQ0.out HP2B2.out HP2B2.out
      have d1 := cell_kept HK.out HQ1.out HP2B2.out HP2B2.out
      have d2 := cell_kept HK.out HQ2.out HP2B2.out HP2B2.out
      have HO := Lib.hid (HK.out.row ((HB1.out.block p HPL.out).trans (by have := HH.out.obj; rw [HNL.out] at this; exact this)) HPB2.out HPB2.out)
      have HRT := Lib.hid (show RB wo b2 T0 by have := HR.out; rwa [HEND.out] at this)
      have HKO := Lib.hid (show Kp p p w wo from (Kp.of HB1.out).trans HK.out.wide (.inr HB2G.out))
      clear hi hlt kN kN2 HR
      go_wp2
      refine wp_region_held_drew (S := (fun W => W.cell? ⟨p2, 0, none⟩ = some (.int .i64 (S : Int)) ∧ W.cell? ⟨p2, 1, none⟩ = some (.int .i64 (D : Int)) ∧ W.cell? ⟨p2, 2, none⟩ = some (.slice (some ⟨b2, 0, none⟩) nB nB))) (by kernel_rfl) ?_ (fun hHeld => ?_)
      · ((try dsimp only); exact ⟨d0, d1, d2⟩)
      refine wpAnyH_take (i := 0) (oi := { dst := some 65, op := Op.move (Operand.tmp 0), type := 28, pos := _, after := #[], guard := none }) (v := ?_) rfl (by kernel_rfl) (by kernel_rfl) (by kernel_rfl) (fun _ _ _ h => h) (Or.inl ⟨by rfl, ?_⟩) (by assumption) ?_
      rotate_left
      · ((intro w hSw); (try dsimp only at hSw); go_simp; (try with_reducible rfl))
      try simp only [Act.put, List.setIfInBounds_toArray, List.set_cons_zero, List.set_cons_succ]
      refine wpAnyH_take (i := 1) (oi := { dst := some 66, op := Op.move (Operand.tmp 0), type := 28, pos := _, after := #[{ on := 17, ground := Ground.gcOnly Departure.lateStores }], guard := none }) (v := ?_) rfl (by kernel_rfl) (by kernel_rfl) (by kernel_rfl) (fun _ _ _ h => h) (Or.inl ⟨by rfl, ?_⟩) (by assumption) ?_
      rotate_left
      · ((intro w hSw); (try dsimp only at hSw); go_simp; (try with_reducible rfl))
      try simp only [Act.put, List.setIfInBounds_toArray, List.set_cons_zero, List.set_cons_succ]
      refine wpAnyH_take (i := 2) (oi := { dst := some 67, op := Op.move (Operand.tmp 0), type := 28, pos := _, after := #[{ on := 20, ground := Ground.gcOnly Departure.lateStores }], guard := none }) (v := ?_) rfl (by kernel_rfl) (by kernel_rfl) (by kernel_rfl) (fun _ _ _ h => h) (Or.inl ⟨by rfl, ?_⟩) (by assumption) ?_
      rotate_left
      · ((intro w hSw); (try dsimp only at hSw); go_simp; (try with_reducible rfl))
      try simp only [Act.put, List.setIfInBounds_toArray, List.set_cons_zero, List.set_cons_succ]
      refine wpAnyH_take (i := 3) (oi := { dst := some 68, op := Op.move (Operand.tmp 7), type := 28, pos := _, after := #[], guard := none }) (v := ?_) rfl (by kernel_rfl) (by kernel_rfl) (by kernel_rfl) (fun _ _ _ h => h) (Or.inl ⟨by rfl, ?_⟩) (by assumption) ?_
      rotate_left
      · ((intro w hSw); (try dsimp only at hSw); go_simp; (try with_reducible rfl))
      try simp only [Act.put, List.setIfInBounds_toArray, List.set_cons_zero, List.set_cons_succ]
      refine wpAnyH_take (i := 4) (oi := { dst := some 69, op := Op.nilCheck (Operand.tmp 68), type := 0, pos := _, after := #[{ on := 3, ground := Ground.data }], guard := none }) (v := ?_) rfl (by kernel_rfl) (by kernel_rfl) (by kernel_rfl) (fun _ _ _ h => h) (Or.inl ⟨by rfl, ?_⟩) (by assumption) ?_
      rotate_left
      · ((intro w hSw); (try dsimp only at hSw); go_simp; (try with_reducible rfl))
      try simp only [Act.put, List.setIfInBounds_toArray, List.set_cons_zero, List.set_cons_succ]
      refine wpAnyH_take (i := 5) (oi := { dst := some 70, op := Op.fieldAddr 43 (Operand.tmp 69) 0, type := 0, pos := _, after := #[{ on := 4, ground := Ground.data }], guard := none }) (v := ?_) rfl (by kernel_rfl) (by kernel_rfl) (by kernel_rfl) (fun _ _ _ h => h) (Or.inl ⟨by rfl, ?_⟩) (by assumption) ?_
      rotate_left
      · ((intro w hSw); (try dsimp only at hSw); go_simp; (try with_reducible rfl))
      try simp only [Act.put, List.setIfInBounds_toArray, List.set_cons_zero, List.set_cons_succ]
      refine wpAnyH_take (i := 6) (oi := { dst := some 71, op := Op.load 3 (Operand.tmp 70), type := 3, pos := _, after := #[{ on := 5, ground := Ground.data }], guard := none }) (v := ?_) rfl (by kernel_rfl) (by kernel_rfl) (by kernel_rfl) (fun _ _ _ h => h) (Or.inl ⟨by rfl, ?_⟩) (by assumption) ?_
      rotate_left
      · ((intro w hSw); (try dsimp only at hSw); go_simp; (try with_reducible rfl))
      try simp only [Act.put, List.setIfInBounds_toArray, List.set_cons_zero, List.set_cons_succ]
      refine wpAnyH_take (i := 7) (oi := { dst := some 72, op := Op.move (Operand.tmp 7), type := 28, pos := _, after := #[], guard := none }) (v := ?_) rfl (by kernel_rfl) (by kernel_rfl) (by kernel_rfl) (fun _ _ _ h => h) (Or.inl ⟨by rfl, ?_⟩) (by assumption) ?_
      rotate_left
      · ((intro w hSw); (try dsimp only at hSw); go_simp; (try with_reducible rfl))
      try simp only [Act.put, List.setIfInBounds_toArray, List.set_cons_zero, List.set_cons_succ]
      refine wpAnyH_take (i := 8) (oi := { dst := some 73, op := Op.nilCheck (Operand.tmp 72), type := 0, pos := _, after := #[{ on := 7, ground := Ground.data }], guard := none }) (v := ?_) rfl (by kernel_rfl) (by kernel_rfl) (by kernel_rfl) (fun _ _ _ h => h) (Or.inl ⟨by rfl, ?_⟩) (by assumption) ?_
      rotate_left
      · ((intro w hSw); (try dsimp only at hSw); go_simp; (try with_reducible rfl))
      try simp only [Act.put, List.setIfInBounds_toArray, List.set_cons_zero, List.set_cons_succ]
      refine wpAnyH_take (i := 9) (oi := { dst := some 74, op := Op.fieldAddr 43 (Operand.tmp 73) 1, type := 0, pos := _, after := #[{ on := 8, ground := Ground.data }], guard := none }) (v := ?_) rfl (by kernel_rfl) (by kernel_rfl) (by kernel_rfl) (fun _ _ _ h => h) (Or.inl ⟨by rfl, ?_⟩) (by assumption) ?_
      rotate_left
      · ((intro w hSw); (try dsimp only at hSw); go_simp; (try with_reducible rfl))
      try simp only [Act.put, List.setIfInBounds_toArray, List.set_cons_zero, List.set_cons_succ]
      refine wpAnyH_take (i := 10) (oi := { dst := some 75, op := Op.load 3 (Operand.tmp 74), type := 3, pos := _, after := #[{ on := 9, ground := Ground.data }], guard := none }) (v := ?_) rfl (by kernel_rfl) (by kernel_rfl) (by kernel_rfl) (fun _ _ _ h => h) (Or.inl ⟨by rfl, ?_⟩) (by assumption) ?_
      rotate_left
      · ((intro w hSw); (try dsimp only at hSw); go_simp; (try with_reducible rfl))
      try simp only [Act.put, List.setIfInBounds_toArray, List.set_cons_zero, List.set_cons_succ]
      refine wpAnyH_take (i := 11) (oi := { dst := some 76, op := Op.move (Operand.tmp 7), type := 28, pos := _, after := #[], guard := none }) (v := ?_) rfl (by kernel_rfl) (by kernel_rfl) (by kernel_rfl) (fun _ _ _ h => h) (Or.inl ⟨by rfl, ?_⟩) (by assumption) ?_
      rotate_left
      · ((intro w hSw); (try dsimp only at hSw); go_simp; (try with_reducible rfl))
      try simp only [Act.put, List.setIfInBounds_toArray, List.set_cons_zero, List.set_cons_succ]
      refine wpAnyH_take (i := 12) (oi := { dst := some 77, op := Op.nilCheck (Operand.tmp 76), type := 0, pos := _, after := #[{ on := 11, ground := Ground.data }], guard := none }) (v := ?_) rfl (by kernel_rfl) (by kernel_rfl) (by kernel_rfl) (fun _ _ _ h => h) (Or.inl ⟨by rfl, ?_⟩) (by assumption) ?_
      rotate_left
      · ((intro w hSw); (try dsimp only at hSw); go_simp; (try with_reducible rfl))
      try simp only [Act.put, List.setIfInBounds_toArray, List.set_cons_zero, List.set_cons_succ]
      refine wpAnyH_take (i := 13) (oi := { dst := some 78, op := Op.fieldAddr 43 (Operand.tmp 77) 2, type := 0, pos := _, after := #[{ on := 12, ground := Ground.data }], guard := none }) (v := ?_) rfl (by kernel_rfl) (by kernel_rfl) (by kernel_rfl) (fun _ _ _ h => h) (Or.inl ⟨by rfl, ?_⟩) (by assumption) ?_
      rotate_left
      · ((intro w hSw); (try dsimp only at hSw); go_simp; (try with_reducible rfl))
      try simp only [Act.put, List.setIfInBounds_toArray, List.set_cons_zero, List.set_cons_succ]
      refine wpAnyH_take (i := 14) (oi := { dst := some 79, op := Op.load 41 (Operand.tmp 78), type := 41, pos := _, after := #[{ on := 13, ground := Ground.data }], guard := none }) (v := ?_) rfl (by kernel_rfl) (by kernel_rfl) (by kernel_rfl) (fun _ _ _ h => h) (Or.inl ⟨by rfl, ?_⟩) (by assumption) ?_
      rotate_left
      · ((intro w hSw); (try dsimp only at hSw); go_simp; (try with_reducible rfl))
      try simp only [Act.put, List.setIfInBounds_toArray, List.set_cons_zero, List.set_cons_succ]
      refine wpAnyH_take (i := 15) (oi := { dst := some 80, op := Op.nilCheck (Operand.tmp 65), type := 0, pos := _, after := #[{ on := 0, ground := Ground.data }, { on := 0, ground := Ground.phase }, { on := 1, ground := Ground.textOnly Departure.lateStores }, { on := 2, ground := Ground.textOnly Departure.lateStores }, { on := 3, ground := Ground.phase }, { on := 4, ground := Ground.phase }, { on := 5, ground := Ground.phase }, { on := 6, ground := Ground.phase }, { on := 7, ground := Ground.textOnly Departure.lateStores }, { on := 8, ground := Ground.textOnly Departure.lateStoresUnsure }, { on := 9, ground := Ground.textOnly Departure.lateStoresUnsure }, { on := 10, ground := Ground.phase }, { on := 11, ground := Ground.textOnly Departure.lateStores }, { on := 12, ground := Ground.textOnly Departure.lateStoresUnsure }, { on := 13, ground := Ground.textOnly Departure.lateStoresUnsure }, { on := 14, ground := Ground.phase }], guard := none }) (v := ?_) rfl (by kernel_rfl) (by kernel_rfl) (by kernel_rfl) (fun _ _ _ h => h) (Or.inl ⟨by rfl, ?_⟩) (by assumption) ?_
      rotate_left
      · ((intro w hSw); (try dsimp only at hSw); go_simp; (try with_reducible rfl))
      try simp only [Act.put, List.setIfInBounds_toArray, List.set_cons_zero, List.set_cons_succ]
      refine wpAnyH_take (i := 16) (oi := { dst := some 81, op := Op.fieldAddr 43 (Operand.tmp 80) 0, type := 0, pos := _, after := #[{ on := 15, ground := Ground.data }, { on := 0, ground := Ground.phase }, { on := 1, ground := Ground.textOnly Departure.lateStores }, { on := 2, ground := Ground.textOnly Departure.lateStores }, { on := 3, ground := Ground.phase }, { on := 4, ground := Ground.phase }, { on := 5, ground := Ground.phase }, { on := 6, ground := Ground.phase }, { on := 7, ground := Ground.textOnly Departure.lateStores }, { on := 8, ground := Ground.textOnly Departure.lateStoresUnsure }, { on := 9, ground := Ground.textOnly Departure.lateStoresUnsure }, { on := 10, ground := Ground.phase }, { on := 11, ground := Ground.textOnly Departure.lateStores }, { on := 12, ground := Ground.textOnly Departure.lateStoresUnsure }, { on := 13, ground := Ground.textOnly Departure.lateStoresUnsure }, { on := 14, ground := Ground.phase }], guard := none }) (v := ?_) rfl (by kernel_rfl) (by kernel_rfl) (by kernel_rfl) (fun _ _ _ h => h) (Or.inl ⟨by rfl, ?_⟩) (by assumption) ?_
      rotate_left
      · ((intro w hSw); (try dsimp only at hSw); go_simp; (try with_reducible rfl))
      try simp only [Act.put, List.setIfInBounds_toArray, List.set_cons_zero, List.set_cons_succ]
      refine wpAnyH_ready (rs := [17]) (by kernel_rfl) (by simp) ?_
      refine (AllReadyH.cons (o := { dst := none, op := Op.store 3 (Operand.tmp 81) (Operand.tmp 71), type := 0, pos := _, after := #[{ on := 16, ground := Ground.data }, { on := 6, ground := Ground.data }, { on := 0, ground := Ground.phase }, { on := 1, ground := Ground.textOnly Departure.lateStores }, { on := 2, ground := Ground.textOnly Departure.lateStores }, { on := 3, ground := Ground.phase }, { on := 4, ground := Ground.phase }, { on := 5, ground := Ground.phase }, { on := 6, ground := Ground.phase }, { on := 7, ground := Ground.textOnly Departure.lateStores }, { on := 8, ground := Ground.textOnly Departure.lateStoresUnsure }, { on := 9, ground := Ground.textOnly Departure.lateStoresUnsure }, { on := 10, ground := Ground.phase }, { on := 11, ground := Ground.textOnly Departure.lateStores }, { on := 12, ground := Ground.textOnly Departure.lateStoresUnsure }, { on := 13, ground := Ground.textOnly Departure.lateStoresUnsure }, { on := 14, ground := Ground.phase }], guard := none }) rfl (fun K hK => ?_) AllReadyH.nil)
      rw [if_pos (by rfl)]
      refine wp_store_field 3 _ _ rfl (by kernel_rfl) p 0 (.int .i64 (S : Int)) (.int .i64 (R : Int)) (.int .i64 (C : Int)) (.slice (some ⟨b, 0, none⟩) nl nl) rfl rfl HO.out rfl (by decide) ?_
      intro w7 hw7 kw7
      have Hw7 := Lib.hid (show w7.heap[p]? = some (.cells #[.int .i64 (S : Int), .int .i64 (C : Int), .slice (some ⟨b, 0, none⟩) nl nl] 43 (0, 0)) from hw7)
      have Kw7 := Lib.hid kw7
      clear hw7 kw7
      refine hK.out _ _ ?_ (fun hHeld => ?_)
      · ((try dsimp only); exact ⟨cell_kept Kw7.out d0 HPP.out HPP.out, cell_kept Kw7.out d1 HPP.out HPP.out, cell_kept Kw7.out d2 HPP.out HPP.out⟩)
      clear hK K
      try simp only [Act.put]
      refine wpAnyH_take (i := 18) (oi := { dst := some 82, op := Op.nilCheck (Operand.tmp 66), type := 0, pos := _, after := #[{ on := 1, ground := Ground.data }, { on := 0, ground := Ground.phase }, { on := 1, ground := Ground.phase }, { on := 2, ground := Ground.textOnly Departure.lateStores }, { on := 3, ground := Ground.phase }, { on := 4, ground := Ground.phase }, { on := 5, ground := Ground.phase }, { on := 6, ground := Ground.phase }, { on := 7, ground := Ground.phase }, { on := 8, ground := Ground.phase }, { on := 9, ground := Ground.phase }, { on := 10, ground := Ground.phase }, { on := 11, ground := Ground.textOnly Departure.lateStores }, { on := 12, ground := Ground.textOnly Departure.lateStoresUnsure }, { on := 13, ground := Ground.textOnly Departure.lateStoresUnsure }, { on := 14, ground := Ground.phase }, { on := 15, ground := Ground.phase }, { on := 16, ground := Ground.phase }, { on := 17, ground := Ground.phase }], guard := none }) (v := ?_) rfl (by kernel_rfl) (by kernel_rfl) (by kernel_rfl) (fun _ _ _ h => h) (Or.inl ⟨by rfl, ?_⟩) (by assumption) ?_
      rotate_left
      · ((intro w hSw); (try dsimp only at hSw); go_simp; (try with_reducible rfl))
      try simp only [Act.put, List.setIfInBounds_toArray, List.set_cons_zero, List.set_cons_succ]
      refine wpAnyH_take (i := 19) (oi := { dst := some 83, op := Op.fieldAddr 43 (Operand.tmp 82) 1, type := 0, pos := _, after := #[{ on := 18, ground := Ground.data }, { on := 0, ground := Ground.phase }, { on := 1, ground := Ground.phase }, { on := 2, ground := Ground.textOnly Departure.lateStores }, { on := 3, ground := Ground.phase }, { on := 4, ground := Ground.phase }, { on := 5, ground := Ground.phase }, { on := 6, ground := Ground.phase }, { on := 7, ground := Ground.phase }, { on := 8, ground := Ground.phase }, { on := 9, ground := Ground.phase }, { on := 10, ground := Ground.phase }, { on := 11, ground := Ground.textOnly Departure.lateStores }, { on := 12, ground := Ground.textOnly Departure.lateStoresUnsure }, { on := 13, ground := Ground.textOnly Departure.lateStoresUnsure }, { on := 14, ground := Ground.phase }, { on := 15, ground := Ground.phase }, { on := 16, ground := Ground.phase }, { on := 17, ground := Ground.phase }], guard := none }) (v := ?_) rfl (by kernel_rfl) (by kernel_rfl) (by kernel_rfl) (fun _ _ _ h => h) (Or.inl ⟨by rfl, ?_⟩) (by assumption) ?_
      rotate_left
      · ((intro w hSw); (try dsimp only at hSw); go_simp; (try with_reducible rfl))
      try simp only [Act.put, List.setIfInBounds_toArray, List.set_cons_zero, List.set_cons_succ]
      refine wpAnyH_ready (rs := [20]) (by kernel_rfl) (by simp) ?_
      refine (AllReadyH.cons (o := { dst := none, op := Op.store 3 (Operand.tmp 83) (Operand.tmp 75), type := 0, pos := _, after := #[{ on := 19, ground := Ground.data }, { on := 10, ground := Ground.data }, { on := 17, ground := Ground.chain }, { on := 0, ground := Ground.phase }, { on := 1, ground := Ground.phase }, { on := 2, ground := Ground.textOnly Departure.lateStores }, { on := 3, ground := Ground.phase }, { on := 4, ground := Ground.phase }, { on := 5, ground := Ground.phase }, { on := 6, ground := Ground.phase }, { on := 7, ground := Ground.phase }, { on := 8, ground := Ground.phase }, { on := 9, ground := Ground.phase }, { on := 10, ground := Ground.phase }, { on := 11, ground := Ground.textOnly Departure.lateStores }, { on := 12, ground := Ground.textOnly Departure.lateStoresUnsure }, { on := 13, ground := Ground.textOnly Departure.lateStoresUnsure }, { on := 14, ground := Ground.phase }, { on := 15, ground := Ground.phase }, { on := 16, ground := Ground.phase }, { on := 17, ground := Ground.phase }], guard := none }) rfl (fun K hK => ?_) AllReadyH.nil)
      rw [if_pos (by rfl)]
      refine wp_store_field 3 _ _ rfl (by kernel_rfl) p 1 (.int .i64 (D : Int)) (.int .i64 (S : Int)) (.int .i64 (C : Int)) (.slice (some ⟨b, 0, none⟩) nl nl) rfl rfl Hw7.out rfl (by decide) ?_
      intro w8 hw8 kw8
      have Hw8 := Lib.hid (show w8.heap[p]? = some (.cells #[.int .i64 (S : Int), .int .i64 (D : Int), .slice (some ⟨b, 0, none⟩) nl nl] 43 (0, 0)) from hw8)
      have Kw8 := Lib.hid kw8
      clear hw8 kw8
      refine hK.out _ _ ?_ (fun hHeld => ?_)
      · ((try dsimp only); exact ⟨cell_kept Kw8.out hHeld.1 HPP.out HPP.out, cell_kept Kw8.out hHeld.2.1 HPP.out HPP.out, cell_kept Kw8.out hHeld.2.2 HPP.out HPP.out⟩)
      clear hK K
      try simp only [Act.put]
      refine wpAnyH_take (i := 21) (oi := { dst := some 84, op := Op.nilCheck (Operand.tmp 67), type := 0, pos := _, after := #[{ on := 2, ground := Ground.data }, { on := 0, ground := Ground.phase }, { on := 1, ground := Ground.phase }, { on := 2, ground := Ground.phase }, { on := 3, ground := Ground.phase }, { on := 4, ground := Ground.phase }, { on := 5, ground := Ground.phase }, { on := 6, ground := Ground.phase }, { on := 7, ground := Ground.phase }, { on := 8, ground := Ground.phase }, { on := 9, ground := Ground.phase }, { on := 10, ground := Ground.phase }, { on := 11, ground := Ground.phase }, { on := 12, ground := Ground.phase }, { on := 13, ground := Ground.phase }, { on := 14, ground := Ground.phase }, { on := 15, ground := Ground.phase }, { on := 16, ground := Ground.phase }, { on := 17, ground := Ground.phase }, { on := 18, ground := Ground.phase }, { on := 19, ground := Ground.phase }, { on := 20, ground := Ground.phase }], guard := none }) (v := ?_) rfl (by kernel_rfl) (by kernel_rfl) (by kernel_rfl) (fun _ _ _ h => h) (Or.inl ⟨by rfl, ?_⟩) (by assumption) ?_
      rotate_left
      · ((intro w hSw); (try dsimp only at hSw); go_simp; (try with_reducible rfl))
      try simp only [Act.put, List.setIfInBounds_toArray, List.set_cons_zero, List.set_cons_succ]
      refine wpAnyH_take (i := 22) (oi := { dst := some 85, op := Op.fieldAddr 43 (Operand.tmp 84) 2, type := 0, pos := _, after := #[{ on := 21, ground := Ground.data }, { on := 0, ground := Ground.phase }, { on := 1, ground := Ground.phase }, { on := 2, ground := Ground.phase }, { on := 3, ground := Ground.phase }, { on := 4, ground := Ground.phase }, { on := 5, ground := Ground.phase }, { on := 6, ground := Ground.phase }, { on := 7, ground := Ground.phase }, { on := 8, ground := Ground.phase }, { on := 9, ground := Ground.phase }, { on := 10, ground := Ground.phase }, { on := 11, ground := Ground.phase }, { on := 12, ground := Ground.phase }, { on := 13, ground := Ground.phase }, { on := 14, ground := Ground.phase }, { on := 15, ground := Ground.phase }, { on := 16, ground := Ground.phase }, { on := 17, ground := Ground.phase }, { on := 18, ground := Ground.phase }, { on := 19, ground := Ground.phase }, { on := 20, ground := Ground.phase }], guard := none }) (v := ?_) rfl (by kernel_rfl) (by kernel_rfl) (by kernel_rfl) (fun _ _ _ h => h) (Or.inl ⟨by rfl, ?_⟩) (by assumption) ?_
      rotate_left
      · ((intro w hSw); (try dsimp only at hSw); go_simp; (try with_reducible rfl))
      try simp only [Act.put, List.setIfInBounds_toArray, List.set_cons_zero, List.set_cons_succ]
      refine wpAnyH_ready (rs := [23]) (by kernel_rfl) (by simp) ?_
      refine (AllReadyH.cons (o := { dst := none, op := Op.store 41 (Operand.tmp 85) (Operand.tmp 79), type := 0, pos := _, after := #[{ on := 22, ground := Ground.data }, { on := 14, ground := Ground.data }, { on := 20, ground := Ground.chain }, { on := 0, ground := Ground.phase }, { on := 1, ground := Ground.phase }, { on := 2, ground := Ground.phase }, { on := 3, ground := Ground.phase }, { on := 4, ground := Ground.phase }, { on := 5, ground := Ground.phase }, { on := 6, ground := Ground.phase }, { on := 7, ground := Ground.phase }, { on := 8, ground := Ground.phase }, { on := 9, ground := Ground.phase }, { on := 10, ground := Ground.phase }, { on := 11, ground := Ground.phase }, { on := 12, ground := Ground.phase }, { on := 13, ground := Ground.phase }, { on := 14, ground := Ground.phase }, { on := 15, ground := Ground.phase }, { on := 16, ground := Ground.phase }, { on := 17, ground := Ground.phase }, { on := 18, ground := Ground.phase }, { on := 19, ground := Ground.phase }, { on := 20, ground := Ground.phase }], guard := none }) rfl (fun K hK => ?_) AllReadyH.nil)
      rw [if_pos (by rfl)]
      refine wp_store_field 41 _ _ rfl (by kernel_rfl) p 2 (.slice (some ⟨b2, 0, none⟩) nB nB) (.int .i64 (S : Int)) (.int .i64 (D : Int)) (.slice (some ⟨b, 0, none⟩) nl nl) rfl rfl Hw8.out rfl (by decide) ?_
      intro w9 hw9 kw9
      have Hw9 := Lib.hid (show w9.heap[p]? = some (.cells #[.int .i64 (S : Int), .int .i64 (D : Int), .slice (some ⟨b2, 0, none⟩) nB nB] 43 (0, 0)) from hw9)
      have Kw9 := Lib.hid kw9
      clear hw9 kw9
      refine hK.out _ _ ?_ (fun hHeld => ?_)
      · ((try dsimp only); exact ⟨cell_kept Kw9.out hHeld.1 HPP.out HPP.out, cell_kept Kw9.out hHeld.2.1 HPP.out HPP.out, cell_kept Kw9.out hHeld.2.2 HPP.out HPP.out⟩)
      clear hK K
      try simp only [Act.put]
      refine wpAnyH_done (by kernel_rfl) ?_ _
      have HK9 := Lib.hid (show Kp p p w w9 from HKO.out.trans (show Kp p p wo w9 from (show Kp p p wo w7 from ⟨Kw7.out.os, Kw7.out.tape, Kw7.out.output, Kw7.out.size, Kw7.out.block⟩).trans (Kw8.out.trans Kw9.out (.inl rfl)) (.inl rfl)) (.inl rfl))
      have HR9 := Lib.hid (show RB w9 b2 T0 from Kw9.out.row (Kw8.out.row (Kw7.out.row HRT.out HB2P.out HB2P.out) HB2P.out HB2P.out) HB2P.out HB2P.out)
      have HX9 := Lib.hid (show X w9 p b2 S D (mix T1 T0 (0 * D)) by
        rw [Nat.zero_mul, mix_zero]
        exact ⟨by rw [HTL.out]; exact Hw9.out, HR9.out, by rw [HTL.out]; exact HNB.out.symm, HS.out.1, HS.out.2.1, HS.out.2.2.1, HS.out.2.2.2⟩)
      go_wp2
      clear d0 d1 d2
      go_loopw [11] (fun s11 wr => ∃ j : Nat, j ≤ S ∧ s11 = .int .i64 j ∧ Hid (X wr p b2 S D (mix T1 T0 (j * D))) ∧ Hid (Kp b2 b2 w9 wr)) (fun s11 _ => S - (intOf s11).toNat)
      case atStart => exact ⟨0, Nat.zero_le _, rfl, HX9, Lib.hid (Kp.refl _ _ _)⟩
      case round =>
        obtain ⟨j, hj, rfl, HXj, HKj⟩ := hrel
        have p0 := (three HXj.out.obj).1
        by_cases hltj : j < S
        · have HKn := Lib.hid (show j + 1 ≤ S ∧ S - (j + 1) < S - j by omega)
          obtain ⟨u1, u2⟩ := succ_wrap (k := j) (C := 200) (Nat.lt_of_lt_of_le hltj (Nat.le_trans HS.out.2.1 (by decide))) (Nat.le_refl _)
          have H55 := Lib.hid (mend_row HXj.out hltj (by rw [HTL.out]; exact HNB.out.symm) (by rw [HT1L.out]; exact HNB.out.symm) (HROW.out j hltj) HWD.out)
          have hltjI : (j : Int) < (S : Int) := Int.ofNat_lt.2 hltj
          clear hj
          go_wp2_with (go_at_call 55; (with_reducible refine H55.out.mono ?_); rintro e w8 ⟨rfl, hx8, hk8⟩; have HX8 := Lib.hid hx8; have HK8 := Lib.hid (HKj.out.trans hk8 (.inl rfl)); clear hx8 hk8)
          first
            | exact ⟨⟨j + 1, HKn.out.1, by go_num, HX8, HK8⟩, by simp only [intOf]; exact HKn.out.2⟩
            | (go_roundw
               · exact ⟨j + 1, HKn.out.1, by go_num, HX8, HK8⟩
               · simp only [intOf]; exact HKn.out.2)
        · obtain rfl : j = S := by omega
          have HXF := Lib.hid (show X wr p b2 j D T1 by
            have := HXj.out
            rwa [show j * D = T0.length by rw [HTL.out]; exact HNB.out, mix_all (by rw [HTL.out, HT1L.out])] at this)
          go_wp2
          go_ret
          exact ⟨b2, rfl, HXF.out, HK9.out.trans HKj.out.wide (.inr HB2G.out), HB2G.out⟩
/-- Resize, to any size. -/
theorem resizeX (p b R C : Nat) (rows cols : Int) (L : List Ce) (w : World) (h : X w p b R C L) (hi : Iv R C L) (hz : sizeB rows cols = true) :
    Calls Try.prog 41 #[.pointer (some ⟨p, 0, none⟩), .int .i64 rows, .int .i64 cols] w (XRs (.int .i64 0) w p rows.toNat cols.toNat (resizeL R C L rows.toNat cols.toNat)) := by
  have hs : 1 ≤ rows ∧ rows ≤ 60 ∧ 1 ≤ cols ∧ cols ≤ 200 := by simpa [sizeB] using hz
  obtain ⟨S, rfl⟩ := Int.eq_ofNat_of_zero_le (show 0 ≤ rows by omega)
  obtain ⟨D, rfl⟩ := Int.eq_ofNat_of_zero_le (show 0 ≤ cols by omega)
  rw [Int.toNat_natCast, Int.toNat_natCast]
  exact resizeYesX p b R C S D L w h hi (by omega)
end Go.Proofs.Ytfdjmlncdbpkgaa.Xy
