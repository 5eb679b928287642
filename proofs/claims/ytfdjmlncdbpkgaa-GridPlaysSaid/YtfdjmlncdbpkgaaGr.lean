/- Package grid: Erase. -/
import Derived.Test.YtfdjmlncdbpkgaaGk
set_option linter.unusedVariables false
namespace Go.Proofs.Ytfdjmlncdbpkgaa.Gr
open Go Go.RowKit Kit Gm Gv Fl Me Cp Sl Gg Gh Gp Gq Gk

abbrev unit : Value := .tuple #[]
theorem attrB_ (f g k : Int) (v : Bool) (hv : Cell.attrB f g k = v) (w : World) : Calls Try.prog 30 #[.agg #[.int .i64 f, .int .i64 g, .int .i64 k]] w fun e w' => e = .returned (.bool v) ∧ Below w.heap.size w w' :=
  (Cell.mayAttr f g k w).mono fun e w' ⟨h1, h2⟩ => ⟨by rw [h1, hv], by rw [← h2]; exact (Below.refl _ w).alloc (Nat.le_refl _) _⟩
/-- a row, a part of it made blank. -/
def eraseRow (M : List Ce) (f t : Nat) (x : Ce) : List Ce := M.take f ++ List.replicate (t - f) x ++ M.drop t
/-- the cells behind an Erase. -/
def eraseL (R C : Nat) (L : List Ce) (row fr to af ag ab : Int) : List Ce :=
  if hasB R C row 0 && (decide (max fr 0 < min to C) && Cell.attrB af ag ab) then L.take (row.toNat * C) ++ mend (eraseRow (Gq.rowAt L (row.toNat * C) C) (max fr 0).toNat (min to C).toNat (Gm.blankC ab)) ++ L.drop (row.toNat * C + C) else L
set_option maxRecDepth 100000 in
set_option maxHeartbeats 1000000 in
/-- Erase, of nothing. -/
theorem eraseNo (p b R C : Nat) (row fr to af ag ab : Int) (L : List Ce) (w : World) (h : G w p b R C L) (v : Bool) (hv : hasB R C row 0 = v) (u : Bool) (hu : decide (max fr 0 < min to C) = u) (y : Bool) (hy : Cell.attrB af ag ab = y) (hz : (v && (u && y)) = false) :
    Calls Try.prog 22 #[.pointer (some ⟨p, 0, none⟩), .int .i64 row, .int .i64 fr, .int .i64 to, .agg #[.int .i64 af, .int .i64 ag, .int .i64 ab]] w fun e w' => e = .returned unit ∧ Below w.heap.size w w' := by
  have HG := Lib.hid (h.alloc (.cells #[.int .i64 af, .int .i64 ag, .int .i64 ab] 35))
  have HB := Lib.hid (below_one w (.cells #[.int .i64 af, .int .i64 ag, .int .i64 ab] 35))
  have HF := Lib.hid (heap_last w #[.int .i64 af, .int .i64 ag, .int .i64 ab] 35)
  generalize hw0 : w.alloc (.cells #[.int .i64 af, .int .i64 ag, .int .i64 ab] 35) = w0 at *
  obtain ⟨a0, a1, a2⟩ := three HF.out
  obtain ⟨p0, p1, p2⟩ := three HG.out.obj
  obtain ⟨F, hF⟩ : ∃ F, F = max fr 0 := ⟨_, rfl⟩
  obtain ⟨T, hT⟩ : ∃ T, T = min to (C : Int) := ⟨_, rfl⟩
  rw [← hF, ← hT] at hu
  have kF : (if fr < 0 then 0 else fr) = F := by rw [hF]; split <;> omega
  have kT : (if (C : Int) < to then (C : Int) else to) = T := by rw [hT]; split <;> omega
  have HGd := Lib.hid (HG.out.drew)
  have HBd := Lib.hid (below_drew HB.out)
  have b0 : w0.drew.cell? ⟨w.heap.size, 0, none⟩ = some (.int .i64 af) := a0
  have b1 : w0.drew.cell? ⟨w.heap.size, 1, none⟩ = some (.int .i64 ag) := a1
  have b2 : w0.drew.cell? ⟨w.heap.size, 2, none⟩ = some (.int .i64 ab) := a2
  have HV := Lib.hid hv
  have HY := Lib.hid hy
  clear h hF hT hv hy
  go_enter Try.func22, Try.ntmps22
  go_wp2
  go_region
  clear kF kT a0 a1 a2 p0 p1 p2
  generalize hwd : w0.drew = wd at *
  have H43 := Lib.hid (show Calls Try.prog 43 #[.pointer (some ⟨p, 0, none⟩), .int .i64 row, .int .i64 0] wd fun e w' => e = .returned (.bool v) ∧ wd = w' by rw [← HV.out]; exact hasC p b R C _ L row 0 wd HGd.out.view)
  clear hwd
  cases v with
  | false =>
    clear hu hz
    go_wp2_with (go_at_call 43; (with_reducible refine H43.out.mono ?_); rintro e w' ⟨rfl, rfl⟩)
    exact bodyPost_ret (v := .tuple #[]) (by simp [results, Try.results22, go_sem]) rfl ⟨rfl, HBd.out⟩
  | true =>
    cases u with
    | false =>
      have hu2 : ¬ F < T := by simpa using hu
      have hu3 : T ≤ F := by omega
      clear hu hz
      go_wp2_with (go_at_call 43; (with_reducible refine H43.out.mono ?_); rintro e w' ⟨rfl, rfl⟩)
      exact bodyPost_ret (v := .tuple #[]) (by simp [results, Try.results22, go_sem]) rfl ⟨rfl, HBd.out⟩
    | true =>
      obtain rfl : y = false := by simpa using hz
      have hu2 : F < T := by simpa using hu
      clear hu hz
      go_wp2_with (first
        | (go_at_call 43; (with_reducible refine H43.out.mono ?_); rintro e w' ⟨rfl, rfl⟩)
        | (go_at_call 30; (with_reducible refine (attrB_ af ag ab false HY.out _).mono ?_); rintro e w1 ⟨rfl, hb1⟩; have HB1 := Lib.hid (below_then HBd.out hb1 HBd.out.size); clear hb1))
      exact bodyPost_ret (v := .tuple #[]) (by simp [results, Try.results22, go_sem]) rfl ⟨rfl, HB1.out⟩
set_option maxRecDepth 100000 in
set_option maxHeartbeats 1000000 in
/-- Erase. -/
theorem eraseYes (p b R C r f u : Nat) (fr to af ag ab : Int) (A M Z : List Ce) (w : World) (h : G w p b R C (A ++ M ++ Z)) (hr : r < R) (hA : A.length = r * C) (hM : M.length = C) (hf : max fr 0 = (f : Int)) (hu : min to C = (u : Int)) (hfu : f < u) (hy : Cell.attrB af ag ab = true) :
    Calls Try.prog 22 #[.pointer (some ⟨p, 0, none⟩), .int .i64 (r : Int), .int .i64 fr, .int .i64 to, .agg #[.int .i64 af, .int .i64 ag, .int .i64 ab]] w (GQ unit w p b R C (A ++ mend (eraseRow M f u (Gm.blankC ab)) ++ Z)) := by
  have HH := Lib.hid h
  have HG := Lib.hid (h.alloc (.cells #[.int .i64 af, .int .i64 ag, .int .i64 ab] 35))
  have HB := Lib.hid (below_one w (.cells #[.int .i64 af, .int .i64 ag, .int .i64 ab] 35))
  have HF := Lib.hid (heap_last w #[.int .i64 af, .int .i64 ag, .int .i64 ab] 35)
  generalize hw0 : w.alloc (.cells #[.int .i64 af, .int .i64 ag, .int .i64 ab] 35) = w0 at *
  obtain ⟨a0, a1, a2⟩ := three HF.out
  obtain ⟨p0, p1, p2⟩ := three HG.out.obj
  have kF : (if fr < 0 then 0 else fr) = (f : Int) := by rw [← hf]; split <;> omega
  have kT : (if (C : Int) < to then (C : Int) else to) = (u : Int) := by rw [← hu]; split <;> omega
  have huC : u ≤ C := by omega
  have hfu2 : f ≤ u := by omega
  have i1 : (0 : Int) ≤ (f : Int) := by omega
  have i2 : (f : Int) ≤ (u : Int) := by omega
  have h200 : C ≤ 200 := h.c2
  have hn : (A ++ M ++ Z).length = A.length + C + Z.length := by rw [List.length_append, List.length_append, hM]
  have hcap : u ≤ (A ++ M ++ Z).length - r * C := by rw [hn, hA]; omega
  have hcap2 : ¬ (A ++ M ++ Z).length - r * C = f := by rw [hn, hA]; omega
  have HGd := Lib.hid (HG.out.drew)
  have HBd := Lib.hid (below_drew HB.out)
  have b0 : w0.drew.cell? ⟨w.heap.size, 0, none⟩ = some (.int .i64 af) := a0
  have b1 : w0.drew.cell? ⟨w.heap.size, 1, none⟩ = some (.int .i64 ag) := a1
  have b2 : w0.drew.cell? ⟨w.heap.size, 2, none⟩ = some (.int .i64 ab) := a2
  have HY := Lib.hid hy
  have hz : hasB R C (r : Int) 0 = true := (has_t (by have := h.c1; omega)).symm
  have H43 := Lib.hid (show Calls Try.prog 43 #[.pointer (some ⟨p, 0, none⟩), .int .i64 (r : Int), .int .i64 0] w0.drew fun e w' => e = .returned (.bool true) ∧ w0.drew = w' by rw [← hz]; exact hasC p b R C _ _ (r : Int) 0 w0.drew HGd.out.view)
  have H44 := Lib.hid (fun w1 (hg : G w1 p b R C (A ++ M ++ Z)) => rowC p b R C _ r _ w1 hg.view hr)
  have HAL := Lib.hid (show (A ++ eraseRow M f u (Gm.blankC ab) ++ Z) = (A ++ M.take f) ++ List.replicate (u - f) (Gm.blankC ab) ++ (M.drop u ++ Z) by unfold eraseRow; simp)
  have HML := Lib.hid (show (A ++ M ++ Z) = (A ++ M.take f) ++ (M.drop f).take (u - f) ++ (M.drop u ++ Z) by
    have e : M = M.take f ++ ((M.drop f).take (u - f) ++ M.drop u) := by
      have e2 : M.drop u = (M.drop f).drop (u - f) := by rw [List.drop_drop, show f + (u - f) = u by omega]
      rw [e2, List.take_append_drop, List.take_append_drop]
    rw [show A ++ M.take f ++ (M.drop f).take (u - f) ++ (M.drop u ++ Z) = A ++ (M.take f ++ ((M.drop f).take (u - f) ++ M.drop u)) ++ Z by simp, ← e])
  have HEL := Lib.hid (show (eraseRow M f u (Gm.blankC ab)).length = C by unfold eraseRow; rw [List.length_append, List.length_append, List.length_take, List.length_replicate, List.length_drop, hM]; omega)
  have HSeg := Lib.hid (show u - f = ((M.drop f).take (u - f)).length by rw [List.length_take, List.length_drop, hM]; omega)
  have HAt := Lib.hid (show AtP (u - f) (some ⟨b, r * C * 5 + f * 5, none⟩) b (A ++ M.take f) from fun _ => by rw [List.length_append, List.length_take, hA, hM, Nat.min_eq_left (by omega), Nat.add_mul])
  have HAq := Lib.hid (show r * C * 5 = A.length * 5 by rw [hA])
  have HC2 := Lib.hid (show C ≤ 1000000 by omega)
  have HU2 := Lib.hid (show u - f ≤ 1000000 by omega)
  have HM0 := Lib.hid hM
  generalize (A ++ M ++ Z).length = n0 at *
  generalize hq : r * C = q at *
  have HNE := Lib.hid (Nat.ne_of_gt h.b_lt)
  clear h hf hu hy hz hr hA hM hn hq
  go_enter Try.func22, Try.ntmps22
  go_wp2
  go_region
  clear kF kT a0 a1 a2 p0 p1 p2
  generalize hwd : w0.drew = wd at *
  clear hwd
  go_wp2_with (first
    | (go_at_call 43; (with_reducible refine H43.out.mono ?_); rintro e w' ⟨rfl, rfl⟩)
    | (go_at_call 30; (with_reducible refine (attrB_ af ag ab true HY.out _).mono ?_); rintro e w1 ⟨rfl, hb1⟩; have HB1 := Lib.hid (below_then HBd.out hb1 HBd.out.size); have HG1 := Lib.hid (HGd.out.then_ hb1 (Nat.le_refl _)); replace b0 := Gg.cell_then hb1 (Nat.le_refl _) b0; replace b1 := Gg.cell_then hb1 (Nat.le_refl _) b1; replace b2 := Gg.cell_then hb1 (Nat.le_refl _) b2; clear hb1 H43 HGd HBd)
    | (go_at_call 44; (with_reducible refine (H44.out _ HG1.out).mono ?_); rintro e w2 ⟨rfl, n1, hn1⟩; have HG2 := Lib.hid (show G w2 p b R C _ from hn1 ▸ HG1.out.drewN n1); have HB2 := Lib.hid (show Below w.heap.size w w2 from hn1 ▸ below_drewN HB1.out n1); rw [show w1.cell? = w2.cell? from by rw [← hn1]; rfl] at b0 b1 b2; clear hn1 HG1 HB1 H44))
  have HRB := Lib.hid (show RB w2.drew b ((A ++ M.take f) ++ (M.drop f).take (u - f) ++ (M.drop u ++ Z)) by rw [← HML.out]; exact HG2.out.row)
  go_region_held3 (fun wk => wk.cell? ⟨w.heap.size, 0, none⟩ = some (.int .i64 af) ∧ wk.cell? ⟨w.heap.size, 1, none⟩ = some (.int .i64 ag) ∧ wk.cell? ⟨w.heap.size, 2, none⟩ = some (.int .i64 ab)) (first | exact ⟨b0, b1, b2⟩ | exact HX4.out | exact HX3.out) (first
    | (go_at_call 28; (with_reducible refine (cBlankB af ag ab _).mono ?_); rintro e w3 ⟨rfl, hb3⟩; have HX3 := Lib.hid (And.intro (Gg.cell_then hb3 (Nat.le_refl _) b0) (And.intro (Gg.cell_then hb3 (Nat.le_refl _) b1) (Gg.cell_then hb3 (Nat.le_refl _) b2))); have HRB3 := Lib.hid (HRB.out.then_ hb3 (Nat.le_refl _)); have HB3 := Lib.hid (below_then (below_drew HB2.out) hb3 (below_drew HB2.out).size); clear hb3)
    | (go_at_call 47; (with_reducible refine (fillP b _ _ _ _ _ _ ⟨32, 0, 0, ab, 0⟩ _ HRB3.out HSeg.out HAt.out HU2.out).mono ?_); rintro e w4 ⟨rfl, hr4, hk4⟩; have HX4 := Lib.hid (And.intro (cell_kept hk4 HX3.out.1 HNE.out HNE.out) (And.intro (cell_kept hk4 HX3.out.2.1 HNE.out HNE.out) (cell_kept hk4 HX3.out.2.2 HNE.out HNE.out))); have HR4 := Lib.hid (show RB w4 b (A ++ eraseRow M f u (Gm.blankC ab) ++ Z) by rw [HAL.out]; exact hr4); have HK4 := Lib.hid hk4; clear hr4 hk4))
  go_wp2_with (go_at_call 46; (with_reducible refine (mendP b A (eraseRow M f u (Gm.blankC ab)) Z _ _ _ _ HR4.out HEL.out HAq.out HC2.out).mono ?_); rintro e w5 ⟨rfl, hr5, hk5⟩; have HR5 := Lib.hid hr5; have HK5 := Lib.hid (HK4.out.trans hk5 (.inl rfl)); clear hr5 hk5)
  go_end0
  obtain ⟨g1, g2⟩ := G.put HH.out HB3.out HR5.out HK5.out (len_mid HEL.out HM0.out)
  exact ⟨rfl, g1, g2⟩
/-- Erase, of anything. -/
theorem eraseG (p b R C : Nat) (row fr to af ag ab : Int) (L : List Ce) (w : World) (h : G w p b R C L) :
    Calls Try.prog 22 #[.pointer (some ⟨p, 0, none⟩), .int .i64 row, .int .i64 fr, .int .i64 to, .agg #[.int .i64 af, .int .i64 ag, .int .i64 ab]] w (GQ unit w p b R C (eraseL R C L row fr to af ag ab)) := by
  cases hz : (hasB R C row 0 && (decide (max fr 0 < min to C) && Cell.attrB af ag ab)) with
  | false =>
    have e : eraseL R C L row fr to af ag ab = L := by unfold eraseL; rw [hz]; rfl
    rw [e]
    exact (eraseNo p b R C row fr to af ag ab L w h _ rfl _ rfl _ rfl hz).mono fun e w' ⟨h1, h2⟩ => ⟨h1, kp_below h h2⟩
  | true =>
    have e : eraseL R C L row fr to af ag ab = L.take (row.toNat * C) ++ mend (eraseRow (Gq.rowAt L (row.toNat * C) C) (max fr 0).toNat (min to C).toNat (Gm.blankC ab)) ++ L.drop (row.toNat * C + C) := by unfold eraseL; rw [hz]; rfl
    rw [e]
    simp only [Bool.and_eq_true, decide_eq_true_eq] at hz
    obtain ⟨h1, h2, h3⟩ := hz
    obtain ⟨a1, a2, _, _⟩ := hasB_iff.1 h1
    obtain ⟨r, rfl⟩ := Int.eq_ofNat_of_zero_le a1
    obtain ⟨f, hf⟩ := Int.eq_ofNat_of_zero_le (show 0 ≤ max fr 0 by omega)
    obtain ⟨u, hu⟩ := Int.eq_ofNat_of_zero_le (show 0 ≤ min to (C : Int) by omega)
    rw [Int.toNat_natCast, hf, hu, Int.toNat_natCast, Int.toNat_natCast]
    have hr : r < R := by omega
    have hq := row_nums h.len hr
    have hlen : (Gq.rowAt L (r * C) C).length = C := by unfold Gq.rowAt; rw [List.length_take, List.length_drop]; exact Nat.min_eq_left (by omega)
    have hsp : L = L.take (r * C) ++ Gq.rowAt L (r * C) C ++ L.drop (r * C + C) := row_split hq
    have hA : (L.take (r * C)).length = r * C := by rw [List.length_take]; exact Nat.min_eq_left (by omega)
    generalize L.take (r * C) = A at *
    generalize L.drop (r * C + C) = Z at *
    generalize Gq.rowAt L (r * C) C = M at *
    rw [hsp] at h
    exact eraseYes p b R C r f u fr to af ag ab A M Z w h hr hA hlen hf hu (by omega) h3
end Go.Proofs.Ytfdjmlncdbpkgaa.Gr
