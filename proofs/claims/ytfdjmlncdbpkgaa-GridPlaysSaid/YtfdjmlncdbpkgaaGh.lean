/- Package grid: New, At. -/
import Derived.Test.YtfdjmlncdbpkgaaGg
import Derived.Laws.CopyOwn
set_option linter.unusedVariables false
namespace Go.Proofs.Ytfdjmlncdbpkgaa.Gh
open Go Go.RowKit Kit Gm Gv Fl Me Cp Sl Gg Cell

def sizeB (rows cols : Int) : Bool := decide (1 ≤ rows ∧ rows ≤ 60 ∧ 1 ≤ cols ∧ cols ≤ 200)
theorem size_t {rows cols : Int} (h : 1 ≤ rows ∧ rows ≤ 60 ∧ 1 ≤ cols ∧ cols ≤ 200) : true = sizeB rows cols := by simp [sizeB, h]
theorem size_f {rows cols : Int} (h : ¬ (1 ≤ rows ∧ rows ≤ 60 ∧ 1 ≤ cols ∧ cols ≤ 200)) : false = sizeB rows cols := by simp only [sizeB]; exact (decide_eq_false h).symm
theorem maySize (rows cols : Int) (w : World) : Calls Try.prog 32 #[.int .i64 rows, .int .i64 cols] w fun e w' => e = .returned (.bool (sizeB rows cols)) ∧ w = w' := by
  by_cases h1 : 1 ≤ rows
  · by_cases h2 : rows ≤ 60
    · by_cases h3 : 1 ≤ cols
      · by_cases h4 : cols ≤ 200
        · go_enter Try.func32, Try.ntmps32
          go_wp2
          go_ret
          exact ⟨ret_bool (size_t ⟨h1, h2, h3, h4⟩), rfl⟩
        · go_enter Try.func32, Try.ntmps32
          go_wp2
          go_ret
          exact ⟨ret_bool (size_f (by omega)), rfl⟩
      · go_enter Try.func32, Try.ntmps32
        go_wp2
        go_ret
        exact ⟨ret_bool (size_f (by omega)), rfl⟩
    · go_enter Try.func32, Try.ntmps32
      go_wp2
      go_ret
      exact ⟨ret_bool (size_f (by omega)), rfl⟩
  · go_enter Try.func32, Try.ntmps32
    go_wp2
    go_ret
    exact ⟨ret_bool (size_f (by omega)), rfl⟩
theorem heap_at1 (w : World) (o1 o2 : Obj) : ((w.alloc o1).alloc o2).heap[w.heap.size]? = some o1 := by
  have h := heap_alloc_last w o1
  exact (Below.heap_alloc (w.alloc o1) o2 w.heap.size (by simp)).trans h
theorem heap_at2 (w : World) (o1 o2 : Obj) : ((w.alloc o1).alloc o2).heap[w.heap.size + 1]? = some o2 := by
  have e1 : (w.alloc o1).heap.size = w.heap.size + 1 := by simp
  rw [← e1]; exact heap_alloc_last _ _
/-- what make lays. -/
theorem made_flat (n : Nat) : madeCells #[.int .i32 0, .int .i64 0, .int .i64 0, .int .i64 0, .int .i64 0] (n * 5) = (flat (List.replicate n zeroC)).toArray := by
  apply Array.ext
  · rw [size_madeCells, List.size_toArray, flat_len, List.length_replicate]
  · intro i h1 h2
    rw [size_madeCells] at h1
    have hj : i / 5 < (List.replicate n zeroC).length := by rw [List.length_replicate]; omega
    have e := flat_at (L := List.replicate n zeroC) (i / 5) hj (i % 5) (by omega)
    rw [show i / 5 * 5 + i % 5 = i by omega, List.getElem_replicate] at e
    have h2' : i < (flat (List.replicate n zeroC)).length := by simpa using h2
    rw [List.getElem?_eq_getElem h2'] at e
    have h5 : i % 5 < 5 := by omega
    simp only [madeCells, Array.getElem_map, Array.getElem_range, List.getElem_toArray]
    show (#[Value.int .i32 0, .int .i64 0, .int .i64 0, .int .i64 0, .int .i64 0] : Array Value)[i % 5]! = _
    have hc : ∀ r, r < 5 → (cv zeroC)[r]? = some ((#[Value.int .i32 0, .int .i64 0, .int .i64 0, .int .i64 0, .int .i64 0] : Array Value)[r]!) := by
      intro r hr
      match r, hr with
      | 0, _ => rfl
      | 1, _ => rfl
      | 2, _ => rfl
      | 3, _ => rfl
      | 4, _ => rfl
    rw [hc _ h5] at e
    exact (Option.some.inj e).symm
theorem info37 : (Try.prog.info? 37).map (fun i => (i.zero, i.size, i.bytes)) = some (some (.agg #[.int .i32 0, .int .i64 0, .int .i64 0, .int .i64 0, .int .i64 0]), 5, 40) := by kernel_rfl
theorem make_cells (q : Nat) (hq : q ≤ 1000000) (w : World) : (Instr.makeSlice 41 (.int .i64 (q : Int)) (.int .i64 (q : Int))).run Try.prog w = .ok (.slice (some ⟨w.heap.size, 0, none⟩) q q) (w.alloc (.cells (flat (List.replicate q zeroC)).toArray 37)) := by
  obtain ⟨i0, hi, hz, hs, hb⟩ := info_parts info37
  have hr := run_make (P := Try.prog) w 41 37 i0 _ under41 hi hz .i64 .i64 (q : Int) (q : Int) (Int.natCast_nonneg _) (Int.le_refl _) (by rw [hb]; omega) (by omega)
  rw [hr, hs, Int.toNat_natCast, ← made_flat]
  rfl
theorem below_drewN {B : Nat} {a w : World} (h : Below B a w) (n : Nat) : Below B a (w.drewN n) := ⟨h.os, h.tape, h.output, h.size, h.block⟩
theorem below_undrew {B : Nat} {w w1 : World} (h : Below B w.drew w1) : Below B w w1 := ⟨h.os, h.tape, h.output, h.size, h.block⟩
set_option maxRecDepth 100000 in
theorem blankK (R C : Nat) (w : World) (h : 1 ≤ R ∧ R ≤ 60 ∧ 1 ≤ C ∧ C ≤ 200) :
    Calls Try.prog 33 #[.int .i64 (R : Int), .int .i64 (C : Int)] w fun e w' => e = .returned (.pointer (some ⟨w.heap.size + 1, 0, none⟩)) ∧ G w' (w.heap.size + 1) w.heap.size R C (List.replicate (R * C) (Gm.blankC 0)) ∧ Below w.heap.size w w' := by
  have hq : R * C ≤ 12000 := Nat.mul_le_mul h.2.1 h.2.2.2
  have HH := Lib.hid h
  obtain ⟨h1, h2, h3, h4⟩ := h
  generalize hQ : R * C = q at *
  have i1 : (R : Int) * (C : Int) = (q : Int) := by rw [← hQ]; exact (Int.natCast_mul R C).symm
  have b1 : (q : Int) ≤ 1000000 := by omega
  have E1 := Lib.hid (wr_of (x := (R : Int) * (C : Int)) (by rw [i1]; exact Int.natCast_nonneg _) (by rw [i1]; exact b1) i1)
  have HQ := Lib.hid hQ
  have hmk := make_cells q (by omega)
  have HQ2 := Lib.hid (show q ≤ 1000000 by omega)
  clear i1 b1 hQ
  have e1 := E1.out.1
  have e2 := E1.out.2
  generalize hZ : (flat (List.replicate q zeroC)).toArray = Z0 at hmk
  have HZ := Lib.hid hZ
  clear hZ
  go_enter Try.func33, Try.ntmps33
  go_wp2
  have HP := Lib.hid (heap_at2 w (.cells Z0 37) (.cells #[.int .i64 (R : Int), .int .i64 (C : Int), .slice (some ⟨w.heap.size, 0, none⟩) q q] 65))
  have HRB := Lib.hid (show RB ((w.alloc (.cells Z0 37)).alloc (.cells #[.int .i64 (R : Int), .int .i64 (C : Int), .slice (some ⟨w.heap.size, 0, none⟩) q q] 65)) w.heap.size ([] ++ List.replicate q zeroC ++ []) by
    rw [List.nil_append, List.append_nil]; unfold RB; rw [HZ.out]; exact heap_at1 w _ _)
  have HB := Lib.hid (show Below w.heap.size w ((w.alloc (.cells Z0 37)).alloc (.cells #[.int .i64 (R : Int), .int .i64 (C : Int), .slice (some ⟨w.heap.size, 0, none⟩) q q] 65)) from ((Below.refl _ w).alloc (Nat.le_refl _) _).alloc (by simp) _)
  have HS0 := Lib.hid (show ((w.alloc (.cells Z0 37)).alloc (.cells #[.int .i64 (R : Int), .int .i64 (C : Int), .slice (some ⟨w.heap.size, 0, none⟩) q q] 65)).heap.size = w.heap.size + 2 by simp)
  generalize ((w.alloc (.cells Z0 37)).alloc (.cells #[.int .i64 (R : Int), .int .i64 (C : Int), .slice (some ⟨w.heap.size, 0, none⟩) q q] 65)) = w0 at *
  obtain ⟨p0, p1, p2⟩ := three HP.out
  have HA := Lib.hid (show AtP q (some ⟨w.heap.size, 0, none⟩) w.heap.size [] from fun _ => rfl)
  have HL := Lib.hid (show q = (List.replicate q zeroC).length from List.length_replicate.symm)
  have HN := Lib.hid (show w.heap.size + 1 ≠ w.heap.size by omega)
  go_region_held3 (fun W => W.cell? ⟨w.heap.size + 1, 2, none⟩ = some (.slice (some ⟨w.heap.size, 0, none⟩) q q)) (first | assumption | exact p2) (first
    | (go_at_call 28; (with_reducible refine (cBlankB 0 0 0 _).mono ?_); rintro e w2 ⟨rfl, hb2⟩; have s2 := cell_then hb2 (Nat.le_refl _) p2; have HR2 := Lib.hid (RB.then_ (RB.drew HRB.out) hb2 (Nat.le_refl _)); have HB2 := Lib.hid hb2; clear hb2)
    | (go_at_call 47; (with_reducible refine (fillP w.heap.size [] (List.replicate q zeroC) [] _ q _ ⟨32, 0, 0, 0, 0⟩ _ HR2.out HL.out HA.out HQ2.out).mono ?_); rintro e w3 ⟨rfl, hr3, hk3⟩; have s3 := cell_kept hk3 s2 HN.out HN.out; have HR3 := Lib.hid hr3; have HK3 := Lib.hid hk3; clear hr3 hk3))
  go_wp2
  go_ret
  have hs0 := HS0.out
  have hb2 : Below w0.heap.size w0 w2 := below_undrew HB2.out
  have hP2 : w2.heap[w.heap.size + 1]? = _ := (hb2.block _ (by omega)).trans HP.out
  have hP3 := HK3.out.row hP2 HN.out HN.out
  refine ⟨rfl, ⟨?_, by have := HR3.out; simpa [Gm.blankC] using this, by rw [List.length_replicate]; exact HQ.out.symm, h1, h2, h3, h4⟩, ?_⟩
  · rw [List.length_replicate]; exact hP3
  · exact HK3.out.below (below_then HB.out hb2 (by omega)) (Nat.le_refl _) (Nat.le_refl _) (Nat.le_refl _)
set_option maxRecDepth 100000 in
/-- New, of a size that may be. -/
theorem newYes (R C : Nat) (w : World) (h : 1 ≤ R ∧ R ≤ 60 ∧ 1 ≤ C ∧ C ≤ 200) :
    Calls Try.prog 10 #[.int .i64 (R : Int), .int .i64 (C : Int)] w fun e w' => e = .returned (.tuple #[.pointer (some ⟨w.heap.size + 1, 0, none⟩), .int .i64 0]) ∧ G w' (w.heap.size + 1) w.heap.size R C (List.replicate (R * C) (Gm.blankC 0)) ∧ Below w.heap.size w w' := by
  have HH := Lib.hid h
  have HZ := Lib.hid (show sizeB (R : Int) (C : Int) = true from (size_t (by omega)).symm)
  generalize hL : List.replicate (R * C) (Gm.blankC 0) = L
  have HL := Lib.hid hL
  clear h hL
  have hc1 : Calls Try.prog 32 #[.int .i64 (R : Int), .int .i64 (C : Int)] w fun e w' => e = .returned (.bool true) ∧ w = w' := by rw [← HZ.out]; exact maySize _ _ _
  have hc2 : Calls Try.prog 33 #[.int .i64 (R : Int), .int .i64 (C : Int)] w fun e w' => e = .returned (.pointer (some ⟨w.heap.size + 1, 0, none⟩)) ∧ G w' (w.heap.size + 1) w.heap.size R C L ∧ Below w.heap.size w w' := by rw [← HL.out]; exact blankK R C w HH.out
  have H1 := Lib.hid hc1
  have H2 := Lib.hid hc2
  clear hc1 hc2
  go_enter Try.func10, Try.ntmps10
  go_wp2_with (first
    | (go_at_call 32; (with_reducible refine H1.out.mono ?_); rintro e w' ⟨rfl, rfl⟩)
    | (go_at_call 33; (with_reducible refine H2.out.mono ?_); rintro e w2 ⟨rfl, hg, hb⟩; have HG := Lib.hid hg; have HB := Lib.hid hb; clear hg hb))
  go_ret2
  exact ⟨rfl, HG.out, HB.out⟩
set_option maxRecDepth 100000 in
/-- New, of another size. -/
theorem newNo (rows cols : Int) (w : World) (h : sizeB rows cols = false) :
    Calls Try.prog 10 #[.int .i64 rows, .int .i64 cols] w fun e w' => e = .returned (.tuple #[.pointer none, .int .i64 1]) ∧ w = w' := by
  have hc1 : Calls Try.prog 32 #[.int .i64 rows, .int .i64 cols] w fun e w' => e = .returned (.bool false) ∧ w = w' := by rw [← h]; exact maySize _ _ _
  have H1 := Lib.hid hc1
  clear hc1 h
  go_enter Try.func10, Try.ntmps10
  go_wp2_with (first
    | (go_at_call 32; (with_reducible refine H1.out.mono ?_); rintro e w' ⟨rfl, rfl⟩))
  go_ret2
  exact ⟨rfl, rfl⟩
theorem q0 : 0 = ([] : List Ce).length * 5 := rfl
/-- what stands at a place. -/
def atC (R C : Nat) (L : List Ce) (row col : Int) : Ce := if hasB R C row col then L.getD (row.toNat * C + col.toNat) zeroC else zeroC
theorem at_idx {L : List Ce} {R C r c : Nat} (hl : L.length = R * C) (hr : r < R) (hc : c < C) : r * C + c < L.length := by
  have := row_nums hl hr; omega
theorem gv_fives {w : World} {p b R C cap : Nat} {L : List Ce} (h : GV w p b R C cap L) (j : Nat) (hj : j < L.length) : w.cell? ⟨b, j * 5, none⟩ = some (.int .i32 (L[j]).r) ∧ w.cell? ⟨b, j * 5 + 1, none⟩ = some (.int .i64 (L[j]).fl) ∧ w.cell? ⟨b, j * 5 + 2, none⟩ = some (.int .i64 (L[j]).fg) ∧ w.cell? ⟨b, j * 5 + 3, none⟩ = some (.int .i64 (L[j]).bg) ∧ w.cell? ⟨b, j * 5 + 4, none⟩ = some (.int .i64 (L[j]).wd) :=
  ⟨h.cell j hj 0 (by omega), h.cell j hj 1 (by omega), h.cell j hj 2 (by omega), h.cell j hj 3 (by omega), h.cell j hj 4 (by omega)⟩
set_option maxRecDepth 100000 in
theorem atYes (p b R C cap r c : Nat) (L : List Ce) (w : World) (h : GV w p b R C cap L) (hr : r < R) (hc : c < C) (x : Ce) (hx : L[r * C + c]? = some x) :
    Calls Try.prog 19 #[.pointer (some ⟨p, 0, none⟩), .int .i64 (r : Int), .int .i64 (c : Int)] w fun e w' => e = .returned (cvA x) ∧ Below w.heap.size w w' := by
  have hj := at_idx h.len hr hc
  have hxe : L[r * C + c] = x := by rw [List.getElem?_eq_getElem hj] at hx; exact Option.some.inj hx
  have HV := Lib.hid (h.alloc (.cells #[.int .i32 0, .int .i64 0, .int .i64 0, .int .i64 0, .int .i64 0] 37))
  have HZ := Lib.hid (show hasB R C (r : Int) (c : Int) = true from (has_t (by omega)).symm)
  have HR := Lib.hid hr
  have hq : r * C * 5 + c * 5 = (r * C + c) * 5 := by rw [Nat.add_mul]
  have hlt := h.b_lt
  obtain ⟨x0, x1, x2, x3, x4⟩ := gv_fives HV.out (r * C + c) hj
  rw [hxe, ← hq] at x0 x1 x2 x3 x4
  have hcap : c < cap - r * C := by have := h.cap1; omega
  have h200 := h.c2
  have HB := Lib.hid (below_one w (.cells #[.int .i32 0, .int .i64 0, .int .i64 0, .int .i64 0, .int .i64 0] 37))
  have hne : b ≠ w.heap.size := by omega
  have hne' : w.heap.size ≠ b := by omega
  have h44 := rowC p b R C cap r L _ HV.out HR.out
  generalize r * C = q at *
  generalize hw0 : w.alloc (.cells #[.int .i32 0, .int .i64 0, .int .i64 0, .int .i64 0, .int .i64 0] 37) = w0 at *
  have h43 : Calls Try.prog 43 #[.pointer (some ⟨p, 0, none⟩), .int .i64 (r : Int), .int .i64 (c : Int)] w0 fun e w' => e = .returned (.bool true) ∧ w0 = w' := by rw [← HZ.out]; exact hasC _ _ _ _ _ _ _ _ _ HV.out
  have H43 := Lib.hid h43
  have H44 := Lib.hid h44
  have hsz : w0.heap.size = w.heap.size + 1 := by rw [← hw0]; simp
  have hf : w0.heap[w.heap.size]? = some (.cells #[.int .i32 0, .int .i64 0, .int .i64 0, .int .i64 0, .int .i64 0] 37 (0, 0)) := by rw [← hw0]; exact heap_alloc_last w _
  clear h43 h44 hj hx hxe h hr hq
  have HF := Lib.hid (show RB w0 w.heap.size ([] ++ zeroC :: []) from hf)
  have hlt0 : w.heap.size < w0.heap.size := by omega
  have HB0 := Lib.hid (show Below w.heap.size w w0 from HB.out)
  clear hf HB hsz hcap
  have hcap : c < C := hc
  go_enter Try.func19, Try.ntmps19
  go_wp2_with (first
    | (go_at_call 43; (with_reducible refine H43.out.mono ?_); rintro e w' ⟨rfl, rfl⟩)
    | (go_at_call 44; (with_reducible refine H44.out.mono ?_); rintro e w1 ⟨rfl, n1, hn1⟩; have HF1 := Lib.hid (show RB w1 w.heap.size ([] ++ zeroC :: []) from hn1 ▸ HF.out); have HB1 := Lib.hid (show Below w.heap.size w w1 from hn1 ▸ below_drewN HB0.out n1); rw [show w0.cell? = w1.cell? from by rw [← hn1]; rfl] at x0 x1 x2 x3 x4; clear hn1 HF HB0 HV H43 H44 hw0)
    | ((with_reducible refine wpList_store_cell rfl _ _ rfl w.heap.size 0 x rfl rfl HF1.out q0 ?_); intro w2 hw2; have HF2 := Lib.hid (show RB w2 w.heap.size ([] ++ x :: []) by rw [← hw2]; exact HF1.out.put _); have HB2 := Lib.hid (show Below w.heap.size w w2 from by rw [← hw2]; exact below_setRow HB1.out (Nat.le_refl _) _); clear hw2))
  obtain ⟨f0, f1, f2, f3, f4⟩ := five (show w2.heap[w.heap.size]? = some (.cells #[.int .i32 x.r, .int .i64 x.fl, .int .i64 x.fg, .int .i64 x.bg, .int .i64 x.wd] 37 (0, 0)) from HF2.out)
  exact bodyPost_ret (v := cvA x) (by simp [results, Try.results19, go_sem, f0, f1, f2, f3, f4]) rfl ⟨rfl, HB2.out⟩
set_option maxRecDepth 100000 in
theorem atNo (p b R C cap : Nat) (row col : Int) (L : List Ce) (w : World) (h : GV w p b R C cap L) (hz : hasB R C row col = false) :
    Calls Try.prog 19 #[.pointer (some ⟨p, 0, none⟩), .int .i64 row, .int .i64 col] w fun e w' => e = .returned (cvA ⟨0, 0, 0, 0, 0⟩) ∧ Below w.heap.size w w' := by
  have HV := Lib.hid (h.alloc (.cells #[.int .i32 0, .int .i64 0, .int .i64 0, .int .i64 0, .int .i64 0] 37))
  have HZ := Lib.hid hz
  have HB := Lib.hid (below_one w (.cells #[.int .i32 0, .int .i64 0, .int .i64 0, .int .i64 0, .int .i64 0] 37))
  generalize hw0 : w.alloc (.cells #[.int .i32 0, .int .i64 0, .int .i64 0, .int .i64 0, .int .i64 0] 37) = w0 at *
  have h43 : Calls Try.prog 43 #[.pointer (some ⟨p, 0, none⟩), .int .i64 row, .int .i64 col] w0 fun e w' => e = .returned (.bool false) ∧ w0 = w' := by rw [← HZ.out]; exact hasC _ _ _ _ _ _ _ _ _ HV.out
  have H43 := Lib.hid h43
  have hf : w0.heap[w.heap.size]? = some (.cells #[.int .i32 0, .int .i64 0, .int .i64 0, .int .i64 0, .int .i64 0] 37 (0, 0)) := by rw [← hw0]; exact heap_alloc_last w _
  have HF := Lib.hid (show RB w0 w.heap.size ([] ++ zeroC :: []) from hf)
  have HB0 := Lib.hid (show Below w.heap.size w w0 from HB.out)
  clear h43 h hf HB hz
  go_enter Try.func19, Try.ntmps19
  go_wp2_with (first
    | (go_at_call 43; (with_reducible refine H43.out.mono ?_); rintro e w' ⟨rfl, rfl⟩)
    | ((with_reducible refine wpList_store_cell rfl _ _ rfl w.heap.size 0 ⟨0, 0, 0, 0, 0⟩ rfl rfl HF.out q0 ?_); intro w2 hw2; have HF2 := Lib.hid (show RB w2 w.heap.size ([] ++ ⟨0, 0, 0, 0, 0⟩ :: []) by rw [← hw2]; exact HF.out.put _); have HB2 := Lib.hid (show Below w.heap.size w w2 from by rw [← hw2]; exact below_setRow HB0.out (Nat.le_refl _) _); clear hw2))
  obtain ⟨f0, f1, f2, f3, f4⟩ := five (show w2.heap[w.heap.size]? = some (.cells #[.int .i32 0, .int .i64 0, .int .i64 0, .int .i64 0, .int .i64 0] 37 (0, 0)) from HF2.out)
  exact bodyPost_ret (v := cvA ⟨0, 0, 0, 0, 0⟩) (by simp [results, Try.results19, go_sem, f0, f1, f2, f3, f4]) rfl ⟨rfl, HB2.out⟩
/-- At, of any place. -/
theorem atK (p b R C cap : Nat) (row col : Int) (L : List Ce) (w : World) (h : GV w p b R C cap L) (x : Ce) (hx : x = atC R C L row col) :
    Calls Try.prog 19 #[.pointer (some ⟨p, 0, none⟩), .int .i64 row, .int .i64 col] w fun e w' => e = .returned (cvA x) ∧ Below w.heap.size w w' := by
  cases hz : hasB R C row col
  · have : x = ⟨0, 0, 0, 0, 0⟩ := by rw [hx]; unfold atC; rw [hz]; rfl
    rw [this]
    exact atNo p b R C cap row col L w h hz
  · have hz' : 0 ≤ row ∧ row < R ∧ 0 ≤ col ∧ col < C := by simpa [hasB] using hz
    obtain ⟨r, rfl⟩ := Int.eq_ofNat_of_zero_le hz'.1
    obtain ⟨c, rfl⟩ := Int.eq_ofNat_of_zero_le hz'.2.2.1
    have hr : r < R := by omega
    have hc : c < C := by omega
    refine atYes p b R C cap r c L w h hr hc x ?_
    have hj := at_idx h.len hr hc
    rw [hx]; unfold atC; rw [hz, if_pos rfl, Int.toNat_natCast, Int.toNat_natCast, List.getD_eq_getElem?_getD, List.getElem?_eq_getElem hj]; rfl
set_option maxRecDepth 100000 in
set_option maxHeartbeats 1000000 in
/-- slices.Equal, of a slice and itself. -/
theorem equalSelf (b n cap : Nat) (L : List Ce) (w : World) (hn : n = L.length) (hc : ∀ j, (h : j < L.length) → ∀ i, i < 5 → w.cell? ⟨b, j * 5 + i, none⟩ = (cv L[j])[i]?) (hm : n ≤ 1000000) :
    Calls Try.prog 53 #[.slice (some ⟨b, 0, none⟩) n cap, .slice (some ⟨b, 0, none⟩) n cap] w fun e w' => e = .returned (.bool true) ∧ ∃ k, w.drewN k = w' := by
  have HN := Lib.hid hn
  have HC := Lib.hid hc
  clear hn hc
  go_enter Try.func53, Try.ntmps53
  go_wp2
  go_loopw [13] (fun s13 wr => ∃ k : Nat, k ≤ n ∧ s13 = .int .i64 k ∧ ∃ m, wr = w.drewN m) (fun s13 _ => n - (intOf s13).toNat)
  case atStart => exact ⟨0, Nat.zero_le _, rfl, 0, rfl⟩
  case round =>
    obtain ⟨k, hk, rfl, m, rfl⟩ := hrel
    by_cases hlt : k < n
    · have hlt2 : k < L.length := by rw [← HN.out]; exact hlt
      have x0 : (w.drewN m).cell? ⟨b, k * 5, none⟩ = some (.int .i32 (L[k]).r) := HC.out k hlt2 0 (by omega)
      have x1 : (w.drewN m).cell? ⟨b, k * 5 + 1, none⟩ = some (.int .i64 (L[k]).fl) := HC.out k hlt2 1 (by omega)
      have x2 : (w.drewN m).cell? ⟨b, k * 5 + 2, none⟩ = some (.int .i64 (L[k]).fg) := HC.out k hlt2 2 (by omega)
      have x3 : (w.drewN m).cell? ⟨b, k * 5 + 3, none⟩ = some (.int .i64 (L[k]).bg) := HC.out k hlt2 3 (by omega)
      have x4 : (w.drewN m).cell? ⟨b, k * 5 + 4, none⟩ = some (.int .i64 (L[k]).wd) := HC.out k hlt2 4 (by omega)
      generalize L[k] = c at x0 x1 x2 x3 x4
      generalize hwr : w.drewN m = wr at *
      have HW := Lib.hid hwr
      clear hwr
      go_wp2
      go_quiet (fail)
      go_wp2
      exact ⟨⟨k + 1, by omega, by go_num, m + nq, by rw [← HW.out, World.drewN_drewN]⟩, by simp only [intOf]; omega⟩
    · obtain rfl : k = n := by omega
      go_wp2
      go_ret
      exact ⟨rfl, _, rfl⟩
theorem equalG (p b R C cap : Nat) (L : List Ce) (w : World) (h : GV w p b R C cap L) : Calls Try.prog 53 #[.slice (some ⟨b, 0, none⟩) L.length cap, .slice (some ⟨b, 0, none⟩) L.length cap] w fun e w' => e = .returned (.bool true) ∧ ∃ k, w' = w.drewN k :=
  (equalSelf b L.length cap L w rfl h.cell (by have := h.small; omega)).mono fun e w' ⟨h1, k, h2⟩ => ⟨h1, k, h2.symm⟩
set_option maxRecDepth 100000 in
theorem sameSelf (p b R C cap : Nat) (L : List Ce) (w : World) (h : GV w p b R C cap L) : Calls Try.prog 31 #[.pointer (some ⟨p, 0, none⟩), .pointer (some ⟨p, 0, none⟩)] w fun e w' => e = .returned (.bool true) ∧ ∃ k, w.drewN k = w' := by
  have HV := Lib.hid h
  obtain ⟨c0, c1, c2⟩ := three h.obj
  generalize hL : L.length = n at c2
  have HL := Lib.hid hL
  have hq : ∀ k, Calls Try.prog 53 #[.slice (some ⟨b, 0, none⟩) n cap, .slice (some ⟨b, 0, none⟩) n cap] (w.drewN k) fun e w' => e = .returned (.bool true) ∧ ∃ m, w' = (w.drewN k).drewN m := fun k => by rw [← HL.out]; exact equalG p b R C cap L _ (HV.out.drewN k)
  have HQ := Lib.hid hq
  clear h hL hq
  go_enter Try.func31, Try.ntmps31
  go_wp2
  go_quiet ((go_at_call 53; (with_reducible exact Calls.quiet_of (HQ.out _))))
  go_wp2
  go_ret
  exact ⟨rfl, _, rfl⟩
end Go.Proofs.Ytfdjmlncdbpkgaa.Gh
