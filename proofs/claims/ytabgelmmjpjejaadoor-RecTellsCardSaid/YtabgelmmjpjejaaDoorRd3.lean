/- The document's reading of a record: ok. -/
import Derived.Test.YtabgelmmjpjejaaDoorRw
import Derived.BigQuiet
import Derived.Deep.RegionHeld
set_option linter.unusedVariables false
namespace Go.Proofs.YtabgelmmjpjejaaDoor.Rd3
open Go Go.RowKit Kit Crc Var Get Ref3 Copy Bytes Bx Py Py2 Ry Dn Df Dd Da Dc Rs Rf Rg Bg Rt Rw


set_option maxRecDepth 100000 in
set_option maxHeartbeats 4000000 in
theorem ddec_ok (b off cap : Nat) (l : List Nat) (p M : Nat) (w : World) (hs : Cells w b off l) (hcap : l.length ≤ cap) (hl : ∀ c ∈ l, c < 256) (hn : l.length ≤ 90000) (hM : l.length = p + M) (h6 : 6 ≤ M) (g0 : l[p]? = some 167) (g1 : l[p + 1]? = some 92) (p2 p6 : Nat) (e2 : p2 = p + 2) (e6 : p6 = p + 6) (h7 : 7 ≤ M) (p7 : Nat) (e7 : p7 = p + 7) (KK : Nat) (g6 : l[p6]? = some KK) (s n1 p8 : Nat) (x3 : getF (l.drop p7) 0 0 = (s, n1, 0)) (d3 : p8 = p7 + n1) (j3 : p8 ≤ l.length) (t n2 p9 : Nat) (x4 : getF (l.drop p8) 0 0 = (t, n2, 0)) (d4 : p9 = p8 + n2) (j4 : p9 ≤ l.length) (n n3 pA : Nat) (x5 : getF (l.drop p9) 0 0 = (n, n3, 0)) (d5 : pA = p9 + n3) (j5 : pA ≤ l.length) (x6 : n ≤ 1048576) (LL : Nat) (eL : l.length = pA + LL) (x7 : n ≤ LL) (E : Nat) (eE : E = pA + n) (x8 : (l.drop p2).take (p6 - p2) = fourL ((crc ((l.drop p6).take (E - p6)) : Nat) : Int))  (x9 : mayR (KK : Int) s t n = true) (NN : Nat) :
    Calls Tryd.prog 15 #[.slice (some ⟨b, off, none⟩) l.length cap, .int .i64 (p : Int)] w (DeP ⟨0, KK, s, t, (l.drop pA).take (E - pA), NN⟩ (E : Int) w) := by
  have z1 : (l.length : Int) - (p : Int) = (M : Int) := by omega
  have k1 : decide ((6 : Int) ≤ (M : Int)) = true := decide_eq_true (by omega)
  have k2 : decide (6 ≤ M) = true := decide_eq_true (by omega)
  have y0 : (p : Int) < (l.length : Int) := by omega
  have M5 : M ≤ 100000 := by omega
  have y1 : (p : Int) + 1 < (l.length : Int) := by omega
  have z2 : (p : Int) + 2 = (p2 : Int) := by omega
  have z6 : (p : Int) + 6 = (p6 : Int) := by omega
  have r2 : p2 ≤ 100000 := by omega
  have r6 : p6 ≤ 100000 := by omega
  obtain ⟨SU, hSU⟩ : ∃ SU, SU = (l.drop p2).take (p6 - p2) := ⟨_, rfl⟩
  obtain ⟨yA, cA, hA, sA, _⟩ := sub_some (sl_of hs) hcap p2 p6 (by omega) (by omega) SU hSU
  have z7 : (p6 : Int) + 1 = (p7 : Int) := by omega
  have k3 : decide ((p6 : Int) < (l.length : Int)) = true := decide_eq_true (by omega)
  have k4 : decide (p6 < l.length) = true := decide_eq_true (by omega)
  have y6 : (p6 : Int) < (l.length : Int) := by omega
  have r7 : p7 ≤ 100000 := by omega
  have r8 : KK ≤ 100000 := by have := hl KK (List.mem_of_getElem? g6); omega
  have v7 : p7 ≤ l.length := by omega
  have zL : (l.length : Int) - (pA : Int) = (LL : Int) := by omega
  have rL : LL ≤ 100000 := by omega
  have uL : (LL : Int) % 18446744073709551616 = (LL : Int) := by omega
  have k5 : decide ((n : Int) ≤ (LL : Int)) = true := decide_eq_true (by omega)
  have k6 : decide (n ≤ LL) = true := decide_eq_true (by omega)
  have zE : (pA : Int) + (n : Int) = (E : Int) := by omega
  have rE : E ≤ 100000 := by omega
  have rn : n ≤ 100000 := by omega
  have rA : pA ≤ 100000 := by omega
  obtain ⟨D6, hD6⟩ : ∃ D, D = (l.drop p6).take (E - p6) := ⟨_, rfl⟩
  obtain ⟨yB, cB, hB, sB, _⟩ := sub_some (sl_of hs) hcap p6 E (by omega) (by omega) D6 hD6
  obtain ⟨BD, hBD⟩ : ∃ D, D = (l.drop pA).take (E - pA) := ⟨_, rfl⟩
  obtain ⟨yC, cC, hC, sC, lC⟩ := sub_some (sl_of hs) hcap pA E (by omega) (by omega) BD hBD
  obtain ⟨CR, hCR⟩ : ∃ C, C = crc D6 := ⟨_, rfl⟩
  obtain ⟨FF, hFF⟩ : ∃ F, F = fourL (CR : Int) := ⟨_, rfl⟩
  have gd1 : ¬ (p : Int) < 0 := by omega
  have gd2 : ¬ (l.length : Int) < (p : Int) := by omega
  have gd3 : decide ((M : Int) < 6) = false := decide_eq_false (by omega)
  have gd4 : decide (M < 6) = false := decide_eq_false (by omega)
  have gd5 : decide ((M : Int) < 7) = false := decide_eq_false (by omega)
  have gd6 : decide (M < 7) = false := decide_eq_false (by omega)
  have z8 : (p : Int) + 7 = (p7 : Int) := by omega
  have HP8 := Lib.hid (show l.length ≤ 9223372036854775000 by omega)
  have gd7 : decide ((1048576 : Int) < (n : Int)) = false := decide_eq_false (by omega)
  have gd8 : decide (1048576 < n) = false := decide_eq_false (by omega)
  have gd9 : decide ((LL : Int) < (n : Int)) = false := decide_eq_false (by omega)
  have gdA : decide (LL < n) = false := decide_eq_false (by omega)
  have c0 : w.cell? ⟨b, off + p, none⟩ = some (.int .u8 (167 : Int)) := cell_q hs g0
  have c1 : w.cell? ⟨b, off + (p + 1), none⟩ = some (.int .u8 (92 : Int)) := cell_q hs g1
  have c6 : w.cell? ⟨b, off + p6, none⟩ = some (.int .u8 (KK : Int)) := cell_q hs g6
  have HS := Lib.hid (sl_of hs)
  have HL := Lib.hid hl
  have HN := Lib.hid (show l.length ≤ 9223372036854775000 by omega)
  have HSA := Lib.hid sA
  have V7 := Lib.hid v7
  have X3 := Lib.hid x3
  have D3 := Lib.hid d3
  have J3 := Lib.hid j3
  have S3 := Lib.hid (show s ≤ 18446744073709551615 by have := getF_lt _ 0 0 s n1 (by omega) (by decide) (fun c hc => hl c (List.mem_of_mem_drop hc)) x3; omega)
  have X4 := Lib.hid x4
  have D4 := Lib.hid d4
  have J4 := Lib.hid j4
  have S4 := Lib.hid (show t ≤ 18446744073709551615 by have := getF_lt _ 0 0 t n2 (by omega) (by decide) (fun c hc => hl c (List.mem_of_mem_drop hc)) x4; omega)
  have X5 := Lib.hid x5
  have D5 := Lib.hid d5
  have J5 := Lib.hid j5
  have X6 := Lib.hid x6
  have HSB := Lib.hid sB
  have HSC := Lib.hid sC
  have HCR := Lib.hid hCR
  have HFF := Lib.hid hFF
  have HD6X := Lib.hid (show ∀ c ∈ D6, c < 256 by rw [hD6]; exact fun c hc => hl c (List.mem_of_mem_drop (List.mem_of_mem_take hc)))
  have HD6N := Lib.hid (show D6.length ≤ 9223372036854775807 by rw [hD6]; simp; omega)
  have HCL := Lib.hid (show CR < 4294967296 by rw [hCR, hD6]; exact crc_lt _ (fun c hc => hl c (List.mem_of_mem_drop (List.mem_of_mem_take hc))))
  have HSX := Lib.hid (show ∀ c ∈ SU, c < 256 by rw [hSU]; exact fun c hc => hl c (List.mem_of_mem_drop (List.mem_of_mem_take hc)))
  have HFX := Lib.hid (show ∀ c ∈ FF, c < 256 by rw [hFF]; exact four_bytes _)
  have HBN := Lib.hid (show BD.length ≤ 1000000 by rw [hBD]; simp; omega)
  have HBL := Lib.hid lC
  have HEQN := Lib.hid (show SU = fourL ((CR : Nat) : Int) by rw [hSU, hCR, hD6]; exact x8)
  have HMY := Lib.hid (show mayR (KK : Int) s t BD.length = true by rw [hBD]; rw [show ((l.drop pA).take (E - pA)).length = n by simp; omega]; exact x9)
  rw [← hBD]
  have HSL := Lib.hid (show SU.length = 4 by rw [hSU]; simp; omega)
  replace c0 := past_alloc (o := .cells #[.int .i64 0, .int .u64 0, .int .u64 0, .slice none 0 0] 31) c0
  replace c1 := past_alloc (o := .cells #[.int .i64 0, .int .u64 0, .int .u64 0, .slice none 0 0] 31) c1
  replace c6 := past_alloc (o := .cells #[.int .i64 0, .int .u64 0, .int .u64 0, .slice none 0 0] 31) c6
  clear hs hM h6 g0 g1 e2 e6 hSU sA h7 e7 g6 v7 x3 d3 j3 x4 d4 j4 x5 d5 j5 x6 eL x7 eE hD6 hBD sB sC lC hCR hFF x8 x9
  as_aux_lemma =>
    go_enter Tryd.func15, Tryd.ntmps15
    go_wp2_with fail
    refine wp_loop_rounds 4 ?_
    rw [rounds_succ]
    go_wp2_with (go_at_call 43; (with_reducible refine (dgetOk (some ⟨b, off, none⟩) l.length cap l p7 s n1 _ rfl HL.out HN.out (sl_alloc (sl_alloc HS.out _) _) V7.out X3.out p8 D3.out).mono ?_); rintro e w' ⟨rfl, rfl⟩)
    rw [rounds_succ]
    go_wp2_with (go_at_call 43; (with_reducible refine (dgetOk (some ⟨b, off, none⟩) l.length cap l p8 t n2 _ rfl HL.out HN.out (sl_alloc (sl_alloc HS.out _) _) J3.out X4.out p9 D4.out).mono ?_); rintro e w' ⟨rfl, rfl⟩)
    rw [rounds_succ]
    go_wp2_with (go_at_call 43; (with_reducible refine (dgetOk (some ⟨b, off, none⟩) l.length cap l p9 n n3 _ rfl HL.out HN.out (sl_alloc (sl_alloc HS.out _) _) J4.out X5.out pA D5.out).mono ?_); rintro e w' ⟨rfl, rfl⟩)
    rw [rounds_succ]
    go_wp2_with fail
    have HBW := Lib.hid (show Below w.heap.size w ((w.alloc (.cells #[.int .i64 0, .int .u64 0, .int .u64 0, .slice none 0 0] 31)).alloc (.cells #[.int .u64 (s : Int), .int .u64 (t : Int), .int .u64 (n : Int)] 85)) from ((Below.refl _ w).alloc (Nat.le_refl _) _).alloc (by simp) _)
    have HZ1 := Lib.hid (show ((w.alloc (.cells #[.int .i64 0, .int .u64 0, .int .u64 0, .slice none 0 0] 31)).alloc (.cells #[.int .u64 (s : Int), .int .u64 (t : Int), .int .u64 (n : Int)] 85)).heap[w.heap.size]? = some (.cells #[.int .i64 0, .int .u64 0, .int .u64 0, .slice none 0 0] 31 (0, 0)) from (Below.heap_alloc _ _ _ (by simp)).trans (heap_alloc_last w _))
    have HZ2 := Lib.hid (show ((w.alloc (.cells #[.int .i64 0, .int .u64 0, .int .u64 0, .slice none 0 0] 31)).alloc (.cells #[.int .u64 (s : Int), .int .u64 (t : Int), .int .u64 (n : Int)] 85)).heap[w.heap.size + 1]? = some (.cells #[.int .u64 (s : Int), .int .u64 (t : Int), .int .u64 (n : Int)] 85 (0, 0)) by have h := heap_alloc_last (w.alloc (.cells #[.int .i64 0, .int .u64 0, .int .u64 0, .slice none 0 0] 31)) (.cells #[.int .u64 (s : Int), .int .u64 (t : Int), .int .u64 (n : Int)] 85); rw [show (w.alloc (.cells #[.int .i64 0, .int .u64 0, .int .u64 0, .slice none 0 0] 31)).heap.size = w.heap.size + 1 by simp] at h; exact h)
    have q6 := past_alloc (o := .cells #[.int .u64 (s : Int), .int .u64 (t : Int), .int .u64 (n : Int)] 85) c6
    clear c0 c1 c6
    as_aux_lemma =>
      generalize ((w.alloc (.cells #[.int .i64 0, .int .u64 0, .int .u64 0, .slice none 0 0] 31)).alloc (.cells #[.int .u64 (s : Int), .int .u64 (t : Int), .int .u64 (n : Int)] 85)) = wz at *
      have HSBz := Lib.hid (sl_then HBW.out (Nat.le_refl _) HSB.out)
      have HSCz := Lib.hid (sl_then HBW.out (Nat.le_refl _) HSC.out)
      have HSAz := Lib.hid (sl_then HBW.out (Nat.le_refl _) HSA.out)
      obtain ⟨NV, hNV⟩ : ∃ n, n = numL SU := ⟨_, rfl⟩
      have HNV := Lib.hid hNV
      have jN : (NV : Int) % 4294967296 = (NV : Int) := by have := num_lt HSL.out HSX.out; rw [hNV]; omega
      have jW : IntKind.u32.wrap (NV : Int) = (NV : Int) := by rw [IntKind.wrap_u32]; exact jN
      have jE : ((CR : Int) != (NV : Int)) = false := by rw [hNV, num_eq HCL.out HEQN.out]; simp
      clear hNV
      go_big_quiet (first
        | (go_at_call 22; with_reducible exact Calls.quiet_of_same ((dcrcK (some yB) D6.length cB D6 CR _ rfl HCR.out HD6X.out HD6N.out (sl_drewN HSBz.out _)).mono fun _ _ h => ⟨h.1, h.2.symm⟩))
        | (go_at_call 23; with_reducible exact Calls.quiet_of_same ((bigN (some yA) SU.length cA SU NV _ rfl HSL.out HSX.out HNV.out (sl_drewN HSAz.out _)).mono fun _ _ h => ⟨h.1, h.2.symm⟩)))
      have HBV := Lib.hid (below_drewN HBW.out nq)
      have HV1 := Lib.hid (show (wz.drewN nq).heap[w.heap.size]? = some (.cells #[.int .i64 0, .int .u64 0, .int .u64 0, .slice none 0 0] 31 (0, 0)) from HZ1.out)
      have HV2 := Lib.hid (show (wz.drewN nq).heap[w.heap.size + 1]? = some (.cells #[.int .u64 (s : Int), .int .u64 (t : Int), .int .u64 (n : Int)] 85 (0, 0)) from HZ2.out)
      have HSCv := Lib.hid (sl_drewN HSCz.out nq)
      have C6 := Lib.hid (past_drewN nq q6)
      clear q6 jN jW
      as_aux_lemma =>
        generalize wz.drewN nq = wv at *
        have A0 := Lib.hid (show wv.cell? ⟨w.heap.size + 1, 0, none⟩ = some (.int .u64 (s : Int)) by rw [cell_of_row wv (w.heap.size + 1) 0 _ 85 _ HV2.out]; rfl)
        have A1 := Lib.hid (show wv.cell? ⟨w.heap.size + 1, 1, none⟩ = some (.int .u64 (t : Int)) by rw [cell_of_row wv (w.heap.size + 1) 1 _ 85 _ HV2.out]; rfl)
        have KS := Lib.hid (show ∀ W, Below wv.heap.size wv W → W.cell? ⟨b, off + p6, none⟩ = some (.int .u8 (KK : Int)) ∧ W.cell? ⟨w.heap.size + 1, 0, none⟩ = some (.int .u64 (s : Int)) ∧ W.cell? ⟨w.heap.size + 1, 1, none⟩ = some (.int .u64 (t : Int)) ∧ Below wv.heap.size wv W from fun W h => ⟨cell_then h (Nat.le_refl _) C6.out, cell_then h (Nat.le_refl _) A0.out, cell_then h (Nat.le_refl _) A1.out, h⟩)
        have KB := Lib.hid (show ∀ W, (W.cell? ⟨b, off + p6, none⟩ = some (.int .u8 (KK : Int)) ∧ W.cell? ⟨w.heap.size + 1, 0, none⟩ = some (.int .u64 (s : Int)) ∧ W.cell? ⟨w.heap.size + 1, 1, none⟩ = some (.int .u64 (t : Int)) ∧ Below wv.heap.size wv W) → Below wv.heap.size wv W from fun W h => h.2.2.2)
        have hKK : IntKind.i64.wrap (KK : Int) = (KK : Int) := wr_i KK r8
        have hP6 : IntKind.i64.wrap (p6 : Int) = (p6 : Int) := wr_i p6 r6
        have HLW := Lib.hid (show w.heap.size < wv.heap.size from (Array.getElem?_eq_some_iff.1 HV1.out).1)
        go_wp2_with fail
        refine wp_region_held_drew (S := (fun W => W.cell? ⟨b, off + p6, none⟩ = some (.int .u8 (KK : Int)) ∧ W.cell? ⟨w.heap.size + 1, 0, none⟩ = some (.int .u64 (s : Int)) ∧ W.cell? ⟨w.heap.size + 1, 1, none⟩ = some (.int .u64 (t : Int)) ∧ Below wv.heap.size wv W)) (by kernel_rfl) ?_ (fun hHeld => ?_)
        · ((try dsimp only); (first | (with_reducible exact KS.out _ hN) | exact KS.out _ (Below.refl _ _).drew | exact KS.out _ (Below.alloc (KB.out _ hHeld) (KB.out _ hHeld).size _)))
        refine wpAnyH_take (i := 0) (oi := { dst := some 111, op := Op.move (Operand.tmp 0), type := 23, pos := _, after := #[], guard := none }) (v := ?_) rfl (by kernel_rfl) (by kernel_rfl) (by kernel_rfl) (fun _ _ _ h => h) (Or.inl ⟨by rfl, ?_⟩) (by assumption) ?_
        rotate_left
        · ((intro w hSw); (try dsimp only at hSw); go_simp; (try with_reducible rfl))
        try simp only [Act.put, List.setIfInBounds_toArray, List.set_cons_zero, List.set_cons_succ]
        refine wpAnyH_take (i := 1) (oi := { dst := some 112, op := Op.move (Operand.tmp 1), type := 3, pos := _, after := #[], guard := none }) (v := ?_) rfl (by kernel_rfl) (by kernel_rfl) (by kernel_rfl) (fun _ _ _ h => h) (Or.inl ⟨by rfl, ?_⟩) (by assumption) ?_
        rotate_left
        · ((intro w hSw); (try dsimp only at hSw); go_simp; (try with_reducible rfl))
        try simp only [Act.put, List.setIfInBounds_toArray, List.set_cons_zero, List.set_cons_succ]
        refine wpAnyH_take (i := 2) (oi := { dst := some 113, op := Op.binOp BinOp.add 3 (Operand.tmp 112) (Operand.const (Value.int IntKind.i64 6)) 3, type := 3, pos := _, after := #[{ on := 1, ground := Ground.data }], guard := none }) (v := ?_) rfl (by kernel_rfl) (by kernel_rfl) (by kernel_rfl) (fun _ _ _ h => h) (Or.inl ⟨by rfl, ?_⟩) (by assumption) ?_
        rotate_left
        · ((intro w hSw); (try dsimp only at hSw); go_simp; (try with_reducible rfl))
        try simp only [Act.put, List.setIfInBounds_toArray, List.set_cons_zero, List.set_cons_succ]
        refine wpAnyH_take (i := 3) (oi := { dst := some 114, op := Op.indexAddr 23 (Operand.tmp 111) (Operand.tmp 113), type := 0, pos := _, after := #[{ on := 0, ground := Ground.data }, { on := 2, ground := Ground.data }], guard := none }) (v := ?_) rfl (by kernel_rfl) (by kernel_rfl) (by kernel_rfl) (fun _ _ _ h => h) (Or.inl ⟨by rfl, ?_⟩) (by assumption) ?_
        rotate_left
        · ((intro w hSw); (try dsimp only at hSw); go_simp; (try with_reducible rfl))
        try simp only [Act.put, List.setIfInBounds_toArray, List.set_cons_zero, List.set_cons_succ]
        refine wpAnyH_take (i := 4) (oi := { dst := some 115, op := Op.load 5 (Operand.tmp 114), type := 5, pos := _, after := #[{ on := 3, ground := Ground.data }], guard := none }) (v := ?_) rfl (by kernel_rfl) (by kernel_rfl) (by kernel_rfl) (fun _ _ _ h => h) (Or.inl ⟨by rfl, ?_⟩) (by assumption) ?_
        rotate_left
        · ((intro w hSw); (try dsimp only at hSw); go_simp; (try with_reducible rfl))
        try simp only [Act.put, List.setIfInBounds_toArray, List.set_cons_zero, List.set_cons_succ]
        refine wpAnyH_take (i := 5) (oi := { dst := some 116, op := Op.convert 5 3 (Operand.tmp 115), type := 3, pos := _, after := #[{ on := 4, ground := Ground.data }], guard := none }) (v := ?_) rfl (by kernel_rfl) (by kernel_rfl) (by kernel_rfl) (fun _ _ _ h => h) (Or.inl ⟨by rfl, ?_⟩) (by assumption) ?_
        rotate_left
        · ((intro w hSw); (try dsimp only at hSw); go_simp; (try with_reducible rfl))
        try simp only [Act.put, List.setIfInBounds_toArray, List.set_cons_zero, List.set_cons_succ]
        refine wpAnyH_take (i := 6) (oi := { dst := some 117, op := Op.indexAddr 85 (Operand.tmp 8) (Operand.const (Value.int IntKind.i64 0)), type := 0, pos := _, after := #[], guard := none }) (v := ?_) rfl (by kernel_rfl) (by kernel_rfl) (by kernel_rfl) (fun _ _ _ h => h) (Or.inl ⟨by rfl, ?_⟩) (by assumption) ?_
        rotate_left
        · ((intro w hSw); (try dsimp only at hSw); go_simp; (try with_reducible rfl))
        try simp only [Act.put, List.setIfInBounds_toArray, List.set_cons_zero, List.set_cons_succ]
        refine wpAnyH_take (i := 7) (oi := { dst := some 118, op := Op.load 22 (Operand.tmp 117), type := 22, pos := _, after := #[{ on := 6, ground := Ground.data }], guard := none }) (v := ?_) rfl (by kernel_rfl) (by kernel_rfl) (by kernel_rfl) (fun _ _ _ h => h) (Or.inl ⟨by rfl, ?_⟩) (by assumption) ?_
        rotate_left
        · ((intro w hSw); (try dsimp only at hSw); go_simp; (try with_reducible rfl))
        try simp only [Act.put, List.setIfInBounds_toArray, List.set_cons_zero, List.set_cons_succ]
        refine wpAnyH_take (i := 8) (oi := { dst := some 119, op := Op.indexAddr 85 (Operand.tmp 8) (Operand.const (Value.int IntKind.i64 1)), type := 0, pos := _, after := #[], guard := none }) (v := ?_) rfl (by kernel_rfl) (by kernel_rfl) (by kernel_rfl) (fun _ _ _ h => h) (Or.inl ⟨by rfl, ?_⟩) (by assumption) ?_
        rotate_left
        · ((intro w hSw); (try dsimp only at hSw); go_simp; (try with_reducible rfl))
        try simp only [Act.put, List.setIfInBounds_toArray, List.set_cons_zero, List.set_cons_succ]
        refine wpAnyH_take (i := 9) (oi := { dst := some 120, op := Op.load 22 (Operand.tmp 119), type := 22, pos := _, after := #[{ on := 8, ground := Ground.data }], guard := none }) (v := ?_) rfl (by kernel_rfl) (by kernel_rfl) (by kernel_rfl) (fun _ _ _ h => h) (Or.inl ⟨by rfl, ?_⟩) (by assumption) ?_
        rotate_left
        · ((intro w hSw); (try dsimp only at hSw); go_simp; (try with_reducible rfl))
        try simp only [Act.put, List.setIfInBounds_toArray, List.set_cons_zero, List.set_cons_succ]
        refine wpAnyH_take (i := 10) (oi := { dst := some 121, op := Op.move (Operand.tmp 0), type := 23, pos := _, after := #[], guard := none }) (v := ?_) rfl (by kernel_rfl) (by kernel_rfl) (by kernel_rfl) (fun _ _ _ h => h) (Or.inl ⟨by rfl, ?_⟩) (by assumption) ?_
        rotate_left
        · ((intro w hSw); (try dsimp only at hSw); go_simp; (try with_reducible rfl))
        try simp only [Act.put, List.setIfInBounds_toArray, List.set_cons_zero, List.set_cons_succ]
        refine wpAnyH_take (i := 11) (oi := { dst := some 122, op := Op.move (Operand.tmp 7), type := 3, pos := _, after := #[], guard := none }) (v := ?_) rfl (by kernel_rfl) (by kernel_rfl) (by kernel_rfl) (fun _ _ _ h => h) (Or.inl ⟨by rfl, ?_⟩) (by assumption) ?_
        rotate_left
        · ((intro w hSw); (try dsimp only at hSw); go_simp; (try with_reducible rfl))
        try simp only [Act.put, List.setIfInBounds_toArray, List.set_cons_zero, List.set_cons_succ]
        refine wpAnyH_take (i := 12) (oi := { dst := some 123, op := Op.move (Operand.tmp 13), type := 3, pos := _, after := #[], guard := none }) (v := ?_) rfl (by kernel_rfl) (by kernel_rfl) (by kernel_rfl) (fun _ _ _ h => h) (Or.inl ⟨by rfl, ?_⟩) (by assumption) ?_
        rotate_left
        · ((intro w hSw); (try dsimp only at hSw); go_simp; (try with_reducible rfl))
        try simp only [Act.put, List.setIfInBounds_toArray, List.set_cons_zero, List.set_cons_succ]
        refine wpAnyH_take (i := 13) (oi := { dst := some 124, op := Op.slice 23 (Operand.tmp 121) (some (Operand.tmp 122)) (some (Operand.tmp 123)) none, type := 23, pos := _, after := #[{ on := 10, ground := Ground.data }, { on := 11, ground := Ground.data }, { on := 12, ground := Ground.data }], guard := none }) (v := ?_) rfl (by kernel_rfl) (by kernel_rfl) (by kernel_rfl) (fun _ _ _ h => h) (Or.inl ⟨by rfl, ?_⟩) (by assumption) ?_
        rotate_left
        · ((intro w hSw); (try dsimp only at hSw); go_simp; (try with_reducible rfl))
        try simp only [Act.put, List.setIfInBounds_toArray, List.set_cons_zero, List.set_cons_succ]
        refine wpAnyH_ready (rs := [14, 16]) (by kernel_rfl) (by simp) ?_
        refine (AllReadyH.cons (o := { dst := some 125, op := Op.call { callee := Callee.value (Operand.func 21), args := #[Operand.tmp 124], argTypes := #[23] }, type := 23, pos := _, after := #[{ on := 13, ground := Ground.data }], guard := none }) rfl (fun K hK => ?_) (AllReadyH.cons (o := { dst := some 14, op := Op.alloc 31, type := 0, pos := _, after := #[], guard := none }) rfl (fun K hK => ?_) AllReadyH.nil))
        · skip
          go_simp
          go_at_call 21
          refine (copyQ yC _ cC BD _ rfl HBN.out (sl_drew HSCv.out)).mono ?_
          rintro e w9 ⟨ya, yc, rfl, hys, hy0, hyc, hyx, b9⟩
          have hN := below_then (KB.out _ hHeld) b9 (KB.out _ hHeld).size
          have HN9 := Lib.hid hN
          have HYS := Lib.hid hys
          have HY0 := Lib.hid hy0
          have HYC := Lib.hid hyc
          have HYX := Lib.hid (show ∀ x, ya = some x → w.heap.size < x.block from fun x hx => Nat.lt_of_lt_of_le HLW.out (hyx x hx))
          clear hys hy0 hyc hyx b9
          go_wp2_with fail
          refine hK.out _ _ ?_ (fun hHeld => ?_)
          · ((try dsimp only); (first | (with_reducible exact KS.out _ hN) | exact KS.out _ (Below.refl _ _).drew | exact KS.out _ (Below.alloc (KB.out _ hHeld) (KB.out _ hHeld).size _)))
          clear hK K
          try simp only [Act.put, List.setIfInBounds_toArray, List.set_cons_zero, List.set_cons_succ]
          refine wpAnyH_take (i := 15) (oi := { dst := some 126, op := Op.build 31 #[(0, Operand.tmp 116), (1, Operand.tmp 118), (2, Operand.tmp 120), (3, Operand.tmp 125)], type := 31, pos := _, after := #[{ on := 5, ground := Ground.data }, { on := 7, ground := Ground.data }, { on := 9, ground := Ground.data }, { on := 14, ground := Ground.data }], guard := none }) (v := ?_) rfl (by kernel_rfl) (by kernel_rfl) (by kernel_rfl) (fun _ _ _ h => h) (Or.inl ⟨by rfl, ?_⟩) (by assumption) ?_
          rotate_left
          · ((intro w hSw); (try dsimp only at hSw); go_simp; (try with_reducible rfl))
          try simp only [Act.put, List.setIfInBounds_toArray, List.set_cons_zero, List.set_cons_succ]
          refine wpAnyH_ready (rs := [16]) (by kernel_rfl) (by simp) ?_
          refine (AllReadyH.cons (o := { dst := some 14, op := Op.alloc 31, type := 0, pos := _, after := #[], guard := none }) rfl (fun K hK => ?_) AllReadyH.nil)
          go_simp
          refine hK.out _ _ ?_ (fun hHeld => ?_)
          · ((try dsimp only); (first | (with_reducible exact KS.out _ hN) | exact KS.out _ (Below.refl _ _).drew | exact KS.out _ (Below.alloc (KB.out _ hHeld) (KB.out _ hHeld).size _)))
          clear hK K
          try simp only [Act.put, List.setIfInBounds_toArray, List.set_cons_zero, List.set_cons_succ]
          refine wpAnyH_ready (rs := [17]) (by kernel_rfl) (by simp) ?_
          refine (AllReadyH.cons (o := { dst := none, op := Op.store 31 (Operand.tmp 14) (Operand.tmp 126), type := 0, pos := _, after := #[{ on := 16, ground := Ground.data }, { on := 15, ground := Ground.data }, { on := 14, ground := Ground.chain }, { on := 0, ground := Ground.phase }, { on := 1, ground := Ground.phase }, { on := 2, ground := Ground.phase }, { on := 3, ground := Ground.phase }, { on := 4, ground := Ground.phase }, { on := 5, ground := Ground.phase }, { on := 6, ground := Ground.phase }, { on := 7, ground := Ground.phase }, { on := 8, ground := Ground.phase }, { on := 9, ground := Ground.phase }, { on := 10, ground := Ground.phase }, { on := 11, ground := Ground.phase }, { on := 12, ground := Ground.phase }, { on := 13, ground := Ground.phase }, { on := 14, ground := Ground.phase }, { on := 15, ground := Ground.phase }, { on := 16, ground := Ground.phase }], guard := none }) rfl (fun K hK => ?_) AllReadyH.nil)
          go_simp
          have HY := Lib.hid (heap_alloc_last w9 (.cells #[.int .i64 (KK : Int), .int .u64 (s : Int), .int .u64 (t : Int), .slice ya BD.length yc] 31))
          have HYB := Lib.hid (HN9.out.alloc HN9.out.size (.cells #[.int .i64 (KK : Int), .int .u64 (s : Int), .int .u64 (t : Int), .slice ya BD.length yc] 31))
          have HYT := Lib.hid (sl_alloc HYS.out (.cells #[.int .i64 (KK : Int), .int .u64 (s : Int), .int .u64 (t : Int), .slice ya BD.length yc] 31))
          have hN := HYB.out
          generalize w9.alloc (.cells #[.int .i64 (KK : Int), .int .u64 (s : Int), .int .u64 (t : Int), .slice ya BD.length yc] 31) = wy at *
          refine hK.out _ _ ?_ (fun hHeld => ?_)
          · ((try dsimp only); (first | (with_reducible exact KS.out _ hN) | exact KS.out _ (Below.refl _ _).drew | exact KS.out _ (Below.alloc (KB.out _ hHeld) (KB.out _ hHeld).size _)))
          clear hK K
          try simp only [Act.put]
          refine wpAnyH_done (by kernel_rfl) ?_ _
          clear hN
          have HBY := Lib.hid (below_then HBV.out HYB.out HBV.out.size)
          have HV1y := Lib.hid ((HYB.out.block _ (Array.getElem?_eq_some_iff.1 HV1.out).1).trans HV1.out)
          have y0 : wy.cell? ⟨w9.heap.size, 0, none⟩ = some (.int .i64 (KK : Int)) := (by rw [cell_of_row wy w9.heap.size 0 _ 31 _ HY.out]; rfl)
          have y1 : wy.cell? ⟨w9.heap.size, 1, none⟩ = some (.int .u64 (s : Int)) := (by rw [cell_of_row wy w9.heap.size 1 _ 31 _ HY.out]; rfl)
          have y2 : wy.cell? ⟨w9.heap.size, 2, none⟩ = some (.int .u64 (t : Int)) := (by rw [cell_of_row wy w9.heap.size 2 _ 31 _ HY.out]; rfl)
          have y3 : wy.cell? ⟨w9.heap.size, 3, none⟩ = some (.slice ya BD.length yc) := (by rw [cell_of_row wy w9.heap.size 3 _ 31 _ HY.out]; rfl)
          as_aux_lemma =>
            go_wp2_with (go_at_call 19; (with_reducible refine (dmayE (KK : Int) s t ya BD.length yc BD wy true rfl HMY.out).mono ?_); rintro e w11 ⟨rfl, b11⟩; have HR11 := Lib.hid ((b11.block _ (Array.getElem?_eq_some_iff.1 HV1y.out).1).trans HV1y.out); have HB11 := Lib.hid (below_then HBY.out b11 HBY.out.size); have e0 : w11.cell? ⟨w.heap.size, 0, none⟩ = some (.int .i64 0) := (by rw [cell_of_row w11 w.heap.size 0 _ 31 _ HR11.out]; rfl); have ef0 := frozen_of_row w11 w.heap.size 0 _ 31 HR11.out; have e1 : w11.cell? ⟨w.heap.size, 1, none⟩ = some (.int .u64 0) := (by rw [cell_of_row w11 w.heap.size 1 _ 31 _ HR11.out]; rfl); have ef1 := frozen_of_row w11 w.heap.size 1 _ 31 HR11.out; have e2 : w11.cell? ⟨w.heap.size, 2, none⟩ = some (.int .u64 0) := (by rw [cell_of_row w11 w.heap.size 2 _ 31 _ HR11.out]; rfl); have ef2 := frozen_of_row w11 w.heap.size 2 _ 31 HR11.out; have e3 : w11.cell? ⟨w.heap.size, 3, none⟩ = some (.slice none 0 0) := (by rw [cell_of_row w11 w.heap.size 3 _ 31 _ HR11.out]; rfl); have ef3 := frozen_of_row w11 w.heap.size 3 _ 31 HR11.out; have HYF := Lib.hid (sl_then b11 (Nat.le_refl _) HYT.out); have u0 : w11.cell? ⟨w9.heap.size, 0, none⟩ = some (.int .i64 (KK : Int)) := (by rw [cell_of_row w11 w9.heap.size 0 _ 31 _ ((b11.block _ (Array.getElem?_eq_some_iff.1 HY.out).1).trans HY.out)]; rfl); have u1 : w11.cell? ⟨w9.heap.size, 1, none⟩ = some (.int .u64 (s : Int)) := (by rw [cell_of_row w11 w9.heap.size 1 _ 31 _ ((b11.block _ (Array.getElem?_eq_some_iff.1 HY.out).1).trans HY.out)]; rfl); have u2 : w11.cell? ⟨w9.heap.size, 2, none⟩ = some (.int .u64 (t : Int)) := (by rw [cell_of_row w11 w9.heap.size 2 _ 31 _ ((b11.block _ (Array.getElem?_eq_some_iff.1 HY.out).1).trans HY.out)]; rfl); have u3 : w11.cell? ⟨w9.heap.size, 3, none⟩ = some (.slice ya BD.length yc) := (by rw [cell_of_row w11 w9.heap.size 3 _ 31 _ ((b11.block _ (Array.getElem?_eq_some_iff.1 HY.out).1).trans HY.out)]; rfl); clear b11)
            have Zf := pk31 HR11.out (.int .i64 (KK : Int)) (.int .u64 (s : Int)) (.int .u64 (t : Int)) (.slice ya BD.length yc)
            have BF := Lib.hid (show Below w.heap.size w ((((w11.setCell ⟨w.heap.size, 0, none⟩ (.int .i64 (KK : Int))).setCell ⟨w.heap.size, 1, none⟩ (.int .u64 (s : Int))).setCell ⟨w.heap.size, 2, none⟩ (.int .u64 (t : Int))).setCell ⟨w.heap.size, 3, none⟩ (.slice ya BD.length yc)) from (((HB11.out.setCell (Nat.le_refl _) _).setCell (Nat.le_refl _) _).setCell (Nat.le_refl _) _).setCell (Nat.le_refl _) _)
            have SF := Lib.hid (show Sl ((((w11.setCell ⟨w.heap.size, 0, none⟩ (.int .i64 (KK : Int))).setCell ⟨w.heap.size, 1, none⟩ (.int .u64 (s : Int))).setCell ⟨w.heap.size, 2, none⟩ (.int .u64 (t : Int))).setCell ⟨w.heap.size, 3, none⟩ (.slice ya BD.length yc)) ya BD from sl_set (sl_set (sl_set (sl_set HYF.out (fun x hx => Nat.ne_of_gt (HYX.out x hx)) _) (fun x hx => Nat.ne_of_gt (HYX.out x hx)) _) (fun x hx => Nat.ne_of_gt (HYX.out x hx)) _) (fun x hx => Nat.ne_of_gt (HYX.out x hx)) _)
            generalize ((((w11.setCell ⟨w.heap.size, 0, none⟩ (.int .i64 (KK : Int))).setCell ⟨w.heap.size, 1, none⟩ (.int .u64 (s : Int))).setCell ⟨w.heap.size, 2, none⟩ (.int .u64 (t : Int))).setCell ⟨w.heap.size, 3, none⟩ (.slice ya BD.length yc)) = WF at *
            have q0 : WF.cell? ⟨w.heap.size, 0, none⟩ = some (.int .i64 (KK : Int)) := by rw [cell_of_row WF w.heap.size 0 _ 31 _ Zf]; rfl
            have q1 : WF.cell? ⟨w.heap.size, 1, none⟩ = some (.int .u64 (s : Int)) := by rw [cell_of_row WF w.heap.size 1 _ 31 _ Zf]; rfl
            have q2 : WF.cell? ⟨w.heap.size, 2, none⟩ = some (.int .u64 (t : Int)) := by rw [cell_of_row WF w.heap.size 2 _ 31 _ Zf]; rfl
            have q3 : WF.cell? ⟨w.heap.size, 3, none⟩ = some (.slice ya BD.length yc) := by rw [cell_of_row WF w.heap.size 3 _ 31 _ Zf]; rfl
            exact bodyPost_ret (v := .tuple #[.agg #[.int .i64 (KK : Int), .int .u64 (s : Int), .int .u64 (t : Int), .slice ya BD.length yc], .int .i64 (E : Int), .int .i64 0]) (by simp [results, Tryd.results15, go_sem, q0, q1, q2, q3]) rfl ⟨ya, yc, rfl, SF.out, HY0.out, HYC.out, (fun x hx => Nat.le_of_lt (HYX.out x hx)), BF.out⟩
        · skip
          go_simp
          refine hK.out _ _ ?_ (fun hHeld => ?_)
          · ((try dsimp only); (first | (with_reducible exact KS.out _ hN) | exact KS.out _ (Below.refl _ _).drew | exact KS.out _ (Below.alloc (KB.out _ hHeld) (KB.out _ hHeld).size _)))
          clear hK K
          try simp only [Act.put, List.setIfInBounds_toArray, List.set_cons_zero, List.set_cons_succ]
          refine wpAnyH_ready (rs := [14]) (by kernel_rfl) (by simp) ?_
          refine (AllReadyH.cons (o := { dst := some 125, op := Op.call { callee := Callee.value (Operand.func 21), args := #[Operand.tmp 124], argTypes := #[23] }, type := 23, pos := _, after := #[{ on := 13, ground := Ground.data }], guard := none }) rfl (fun K hK => ?_) AllReadyH.nil)
          go_simp
          go_at_call 21
          refine (copyQ yC _ cC BD _ rfl HBN.out (sl_drew (sl_alloc HSCv.out _))).mono ?_
          rintro e w9 ⟨ya, yc, rfl, hys, hy0, hyc, hyx, b9⟩
          have hN := below_then (KB.out _ hHeld) b9 (KB.out _ hHeld).size
          have HN9 := Lib.hid hN
          have HYS := Lib.hid hys
          have HY0 := Lib.hid hy0
          have HYC := Lib.hid hyc
          have HYX := Lib.hid (show ∀ x, ya = some x → w.heap.size < x.block from fun x hx => Nat.lt_of_lt_of_le (Nat.lt_of_lt_of_le HLW.out (show wv.heap.size ≤ ((wv.alloc (.cells #[.int .i64 0, .int .u64 0, .int .u64 0, .slice none 0 0] 31)).drew).heap.size by show wv.heap.size ≤ (wv.alloc (.cells #[.int .i64 0, .int .u64 0, .int .u64 0, .slice none 0 0] 31)).heap.size; simp)) (hyx x hx))
          have HYG := Lib.hid (show ∀ x, ya = some x → wv.heap.size < x.block from fun x hx => Nat.lt_of_lt_of_le (show wv.heap.size < ((wv.alloc (.cells #[.int .i64 0, .int .u64 0, .int .u64 0, .slice none 0 0] 31)).drew).heap.size by show wv.heap.size < (wv.alloc (.cells #[.int .i64 0, .int .u64 0, .int .u64 0, .slice none 0 0] 31)).heap.size; simp) (hyx x hx))
          have HG9 := Lib.hid (show w9.heap[wv.heap.size]? = some (.cells #[.int .i64 0, .int .u64 0, .int .u64 0, .slice none 0 0] 31 (0, 0)) from (b9.block _ (show wv.heap.size < (wv.alloc (.cells #[.int .i64 0, .int .u64 0, .int .u64 0, .slice none 0 0] 31)).heap.size by simp)).trans (heap_alloc_last wv _))
          clear hys hy0 hyc hyx b9
          go_wp2_with fail
          refine hK.out _ _ ?_ (fun hHeld => ?_)
          · ((try dsimp only); (first | (with_reducible exact KS.out _ hN) | exact KS.out _ (Below.refl _ _).drew | exact KS.out _ (Below.alloc (KB.out _ hHeld) (KB.out _ hHeld).size _)))
          clear hK K
          try simp only [Act.put, List.setIfInBounds_toArray, List.set_cons_zero, List.set_cons_succ]
          refine wpAnyH_take (i := 15) (oi := { dst := some 126, op := Op.build 31 #[(0, Operand.tmp 116), (1, Operand.tmp 118), (2, Operand.tmp 120), (3, Operand.tmp 125)], type := 31, pos := _, after := #[{ on := 5, ground := Ground.data }, { on := 7, ground := Ground.data }, { on := 9, ground := Ground.data }, { on := 14, ground := Ground.data }], guard := none }) (v := ?_) rfl (by kernel_rfl) (by kernel_rfl) (by kernel_rfl) (fun _ _ _ h => h) (Or.inl ⟨by rfl, ?_⟩) (by assumption) ?_
          rotate_left
          · ((intro w hSw); (try dsimp only at hSw); go_simp; (try with_reducible rfl))
          try simp only [Act.put, List.setIfInBounds_toArray, List.set_cons_zero, List.set_cons_succ]
          refine wpAnyH_ready (rs := [17]) (by kernel_rfl) (by simp) ?_
          refine (AllReadyH.cons (o := { dst := none, op := Op.store 31 (Operand.tmp 14) (Operand.tmp 126), type := 0, pos := _, after := #[{ on := 16, ground := Ground.data }, { on := 15, ground := Ground.data }, { on := 14, ground := Ground.chain }, { on := 0, ground := Ground.phase }, { on := 1, ground := Ground.phase }, { on := 2, ground := Ground.phase }, { on := 3, ground := Ground.phase }, { on := 4, ground := Ground.phase }, { on := 5, ground := Ground.phase }, { on := 6, ground := Ground.phase }, { on := 7, ground := Ground.phase }, { on := 8, ground := Ground.phase }, { on := 9, ground := Ground.phase }, { on := 10, ground := Ground.phase }, { on := 11, ground := Ground.phase }, { on := 12, ground := Ground.phase }, { on := 13, ground := Ground.phase }, { on := 14, ground := Ground.phase }, { on := 15, ground := Ground.phase }, { on := 16, ground := Ground.phase }], guard := none }) rfl (fun K hK => ?_) AllReadyH.nil)
          have g0 : w9.cell? ⟨wv.heap.size, 0, none⟩ = some (.int .i64 0) := (by rw [cell_of_row w9 wv.heap.size 0 _ 31 _ HG9.out]; rfl); have gf0 := frozen_of_row w9 wv.heap.size 0 _ 31 HG9.out
          have g1 : w9.cell? ⟨wv.heap.size, 1, none⟩ = some (.int .u64 0) := (by rw [cell_of_row w9 wv.heap.size 1 _ 31 _ HG9.out]; rfl); have gf1 := frozen_of_row w9 wv.heap.size 1 _ 31 HG9.out
          have g2 : w9.cell? ⟨wv.heap.size, 2, none⟩ = some (.int .u64 0) := (by rw [cell_of_row w9 wv.heap.size 2 _ 31 _ HG9.out]; rfl); have gf2 := frozen_of_row w9 wv.heap.size 2 _ 31 HG9.out
          have g3 : w9.cell? ⟨wv.heap.size, 3, none⟩ = some (.slice none 0 0) := (by rw [cell_of_row w9 wv.heap.size 3 _ 31 _ HG9.out]; rfl); have gf3 := frozen_of_row w9 wv.heap.size 3 _ 31 HG9.out
          go_simp
          clear g0 g1 g2 g3 gf0 gf1 gf2 gf3
          have HY := Lib.hid (pk31 HG9.out (.int .i64 (KK : Int)) (.int .u64 (s : Int)) (.int .u64 (t : Int)) (.slice ya BD.length yc))
          have HYB := Lib.hid (show Below wv.heap.size wv ((((w9.setCell ⟨wv.heap.size, 0, none⟩ (.int .i64 (KK : Int))).setCell ⟨wv.heap.size, 1, none⟩ (.int .u64 (s : Int))).setCell ⟨wv.heap.size, 2, none⟩ (.int .u64 (t : Int))).setCell ⟨wv.heap.size, 3, none⟩ (.slice ya BD.length yc)) from (((HN9.out.setCell (Nat.le_refl _) _).setCell (Nat.le_refl _) _).setCell (Nat.le_refl _) _).setCell (Nat.le_refl _) _)
          have HYT := Lib.hid (show Sl ((((w9.setCell ⟨wv.heap.size, 0, none⟩ (.int .i64 (KK : Int))).setCell ⟨wv.heap.size, 1, none⟩ (.int .u64 (s : Int))).setCell ⟨wv.heap.size, 2, none⟩ (.int .u64 (t : Int))).setCell ⟨wv.heap.size, 3, none⟩ (.slice ya BD.length yc)) ya BD from sl_set (sl_set (sl_set (sl_set HYS.out (fun x hx => Nat.ne_of_gt (HYG.out x hx)) _) (fun x hx => Nat.ne_of_gt (HYG.out x hx)) _) (fun x hx => Nat.ne_of_gt (HYG.out x hx)) _) (fun x hx => Nat.ne_of_gt (HYG.out x hx)) _)
          have hN := HYB.out
          generalize ((((w9.setCell ⟨wv.heap.size, 0, none⟩ (.int .i64 (KK : Int))).setCell ⟨wv.heap.size, 1, none⟩ (.int .u64 (s : Int))).setCell ⟨wv.heap.size, 2, none⟩ (.int .u64 (t : Int))).setCell ⟨wv.heap.size, 3, none⟩ (.slice ya BD.length yc)) = wy at *
          refine hK.out _ _ ?_ (fun hHeld => ?_)
          · ((try dsimp only); (first | (with_reducible exact KS.out _ hN) | exact KS.out _ (Below.refl _ _).drew | exact KS.out _ (Below.alloc (KB.out _ hHeld) (KB.out _ hHeld).size _)))
          clear hK K
          try simp only [Act.put]
          refine wpAnyH_done (by kernel_rfl) ?_ _
          clear hN
          have HBY := Lib.hid (below_then HBV.out HYB.out HBV.out.size)
          have HV1y := Lib.hid ((HYB.out.block _ (Array.getElem?_eq_some_iff.1 HV1.out).1).trans HV1.out)
          have y0 : wy.cell? ⟨wv.heap.size, 0, none⟩ = some (.int .i64 (KK : Int)) := (by rw [cell_of_row wy wv.heap.size 0 _ 31 _ HY.out]; rfl)
          have y1 : wy.cell? ⟨wv.heap.size, 1, none⟩ = some (.int .u64 (s : Int)) := (by rw [cell_of_row wy wv.heap.size 1 _ 31 _ HY.out]; rfl)
          have y2 : wy.cell? ⟨wv.heap.size, 2, none⟩ = some (.int .u64 (t : Int)) := (by rw [cell_of_row wy wv.heap.size 2 _ 31 _ HY.out]; rfl)
          have y3 : wy.cell? ⟨wv.heap.size, 3, none⟩ = some (.slice ya BD.length yc) := (by rw [cell_of_row wy wv.heap.size 3 _ 31 _ HY.out]; rfl)
          as_aux_lemma =>
            go_wp2_with (go_at_call 19; (with_reducible refine (dmayE (KK : Int) s t ya BD.length yc BD wy true rfl HMY.out).mono ?_); rintro e w11 ⟨rfl, b11⟩; have HR11 := Lib.hid ((b11.block _ (Array.getElem?_eq_some_iff.1 HV1y.out).1).trans HV1y.out); have HB11 := Lib.hid (below_then HBY.out b11 HBY.out.size); have e0 : w11.cell? ⟨w.heap.size, 0, none⟩ = some (.int .i64 0) := (by rw [cell_of_row w11 w.heap.size 0 _ 31 _ HR11.out]; rfl); have ef0 := frozen_of_row w11 w.heap.size 0 _ 31 HR11.out; have e1 : w11.cell? ⟨w.heap.size, 1, none⟩ = some (.int .u64 0) := (by rw [cell_of_row w11 w.heap.size 1 _ 31 _ HR11.out]; rfl); have ef1 := frozen_of_row w11 w.heap.size 1 _ 31 HR11.out; have e2 : w11.cell? ⟨w.heap.size, 2, none⟩ = some (.int .u64 0) := (by rw [cell_of_row w11 w.heap.size 2 _ 31 _ HR11.out]; rfl); have ef2 := frozen_of_row w11 w.heap.size 2 _ 31 HR11.out; have e3 : w11.cell? ⟨w.heap.size, 3, none⟩ = some (.slice none 0 0) := (by rw [cell_of_row w11 w.heap.size 3 _ 31 _ HR11.out]; rfl); have ef3 := frozen_of_row w11 w.heap.size 3 _ 31 HR11.out; have HYF := Lib.hid (sl_then b11 (Nat.le_refl _) HYT.out); have u0 : w11.cell? ⟨wv.heap.size, 0, none⟩ = some (.int .i64 (KK : Int)) := (by rw [cell_of_row w11 wv.heap.size 0 _ 31 _ ((b11.block _ (Array.getElem?_eq_some_iff.1 HY.out).1).trans HY.out)]; rfl); have u1 : w11.cell? ⟨wv.heap.size, 1, none⟩ = some (.int .u64 (s : Int)) := (by rw [cell_of_row w11 wv.heap.size 1 _ 31 _ ((b11.block _ (Array.getElem?_eq_some_iff.1 HY.out).1).trans HY.out)]; rfl); have u2 : w11.cell? ⟨wv.heap.size, 2, none⟩ = some (.int .u64 (t : Int)) := (by rw [cell_of_row w11 wv.heap.size 2 _ 31 _ ((b11.block _ (Array.getElem?_eq_some_iff.1 HY.out).1).trans HY.out)]; rfl); have u3 : w11.cell? ⟨wv.heap.size, 3, none⟩ = some (.slice ya BD.length yc) := (by rw [cell_of_row w11 wv.heap.size 3 _ 31 _ ((b11.block _ (Array.getElem?_eq_some_iff.1 HY.out).1).trans HY.out)]; rfl); clear b11)
            have Zf := pk31 HR11.out (.int .i64 (KK : Int)) (.int .u64 (s : Int)) (.int .u64 (t : Int)) (.slice ya BD.length yc)
            have BF := Lib.hid (show Below w.heap.size w ((((w11.setCell ⟨w.heap.size, 0, none⟩ (.int .i64 (KK : Int))).setCell ⟨w.heap.size, 1, none⟩ (.int .u64 (s : Int))).setCell ⟨w.heap.size, 2, none⟩ (.int .u64 (t : Int))).setCell ⟨w.heap.size, 3, none⟩ (.slice ya BD.length yc)) from (((HB11.out.setCell (Nat.le_refl _) _).setCell (Nat.le_refl _) _).setCell (Nat.le_refl _) _).setCell (Nat.le_refl _) _)
            have SF := Lib.hid (show Sl ((((w11.setCell ⟨w.heap.size, 0, none⟩ (.int .i64 (KK : Int))).setCell ⟨w.heap.size, 1, none⟩ (.int .u64 (s : Int))).setCell ⟨w.heap.size, 2, none⟩ (.int .u64 (t : Int))).setCell ⟨w.heap.size, 3, none⟩ (.slice ya BD.length yc)) ya BD from sl_set (sl_set (sl_set (sl_set HYF.out (fun x hx => Nat.ne_of_gt (HYX.out x hx)) _) (fun x hx => Nat.ne_of_gt (HYX.out x hx)) _) (fun x hx => Nat.ne_of_gt (HYX.out x hx)) _) (fun x hx => Nat.ne_of_gt (HYX.out x hx)) _)
            generalize ((((w11.setCell ⟨w.heap.size, 0, none⟩ (.int .i64 (KK : Int))).setCell ⟨w.heap.size, 1, none⟩ (.int .u64 (s : Int))).setCell ⟨w.heap.size, 2, none⟩ (.int .u64 (t : Int))).setCell ⟨w.heap.size, 3, none⟩ (.slice ya BD.length yc)) = WF at *
            have q0 : WF.cell? ⟨w.heap.size, 0, none⟩ = some (.int .i64 (KK : Int)) := by rw [cell_of_row WF w.heap.size 0 _ 31 _ Zf]; rfl
            have q1 : WF.cell? ⟨w.heap.size, 1, none⟩ = some (.int .u64 (s : Int)) := by rw [cell_of_row WF w.heap.size 1 _ 31 _ Zf]; rfl
            have q2 : WF.cell? ⟨w.heap.size, 2, none⟩ = some (.int .u64 (t : Int)) := by rw [cell_of_row WF w.heap.size 2 _ 31 _ Zf]; rfl
            have q3 : WF.cell? ⟨w.heap.size, 3, none⟩ = some (.slice ya BD.length yc) := by rw [cell_of_row WF w.heap.size 3 _ 31 _ Zf]; rfl
            exact bodyPost_ret (v := .tuple #[.agg #[.int .i64 (KK : Int), .int .u64 (s : Int), .int .u64 (t : Int), .slice ya BD.length yc], .int .i64 (E : Int), .int .i64 0]) (by simp [results, Tryd.results15, go_sem, q0, q1, q2, q3]) rfl ⟨ya, yc, rfl, SF.out, HY0.out, HYC.out, (fun x hx => Nat.le_of_lt (HYX.out x hx)), BF.out⟩

end Go.Proofs.YtabgelmmjpjejaaDoor.Rd3
