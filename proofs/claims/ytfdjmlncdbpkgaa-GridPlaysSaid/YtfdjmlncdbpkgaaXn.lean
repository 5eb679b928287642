/- The document's New. -/
import Derived.Test.YtfdjmlncdbpkgaaXb
import Derived.Deep.RegionHeld3
set_option linter.unusedVariables false
namespace Go.Proofs.Ytfdjmlncdbpkgaa.Xn
open Go Go.RowKit Kit Gm Gv Fl Me Cp Sl Gg Gh Gp Gq Gk Xa Xb

theorem rep_mid {k q : Nat} (h : k < q) (x y : Ce) : List.replicate k x ++ List.replicate (q - k) y = List.replicate k x ++ y :: List.replicate (q - (k + 1)) y := by
  rw [show q - k = (q - (k + 1)) + 1 by omega, List.replicate_succ]
theorem rep_put {k q : Nat} (x y : Ce) : List.replicate k x ++ x :: List.replicate (q - (k + 1)) y = List.replicate (k + 1) x ++ List.replicate (q - (k + 1)) y := by
  rw [show (k + 1) = k + 1 from rfl, List.replicate_succ', List.append_assoc]; rfl
set_option maxRecDepth 100000 in
set_option maxHeartbeats 2000000 in
/-- New, of a size that may be. -/
theorem newYes (R C : Nat) (w : World) (h : 1 ≤ R ∧ R ≤ 60 ∧ 1 ≤ C ∧ C ≤ 200) :
    Calls Try.prog 11 #[.int .i64 (R : Int), .int .i64 (C : Int)] w fun e w' => e = .returned (.tuple #[.pointer (some ⟨w.heap.size + 1, 0, none⟩), .int .i64 0]) ∧ X w' (w.heap.size + 1) w.heap.size R C (List.replicate (R * C) (Gm.blankC 0)) ∧ Below w.heap.size w w' := by
  have hq : R * C ≤ 12000 := Nat.mul_le_mul h.2.1 h.2.2.2
  have HZ := Lib.hid (show sizeB (R : Int) (C : Int) = true from (size_t (by omega)).symm)
  have h34 : Calls Try.prog 34 #[.int .i64 (R : Int), .int .i64 (C : Int)] w fun e w' => e = .returned (.bool true) ∧ w = w' := by rw [← HZ.out]; exact sizeC _ _ _
  have H34 := Lib.hid h34
  obtain ⟨h1, h2, h3, h4⟩ := h
  generalize hQ : R * C = q at *
  have i1 : (R : Int) * (C : Int) = (q : Int) := by rw [← hQ]; exact (Int.natCast_mul R C).symm
  have b1 : (q : Int) ≤ 1000000 := by omega
  have E1 := Lib.hid (wr_of (x := (R : Int) * (C : Int)) (by rw [i1]; exact Int.natCast_nonneg _) (by rw [i1]; exact b1) i1)
  have HQ := Lib.hid hQ
  have hmk := make_cells q (by omega)
  have HQ2 := Lib.hid (show q ≤ 1000000 by omega)
  clear i1 b1 hQ h34 HZ
  have e1 := E1.out.1
  have e2 := E1.out.2
  generalize hZ : (flat (List.replicate q zeroC)).toArray = Z0 at hmk
  have HZ := Lib.hid hZ
  clear hZ
  go_enter Try.func11, Try.ntmps11
  go_wp2_with (go_at_call 34; (with_reducible refine H34.out.mono ?_); rintro e w' ⟨rfl, rfl⟩)
  have HP := Lib.hid (heap_at2 w (.cells Z0 37) (.cells #[.int .i64 (R : Int), .int .i64 (C : Int), .slice (some ⟨w.heap.size, 0, none⟩) q q] 43))
  have HRB := Lib.hid (show RB ((w.alloc (.cells Z0 37)).alloc (.cells #[.int .i64 (R : Int), .int .i64 (C : Int), .slice (some ⟨w.heap.size, 0, none⟩) q q] 43)) w.heap.size (List.replicate q zeroC) by
    unfold RB; rw [HZ.out]; exact heap_at1 w _ _)
  have HB := Lib.hid (show Below w.heap.size w ((w.alloc (.cells Z0 37)).alloc (.cells #[.int .i64 (R : Int), .int .i64 (C : Int), .slice (some ⟨w.heap.size, 0, none⟩) q q] 43)) from ((Below.refl _ w).alloc (Nat.le_refl _) _).alloc (by simp) _)
  have HS0 := Lib.hid (show ((w.alloc (.cells Z0 37)).alloc (.cells #[.int .i64 (R : Int), .int .i64 (C : Int), .slice (some ⟨w.heap.size, 0, none⟩) q q] 43)).heap.size = w.heap.size + 2 by simp)
  generalize ((w.alloc (.cells Z0 37)).alloc (.cells #[.int .i64 (R : Int), .int .i64 (C : Int), .slice (some ⟨w.heap.size, 0, none⟩) q q] 43)) = w0 at *
  have HN := Lib.hid (show w.heap.size + 1 ≠ w.heap.size by omega)
  have HP2 := Lib.hid (three HP.out).2.2
  go_loopw [7] (fun s7 wr => ∃ k : Nat, k ≤ q ∧ s7 = .int .i64 k ∧ Hid (RB wr w.heap.size (List.replicate k (Gm.blankC 0) ++ List.replicate (q - k) zeroC)) ∧ Hid (Kp w.heap.size w.heap.size w0 wr)) (fun s7 _ => q - (intOf s7).toNat)
  case atStart => exact ⟨0, Nat.zero_le _, rfl, Lib.hid (by simpa using HRB.out), Lib.hid (Kp.refl _ _ _)⟩
  case round =>
    obtain ⟨k, hk, rfl, HR, HK⟩ := hrel
    have p2 := cell_kept HK.out HP2.out HN.out HN.out
    by_cases hlt : k < q
    · have HRm := Lib.hid (show RB wr w.heap.size (List.replicate k (Gm.blankC 0) ++ zeroC :: List.replicate (q - (k + 1)) zeroC) by rw [← rep_mid hlt]; exact HR.out)
      have HQk := Lib.hid (show k * 5 = (List.replicate k (Gm.blankC 0)).length * 5 by rw [List.length_replicate])
      have HKk := Lib.hid (show k + 1 ≤ q ∧ q - (k + 1) < q - k by omega)
      clear hk
      go_wp2
      refine wp_region_held_drew (S := (fun W => W.cell? ⟨w.heap.size + 1, 2, none⟩ = some (.slice (some ⟨w.heap.size, 0, none⟩) q q))) (by kernel_rfl) ?_ (fun hHeld => ?_)
      · ((try dsimp only); exact p2)
      refine wpAnyH_take (i := 0) (oi := { dst := some 29, op := Op.move (Operand.tmp 6), type := 28, pos := _, after := #[], guard := none }) (v := ?_) rfl (by kernel_rfl) (by kernel_rfl) (by kernel_rfl) (fun _ _ _ h => h) (Or.inl ⟨by rfl, ?_⟩) (by assumption) ?_
      rotate_left
      · ((intro w hSw); (try dsimp only at hSw); go_simp; (try with_reducible rfl))
      try simp only [Act.put, List.setIfInBounds_toArray, List.set_cons_zero, List.set_cons_succ]
      refine wpAnyH_take (i := 1) (oi := { dst := some 30, op := Op.nilCheck (Operand.tmp 29), type := 0, pos := _, after := #[{ on := 0, ground := Ground.data }], guard := none }) (v := ?_) rfl (by kernel_rfl) (by kernel_rfl) (by kernel_rfl) (fun _ _ _ h => h) (Or.inl ⟨by rfl, ?_⟩) (by assumption) ?_
      rotate_left
      · ((intro w hSw); (try dsimp only at hSw); go_simp; (try with_reducible rfl))
      try simp only [Act.put, List.setIfInBounds_toArray, List.set_cons_zero, List.set_cons_succ]
      refine wpAnyH_take (i := 2) (oi := { dst := some 31, op := Op.fieldAddr 43 (Operand.tmp 30) 2, type := 0, pos := _, after := #[{ on := 1, ground := Ground.data }], guard := none }) (v := ?_) rfl (by kernel_rfl) (by kernel_rfl) (by kernel_rfl) (fun _ _ _ h => h) (Or.inl ⟨by rfl, ?_⟩) (by assumption) ?_
      rotate_left
      · ((intro w hSw); (try dsimp only at hSw); go_simp; (try with_reducible rfl))
      try simp only [Act.put, List.setIfInBounds_toArray, List.set_cons_zero, List.set_cons_succ]
      refine wpAnyH_take (i := 3) (oi := { dst := some 32, op := Op.load 41 (Operand.tmp 31), type := 41, pos := _, after := #[{ on := 2, ground := Ground.data }], guard := none }) (v := ?_) rfl (by kernel_rfl) (by kernel_rfl) (by kernel_rfl) (fun _ _ _ h => h) (Or.inl ⟨by rfl, ?_⟩) (by assumption) ?_
      rotate_left
      · ((intro w hSw); (try dsimp only at hSw); go_simp; (try with_reducible rfl))
      try simp only [Act.put, List.setIfInBounds_toArray, List.set_cons_zero, List.set_cons_succ]
      refine wpAnyH_take (i := 4) (oi := { dst := some 33, op := Op.move (Operand.tmp 7), type := 3, pos := _, after := #[], guard := none }) (v := ?_) rfl (by kernel_rfl) (by kernel_rfl) (by kernel_rfl) (fun _ _ _ h => h) (Or.inl ⟨by rfl, ?_⟩) (by assumption) ?_
      rotate_left
      · ((intro w hSw); (try dsimp only at hSw); go_simp; (try with_reducible rfl))
      try simp only [Act.put, List.setIfInBounds_toArray, List.set_cons_zero, List.set_cons_succ]
      refine wpAnyH_take (i := 5) (oi := { dst := some 34, op := Op.build 35 #[], type := 35, pos := _, after := #[], guard := none }) (v := ?_) rfl (by kernel_rfl) (by kernel_rfl) (by kernel_rfl) (fun _ _ _ h => h) (Or.inl ⟨by rfl, ?_⟩) (by assumption) ?_
      rotate_left
      · ((intro w hSw); (try dsimp only at hSw); go_simp; (try with_reducible rfl))
      try simp only [Act.put, List.setIfInBounds_toArray, List.set_cons_zero, List.set_cons_succ]
      refine wpAnyH_ready (rs := [6]) (by kernel_rfl) (by simp) ?_
      refine (AllReadyH.cons (o := { dst := some 35, op := Op.call { callee := Callee.value (Operand.func 35), args := #[Operand.tmp 34], argTypes := #[35] }, type := 37, pos := _, after := #[{ on := 5, ground := Ground.data }], guard := none }) rfl (fun K hK => ?_) AllReadyH.nil)
      go_simp
      refine (rBlankB _ _ _ _).mono ?_
      rintro e w4 ⟨rfl, hb4⟩
      have HB4 := Lib.hid (show Below wr.heap.size wr w4 from (by first | exact hb4 | exact below_undrew hb4))
      clear hb4
      go_wp2_with fail
      refine hK.out _ _ ?_ (fun hHeld => ?_)
      · ((try dsimp only); exact cell_then HB4.out (Nat.le_refl _) p2)
      clear hK K
      try simp only [Act.put, List.setIfInBounds_toArray, List.set_cons_zero, List.set_cons_succ]
      refine wpAnyH_take (i := 7) (oi := { dst := some 36, op := Op.indexAddr 41 (Operand.tmp 32) (Operand.tmp 33), type := 0, pos := _, after := #[{ on := 3, ground := Ground.data }, { on := 4, ground := Ground.data }, { on := 0, ground := Ground.phase }, { on := 1, ground := Ground.phase }, { on := 2, ground := Ground.phase }, { on := 3, ground := Ground.phase }, { on := 4, ground := Ground.phase }, { on := 5, ground := Ground.phase }, { on := 6, ground := Ground.phase }], guard := none }) (v := ?_) rfl (by kernel_rfl) (by kernel_rfl) (by kernel_rfl) (fun _ _ _ h => h) (Or.inl ⟨by rfl, ?_⟩) (by assumption) ?_
      rotate_left
      · ((intro w hSw); (try dsimp only at hSw); go_simp; (try with_reducible rfl))
      try simp only [Act.put, List.setIfInBounds_toArray, List.set_cons_zero, List.set_cons_succ]
      refine wpAnyH_ready (rs := [8]) (by kernel_rfl) (by simp) ?_
      refine (AllReadyH.cons (o := { dst := none, op := Op.store 37 (Operand.tmp 36) (Operand.tmp 35), type := 0, pos := _, after := #[{ on := 7, ground := Ground.data }, { on := 6, ground := Ground.data }, { on := 6, ground := Ground.chain }, { on := 0, ground := Ground.phase }, { on := 1, ground := Ground.phase }, { on := 2, ground := Ground.phase }, { on := 3, ground := Ground.phase }, { on := 4, ground := Ground.phase }, { on := 5, ground := Ground.phase }, { on := 6, ground := Ground.phase }], guard := none }) rfl (fun K hK => ?_) AllReadyH.nil)
      rw [if_pos (by rfl)]
      refine wp_store_cell2 _ _ rfl w.heap.size _ (Gm.blankC 0) rfl rfl (A := List.replicate k (Gm.blankC 0)) (Z := List.replicate (q - (k + 1)) zeroC) (c := zeroC) (HRm.out.then_ HB4.out (Nat.le_refl _)) HQk.out ?_
      intro w5 hw5
      have HR5 : Hid (RB w5 w.heap.size (List.replicate (k + 1) (Gm.blankC 0) ++ List.replicate (q - (k + 1)) zeroC)) := Lib.hid (by rw [← rep_put, ← hw5]; exact (HRm.out.then_ HB4.out (Nat.le_refl _)).put _)
      have HS5 : Hid (Kp w.heap.size w.heap.size wr w5) := Lib.hid (by rw [← hw5]; exact (Kp.of HB4.out).put _)
      have HK5 := Lib.hid (HK.out.trans HS5.out (.inl rfl))
      clear hw5
      refine hK.out _ _ ?_ (fun hHeld => ?_)
      · ((try dsimp only); exact cell_kept HS5.out p2 HN.out HN.out)
      clear hK K
      try simp only [Act.put]
      refine wpAnyH_done (by kernel_rfl) ?_ _
      go_wp2
      go_roundw
      · exact ⟨k + 1, HKk.out.1, by go_num, HR5, HK5⟩
      · simp only [intOf]; exact HKk.out.2
    · obtain rfl : k = q := by omega
      clear hlt hk
      go_wp2
      go_ret2
      have hs0 := HS0.out
      have hP3 := HK.out.row HP.out HN.out HN.out
      refine ⟨rfl, ⟨?_, by have := HR.out; simpa using this, by rw [List.length_replicate]; exact HQ.out.symm, h1, h2, h3, h4⟩, HK.out.below HB.out (Nat.le_refl _) (Nat.le_refl _) (Nat.le_refl _)⟩
      rw [List.length_replicate]; exact hP3
set_option maxRecDepth 100000 in
/-- New, of another size. -/
theorem newNo (rows cols : Int) (w : World) (h : sizeB rows cols = false) :
    Calls Try.prog 11 #[.int .i64 rows, .int .i64 cols] w fun e w' => e = .returned (.tuple #[.pointer none, .int .i64 1]) ∧ w = w' := by
  have hc1 : Calls Try.prog 34 #[.int .i64 rows, .int .i64 cols] w fun e w' => e = .returned (.bool false) ∧ w = w' := by rw [← h]; exact sizeC _ _ _
  have H1 := Lib.hid hc1
  clear hc1 h
  go_enter Try.func11, Try.ntmps11
  go_wp2_with (first
    | (go_at_call 34; (with_reducible refine H1.out.mono ?_); rintro e w' ⟨rfl, rfl⟩))
  go_ret2
  exact ⟨rfl, rfl⟩
end Go.Proofs.Ytfdjmlncdbpkgaa.Xn
