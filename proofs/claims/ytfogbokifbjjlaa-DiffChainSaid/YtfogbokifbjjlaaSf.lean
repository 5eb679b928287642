/- Screens: Blank. -/
import Derived.Test.YtfogbokifbjjlaaSe
import Derived.Laws.Tables
set_option linter.unusedVariables false
namespace Go.Proofs.Ytfogbokifbjjlaa.Sf
open Go Go.RowKit Kit Gm Gv Sa Sb Sd

/-- what make lays. -/
theorem made_flat (n : Nat) : madeCells #[.int .i32 0, .int .i64 0, .int .i64 0, .int .i64 0, .int .i64 0] (n * 5) = (flat (List.replicate n zeroC)).toArray := by
  apply Array.ext
  · rw [size_madeCells, List.size_toArray, flat_len, List.length_replicate]
  · intro i h1 h2
    rw [size_madeCells] at h1
    have hj : i / 5 < (List.replicate n zeroC).length := by rw [List.length_replicate]; omega
    have e := flat_at (L := List.replicate n zeroC) (i / 5) hj (i % 5) (by omega)
    rw [show i / 5 * 5 + i % 5 = i by omega, List.getElem_replicate] at e
    have h2' : i < (flat (List.replicate n zeroC)).length := by simpa using h2
    rw [List.getElem?_eq_getElem h2'] at e
    have h5 : i % 5 < 5 := by omega
    simp only [madeCells, Array.getElem_map, Array.getElem_range, List.getElem_toArray]
    show (#[Value.int .i32 0, .int .i64 0, .int .i64 0, .int .i64 0, .int .i64 0] : Array Value)[i % 5]! = _
    have hc : ∀ r, r < 5 → (cv zeroC)[r]? = some ((#[Value.int .i32 0, .int .i64 0, .int .i64 0, .int .i64 0, .int .i64 0] : Array Value)[r]!) := by
      intro r hr
      match r, hr with
      | 0, _ => rfl
      | 1, _ => rfl
      | 2, _ => rfl
      | 3, _ => rfl
      | 4, _ => rfl
    rw [hc _ h5] at e
    exact (Option.some.inj e).symm
theorem make_cells (q : Nat) (hq : q ≤ 1000000) (w : World) : (Instr.makeSlice 22 (.int .i64 (q : Int)) (.int .i64 (q : Int))).run Try.prog w = .ok (.slice (some ⟨w.heap.size, 0, none⟩) q q) (w.alloc (.cells (flat (List.replicate q zeroC)).toArray 52)) := by
  obtain ⟨i0, hi, hz, hs, hb⟩ := info_parts info52
  have hr := run_make (P := Try.prog) w 22 52 i0 _ Try.underlying22 hi hz .i64 .i64 (q : Int) (q : Int) (Int.natCast_nonneg _) (Int.le_refl _) (by rw [hb]; omega) (by omega)
  rw [hr, hs, Int.toNat_natCast, ← made_flat]
  rfl
theorem wr_of {x y : Int} (h0 : 0 ≤ x) (h1 : x ≤ 1000000) (e : x = y) : IntKind.i64.wrap x = y ∧ wrap64 x = y := by
  subst e
  have : IntKind.i64.wrap x = x := IntWalk.i64_in _ (by omega)
  exact ⟨this, by unfold wrap64; omega⟩
theorem blankB (f fg bg : Int) (w : World) : Calls Try.prog 61 #[.agg #[.int .i64 f, .int .i64 fg, .int .i64 bg]] w fun e w' => e = .returned (.agg #[.int .i32 32, .int .i64 0, .int .i64 0, .int .i64 bg, .int .i64 0]) ∧ Below w.heap.size w w' :=
  (Cell.cBlank f fg bg w).mono fun e w' ⟨h1, h2⟩ => ⟨h1, by rw [← h2]; exact below_two w _ _⟩
abbrev blk : Ce := ⟨32, 0, 0, 0, 0⟩
theorem rep_one {k q : Nat} (h : k < q) : List.replicate k blk ++ List.replicate (q - k) zeroC = List.replicate k blk ++ zeroC :: List.replicate (q - (k + 1)) zeroC := by
  rw [show q - k = (q - (k + 1)) + 1 by omega, List.replicate_succ]
theorem rep_next {k q : Nat} : List.replicate k blk ++ blk :: List.replicate (q - (k + 1)) zeroC = List.replicate (k + 1) blk ++ List.replicate (q - (k + 1)) zeroC := by
  rw [List.replicate_succ']; simp
set_option maxRecDepth 100000 in
set_option maxHeartbeats 2000000 in
/-- Blank, of a size that may be. -/
theorem blankYes (R C : Nat) (w : World) (h : 1 ≤ R ∧ R ≤ 60 ∧ 1 ≤ C ∧ C ≤ 200) :
    Calls Try.prog 31 #[.int .i64 (R : Int), .int .i64 (C : Int)] w fun e w' => e = .returned (.tuple #[svA ⟨R, C, 0, 0, false, ⟨#[]⟩⟩ (some ⟨w.heap.size + 1, 0, none⟩) (R * C) (R * C), .int .i64 0]) ∧ RB w' (w.heap.size + 1) (List.replicate (R * C) blk) ∧ Below w.heap.size w w' := by
  have hq : R * C ≤ 12000 := Nat.mul_le_mul h.2.1 h.2.2.2
  have HM := Lib.hid (show Calls Try.prog 55 #[.int .i64 (R : Int), .int .i64 (C : Int)] w.drew.drew fun e w' => True from (maySize _ _ _).mono fun _ _ _ => trivial)
  have HM1 := Lib.hid (fun w1 => (show Calls Try.prog 55 #[.int .i64 (R : Int), .int .i64 (C : Int)] w1 fun e w' => e = .returned (.bool true) ∧ w1 = w' from (maySize R C w1).mono fun e w' ⟨h1, h2⟩ => ⟨by rw [h1, ← size_t (by omega)], h2⟩))
  clear HM
  generalize hQ : R * C = q at *
  have i1 : (R : Int) * (C : Int) = (q : Int) := by rw [← hQ]; exact (Int.natCast_mul R C).symm
  have b1 : (q : Int) ≤ 1000000 := by omega
  have E1 := Lib.hid (wr_of (x := (R : Int) * (C : Int)) (by rw [i1]; exact Int.natCast_nonneg _) (by rw [i1]; exact b1) i1)
  have hmk := make_cells q (by omega)
  have HQ2 := Lib.hid (show q ≤ 12000 by omega)
  obtain ⟨hA, hZ⟩ := two_heap w (svO ⟨0, 0, 0, 0, false, ⟨#[]⟩⟩ none 0 0) (.cells (flat (List.replicate q zeroC)).toArray 52)
  have hb := below_two w (svO ⟨0, 0, 0, 0, false, ⟨#[]⟩⟩ none 0 0) (.cells (flat (List.replicate q zeroC)).toArray 52)
  dsimp only [svO] at hA hZ hb
  clear i1 b1 hQ hq h
  have e1 := E1.out.1
  have e2 := E1.out.2
  generalize hZ0 : (flat (List.replicate q zeroC)).toArray = Z0 at *
  generalize hw2 : (w.alloc (.cells #[.int .i64 0, .int .i64 0, .slice none 0 0, .int .i64 0, .int .i64 0, .bool false, .string ⟨#[]⟩] 24)).alloc (.cells Z0 52) = w2 at *
  have HA := Lib.hid hA
  have HZ := Lib.hid (show RB w2 (w.heap.size + 1) (List.replicate 0 blk ++ List.replicate (q - 0) zeroC) by unfold RB; simp only [List.replicate_zero, List.nil_append, Nat.sub_zero]; rw [hZ0]; exact hZ)
  have HB := Lib.hid hb
  clear hA hZ hb hZ0
  go_enter Try.func31, Try.ntmps31
  go_wp2_with (go_at_call 55; (with_reducible refine (HM1.out _).mono ?_); rintro e w' ⟨rfl, rfl⟩)
  go_loopw [7, 19] (fun s7 s19 wr => ∃ k : Nat, k ≤ q ∧ s19 = .int .i64 k ∧ Hid (RB wr (w.heap.size + 1) (List.replicate k blk ++ List.replicate (q - k) zeroC)) ∧ Hid (Below w.heap.size w wr) ∧ Hid (wr.heap[w.heap.size]? = some (svO ⟨0, 0, 0, 0, false, ⟨#[]⟩⟩ none 0 0))) (fun _ s19 _ => q - (intOf s19).toNat)
  case atStart => exact ⟨0, Nat.zero_le _, rfl, HZ, HB, HA⟩
  case round =>
    obtain ⟨k, hk, rfl, HR, HBr, HAr⟩ := hrel
    by_cases hlt : k < q
    · have HKk := Lib.hid (show k + 1 ≤ q ∧ q - (k + 1) < q - k by omega)
      have hkI : (k : Int) < (q : Int) := by omega
      have hw1 : IntKind.i64.wrap ((k : Int) + 1) = (k : Int) + 1 := IntWalk.i64_in _ (by have := HQ2.out; omega)
      have HR' := Lib.hid (show RB wr (w.heap.size + 1) (List.replicate k blk ++ zeroC :: List.replicate (q - (k + 1)) zeroC) by rw [← rep_one hlt]; exact HR.out)
      go_wp2_with (first
        | (go_at_call 61; (with_reducible refine (blankB 0 0 0 _).mono ?_); rintro e w3 ⟨rfl, hb3⟩; have HR3 := Lib.hid (HR'.out.then_ hb3 (Nat.le_refl _)); have HB3 := Lib.hid (below_then HBr.out hb3 HBr.out.size); have HA3 := Lib.hid ((hb3.block _ (Array.getElem?_eq_some_iff.1 HAr.out).1).trans HAr.out); clear hb3)
        | ((with_reducible refine wpList_store_cell rfl _ _ rfl (w.heap.size + 1) (k * 5) blk rfl rfl HR3.out (by rw [List.length_replicate]) ?_); intro w4 hw4; have HR4 := Lib.hid (show RB w4 (w.heap.size + 1) (List.replicate (k + 1) blk ++ List.replicate (q - (k + 1)) zeroC) by rw [← hw4, ← rep_next]; exact HR3.out.put _); have HB4 := Lib.hid (show Below w.heap.size w w4 by rw [← hw4]; exact ⟨HB3.out.os, HB3.out.tape, HB3.out.output, by simpa [putR] using HB3.out.size, fun j hj => (setRow_other w3 (w.heap.size + 1) j _ (by omega)).trans (HB3.out.block j hj)⟩); have HA4 := Lib.hid (show w4.heap[w.heap.size]? = some (svO ⟨0, 0, 0, 0, false, ⟨#[]⟩⟩ none 0 0) by rw [← hw4]; exact (setRow_other w3 (w.heap.size + 1) w.heap.size _ (by omega)).trans HA3.out); clear hw4))
      first
        | exact ⟨⟨k + 1, HKk.out.1, by go_num, HR4, HB4, HA4⟩, by simp only [intOf]; exact HKk.out.2⟩
        | (go_roundw
           · exact ⟨k + 1, HKk.out.1, by go_num, HR4, HB4, HA4⟩
           · simp only [intOf]; exact HKk.out.2)
    · obtain rfl : k = q := by omega
      have HRe := Lib.hid (show RB wr (w.heap.size + 1) (List.replicate k blk) by have := HR.out; rwa [Nat.sub_self, List.replicate_zero, List.append_nil] at this)
      clear hk hlt
      go_wp2_with ((with_reducible refine wpList_store_sc rfl _ _ rfl w.heap.size ⟨R, C, 0, 0, false, ⟨#[]⟩⟩ (some ⟨w.heap.size + 1, 0, none⟩) k k _ rfl rfl HAr.out rfl ?_); intro w5 h5 b5 k5 z5; have HB5 := Lib.hid (b5 _ _ (Nat.le_refl _) HBr.out); have HR5 := Lib.hid (show RB w5 (w.heap.size + 1) (List.replicate k blk) from (k5 _ (Nat.succ_ne_self _)).trans HRe.out); obtain ⟨f0, f1, f2, f3, f4, f5, f6⟩ := seven (s := ⟨R, C, 0, 0, false, ⟨#[]⟩⟩) h5; (dsimp only at f0 f1 f2 f3 f4 f5 f6); clear h5 b5 k5 z5)
      refine bodyPost_ret (v := .tuple #[.agg #[.int .i64 R, .int .i64 C, .slice (some ⟨w.heap.size + 1, 0, none⟩) k k, .int .i64 0, .int .i64 0, .bool false, .string ⟨#[]⟩], .int .i64 0]) (by simp [results, Try.results31, go_sem, f0, f1, f2, f3, f4, f5, f6]) rfl ?_
      exact ⟨rfl, HR5.out, HB5.out⟩
end Go.Proofs.Ytfogbokifbjjlaa.Sf
