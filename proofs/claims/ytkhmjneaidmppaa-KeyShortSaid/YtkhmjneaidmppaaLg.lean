/- KeyShort: every argument. -/
import Derived.Test.YtkhmjneaidmppaaLf
import Derived.Test.YtkhmjneaidmppaaSp
set_option linter.unusedVariables false
namespace Go.Proofs.Ytkhmjneaidmppaa.Lg
open Go Go.RowKit Kit Gm Gv Crc Var Bytes WireFirst Copy Ap Sa Sb Sd Sf La Lb Lc Fr Ld Le Lf

theorem blankNo (R C : Int) (w : World) (h : ¬ (1 ≤ R ∧ R ≤ 60 ∧ 1 ≤ C ∧ C ≤ 200)) :
    Calls Try.prog 27 #[.int .i64 R, .int .i64 C] w fun e w' => (∃ n, n ≠ 0 ∧ e = .returned (.tuple #[svA ⟨0, 0, 0, 0, false, ⟨#[]⟩⟩ none 0 0, .int .i64 n])) ∧ Below w.heap.size w w' := by
  have H18 := Lib.hid (fun w1 => (maySize R C w1).mono fun e w' (h' : _ ∧ _) => (⟨by rw [h'.1, ← size_f h], h'.2⟩ : e = .returned (.bool false) ∧ w1 = w'))
  have hb := below_one w (svO ⟨0, 0, 0, 0, false, ⟨#[]⟩⟩ none 0 0)
  have HB := Lib.hid hb
  clear h hb
  go_enter Try.func27, Try.ntmps27
  go_wp2_with (go_at_call 45; (with_reducible refine (H18.out _).mono ?_); rintro e w' ⟨rfl, rfl⟩)
  refine bodyPost_ret (v := .tuple #[svA ⟨0, 0, 0, 0, false, ⟨#[]⟩⟩ none 0 0, .int .i64 1]) (by simp [results, Try.results27, go_sem]) rfl ?_
  exact ⟨⟨1, by decide, rfl⟩, HB.out⟩
set_option maxRecDepth 100000 in
set_option maxHeartbeats 4000000 in
/-- a size that may not be. -/
theorem badS (R C : Int) (r f fg bg wd i : Int) (W : World) (h : ¬ (1 ≤ R ∧ R ≤ 60 ∧ 1 ≤ C ∧ C ≤ 200)) :
    Calls Try.prog 7 #[.int .i64 R, .int .i64 C, .agg #[.int .i32 r, .int .i64 f, .int .i64 fg, .int .i64 bg, .int .i64 wd], .int .i64 i] W fun e w' => e = .returned (.bool true) ∧ Below W.heap.size W w' := by
  have H27 := Lib.hid (fun w => blankNo R C w h)
  have HB := Lib.hid (below_one W (cO ⟨r, f, fg, bg, wd⟩))
  clear h
  go_enter Try.func7, Try.ntmps7
  go_wp2_with (first
    | (go_at_call 8; (with_reducible refine (firstC (W.alloc (cO ⟨r, f, fg, bg, wd⟩))).mono ?_); rintro e w1 ⟨rfl, hb⟩; have HB1 := Lib.hid (below_then HB.out hb HB.out.size); clear hb)
    | (go_at_call 27; (with_reducible refine (H27.out _).mono ?_); rintro e w2 ⟨⟨n0, hn0, rfl⟩, hb2⟩; have HB2 := Lib.hid (below_then (below_then HB1.out hb2 HB1.out.size) (below_one w2 (svO ⟨0, 0, 0, 0, false, ⟨#[]⟩⟩ none 0 0)) (Nat.le_trans HB1.out.size hb2.size)); have hn1 : (n0 != 0) = true := (by rw [bne_iff_ne]; exact hn0); clear hb2 hn0)
    | (go_at_call 8; (with_reducible refine (firstC _).mono ?_); rintro e w3 ⟨rfl, hb⟩; have HB3 := Lib.hid (below_then HB2.out hb HB2.out.size); clear hb))
  go_ret
  exact ⟨rfl, HB3.out⟩
set_option maxRecDepth 100000 in
set_option maxHeartbeats 4000000 in
/-- a cell that may not be, or is wide, or a place that is none. -/
theorem othS (R C : Nat) (r f fg bg wd i : Int) (W : World) (hR : 1 ≤ R ∧ R ≤ 60) (hC : 1 ≤ C ∧ C ≤ 200) (h : Cell.mayB r f fg bg wd = false ∨ wd ≠ 0 ∨ i < 0) :
    Calls Try.prog 7 #[.int .i64 (R : Int), .int .i64 (C : Int), .agg #[.int .i32 r, .int .i64 f, .int .i64 fg, .int .i64 bg, .int .i64 wd], .int .i64 i] W fun e w' => e = .returned (.bool true) ∧ Below W.heap.size W w' := by
  have H27 := Lib.hid (fun w => blankYes R C w ⟨hR.1, hR.2, hC.1, hC.2⟩)
  have H28 := Lib.hid (fun w => (Cell.may r f fg bg wd w).mono fun e w' (h : _ ∧ _) => (⟨h.1, by rw [← h.2]; exact below_two w _ _⟩ : e = .returned (.bool (Cell.mayB r f fg bg wd)) ∧ Below w.heap.size w w'))
  have hcase : Cell.mayB r f fg bg wd = false ∨ (Cell.mayB r f fg bg wd = true ∧ (wd != 0) = true) ∨ (Cell.mayB r f fg bg wd = true ∧ (wd != 0) = false ∧ i < 0) := by
    cases hm : Cell.mayB r f fg bg wd with
    | false => exact .inl rfl
    | true =>
      right
      by_cases hw : wd = 0
      · rcases h with h | h | h
        · rw [hm] at h; cases h
        · exact absurd hw h
        · exact .inr ⟨rfl, by simpa using hw, h⟩
      · exact .inl ⟨rfl, by rw [bne_iff_ne]; exact hw⟩
  obtain ⟨m, hm⟩ : ∃ m, Cell.mayB r f fg bg wd = m := ⟨_, rfl⟩
  rw [hm] at H28 hcase
  have hx := heap_alloc_last W (cO ⟨r, f, fg, bg, wd⟩)
  have hb := below_one W (cO ⟨r, f, fg, bg, wd⟩)
  obtain ⟨x0, x1, x2, x3, x4⟩ := five hx
  dsimp only [cO] at hx hb x0 x1 x2 x3 x4
  generalize hw0 : W.alloc (.cells #[.int .i32 r, .int .i64 f, .int .i64 fg, .int .i64 bg, .int .i64 wd] 52) = w0 at *
  have HB := Lib.hid hb
  have KX := Lib.hid (fun w' (hb : Below w0.heap.size w0 w') => (show w'.cell? ⟨W.heap.size, 0, none⟩ = some (.int .i32 r) ∧ w'.cell? ⟨W.heap.size, 1, none⟩ = some (.int .i64 f) ∧ w'.cell? ⟨W.heap.size, 2, none⟩ = some (.int .i64 fg) ∧ w'.cell? ⟨W.heap.size, 3, none⟩ = some (.int .i64 bg) ∧ w'.cell? ⟨W.heap.size, 4, none⟩ = some (.int .i64 wd) from ⟨cell_then hb (Nat.le_refl _) x0, cell_then hb (Nat.le_refl _) x1, cell_then hb (Nat.le_refl _) x2, cell_then hb (Nat.le_refl _) x3, cell_then hb (Nat.le_refl _) x4⟩))
  obtain ⟨q, hq⟩ : ∃ q, R * C = q := ⟨_, rfl⟩
  rw [hq] at H27
  clear hm h hb hx x0 x1 x2 x3 x4 hq hR hC
  rcases hcase with rfl | ⟨rfl, hw⟩ | ⟨rfl, hw, hi⟩
  all_goals go_enter Try.func7, Try.ntmps7
  all_goals go_wp2_with (first
    | (go_at_call 8; (with_reducible refine (firstC w0).mono ?_); rintro e w1 ⟨rfl, hb⟩; have HB1 := Lib.hid hb; clear hb)
    | (go_at_call 27; (with_reducible refine (H27.out _).mono ?_); rintro e w2 ⟨rfl, hr2, hb2⟩; have HB2 := Lib.hid (below_then (below_then HB1.out hb2 HB1.out.size) (below_one w2 (svO ⟨R, C, 0, 0, false, ⟨#[]⟩⟩ (some ⟨w1.heap.size + 1, 0, none⟩) q q)) (Nat.le_trans HB1.out.size hb2.size)); obtain ⟨x0, x1, x2, x3, x4⟩ := KX.out _ HB2.out; (dsimp only [svO] at x0 x1 x2 x3 x4); clear hr2 hb2)
    | (go_at_call 28; (with_reducible refine (H28.out _).mono ?_); rintro e w4 ⟨rfl, hb⟩; have HB4 := Lib.hid (below_then HB2.out hb HB2.out.size); replace x4 := cell_then hb (Nat.le_refl _) x4; clear hb)
    | (go_at_call 8; (with_reducible refine (firstC w4).mono ?_); rintro e w5 ⟨rfl, hb⟩; have HB5 := Lib.hid (below_then HB4.out hb HB4.out.size); clear hb))
  all_goals go_ret
  all_goals exact ⟨rfl, below_then HB.out HB5.out HB.out.size⟩
/-- KeyShort. -/
theorem walk (R C r f fg bg wd i : Int) (W : World) :
    Calls Try.prog 7 #[.int .i64 R, .int .i64 C, .agg #[.int .i32 r, .int .i64 f, .int .i64 fg, .int .i64 bg, .int .i64 wd], .int .i64 i] W fun e w' => e = .returned (.bool true) ∧ Below W.heap.size W w' := by
  by_cases hs : 1 ≤ R ∧ R ≤ 60 ∧ 1 ≤ C ∧ C ≤ 200
  · obtain ⟨R', rfl⟩ := Int.eq_ofNat_of_zero_le (show 0 ≤ R by omega)
    obtain ⟨C', rfl⟩ := Int.eq_ofNat_of_zero_le (show 0 ≤ C by omega)
    by_cases h : Cell.mayB r f fg bg wd = false ∨ wd ≠ 0 ∨ i < 0
    · exact othS R' C' r f fg bg wd i W (by omega) (by omega) h
    · have h1 : Cell.mayB r f fg bg wd = true := by
        cases e : Cell.mayB r f fg bg wd with
        | true => rfl
        | false => exact absurd (.inl e) h
      have h2 : wd = 0 := Classical.not_not.1 fun x => h (.inr (.inl x))
      have h3 : ¬ i < 0 := fun x => h (.inr (.inr x))
      subst h2
      obtain ⟨j, rfl⟩ := Int.eq_ofNat_of_zero_le (show 0 ≤ i by omega)
      exact mainS R' C' r f fg bg j W (by omega) (by omega) h1
  · exact badS R C r f fg bg wd i W hs
theorem walkC (R C : Int) (c : Ce) (i : Int) (W : World) (hR : (Lit.int .i64 R).wf = true) (hC : (Lit.int .i64 C).wf = true) (hc : Sp.CeOk c) (hi : (Lit.int .i64 i).wf = true) :
    Calls Try.prog 7 #[.int .i64 R, .int .i64 C, cvA c, .int .i64 i] W fun e w' => e = .returned (.bool true) ∧ Below W.heap.size W w' := walk R C c.r c.fl c.fg c.bg c.wd i W
end Go.Proofs.Ytkhmjneaidmppaa.Lg
