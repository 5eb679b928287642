/- SgrBack: the walk of the law. -/
import Derived.Test.YtkpneocolbmnpaaSgrMath
import Derived.Test.YtkpneocolbmnpaaSgrCut
import Derived.Deep.RegionHeld3
import Derived.Test.YtkpneocolbmnpaaSgrApart
set_option linter.unusedVariables false
namespace Go.Proofs.Ytkpneocolbmnpaa.SgrBackW
open Go Go.RowKit Kit Sgr Col Apply Cell Params SgrFirst SgrList SgrMath SgrCut

theorem ints_drew {w : World} {a : Option Addr} {l : List Int} (h : Ints w a l) : Ints w.drew a l := h
set_option maxRecDepth 100000 in
theorem applyE (f fg bg : Int) (a : Option Addr) (cap : Nat) (w : World) : Calls Try.prog 23 #[.agg #[.int .i64 f, .int .i64 fg, .int .i64 bg], .slice a 0 cap] w fun e w' => e = .returned (.agg #[.int .i64 0, .int .i64 0, .int .i64 0]) ∧ Below w.heap.size w w' := by
  go_enter Try.func23, Try.ntmps23
  go_wp2
  go_returns
  refine ⟨rfl, ?_⟩
  exact ((((Below.refl _ _).alloc (Nat.le_refl _) _).alloc (by simp) _))
/-- Apply of whatever params. -/
theorem applyAny (f fg bg : Int) (a : Option Addr) (l : List Int) (cap : Nat) (w : World) (hcap : l.length ≤ cap) (hcm : cap ≤ 9223372036854775807) (hn : l.length < 9223372036854775000) (h : Ints w a l) (R : Int × Int × Int) (hR : Hid (applyA (f, fg, bg) l = R)) :
    Calls Try.prog 23 #[.agg #[.int .i64 f, .int .i64 fg, .int .i64 bg], .slice a l.length cap] w fun e w' => e = .returned (.agg #[.int .i64 R.1, .int .i64 R.2.1, .int .i64 R.2.2]) ∧ Below w.heap.size w w' := by
  cases l with
  | nil =>
    have := applyE f fg bg a cap w
    rw [← hR.out]; exact this
  | cons c r =>
    have := applyC f fg bg a (c :: r) cap w hcap hcm hn h (by simp)
    rw [← hR.out, applyA, if_neg (by simp)]
    exact this
def Six (W : World) (BA BB : Nat) (f fg bg f2 fg2 bg2 : Int) : Prop := W.cell? ⟨BA, 0, none⟩ = some (.int .i64 f) ∧ W.cell? ⟨BA, 1, none⟩ = some (.int .i64 fg) ∧ W.cell? ⟨BA, 2, none⟩ = some (.int .i64 bg) ∧ W.cell? ⟨BB, 0, none⟩ = some (.int .i64 f2) ∧ W.cell? ⟨BB, 1, none⟩ = some (.int .i64 fg2) ∧ W.cell? ⟨BB, 2, none⟩ = some (.int .i64 bg2)
theorem six_then {W W1 : World} {BA BB : Nat} {f fg bg f2 fg2 bg2 : Int} (hb3 : Below W.heap.size W W1) (h : Six W BA BB f fg bg f2 fg2 bg2) : Six W1 BA BB f fg bg f2 fg2 bg2 := by
  obtain ⟨a0, a1, a2, b0, b1, b2⟩ := h
  exact ⟨Apply.cell_then hb3 (Nat.le_refl _) a0, Apply.cell_then hb3 (Nat.le_refl _) a1, Apply.cell_then hb3 (Nat.le_refl _) a2, Apply.cell_then hb3 (Nat.le_refl _) b0, Apply.cell_then hb3 (Nat.le_refl _) b1, Apply.cell_then hb3 (Nat.le_refl _) b2⟩
theorem below_one (W : World) (o : Obj) : Below W.heap.size W (W.alloc o) := (Below.refl _ _).alloc (Nat.le_refl _) _
theorem params_ne (f fg bg : Int) : paramsL f fg bg ≠ [] := by unfold paramsL; split <;> simp
theorem params_len (f fg bg : Int) : (paramsL f fg bg).length ≤ 21 := by
  unfold paramsL; split
  · have h1 := colL_len 38 fg
    have h2 := colL_len 48 bg
    have h3 := flagsU_len f 10
    simp; omega
  · simp
set_option maxRecDepth 100000 in
set_option maxHeartbeats 8000000 in
theorem walkCut (f fg bg f2 fg2 bg2 : Int) (al : Option Addr) (l : List Int) (cap : Nat) (w : World) (hcap : l.length ≤ cap) (hcm : cap ≤ 9223372036854775807) (h0 : al = none → cap = 0) (hl : l.length ≤ 100) (hi : Ints w al l) (hA : attrB f fg bg = true) (hB : attrB f2 fg2 bg2 = true) (hcut : cutL l = true) :
    Calls Try.prog 6 #[.agg #[.int .i64 f, .int .i64 fg, .int .i64 bg], .agg #[.int .i64 f2, .int .i64 fg2, .int .i64 bg2], .slice al l.length cap] w fun e w' => e = .returned (.bool true) ∧ Below w.heap.size w w' := by
  obtain ⟨i0, hi0, hz0, hz1, hz2⟩ := info_parts info3
  have HP := Lib.hid (show applyA (f2, fg2, bg2) (paramsL f fg bg) = (f, fg, bg) from by rw [applyA, if_neg (params_ne f fg bg)]; exact back f fg bg _ hA)
  obtain ⟨Y, hY⟩ : ∃ Y, Y = applyA (f2, fg2, bg2) l := ⟨_, rfl⟩
  have HY := Lib.hid hY.symm
  have hYB : attrB Y.1 Y.2.1 Y.2.2 = true := by
    rw [hY, applyA]
    split
    · decide
    · exact (attr_iff _ _ _).2 (may_apply _ _ l (Nat.le_refl _) ((attr_iff _ _ _).1 hB))
  have MA := fun w => mayAttr f fg bg w
  have MB := fun w => mayAttr f2 fg2 bg2 w
  have MY := fun w => mayAttr Y.1 Y.2.1 Y.2.2 w
  rw [hA] at MA
  rw [hB] at MB
  rw [hYB] at MY
  have HMA := Lib.hid MA
  have HMB := Lib.hid MB
  have HMY := Lib.hid MY
  have HCT := Lib.hid (show ∀ W, Ints W al l → Calls Try.prog 24 #[.slice al l.length cap] W fun e w' => e = .returned (.bool true) ∧ W = w' from fun W hW => by have := cutC al l cap W (by omega) hW; rw [hcut] at this; exact this)
  have hpl := params_len f fg bg
  have HNE := Lib.hid (params_ne f fg bg)
  have HPC := Lib.hid fun w => paramsC f fg bg w
  generalize paramsL f fg bg = L at *
  clear MA MB MY hA hB hYB hY hcut
  have hl100 : ¬ (100 : Int) < l.length := by omega
  go_enter Try.func6, Try.ntmps6
  go_wp2_with fail
  refine (SgrFirst.first _).mono ?_
  rintro e w1 ⟨rfl, hb1⟩
  have h1 : Below w.heap.size w w1 := below_then (((Below.refl _ _).alloc (Nat.le_refl _) _).alloc (by simp) _) hb1 (by simp; omega)
  have h6 : Six w1 w.heap.size (w.heap.size + 1) f fg bg f2 fg2 bg2 := ⟨Apply.cell_then hb1 (Nat.le_refl _) (by simp [go_sem]), Apply.cell_then hb1 (Nat.le_refl _) (by simp [go_sem]), Apply.cell_then hb1 (Nat.le_refl _) (by simp [go_sem]), Apply.cell_then hb1 (Nat.le_refl _) (by simp [go_sem]), Apply.cell_then hb1 (Nat.le_refl _) (by simp [go_sem]), Apply.cell_then hb1 (Nat.le_refl _) (by simp [go_sem])⟩
  have i1 : Ints w1 al l := ints_then h1 (Nat.le_refl _) hi
  clear hb1 hi
  obtain ⟨BA, hBA⟩ : ∃ BA, BA = w.heap.size := ⟨_, rfl⟩
  obtain ⟨BB, hBB⟩ : ∃ BB, BB = BA + 1 := ⟨_, rfl⟩
  rw [← hBA, ← hBB] at h6
  rw [← hBA, ← hBB]
  have HBA := Lib.hid hBA
  clear hBA hBB
  obtain ⟨a0, a1, a2, b0, b1, b2⟩ := id h6
  go_wp2_with fail
  refine (HMA.out _).mono ?_
  rintro e w2 ⟨rfl, rfl⟩
  have hb3 := below_one w1 (.cells #[.int .i64 f, .int .i64 fg, .int .i64 bg] 23)
  replace h1 := SgrApart.below_next h1 hb3
  replace h6 := six_then hb3 h6
  replace i1 := ints_then hb3 (Nat.le_refl _) i1
  clear hb3 a0 a1 a2 b0 b1 b2
  generalize w1.alloc (.cells #[.int .i64 f, .int .i64 fg, .int .i64 bg] 23) = w2 at *
  obtain ⟨a0, a1, a2, b0, b1, b2⟩ := id h6
  go_wp2_with fail
  refine (HMB.out _).mono ?_
  rintro e w3 ⟨rfl, rfl⟩
  have hb3 := below_one w2 (.cells #[.int .i64 f2, .int .i64 fg2, .int .i64 bg2] 23)
  replace h1 := SgrApart.below_next h1 hb3
  replace h6 := six_then hb3 h6
  replace i1 := ints_then hb3 (Nat.le_refl _) i1
  clear hb3 a0 a1 a2 b0 b1 b2
  generalize w2.alloc (.cells #[.int .i64 f2, .int .i64 fg2, .int .i64 bg2] 23) = w3 at *
  obtain ⟨a0, a1, a2, b0, b1, b2⟩ := id h6
  go_wp2_with fail
  refine (HPC.out _).mono ?_
  rintro e w4 ⟨ap, capp, rfl, ⟨hp1, hp2⟩, hip, hb3⟩
  replace h1 := SgrApart.below_next h1 hb3
  replace h6 := six_then hb3 h6
  replace i1 := ints_then hb3 (Nat.le_refl _) i1
  clear hb3 a0 a1 a2 b0 b1 b2
  obtain ⟨a0, a1, a2, b0, b1, b2⟩ := h6
  obtain ⟨bp, op, rfl⟩ : ∃ bp op, ap = some ⟨bp, op, none⟩ := by
    rcases id hip with h | ⟨b, off, e, _⟩
    · exact absurd h HNE.out
    · exact ⟨b, off, e⟩
  go_wp2_with fail
  go_region_held3 (fun W => W.cell? ⟨BA, 0, none⟩ = some (.int .i64 f) ∧ W.cell? ⟨BA, 1, none⟩ = some (.int .i64 fg) ∧ W.cell? ⟨BA, 2, none⟩ = some (.int .i64 bg) ∧ W.cell? ⟨BB, 0, none⟩ = some (.int .i64 f2) ∧ W.cell? ⟨BB, 1, none⟩ = some (.int .i64 fg2) ∧ W.cell? ⟨BB, 2, none⟩ = some (.int .i64 bg2) ∧ Ints W al l ∧ Ints W (some ⟨bp, op, none⟩) L ∧ Below w.heap.size w W) (first | (go_split_ands; exact ⟨Apply.cell_then hb3 (Nat.le_refl _) (by assumption), Apply.cell_then hb3 (Nat.le_refl _) (by assumption), Apply.cell_then hb3 (Nat.le_refl _) (by assumption), Apply.cell_then hb3 (Nat.le_refl _) (by assumption), Apply.cell_then hb3 (Nat.le_refl _) (by assumption), Apply.cell_then hb3 (Nat.le_refl _) (by assumption), ints_then hb3 (Nat.le_refl _) (by assumption), ints_then hb3 (Nat.le_refl _) (by assumption), SgrApart.below_next (by assumption) hb3⟩) | (go_split_ands; refine ⟨?_, ?_, ?_, ?_, ?_, ?_, ?_, ?_, ?_⟩ <;> (repeat (first | with_reducible assumption | (with_reducible refine SgrApart.past_drew ?_) | (with_reducible refine SgrApart.past_alloc ?_) | (with_reducible refine ints_alloc ?_) | (with_reducible refine ints_drew ?_) | (with_reducible refine Below.drew ?_) | (with_reducible refine SgrApart.below_al ?_))))) (first | (go_at_call 17; refine (HMY.out _).mono ?_; rintro e w4 ⟨rfl, rfl⟩) | ((with_reducible refine (applyAny _ _ _ (some ⟨bp, op, none⟩) L capp _ hp1 hp2 (by omega) (by go_split_ands; repeat (first | with_reducible assumption | (with_reducible refine ints_alloc ?_) | (with_reducible refine ints_drew ?_))) _ HP).mono ?_); rintro e w4 ⟨rfl, hb3⟩) | ((with_reducible refine (applyAny _ _ _ al l cap _ hcap hcm (by omega) (by go_split_ands; repeat (first | with_reducible assumption | (with_reducible refine ints_alloc ?_) | (with_reducible refine ints_drew ?_))) _ HY).mono ?_); rintro e w4 ⟨rfl, hb3⟩))
  go_wp2_with fail
  refine wp_region_held_drew (S := (fun W => W.cell? ⟨BA, 0, none⟩ = some (.int .i64 f) ∧ W.cell? ⟨BA, 1, none⟩ = some (.int .i64 fg) ∧ W.cell? ⟨BA, 2, none⟩ = some (.int .i64 bg) ∧ W.cell? ⟨BB, 0, none⟩ = some (.int .i64 f2) ∧ W.cell? ⟨BB, 1, none⟩ = some (.int .i64 fg2) ∧ W.cell? ⟨BB, 2, none⟩ = some (.int .i64 bg2) ∧ Ints W al l ∧ Ints W (some ⟨bp, op, none⟩) L ∧ Below w.heap.size w W)) (by kernel_rfl) ?_ (fun hHeld => ?_)
  · ((try dsimp only); first | (go_split_ands; exact ⟨Apply.cell_then hb3 (Nat.le_refl _) (by assumption), Apply.cell_then hb3 (Nat.le_refl _) (by assumption), Apply.cell_then hb3 (Nat.le_refl _) (by assumption), Apply.cell_then hb3 (Nat.le_refl _) (by assumption), Apply.cell_then hb3 (Nat.le_refl _) (by assumption), Apply.cell_then hb3 (Nat.le_refl _) (by assumption), ints_then hb3 (Nat.le_refl _) (by assumption), ints_then hb3 (Nat.le_refl _) (by assumption), SgrApart.below_next (by assumption) hb3⟩) | (go_split_ands; refine ⟨?_, ?_, ?_, ?_, ?_, ?_, ?_, ?_, ?_⟩ <;> (repeat (first | with_reducible assumption | (with_reducible refine SgrApart.past_drew ?_) | (with_reducible refine SgrApart.past_alloc ?_) | (with_reducible refine ints_alloc ?_) | (with_reducible refine ints_drew ?_) | (with_reducible refine Below.drew ?_) | (with_reducible refine SgrApart.below_al ?_)))))
  refine wpAnyH_ready (rs := [0]) (by kernel_rfl) (by simp) ?_
  refine AllReadyH.cons (o := { dst := some 38, op := Op.call { callee := Callee.value (Operand.func 21), args := #[], argTypes := #[] }, type := 4, pos := "law.go:41", after := #[], guard := none }) rfl (fun K hK => ?_) AllReadyH.nil
  go_simp
  (refine (SgrFirst.first _).mono ?_; rintro e w4 ⟨rfl, hb3⟩)
  go_wp2_with fail
  refine hK.out _ _ ?_ (fun hHeld => ?_)
  · ((try dsimp only); first | (go_split_ands; exact ⟨Apply.cell_then hb3 (Nat.le_refl _) (by assumption), Apply.cell_then hb3 (Nat.le_refl _) (by assumption), Apply.cell_then hb3 (Nat.le_refl _) (by assumption), Apply.cell_then hb3 (Nat.le_refl _) (by assumption), Apply.cell_then hb3 (Nat.le_refl _) (by assumption), Apply.cell_then hb3 (Nat.le_refl _) (by assumption), ints_then hb3 (Nat.le_refl _) (by assumption), ints_then hb3 (Nat.le_refl _) (by assumption), SgrApart.below_next (by assumption) hb3⟩) | (go_split_ands; refine ⟨?_, ?_, ?_, ?_, ?_, ?_, ?_, ?_, ?_⟩ <;> (repeat (first | with_reducible assumption | (with_reducible refine SgrApart.past_drew ?_) | (with_reducible refine SgrApart.past_alloc ?_) | (with_reducible refine ints_alloc ?_) | (with_reducible refine ints_drew ?_) | (with_reducible refine Below.drew ?_) | (with_reducible refine SgrApart.below_al ?_)))))
  clear hK K
  try simp only [Act.put, List.setIfInBounds_toArray, List.set_cons_zero, List.set_cons_succ]
  refine wpAnyH_take (i := 1) (oi := { dst := some 39, op := Op.move (Operand.tmp 38), type := 4, pos := "law.go:41", after := #[{ on := 0, ground := Ground.data }, { on := 0, ground := Ground.chain }], guard := none }) (v := ?_) rfl (by kernel_rfl) (by kernel_rfl) (by kernel_rfl) (fun _ _ _ h => h) (Or.inl ⟨by rfl, ?_⟩) (by assumption) ?_
  rotate_left
  · ((intro w hSw); (try dsimp only at hSw); go_simp; (try with_reducible rfl))
  try simp only [Act.put, List.setIfInBounds_toArray, List.set_cons_zero, List.set_cons_succ]
  refine wpAnyH_take (i := 2) (oi := { dst := some 40, op := Op.move (Operand.tmp 2), type := 34, pos := "law.go:41", after := #[{ on := 1, ground := Ground.guard }], guard := some (1, true) }) (v := ?_) rfl (by kernel_rfl) (by kernel_rfl) (by kernel_rfl) (fun _ _ _ h => h) (Or.inl ⟨by rfl, ?_⟩) (by assumption) ?_
  rotate_left
  · ((intro w hSw); (try dsimp only at hSw); go_simp; (try with_reducible rfl))
  try simp only [Act.put, List.setIfInBounds_toArray, List.set_cons_zero, List.set_cons_succ]
  refine wpAnyH_ready (rs := [3]) (by kernel_rfl) (by simp) ?_
  refine AllReadyH.cons (o := { dst := some 41, op := Op.call { callee := Callee.value (Operand.func 24), args := #[Operand.tmp 40], argTypes := #[34] }, type := 4, pos := "law.go:41", after := #[{ on := 2, ground := Ground.data }, { on := 1, ground := Ground.chain }, { on := 1, ground := Ground.guard }], guard := some (1, true) }) rfl (fun K hK => ?_) AllReadyH.nil
  go_simp
  (refine (HCT.out _ (by go_split_ands; repeat (first | with_reducible assumption | (with_reducible refine ints_alloc ?_) | (with_reducible refine ints_drew ?_)))).mono ?_; rintro e w4 ⟨rfl, rfl⟩)
  go_wp2_with fail
  refine hK.out _ _ ?_ (fun hHeld => ?_)
  · ((try dsimp only); first | (go_split_ands; exact ⟨Apply.cell_then hb3 (Nat.le_refl _) (by assumption), Apply.cell_then hb3 (Nat.le_refl _) (by assumption), Apply.cell_then hb3 (Nat.le_refl _) (by assumption), Apply.cell_then hb3 (Nat.le_refl _) (by assumption), Apply.cell_then hb3 (Nat.le_refl _) (by assumption), Apply.cell_then hb3 (Nat.le_refl _) (by assumption), ints_then hb3 (Nat.le_refl _) (by assumption), ints_then hb3 (Nat.le_refl _) (by assumption), SgrApart.below_next (by assumption) hb3⟩) | (go_split_ands; refine ⟨?_, ?_, ?_, ?_, ?_, ?_, ?_, ?_, ?_⟩ <;> (repeat (first | with_reducible assumption | (with_reducible refine SgrApart.past_drew ?_) | (with_reducible refine SgrApart.past_alloc ?_) | (with_reducible refine ints_alloc ?_) | (with_reducible refine ints_drew ?_) | (with_reducible refine Below.drew ?_) | (with_reducible refine SgrApart.below_al ?_)))))
  clear hK K
  try simp only [Act.put, List.setIfInBounds_toArray, List.set_cons_zero, List.set_cons_succ]
  refine wpAnyH_take (i := 4) (oi := { dst := some 42, op := Op.move (Operand.tmp 41), type := 4, pos := "law.go:41", after := #[{ on := 3, ground := Ground.data }, { on := 3, ground := Ground.chain }, { on := 1, ground := Ground.guard }], guard := some (1, true) }) (v := ?_) rfl (by kernel_rfl) (by kernel_rfl) (by kernel_rfl) (fun _ _ _ h => h) (Or.inl ⟨by rfl, ?_⟩) (by assumption) ?_
  rotate_left
  · ((intro w hSw); (try dsimp only at hSw); go_simp; (try with_reducible rfl))
  try simp only [Act.put, List.setIfInBounds_toArray, List.set_cons_zero, List.set_cons_succ]
  refine wpAnyH_take (i := 5) (oi := { dst := some 43, op := Op.load 23 (Operand.tmp 4), type := 23, pos := "law.go:41", after := #[{ on := 4, ground := Ground.guard }], guard := some (4, false) }) (v := undef) rfl (by kernel_rfl) (by kernel_rfl) (by kernel_rfl) (fun _ _ _ h => h) (Or.inr ⟨by rfl, rfl⟩) (by assumption) ?_
  try simp only [Act.put, List.setIfInBounds_toArray, List.set_cons_zero, List.set_cons_succ]
  refine wpAnyH_take (i := 6) (oi := { dst := some 44, op := Op.move (Operand.tmp 2), type := 34, pos := "law.go:41", after := #[{ on := 4, ground := Ground.guard }], guard := some (4, false) }) (v := undef) rfl (by kernel_rfl) (by kernel_rfl) (by kernel_rfl) (fun _ _ _ h => h) (Or.inr ⟨by rfl, rfl⟩) (by assumption) ?_
  try simp only [Act.put, List.setIfInBounds_toArray, List.set_cons_zero, List.set_cons_succ]
  refine wpAnyH_take (i := 7) (oi := { dst := some 45, op := Op.call { callee := Callee.value (Operand.func 25), args := #[Operand.tmp 44], argTypes := #[34] }, type := 34, pos := "law.go:41", after := #[{ on := 6, ground := Ground.data }, { on := 4, ground := Ground.chain }, { on := 4, ground := Ground.guard }], guard := some (4, false) }) (v := undef) rfl (by kernel_rfl) (by kernel_rfl) (by kernel_rfl) (fun _ _ _ h => h) (Or.inr ⟨by rfl, rfl⟩) (by assumption) ?_
  try simp only [Act.put, List.setIfInBounds_toArray, List.set_cons_zero, List.set_cons_succ]
  refine wpAnyH_take (i := 8) (oi := { dst := some 46, op := Op.move (Operand.tmp 7), type := 34, pos := "law.go:41", after := #[{ on := 4, ground := Ground.guard }], guard := some (4, false) }) (v := undef) rfl (by kernel_rfl) (by kernel_rfl) (by kernel_rfl) (fun _ _ _ h => h) (Or.inr ⟨by rfl, rfl⟩) (by assumption) ?_
  try simp only [Act.put, List.setIfInBounds_toArray, List.set_cons_zero, List.set_cons_succ]
  refine wpAnyH_take (i := 9) (oi := { dst := some 47, op := Op.call { callee := Callee.builtin Builtin.append, args := #[Operand.tmp 45, Operand.tmp 46], argTypes := #[34, 34] }, type := 34, pos := "law.go:41", after := #[{ on := 7, ground := Ground.data }, { on := 8, ground := Ground.data }, { on := 7, ground := Ground.chain }, { on := 4, ground := Ground.guard }], guard := some (4, false) }) (v := undef) rfl (by kernel_rfl) (by kernel_rfl) (by kernel_rfl) (fun _ _ _ h => h) (Or.inr ⟨by rfl, rfl⟩) (by assumption) ?_
  try simp only [Act.put, List.setIfInBounds_toArray, List.set_cons_zero, List.set_cons_succ]
  refine wpAnyH_take (i := 10) (oi := { dst := some 48, op := Op.call { callee := Callee.value (Operand.func 23), args := #[Operand.tmp 43, Operand.tmp 47], argTypes := #[23, 34] }, type := 23, pos := "law.go:41", after := #[{ on := 5, ground := Ground.data }, { on := 9, ground := Ground.data }, { on := 9, ground := Ground.chain }, { on := 4, ground := Ground.guard }], guard := some (4, false) }) (v := undef) rfl (by kernel_rfl) (by kernel_rfl) (by kernel_rfl) (fun _ _ _ h => h) (Or.inr ⟨by rfl, rfl⟩) (by assumption) ?_
  try simp only [Act.put, List.setIfInBounds_toArray, List.set_cons_zero, List.set_cons_succ]
  refine wpAnyH_take (i := 11) (oi := { dst := some 49, op := Op.load 23 (Operand.tmp 3), type := 23, pos := "law.go:41", after := #[{ on := 4, ground := Ground.guard }], guard := some (4, false) }) (v := undef) rfl (by kernel_rfl) (by kernel_rfl) (by kernel_rfl) (fun _ _ _ h => h) (Or.inr ⟨by rfl, rfl⟩) (by assumption) ?_
  try simp only [Act.put, List.setIfInBounds_toArray, List.set_cons_zero, List.set_cons_succ]
  refine wpAnyH_take (i := 12) (oi := { dst := some 50, op := Op.binOp BinOp.eql 23 (Operand.tmp 48) (Operand.tmp 49) 23, type := 4, pos := "law.go:41", after := #[{ on := 10, ground := Ground.data }, { on := 11, ground := Ground.data }, { on := 4, ground := Ground.guard }], guard := some (4, false) }) (v := undef) rfl (by kernel_rfl) (by kernel_rfl) (by kernel_rfl) (fun _ _ _ h => h) (Or.inr ⟨by rfl, rfl⟩) (by assumption) ?_
  try simp only [Act.put, List.setIfInBounds_toArray, List.set_cons_zero, List.set_cons_succ]
  refine wpAnyH_take (i := 13) (oi := { dst := some 51, op := Op.pick (Operand.tmp 42) (Operand.const (Value.bool true)) (Operand.tmp 50), type := 4, pos := "law.go:41", after := #[{ on := 4, ground := Ground.data }, { on := 12, ground := Ground.data }, { on := 1, ground := Ground.guard }], guard := some (1, true) }) (v := ?_) rfl (by kernel_rfl) (by kernel_rfl) (by kernel_rfl) (fun _ _ _ h => h) (Or.inl ⟨by rfl, ?_⟩) (by assumption) ?_
  rotate_left
  · ((intro w hSw); (try dsimp only at hSw); go_simp; (try with_reducible rfl))
  try simp only [Act.put, List.setIfInBounds_toArray, List.set_cons_zero, List.set_cons_succ]
  refine wpAnyH_take (i := 14) (oi := { dst := some 52, op := Op.pick (Operand.tmp 39) (Operand.tmp 51) (Operand.const (Value.bool false)), type := 4, pos := "law.go:41", after := #[{ on := 1, ground := Ground.data }, { on := 13, ground := Ground.data }], guard := none }) (v := ?_) rfl (by kernel_rfl) (by kernel_rfl) (by kernel_rfl) (fun _ _ _ h => h) (Or.inl ⟨by rfl, ?_⟩) (by assumption) ?_
  rotate_left
  · ((intro w hSw); (try dsimp only at hSw); go_simp; (try with_reducible rfl))
  try simp only [Act.put, List.setIfInBounds_toArray, List.set_cons_zero, List.set_cons_succ]
  refine wpAnyH_take (i := 15) (oi := { dst := some 6, op := Op.assign (Operand.tmp 52), type := 4, pos := "law.go:41", after := #[{ on := 14, ground := Ground.data }, { on := 10, ground := Ground.chain }, { on := 0, ground := Ground.phase }, { on := 1, ground := Ground.phase }, { on := 2, ground := Ground.phase }, { on := 3, ground := Ground.phase }, { on := 4, ground := Ground.phase }, { on := 5, ground := Ground.phase }, { on := 6, ground := Ground.phase }, { on := 7, ground := Ground.phase }, { on := 8, ground := Ground.phase }, { on := 9, ground := Ground.phase }, { on := 10, ground := Ground.phase }, { on := 11, ground := Ground.phase }, { on := 12, ground := Ground.phase }, { on := 13, ground := Ground.phase }, { on := 14, ground := Ground.phase }], guard := none }) (v := ?_) rfl (by kernel_rfl) (by kernel_rfl) (by kernel_rfl) (fun _ _ _ h => h) (Or.inl ⟨by rfl, ?_⟩) (by assumption) ?_
  rotate_left
  · ((intro w hSw); (try dsimp only at hSw); go_simp; (try with_reducible rfl))
  try simp only [Act.put, List.setIfInBounds_toArray, List.set_cons_zero, List.set_cons_succ]
  refine wpAnyH_done (by kernel_rfl) ?_ _
  go_wp2
  go_ret
  exact ⟨rfl, by go_split_ands; assumption⟩
end Go.Proofs.Ytkpneocolbmnpaa.SgrBackW
