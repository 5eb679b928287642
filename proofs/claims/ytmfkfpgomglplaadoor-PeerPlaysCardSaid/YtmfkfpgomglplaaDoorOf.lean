/- pkt.Open: what may not be. -/
import Derived.Test.YtmfkfpgomglplaaDoorOp
set_option linter.unusedVariables false
namespace Go.Proofs.YtmfkfpgomglplaaDoor.Of
open Go Go.RowKit Kit Mb Sha Ap Mc1 Sc Mx Sb Pd Su Pa Hm Mm Tg Mf Pk Se Wn Op


set_option maxRecDepth 100000 in
set_option maxHeartbeats 2000000 in
theorem openForm (bb bo bc : Nat) (b : List Nat) (ka : Option Addr) (kc : Nat) (key : List Nat) (w : World) (E : Nat)
    (hN : b.length = E + 16) (hE : 10 ≤ E) (hlen : b.length ≤ 800000) (hbc : b.length ≤ bc) (hb : Cells w bb bo b) (hbx : ∀ c ∈ b, c < 256)
    (ks : Sl w ka key) (k0 : ka = none → kc = 0) (kcap : key.length ≤ kc) (kl : ∀ c ∈ key, c < 256) (klen : key.length ≤ 800000) (hT : TabR w) (hB : TabB w)
    (hne : tagL key (b.take E) = b.drop E) (D0 D1 NN : Nat) (body : List Nat) (hD0 : D0 = b.getD 0 0) (hD1 : D1 = b.getD 1 0) (hNN : NN = numL ((b.drop 2).take 8)) (hbody : body = (b.drop 10).take (E - 10)) (hmay : mayB (D0 : Int) (D1 : Int) NN (E - 10) = false) :
    Calls Tryd.prog 27 #[.slice ka key.length kc, .slice (some ⟨bb, bo, none⟩) b.length bc] w fun e w' => e = .returned (.tuple #[.agg #[.int .i64 0, .int .i64 0, .int .u64 0, .slice none 0 0], .int .i64 2]) ∧ Below w.heap.size w w' := by
  obtain ⟨M, hM⟩ : ∃ M, M = b.take E := ⟨_, rfl⟩
  obtain ⟨L, hL⟩ : ∃ L, L = b.drop E := ⟨_, rfl⟩
  obtain ⟨T, hTg⟩ : ∃ T, T = tagL key M := ⟨_, rfl⟩
  rw [← hM, ← hTg, ← hL] at hne
  have HW := Lib.hid (show Below w.heap.size w (w.alloc (.cells #[.int .i64 0, .int .i64 0, .int .u64 0, .slice none 0 0] 35)).drew from ((Below.refl _ w).alloc (Nat.le_refl _) _).drew)
  have HML := Lib.hid (show E = M.length by rw [hM]; simp; omega)
  have HLL := Lib.hid (show 16 = L.length by rw [hL]; simp; omega)
  have HMX := Lib.hid (show ∀ c ∈ M, c < 256 by rw [hM]; exact fun c hc => hbx c (List.mem_of_mem_take hc))
  have HLX := Lib.hid (show ∀ c ∈ L, c < 256 by rw [hL]; exact fun c hc => hbx c (List.mem_of_mem_drop hc))
  have HTX := Lib.hid (show ∀ c ∈ T, c < 256 by rw [hTg]; exact tagL_lt _ _)
  have HTL := Lib.hid (show T.length = 16 by rw [hTg]; exact tagL_len _ _)
  have HMS := Lib.hid (show Sl w (some ⟨bb, bo, none⟩) M from sl_take hb E M hM)
  have HLS := Lib.hid (show Sl w (some ⟨bb, bo + E, none⟩) L from .inr ⟨bb, bo + E, rfl, by
    subst hL
    intro i hi
    have hi2 : E + i < b.length := by simp at hi; omega
    have := hb (E + i) hi2
    rw [show bo + E + i = bo + (E + i) by omega, this]; simp⟩)
  have HKS := Lib.hid ks
  have HK0 := Lib.hid k0
  have HKC := Lib.hid kcap
  have HKX := Lib.hid kl
  have HKN := Lib.hid klen
  have HT := Lib.hid hT
  have HB := Lib.hid hB
  have HNE := Lib.hid hne
  have HTG := Lib.hid hTg
  have HBC := Lib.hid (show M.length ≤ bc by rw [← HML.out]; omega)
  have HBN := Lib.hid (show M.length ≤ 800000 by rw [← HML.out]; omega)
  have HC0 := Lib.hid (show ∀ i, i < b.length → w.cell? ⟨bb, bo + i, none⟩ = some (.int .u8 ((b.getD i 0 : Nat) : Int)) from fun i hi => by rw [hb i hi]; simp [hi])
  have HBX := Lib.hid (show ∀ i, b.getD i 0 < 256 from fun i => by
    rw [List.getD_eq_getElem?_getD]
    cases hx : b[i]? with
    | none => decide
    | some v => exact hbx v (List.mem_of_getElem? hx))
  have HMY := Lib.hid hmay
  have HBS := Lib.hid (show Sl w (some ⟨bb, bo + 10, none⟩) ((b.drop 10).take (E - 10)) from .inr ⟨bb, bo + 10, rfl, by
    intro i hi
    have hi2 : 10 + i < b.length := by simp at hi; omega
    have := hb (10 + i) hi2
    rw [show bo + 10 + i = bo + (10 + i) by omega, this]; simp⟩)
  have HEE := Lib.hid (And.intro hE (And.intro hlen hbc))
  have HD0 := Lib.hid hD0
  have HD1 := Lib.hid hD1
  have HNM := Lib.hid hNN
  have HBO := Lib.hid hbody
  have l0 : D0 < 256 := by rw [hD0]; exact HBX.out 0
  have l1 : D1 < 256 := by rw [hD1]; exact HBX.out 1
  clear hmay hD0 hD1 hNN hbody
  have n1 : ¬ (b.length : Int) < 26 := by omega
  have n2 : (b.length : Int) - 16 = (E : Int) := by omega
  have n0 : E ≤ 800000 := by omega
  have n8 : wrap64 (E : Int) = (E : Int) := IntWalk.wrap64_in _ (by omega)
  have n3 : (E : Int) ≤ (bc : Int) := by omega
  have n4 : (E : Int) ≤ (b.length : Int) := by omega
  have n5 : ¬ bc = 0 := by omega
  have n6 : ¬ bc = E := by omega
  have n7 : b.length - E = 16 := by omega
  have HNN := Lib.hid hN
  clear hb hbx ks k0 kcap kl klen hT hB hne hTg hM hL hE hlen hbc hN
  go_enter Tryd.func27, Tryd.ntmps27
  go_wp2
  clear n1 n2
  refine wp_region_held_drew (S := (fun _ => True)) (by kernel_rfl) ?_ (fun hHeld => ?_)
  · ((try dsimp only); (first | done | trivial))
  refine wpAnyH_take (i := 0) (oi := { dst := some 17, op := Op.move (Operand.tmp 0), type := 22, pos := _, after := #[], guard := none }) (v := ?_) rfl (by kernel_rfl) (by kernel_rfl) (by kernel_rfl) (fun _ _ _ h => h) (Or.inl ⟨by rfl, ?_⟩) (by assumption) ?_
  rotate_left
  · ((intro w hSw); (try dsimp only at hSw); go_simp; (try with_reducible rfl))
  try simp only [Act.put, List.setIfInBounds_toArray, List.set_cons_zero, List.set_cons_succ]
  refine wpAnyH_take (i := 1) (oi := { dst := some 18, op := Op.move (Operand.tmp 1), type := 22, pos := _, after := #[], guard := none }) (v := ?_) rfl (by kernel_rfl) (by kernel_rfl) (by kernel_rfl) (fun _ _ _ h => h) (Or.inl ⟨by rfl, ?_⟩) (by assumption) ?_
  rotate_left
  · ((intro w hSw); (try dsimp only at hSw); go_simp; (try with_reducible rfl))
  try simp only [Act.put, List.setIfInBounds_toArray, List.set_cons_zero, List.set_cons_succ]
  refine wpAnyH_take (i := 2) (oi := { dst := some 19, op := Op.move (Operand.tmp 6), type := 3, pos := _, after := #[], guard := none }) (v := ?_) rfl (by kernel_rfl) (by kernel_rfl) (by kernel_rfl) (fun _ _ _ h => h) (Or.inl ⟨by rfl, ?_⟩) (by assumption) ?_
  rotate_left
  · ((intro w hSw); (try dsimp only at hSw); go_simp; (try with_reducible rfl))
  try simp only [Act.put, List.setIfInBounds_toArray, List.set_cons_zero, List.set_cons_succ]
  refine wpAnyH_take (i := 3) (oi := { dst := some 20, op := Op.slice 22 (Operand.tmp 18) none (some (Operand.tmp 19)) none, type := 22, pos := _, after := #[{ on := 1, ground := Ground.data }, { on := 2, ground := Ground.data }], guard := none }) (v := ?_) rfl (by kernel_rfl) (by kernel_rfl) (by kernel_rfl) (fun _ _ _ h => h) (Or.inl ⟨by rfl, ?_⟩) (by assumption) ?_
  rotate_left
  · ((intro w hSw); (try dsimp only at hSw); go_simp; (try with_reducible rfl))
  try simp only [Act.put, List.setIfInBounds_toArray, List.set_cons_zero, List.set_cons_succ]
  refine wpAnyH_take (i := 6) (oi := { dst := some 23, op := Op.move (Operand.tmp 1), type := 22, pos := _, after := #[], guard := none }) (v := ?_) rfl (by kernel_rfl) (by kernel_rfl) (by kernel_rfl) (fun _ _ _ h => h) (Or.inl ⟨by rfl, ?_⟩) (by assumption) ?_
  rotate_left
  · ((intro w hSw); (try dsimp only at hSw); go_simp; (try with_reducible rfl))
  try simp only [Act.put, List.setIfInBounds_toArray, List.set_cons_zero, List.set_cons_succ]
  refine wpAnyH_take (i := 7) (oi := { dst := some 24, op := Op.move (Operand.tmp 6), type := 3, pos := _, after := #[], guard := none }) (v := ?_) rfl (by kernel_rfl) (by kernel_rfl) (by kernel_rfl) (fun _ _ _ h => h) (Or.inl ⟨by rfl, ?_⟩) (by assumption) ?_
  rotate_left
  · ((intro w hSw); (try dsimp only at hSw); go_simp; (try with_reducible rfl))
  try simp only [Act.put, List.setIfInBounds_toArray, List.set_cons_zero, List.set_cons_succ]
  refine wpAnyH_take (i := 8) (oi := { dst := some 25, op := Op.slice 22 (Operand.tmp 23) (some (Operand.tmp 24)) none none, type := 22, pos := _, after := #[{ on := 6, ground := Ground.data }, { on := 7, ground := Ground.data }], guard := none }) (v := ?_) rfl (by kernel_rfl) (by kernel_rfl) (by kernel_rfl) (fun _ _ _ h => h) (Or.inl ⟨by rfl, ?_⟩) (by assumption) ?_
  rotate_left
  · ((intro w hSw); (try dsimp only at hSw); go_simp; (try with_reducible rfl))
  try simp only [Act.put, List.setIfInBounds_toArray, List.set_cons_zero, List.set_cons_succ]
  refine wpAnyH_ready (rs := [4]) (by kernel_rfl) (by simp) ?_
  refine (AllReadyH.cons (o := { dst := some 21, op := Op.buildSlice 31 1 #[(0, Operand.tmp 20)], type := 31, pos := _, after := #[{ on := 3, ground := Ground.data }], guard := none }) rfl (fun K hK => ?_) AllReadyH.nil)
  go_simp
  refine hK.out _ _ ?_ (fun hHeld => ?_)
  · ((try dsimp only); (first | done | trivial))
  clear hK K
  try simp only [Act.put, List.setIfInBounds_toArray, List.set_cons_zero, List.set_cons_succ]
  refine wpAnyH_ready (rs := [5]) (by kernel_rfl) (by simp) ?_
  refine (AllReadyH.cons (o := { dst := some 22, op := Op.call { callee := Callee.value (Operand.func 20), args := #[Operand.tmp 17, Operand.tmp 21], argTypes := #[22, 31] }, type := 22, pos := _, after := #[{ on := 0, ground := Ground.data }, { on := 4, ground := Ground.data }], guard := none }) rfl (fun K hK => ?_) AllReadyH.nil)
  go_simp
  go_at_call 20
  refine (tag2 ka kc key (some ⟨bb, bo, none⟩) E bc _ M _ HML.out (by simp) (sl_then HW.out (Nat.le_refl _) HKS.out) HK0.out HKC.out HKX.out HKN.out (sl_then HW.out (Nat.le_refl _) HMS.out) (fun h => by cases h) HBC.out HMX.out HBN.out (tabR_then HW.out HT.out) (tabB_then HW.out HB.out)).mono ?_
  rintro e w3 ⟨v3, rfl, o3, b3⟩
  rw [← HTG.out] at o3
  obtain ⟨ta, tc, rfl, htc, hts, ht0, htx⟩ := rb_sl o3
  have HTS := Lib.hid hts
  have HZ3 := Lib.hid (show w3.heap[w.heap.size]? = some (.cells #[.int .i64 0, .int .i64 0, .int .u64 0, .slice none 0 0] 35 (0, 0)) by rw [b3.block _ (by simp; omega), Below.heap_alloc _ _ _ (by simp)]; exact heap_alloc_last w _)
  have HB3 := Lib.hid (below_then (HW.out.alloc HW.out.size (.cells #[.slice (some ⟨bb, bo, none⟩) E bc] 22)) b3 (by have := HW.out.size; simp at this; simp; omega))
  clear o3 b3 hts ht0 htc htx
  go_wp2_with fail
  refine hK.out _ _ ?_ (fun hHeld => ?_)
  · ((try dsimp only); (first | done | trivial))
  clear hK K
  try simp only [Act.put, List.setIfInBounds_toArray, List.set_cons_zero, List.set_cons_succ]
  refine wpAnyH_ready (rs := [9]) (by kernel_rfl) (by simp) ?_
  refine (AllReadyH.cons (o := { dst := some 26, op := Op.call { callee := Callee.value (Operand.func 22), args := #[Operand.tmp 22, Operand.tmp 25], argTypes := #[22, 22] }, type := 4, pos := _, after := #[{ on := 5, ground := Ground.data }, { on := 8, ground := Ground.data }, { on := 5, ground := Ground.chain }], guard := none }) rfl (fun K hK => ?_) AllReadyH.nil)
  go_simp
  go_at_call 22
  refine (equalE ta (some ⟨bb, bo + E, none⟩) tc (bc - E) T.length 16 T L _ true rfl HLL.out HTS.out (sl_then HB3.out (Nat.le_refl _) HLS.out) HTX.out HLX.out (by have := HTL.out; omega) (decide_eq_true HNE.out).symm).mono ?_
  rintro e w4 ⟨rfl, b4⟩
  have HB4 := Lib.hid (below_then HB3.out b4 HB3.out.size)
  have Z4 : w4.heap[w.heap.size]? = some (.cells #[.int .i64 0, .int .i64 0, .int .u64 0, .slice none 0 0] 35 (0, 0)) := by rw [b4.block _ (Array.getElem?_eq_some_iff.1 HZ3.out).1]; exact HZ3.out
  have d0 : w4.cell? ⟨w.heap.size, 0, none⟩ = some (.int .i64 0) := by rw [cell_of_row w4 w.heap.size 0 _ 35 _ Z4]; rfl
  have d1 : w4.cell? ⟨w.heap.size, 1, none⟩ = some (.int .i64 0) := by rw [cell_of_row w4 w.heap.size 1 _ 35 _ Z4]; rfl
  have d2 : w4.cell? ⟨w.heap.size, 2, none⟩ = some (.int .u64 0) := by rw [cell_of_row w4 w.heap.size 2 _ 35 _ Z4]; rfl
  have d3 : w4.cell? ⟨w.heap.size, 3, none⟩ = some (.slice none 0 0) := by rw [cell_of_row w4 w.heap.size 3 _ 35 _ Z4]; rfl
  have f0 := frozen_of_row w4 w.heap.size 0 _ 35 Z4
  have f1 := frozen_of_row w4 w.heap.size 1 _ 35 Z4
  have f2 := frozen_of_row w4 w.heap.size 2 _ 35 Z4
  have f3 := frozen_of_row w4 w.heap.size 3 _ 35 Z4
  have HZ5 := Lib.hid Z4
  clear b4 Z4
  go_wp2_with fail
  refine hK.out _ _ ?_ (fun hHeld => ?_)
  · ((try dsimp only); (first | done | trivial))
  clear hK K
  try simp only [Act.put, List.setIfInBounds_toArray, List.set_cons_zero, List.set_cons_succ]
  refine wpAnyH_take (i := 10) (oi := { dst := some 27, op := Op.unOp UnOp.not 4 (Operand.tmp 26), type := 4, pos := _, after := #[{ on := 9, ground := Ground.data }], guard := none }) (v := ?_) rfl (by kernel_rfl) (by kernel_rfl) (by kernel_rfl) (fun _ _ _ h => h) (Or.inl ⟨by rfl, ?_⟩) (by assumption) ?_
  rotate_left
  · ((intro w hSw); (try dsimp only at hSw); go_simp; (try with_reducible rfl))
  try simp only [Act.put, List.setIfInBounds_toArray, List.set_cons_zero, List.set_cons_succ]
  refine wpAnyH_done (by kernel_rfl) ?_ _
  go_wp2
  have e0 := cell_then HB4.out (Nat.le_refl _) (HC0.out 0 (by have := HNN.out; omega))
  have e1 := cell_then HB4.out (Nat.le_refl _) (HC0.out 1 (by have := HNN.out; omega))
  rw [Nat.add_zero, ← HD0.out] at e0
  rw [← HD1.out] at e1
  have i0 : (0 : Int) < (b.length : Int) := by have := HNN.out; omega
  have i1 : (1 : Int) < (b.length : Int) := by have := HNN.out; omega
  have i2 : 0 < b.length := by have := HNN.out; omega
  have i3 : 1 < b.length := by have := HNN.out; omega
  have u0 : wrap64 (D0 : Int) = (D0 : Int) := IntWalk.wrap64_in _ (by omega)
  have u1 : wrap64 (D1 : Int) = (D1 : Int) := IntWalk.wrap64_in _ (by omega)
  have u2 : IntKind.i64.wrap (D0 : Int) = (D0 : Int) := IntWalk.i64_in _ (by omega)
  have u3 : IntKind.i64.wrap (D1 : Int) = (D1 : Int) := IntWalk.i64_in _ (by omega)
  have j10 : (10 : Int) ≤ (bc : Int) := by have := HEE.out; have := HNN.out; omega
  have j2 : ¬ bc = 2 := by have := HEE.out; have := HNN.out; omega
  refine wp_region_held_drew (S := (fun W => W.cell? ⟨bb, bo, none⟩ = some (.int .u8 (D0 : Int)) ∧ W.cell? ⟨bb, bo + 1, none⟩ = some (.int .u8 (D1 : Int)))) (by kernel_rfl) ?_ (fun hHeld => ?_)
  · ((try dsimp only); exact ⟨e0, e1⟩)
  refine wpAnyH_take (i := 0) (oi := { dst := some 29, op := Op.move (Operand.tmp 1), type := 22, pos := _, after := #[], guard := none }) (v := ?_) rfl (by kernel_rfl) (by kernel_rfl) (by kernel_rfl) (fun _ _ _ h => h) (Or.inl ⟨by rfl, ?_⟩) (by assumption) ?_
  rotate_left
  · ((intro w hSw); (try dsimp only at hSw); go_simp; (try with_reducible rfl))
  try simp only [Act.put, List.setIfInBounds_toArray, List.set_cons_zero, List.set_cons_succ]
  refine wpAnyH_take (i := 1) (oi := { dst := some 30, op := Op.indexAddr 22 (Operand.tmp 29) (Operand.const (Value.int IntKind.i64 0)), type := 0, pos := _, after := #[{ on := 0, ground := Ground.data }], guard := none }) (v := ?_) rfl (by kernel_rfl) (by kernel_rfl) (by kernel_rfl) (fun _ _ _ h => h) (Or.inl ⟨by rfl, ?_⟩) (by assumption) ?_
  rotate_left
  · ((intro w hSw); (try dsimp only at hSw); go_simp; (try with_reducible rfl))
  try simp only [Act.put, List.setIfInBounds_toArray, List.set_cons_zero, List.set_cons_succ]
  refine wpAnyH_take (i := 2) (oi := { dst := some 31, op := Op.load 5 (Operand.tmp 30), type := 5, pos := _, after := #[{ on := 1, ground := Ground.data }], guard := none }) (v := ?_) rfl (by kernel_rfl) (by kernel_rfl) (by kernel_rfl) (fun _ _ _ h => h) (Or.inl ⟨by rfl, ?_⟩) (by assumption) ?_
  rotate_left
  · ((intro w hSw); (try dsimp only at hSw); go_simp; (try with_reducible rfl))
  try simp only [Act.put, List.setIfInBounds_toArray, List.set_cons_zero, List.set_cons_succ]
  refine wpAnyH_take (i := 3) (oi := { dst := some 32, op := Op.convert 5 3 (Operand.tmp 31), type := 3, pos := _, after := #[{ on := 2, ground := Ground.data }], guard := none }) (v := ?_) rfl (by kernel_rfl) (by kernel_rfl) (by kernel_rfl) (fun _ _ _ h => h) (Or.inl ⟨by rfl, ?_⟩) (by assumption) ?_
  rotate_left
  · ((intro w hSw); (try dsimp only at hSw); go_simp; (try with_reducible rfl))
  try simp only [Act.put, List.setIfInBounds_toArray, List.set_cons_zero, List.set_cons_succ]
  refine wpAnyH_take (i := 4) (oi := { dst := some 33, op := Op.move (Operand.tmp 1), type := 22, pos := _, after := #[], guard := none }) (v := ?_) rfl (by kernel_rfl) (by kernel_rfl) (by kernel_rfl) (fun _ _ _ h => h) (Or.inl ⟨by rfl, ?_⟩) (by assumption) ?_
  rotate_left
  · ((intro w hSw); (try dsimp only at hSw); go_simp; (try with_reducible rfl))
  try simp only [Act.put, List.setIfInBounds_toArray, List.set_cons_zero, List.set_cons_succ]
  refine wpAnyH_take (i := 5) (oi := { dst := some 34, op := Op.indexAddr 22 (Operand.tmp 33) (Operand.const (Value.int IntKind.i64 1)), type := 0, pos := _, after := #[{ on := 4, ground := Ground.data }], guard := none }) (v := ?_) rfl (by kernel_rfl) (by kernel_rfl) (by kernel_rfl) (fun _ _ _ h => h) (Or.inl ⟨by rfl, ?_⟩) (by assumption) ?_
  rotate_left
  · ((intro w hSw); (try dsimp only at hSw); go_simp; (try with_reducible rfl))
  try simp only [Act.put, List.setIfInBounds_toArray, List.set_cons_zero, List.set_cons_succ]
  refine wpAnyH_take (i := 6) (oi := { dst := some 35, op := Op.load 5 (Operand.tmp 34), type := 5, pos := _, after := #[{ on := 5, ground := Ground.data }], guard := none }) (v := ?_) rfl (by kernel_rfl) (by kernel_rfl) (by kernel_rfl) (fun _ _ _ h => h) (Or.inl ⟨by rfl, ?_⟩) (by assumption) ?_
  rotate_left
  · ((intro w hSw); (try dsimp only at hSw); go_simp; (try with_reducible rfl))
  try simp only [Act.put, List.setIfInBounds_toArray, List.set_cons_zero, List.set_cons_succ]
  refine wpAnyH_take (i := 7) (oi := { dst := some 36, op := Op.convert 5 3 (Operand.tmp 35), type := 3, pos := _, after := #[{ on := 6, ground := Ground.data }], guard := none }) (v := ?_) rfl (by kernel_rfl) (by kernel_rfl) (by kernel_rfl) (fun _ _ _ h => h) (Or.inl ⟨by rfl, ?_⟩) (by assumption) ?_
  rotate_left
  · ((intro w hSw); (try dsimp only at hSw); go_simp; (try with_reducible rfl))
  try simp only [Act.put, List.setIfInBounds_toArray, List.set_cons_zero, List.set_cons_succ]
  refine wpAnyH_take (i := 8) (oi := { dst := some 37, op := Op.build 35 #[(0, Operand.tmp 32), (1, Operand.tmp 36)], type := 35, pos := _, after := #[{ on := 3, ground := Ground.data }, { on := 7, ground := Ground.data }], guard := none }) (v := ?_) rfl (by kernel_rfl) (by kernel_rfl) (by kernel_rfl) (fun _ _ _ h => h) (Or.inl ⟨by rfl, ?_⟩) (by assumption) ?_
  rotate_left
  · ((intro w hSw); (try dsimp only at hSw); go_simp; (try with_reducible rfl))
  try simp only [Act.put, List.setIfInBounds_toArray, List.set_cons_zero, List.set_cons_succ]
  refine wpAnyH_ready (rs := [9]) (by kernel_rfl) (by simp) ?_
  refine (AllReadyH.cons (o := { dst := some 7, op := Op.alloc 35, type := 0, pos := _, after := #[], guard := none }) rfl (fun K hK => ?_) AllReadyH.nil)
  go_simp
  refine hK.out _ _ ?_ (fun hHeld => ?_)
  · ((try dsimp only); exact ⟨past_alloc (past_drew e0), past_alloc (past_drew e1)⟩)
  clear hK K
  try simp only [Act.put, List.setIfInBounds_toArray, List.set_cons_zero, List.set_cons_succ]
  refine wpAnyH_ready (rs := [10]) (by kernel_rfl) (by simp) ?_
  refine (AllReadyH.cons (o := { dst := none, op := Op.store 35 (Operand.tmp 7) (Operand.tmp 37), type := 0, pos := _, after := #[{ on := 9, ground := Ground.data }, { on := 8, ground := Ground.data }, { on := 0, ground := Ground.phase }, { on := 1, ground := Ground.phase }, { on := 2, ground := Ground.phase }, { on := 3, ground := Ground.phase }, { on := 4, ground := Ground.phase }, { on := 5, ground := Ground.phase }, { on := 6, ground := Ground.phase }, { on := 7, ground := Ground.phase }, { on := 8, ground := Ground.phase }, { on := 9, ground := Ground.phase }], guard := none }) rfl (fun K hK => ?_) AllReadyH.nil)
  refine wp_store_row 35 (.tmp 7) (.tmp 37) rfl w4.heap.size #[.int .i64 (D0 : Int), .int .i64 (D1 : Int), .int .u64 0, .slice none 0 0] rfl rfl 35 _ (heap_alloc_last w4 _) (by kernel_rfl) rfl (all4 _ _ _ _ _ _ _ _ _) ?_
  have Z7 := Lib.hid (setRow_heap (w4.alloc (.cells #[.int .i64 0, .int .i64 0, .int .u64 0, .slice none 0 0] 35)).drew w4.heap.size _ #[.int .i64 (D0 : Int), .int .i64 (D1 : Int), .int .u64 0, .slice none 0 0] 35 _ (heap_alloc_last w4 _))
  have B7 := Lib.hid (below_setRow (show Below w4.heap.size w4 (w4.alloc (.cells #[.int .i64 0, .int .i64 0, .int .u64 0, .slice none 0 0] 35)).drew from ((Below.refl _ _).alloc (Nat.le_refl _) _).drew) (Nat.le_refl _) #[.int .i64 (D0 : Int), .int .i64 (D1 : Int), .int .u64 0, .slice none 0 0])
  generalize (w4.alloc (.cells #[.int .i64 0, .int .i64 0, .int .u64 0, .slice none 0 0] 35)).drew.setRow w4.heap.size #[.int .i64 (D0 : Int), .int .i64 (D1 : Int), .int .u64 0, .slice none 0 0] = w5 at *
  refine hK.out _ _ ?_ (fun hHeld => ?_)
  · ((try dsimp only); exact ⟨cell_then B7.out (Nat.le_refl _) e0, cell_then B7.out (Nat.le_refl _) e1⟩)
  clear hK K
  try simp only [Act.put]
  refine wpAnyH_done (by kernel_rfl) ?_ _
  clear e0 e1 i0 i1 i2 i3 u0 u1 u2 u3
  go_wp2
  clear j10 j2 n3 n4 n5 n6 n7 n8
  go_loopw [9, 41] (fun s9 s41 wr => ∃ k : Nat, k ≤ 8 ∧ s41 = .int .i64 (k : Int) ∧ wr.heap[w4.heap.size]? = some (.cells #[.int .i64 (D0 : Int), .int .i64 (D1 : Int), .int .u64 ((numL (((b.drop 2).take 8).take k) : Nat) : Int), .slice none 0 0] 35 (0, 0)) ∧ Below w4.heap.size w4 wr) (fun _ s41 _ => 8 - (intOf s41).toNat)
  case atStart => exact ⟨0, by omega, rfl, Z7.out, B7.out⟩
  case round =>
    clear Z7 B7
    obtain ⟨k, hk, rfl, hZ, hB⟩ := hrel
    by_cases hlt : k < 8
    · have ql : ((b.drop 2).take 8).length = 8 := by simp; have := HEE.out; have := HNN.out; omega
      have qx : ∀ c ∈ (b.drop 2).take 8, c < 256 := fun c hc => by
        obtain ⟨i, hi, rfl⟩ := List.getElem_of_mem (List.mem_of_mem_drop (List.mem_of_mem_take hc))
        have := HBX.out i
        rw [List.getD_eq_getElem?_getD, List.getElem?_eq_getElem hi] at this; exact this
      have nx := numL_next ((b.drop 2).take 8) k (by omega)
      have gx : ((b.drop 2).take 8)[k]'(by omega) = b.getD (2 + k) 0 := by
        rw [List.getD_eq_getElem?_getD, List.getElem?_eq_getElem (by have := HEE.out; have := HNN.out; omega)]; simp
      rw [gx] at nx
      have lt := numL_lt (((b.drop 2).take 8).take k) (fun c hc => qx c (List.mem_of_mem_take hc))
      have lt2 : numL (((b.drop 2).take 8).take k) < 72057594037927936 := by
        have e : (((b.drop 2).take 8).take k).length = k := by rw [List.length_take, ql]; omega
        rw [e] at lt
        exact Nat.lt_of_lt_of_le lt (Nat.le_trans (Nat.pow_le_pow_right (by decide) (show k ≤ 7 by omega)) (by decide))
      have cx := cell_then (below_then HB4.out hB HB4.out.size) (Nat.le_refl _) (HC0.out (2 + k) (by have := HEE.out; have := HNN.out; omega))
      rw [← Nat.add_assoc] at cx
      have lx := HBX.out (2 + k)
      have c2 : wr.cell? ⟨w4.heap.size, 2, none⟩ = some (.int .u64 ((numL (((b.drop 2).take 8).take k) : Nat) : Int)) := by rw [cell_of_row wr w4.heap.size 2 _ 35 _ hZ]; rfl
      have f2 := frozen_of_row wr w4.heap.size 2 _ 35 hZ
      have hset := fun v => heap_setCell_same wr w4.heap.size 2 _ 35 v hZ
      have HNX := Lib.hid (show ∀ W, W = wr.setCell ⟨w4.heap.size, 2, none⟩ (.int .u64 ((numL (((b.drop 2).take 8).take (k + 1)) : Nat) : Int)) → W.heap[w4.heap.size]? = some (.cells #[.int .i64 (D0 : Int), .int .i64 (D1 : Int), .int .u64 ((numL (((b.drop 2).take 8).take (k + 1)) : Nat) : Int), .slice none 0 0] 35 (0, 0)) ∧ Below w4.heap.size w4 W from fun W hW => by
        subst hW; exact ⟨(hset _).trans rfl, hB.setCell (Nat.le_refl _) _⟩)
      have eo := or64 (numL (((b.drop 2).take 8).take k)) (b.getD (2 + k) 0) lt2 lx
      rw [← nx] at eo
      clear hset nx gx lt qx ql hZ hB
      generalize hN1 : numL (((b.drop 2).take 8).take (k + 1)) = N1 at *
      have HN1 := Lib.hid hN1
      clear hN1
      generalize numL (((b.drop 2).take 8).take k) = N0 at *
      generalize b.getD (2 + k) 0 = X at *
      have w0 : IntKind.u64.wrap ((N0 : Int) * 256) = (N0 : Int) * 256 := by rw [IntKind.wrap_u64]; omega
      have w1 : IntKind.u64.wrap (X : Int) = (X : Int) := by rw [IntKind.wrap_u64]; omega
      go_wp2
      go_roundw
      case rel => exact ⟨k + 1, by omega, by go_num, by rw [HN1.out]; exact HNX.out _ rfl⟩
      case measure => simp [intOf]; omega
    · obtain rfl : k = 8 := by omega
      rw [show ((b.drop 2).take 8).take 8 = (b.drop 2).take 8 by rw [List.take_take]; rfl, ← HNM.out] at hZ
      have hnn := HNN.out
      have hee := HEE.out
      have HBL := Lib.hid (show E - 10 = body.length by rw [HBO.out]; simp; omega)
      have HBM := Lib.hid (show body.length ≤ 1000000 by rw [← HBL.out]; omega)
      have HMB := Lib.hid (show mayB (D0 : Int) (D1 : Int) NN body.length = false by rw [← HBL.out]; exact HMY.out)
      have HWR := Lib.hid (show Below w.heap.size w wr from below_then HB4.out hB HB4.out.size)
      have HSW := Lib.hid (show Sl wr (some ⟨bb, bo + 10, none⟩) body from sl_then HWR.out (Nat.le_refl _) (by rw [HBO.out]; exact HBS.out))
      have HZw := Lib.hid (show wr.heap[w.heap.size]? = some (.cells #[.int .i64 0, .int .i64 0, .int .u64 0, .slice none 0 0] 35 (0, 0)) by rw [hB.block _ (Array.getElem?_eq_some_iff.1 HZ5.out).1]; exact HZ5.out)
      have HG := Lib.hid (show w.heap.size < w4.heap.size from (Array.getElem?_eq_some_iff.1 HZ5.out).1)
      have HZg := Lib.hid hZ
      have m1 : (10 : Int) ≤ (E : Int) := by omega
      have m2 : (E : Int) ≤ (bc : Int) := by omega
      have m3 : ¬ bc = 10 := by omega
      clear hnn hee hB hZ hlt hk
      go_wp2_with (first
        | (go_at_call 55; (with_reducible refine (cloneC ⟨bb, bo + 10, none⟩ (E - 10) (bc - 10) body wr HBL.out HBM.out HSW.out).mono ?_); rintro e w6 ⟨v6, rfl, o6, b6⟩; obtain ⟨ya, yc, rfl, hyc, hys, hy0, hyx⟩ := rb_sl o6; have HO6 := Lib.hid o6; have hg6 : w6.heap[w4.heap.size]? = some (.cells #[.int .i64 (D0 : Int), .int .i64 (D1 : Int), .int .u64 (NN : Int), .slice none 0 0] 35 (0, 0)) := (by rw [b6.block _ (Array.getElem?_eq_some_iff.1 HZg.out).1]; exact HZg.out); have hr6 : w6.heap[w.heap.size]? = some (.cells #[.int .i64 0, .int .i64 0, .int .u64 0, .slice none 0 0] 35 (0, 0)) := (by rw [b6.block _ (Array.getElem?_eq_some_iff.1 HZw.out).1]; exact HZw.out); have g0 : w6.cell? ⟨w4.heap.size, 0, none⟩ = some (.int .i64 (D0 : Int)) := (by rw [cell_of_row w6 w4.heap.size 0 _ 35 _ hg6]; rfl); have g1 : w6.cell? ⟨w4.heap.size, 1, none⟩ = some (.int .i64 (D1 : Int)) := (by rw [cell_of_row w6 w4.heap.size 1 _ 35 _ hg6]; rfl); have g2 : w6.cell? ⟨w4.heap.size, 2, none⟩ = some (.int .u64 (NN : Int)) := (by rw [cell_of_row w6 w4.heap.size 2 _ 35 _ hg6]; rfl); have g3 : w6.cell? ⟨w4.heap.size, 3, none⟩ = some (.slice none 0 0) := (by rw [cell_of_row w6 w4.heap.size 3 _ 35 _ hg6]; rfl); have gf := frozen_of_row w6 w4.heap.size 3 _ 35 hg6; have HZ7 := Lib.hid (show (w6.setCell ⟨w4.heap.size, 3, none⟩ (.slice ya body.length yc)).heap[w4.heap.size]? = some (.cells #[.int .i64 (D0 : Int), .int .i64 (D1 : Int), .int .u64 (NN : Int), .slice ya body.length yc] 35 (0, 0)) from (heap_setCell_same w6 w4.heap.size 3 _ 35 (.slice ya body.length yc) hg6).trans rfl); have HR7 := Lib.hid (show (w6.setCell ⟨w4.heap.size, 3, none⟩ (.slice ya body.length yc)).heap[w.heap.size]? = _ from (heap_setCell_other w6 _ _ _ (by have := HG.out; simp; omega)).trans hr6); have HB6 := Lib.hid (below_then HWR.out b6 HWR.out.size); have HS6 := Lib.hid b6.size; clear hg6 hr6 b6 o6 hyc hys hy0 hyx)
        | (go_at_call 30; (with_reducible refine (mayC (D0 : Int) (D1 : Int) NN ya yc body _).mono ?_); rintro e w8 ⟨rfl, b8⟩; rw [HMB.out]; have z8 : w8.heap[w4.heap.size]? = some (.cells #[.int .i64 (D0 : Int), .int .i64 (D1 : Int), .int .u64 (NN : Int), .slice ya body.length yc] 35 (0, 0)) := (by rw [b8.block _ (Array.getElem?_eq_some_iff.1 HZ7.out).1]; exact HZ7.out); have r8 : w8.heap[w.heap.size]? = some (.cells #[.int .i64 0, .int .i64 0, .int .u64 0, .slice none 0 0] 35 (0, 0)) := (by rw [b8.block _ (Array.getElem?_eq_some_iff.1 HR7.out).1]; exact HR7.out); have p0 : w8.cell? ⟨w4.heap.size, 0, none⟩ = some (.int .i64 (D0 : Int)) := (by rw [cell_of_row w8 w4.heap.size 0 _ 35 _ z8]; rfl); have p1 : w8.cell? ⟨w4.heap.size, 1, none⟩ = some (.int .i64 (D1 : Int)) := (by rw [cell_of_row w8 w4.heap.size 1 _ 35 _ z8]; rfl); have p2 : w8.cell? ⟨w4.heap.size, 2, none⟩ = some (.int .u64 (NN : Int)) := (by rw [cell_of_row w8 w4.heap.size 2 _ 35 _ z8]; rfl); have p3 : w8.cell? ⟨w4.heap.size, 3, none⟩ = some (.slice ya body.length yc) := (by rw [cell_of_row w8 w4.heap.size 3 _ 35 _ z8]; rfl); have d0 : w8.cell? ⟨w.heap.size, 0, none⟩ = some (.int .i64 0) := (by rw [cell_of_row w8 w.heap.size 0 _ 35 _ r8]; rfl); have df0 := frozen_of_row w8 w.heap.size 0 _ 35 r8; have d1 : w8.cell? ⟨w.heap.size, 1, none⟩ = some (.int .i64 0) := (by rw [cell_of_row w8 w.heap.size 1 _ 35 _ r8]; rfl); have df1 := frozen_of_row w8 w.heap.size 1 _ 35 r8; have d2 : w8.cell? ⟨w.heap.size, 2, none⟩ = some (.int .u64 0) := (by rw [cell_of_row w8 w.heap.size 2 _ 35 _ r8]; rfl); have df2 := frozen_of_row w8 w.heap.size 2 _ 35 r8; have d3 : w8.cell? ⟨w.heap.size, 3, none⟩ = some (.slice none 0 0) := (by rw [cell_of_row w8 w.heap.size 3 _ 35 _ r8]; rfl); have df3 := frozen_of_row w8 w.heap.size 3 _ 35 r8; have HR8 := Lib.hid r8; have HO8 := Lib.hid (rb_then (rb_setCell HO6.out (p := ⟨w4.heap.size, 3, none⟩) (Array.getElem?_eq_some_iff.1 HZg.out).1 (.slice ya body.length yc)) b8 (Nat.le_refl _)); have HB8 := Lib.hid (below_then (HB6.out.setCell (p := ⟨w4.heap.size, 3, none⟩) (Nat.le_of_lt HG.out) (.slice ya body.length yc)) b8 (by have := HB6.out.size; simp [World.setCell]; omega)); clear b8 z8 r8))
      have Zf := pk_store HR8.out (.int .i64 0) (.int .i64 0) (.int .u64 0) (.slice none 0 0)
      have BF := Lib.hid (show Below w.heap.size w ((((w8.setCell ⟨w.heap.size, 0, none⟩ (.int .i64 0)).setCell ⟨w.heap.size, 1, none⟩ (.int .i64 0)).setCell ⟨w.heap.size, 2, none⟩ (.int .u64 0)).setCell ⟨w.heap.size, 3, none⟩ (.slice none 0 0)) from (((HB8.out.setCell (Nat.le_refl _) _).setCell (Nat.le_refl _) _).setCell (Nat.le_refl _) _).setCell (Nat.le_refl _) _)
      generalize ((((w8.setCell ⟨w.heap.size, 0, none⟩ (.int .i64 0)).setCell ⟨w.heap.size, 1, none⟩ (.int .i64 0)).setCell ⟨w.heap.size, 2, none⟩ (.int .u64 0)).setCell ⟨w.heap.size, 3, none⟩ (.slice none 0 0)) = WF at *
      have q0 : WF.cell? ⟨w.heap.size, 0, none⟩ = some (.int .i64 0) := by rw [cell_of_row WF w.heap.size 0 _ 35 _ Zf]; rfl
      have q1 : WF.cell? ⟨w.heap.size, 1, none⟩ = some (.int .i64 0) := by rw [cell_of_row WF w.heap.size 1 _ 35 _ Zf]; rfl
      have q2 : WF.cell? ⟨w.heap.size, 2, none⟩ = some (.int .u64 0) := by rw [cell_of_row WF w.heap.size 2 _ 35 _ Zf]; rfl
      have q3 : WF.cell? ⟨w.heap.size, 3, none⟩ = some (.slice none 0 0) := by rw [cell_of_row WF w.heap.size 3 _ 35 _ Zf]; rfl
      exact bodyPost_ret (v := .tuple #[.agg #[.int .i64 0, .int .i64 0, .int .u64 0, .slice none 0 0], .int .i64 2]) (by simp [results, Tryd.results27, go_sem, q0, q1, q2, q3]) rfl ⟨rfl, BF.out⟩

end Go.Proofs.YtmfkfpgomglplaaDoor.Of
