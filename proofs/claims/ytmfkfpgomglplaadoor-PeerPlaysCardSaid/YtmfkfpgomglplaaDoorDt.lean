/- The document's Open. -/
import Derived.Test.YtmfkfpgomglplaaDoorDr
set_option linter.unusedVariables false
namespace Go.Proofs.YtmfkfpgomglplaaDoor.Dt
open Go Go.RowKit Kit Mb Sha Ap Mc1 Sc Mx Sb Pd Su Pa Hm Mm Tg Mf Pk Se Op Pe Ps Pt Oq Pg Ar Dq Db Ds Dh Dk Ms Pz Pb Dp Dr


theorem pk_st {w : World} {g : Nat} {t : TypeId} {x0 x1 x2 x3 : Value} (h : w.heap[g]? = some (.cells #[x0, x1, x2, x3] t (0, 0))) (y0 y1 y2 y3 : Value) :
    ((((w.setCell ⟨g, 0, none⟩ y0).setCell ⟨g, 1, none⟩ y1).setCell ⟨g, 2, none⟩ y2).setCell ⟨g, 3, none⟩ y3).heap[g]? = some (.cells #[y0, y1, y2, y3] t (0, 0)) := by
  have a0 := heap_setCell_same w g 0 _ t y0 h
  have a1 := heap_setCell_same _ g 1 _ t y1 a0
  have a2 := heap_setCell_same _ g 2 _ t y2 a1
  have a3 := heap_setCell_same _ g 3 _ t y3 a2
  rw [a3]; rfl
set_option maxRecDepth 100000 in
theorem dopenShort (ba : Option Addr) (n bc : Nat) (ka : Option Addr) (kn kc : Nat) (w : World) (h : n < 26) :
    Calls Tryd.prog 28 #[.slice ka kn kc, .slice ba n bc] w fun e w' => e = .returned (.tuple #[.agg #[.int .i64 0, .int .i64 0, .int .u64 0, .slice none 0 0], .int .i64 3]) ∧ Below w.heap.size w w' := by
  go_enter Tryd.func28, Tryd.ntmps28
  go_wp2
  exact bodyPost_ret (v := .tuple #[.agg #[.int .i64 0, .int .i64 0, .int .u64 0, .slice none 0 0], .int .i64 3]) (by simp [results, Tryd.results28, go_sem]) rfl ⟨rfl, by repeat (first | exact (Below.refl _ _).alloc (Nat.le_refl _) _ | refine Below.setCell ?_ (by simp) _)⟩
set_option maxRecDepth 100000 in
set_option maxHeartbeats 4000000 in
theorem dopenTag (bb bo bc bn kn : Nat) (b : List Nat) (ka : Option Addr) (kc : Nat) (key : List Nat) (w : World) (E : Nat) (ebn : bn = b.length) (ekn : kn = key.length)
    (hN : b.length = E + 16) (hE : 10 ≤ E) (hlen : b.length ≤ 100000) (hbc : b.length ≤ bc) (hb : Cells w bb bo b) (hbx : ∀ c ∈ b, c < 256)
    (ks : Sl w ka key) (k0 : ka = none → kc = 0) (kcap : key.length ≤ kc) (kl : ∀ c ∈ key, c < 256) (klen : key.length ≤ 800000)
    (hne : tagL key (b.take E) ≠ b.drop E) :
    Calls Tryd.prog 28 #[.slice ka kn kc, .slice (some ⟨bb, bo, none⟩) bn bc] w fun e w' => e = .returned (.tuple #[.agg #[.int .i64 0, .int .i64 0, .int .u64 0, .slice none 0 0], .int .i64 15]) ∧ Below w.heap.size w w' := by
  subst ebn ekn
  have KL := Lib.hid klen
  obtain ⟨T, hTg⟩ : ∃ T, T = tagL key (b.take E) := ⟨_, rfl⟩
  have HTG := Lib.hid hTg
  have HTL := Lib.hid (show 16 = T.length by rw [hTg]; exact (tagL_len _ _).symm)
  have HTX := Lib.hid (show ∀ c ∈ T, c < 256 by rw [hTg]; exact tagL_lt _ _)
  have HNE := Lib.hid hne
  have HKS := Lib.hid ks
  have HK0 := Lib.hid k0
  have HKC := Lib.hid kcap
  have HKX := Lib.hid kl
  have HBL := Lib.hid hN
  have HE10 := Lib.hid hE
  have HEL := Lib.hid (show E = (b.take E).length by rw [List.length_take]; omega)
  have HBE8 := Lib.hid (show (b.take E).length ≤ 800000 by rw [← HEL.out]; omega)
  have HRL := Lib.hid (show 16 = (b.drop E).length by rw [List.length_drop]; omega)
  obtain ⟨pa1, pc1, pa2, pc2, hs1, hs2, pt1, pt2⟩ := part_two (ra := some ⟨bb, bo, none⟩) (rc := bc) (n := b.length) rfl (sl_of hb) (fun h => by cases h) hbc hbx E (by omega)
  rw [show b.length - E = 16 by omega] at hs2
  have HP1 := Lib.hid pt1
  have HP2 := Lib.hid pt2
  have n1 : ¬ (b.length : Int) < 26 := by omega
  have n2 : (b.length : Int) - 16 = (E : Int) := by omega
  have gE : E ≤ 100000 := by omega
  clear hb hbx ks k0 kcap kl klen hne hTg hE hlen hbc hN pt1 pt2
  have n3 := wr_w E gE
  have n4 := wr_i E gE
  clear gE
  have HZ0 := Lib.hid (show (w.alloc (.cells #[.int .i64 0, .int .i64 0, .int .u64 0, .slice none 0 0] 40)).heap[w.heap.size]? = some (.cells #[.int .i64 0, .int .i64 0, .int .u64 0, .slice none 0 0] 40) from heap_alloc_last w _)
  have HB0 := Lib.hid ((Below.refl w.heap.size w).alloc (Nat.le_refl _) (.cells #[.int .i64 0, .int .i64 0, .int .u64 0, .slice none 0 0] 40))
  go_enter Tryd.func28, Tryd.ntmps28
  go_wp2
  generalize (w.alloc (.cells #[.int .i64 0, .int .i64 0, .int .u64 0, .slice none 0 0] 40)) = w0 at *
  have HKS0 := Lib.hid (sl_then HB0.out (Nat.le_refl _) HKS.out)
  have HP10 := Lib.hid (sl_then HB0.out (Nat.le_refl _) HP1.out.1)
  have HP20 := Lib.hid (sl_then HB0.out (Nat.le_refl _) HP2.out.1)
  clear n1 n2
  as_aux_lemma =>
    refine wp_region_held_drew (S := (fun W => Below w0.heap.size w0 W)) (by kernel_rfl) ?_ (fun hHeld => ?_)
    · ((try dsimp only); (first | (with_reducible exact hN) | (with_reducible exact hHeld) | exact (Below.refl _ _).drew | exact Below.refl _ _))
    refine wpAnyH_take (i := 0) (oi := { dst := some 15, op := Op.move (Operand.tmp 0), type := 22, pos := _, after := #[], guard := none }) (v := ?_) rfl (by kernel_rfl) (by kernel_rfl) (by kernel_rfl) (fun _ _ _ h => h) (Or.inl ⟨by rfl, ?_⟩) (by assumption) ?_
    rotate_left
    · ((intro w hSw); (try dsimp only at hSw); go_simp; (try with_reducible rfl))
    try simp only [Act.put, List.setIfInBounds_toArray, List.set_cons_zero, List.set_cons_succ]
    refine wpAnyH_take (i := 1) (oi := { dst := some 16, op := Op.move (Operand.tmp 1), type := 22, pos := _, after := #[], guard := none }) (v := ?_) rfl (by kernel_rfl) (by kernel_rfl) (by kernel_rfl) (fun _ _ _ h => h) (Or.inl ⟨by rfl, ?_⟩) (by assumption) ?_
    rotate_left
    · ((intro w hSw); (try dsimp only at hSw); go_simp; (try with_reducible rfl))
    try simp only [Act.put, List.setIfInBounds_toArray, List.set_cons_zero, List.set_cons_succ]
    refine wpAnyH_take (i := 2) (oi := { dst := some 17, op := Op.move (Operand.tmp 6), type := 3, pos := _, after := #[], guard := none }) (v := ?_) rfl (by kernel_rfl) (by kernel_rfl) (by kernel_rfl) (fun _ _ _ h => h) (Or.inl ⟨by rfl, ?_⟩) (by assumption) ?_
    rotate_left
    · ((intro w hSw); (try dsimp only at hSw); go_simp; (try with_reducible rfl))
    try simp only [Act.put, List.setIfInBounds_toArray, List.set_cons_zero, List.set_cons_succ]
    refine wpAnyH_take (i := 3) (oi := { dst := some 18, op := Op.slice 22 (Operand.tmp 16) none (some (Operand.tmp 17)) none, type := 22, pos := _, after := #[{ on := 1, ground := Ground.data }, { on := 2, ground := Ground.data }], guard := none }) (v := ?_) rfl (by kernel_rfl) (by kernel_rfl) (by kernel_rfl) (fun _ _ _ h => h) (Or.inl ⟨by rfl, ?_⟩) (by assumption) ?_
    rotate_left
    · ((intro w hSw); (try dsimp only at hSw); go_simp; (try with_reducible rfl))
    try simp only [Act.put, List.setIfInBounds_toArray, List.set_cons_zero, List.set_cons_succ]
    refine wpAnyH_take (i := 5) (oi := { dst := some 20, op := Op.move (Operand.tmp 1), type := 22, pos := _, after := #[], guard := none }) (v := ?_) rfl (by kernel_rfl) (by kernel_rfl) (by kernel_rfl) (fun _ _ _ h => h) (Or.inl ⟨by rfl, ?_⟩) (by assumption) ?_
    rotate_left
    · ((intro w hSw); (try dsimp only at hSw); go_simp; (try with_reducible rfl))
    try simp only [Act.put, List.setIfInBounds_toArray, List.set_cons_zero, List.set_cons_succ]
    refine wpAnyH_take (i := 6) (oi := { dst := some 21, op := Op.move (Operand.tmp 6), type := 3, pos := _, after := #[], guard := none }) (v := ?_) rfl (by kernel_rfl) (by kernel_rfl) (by kernel_rfl) (fun _ _ _ h => h) (Or.inl ⟨by rfl, ?_⟩) (by assumption) ?_
    rotate_left
    · ((intro w hSw); (try dsimp only at hSw); go_simp; (try with_reducible rfl))
    try simp only [Act.put, List.setIfInBounds_toArray, List.set_cons_zero, List.set_cons_succ]
    refine wpAnyH_take (i := 7) (oi := { dst := some 22, op := Op.slice 22 (Operand.tmp 20) (some (Operand.tmp 21)) none none, type := 22, pos := _, after := #[{ on := 5, ground := Ground.data }, { on := 6, ground := Ground.data }], guard := none }) (v := ?_) rfl (by kernel_rfl) (by kernel_rfl) (by kernel_rfl) (fun _ _ _ h => h) (Or.inl ⟨by rfl, ?_⟩) (by assumption) ?_
    rotate_left
    · ((intro w hSw); (try dsimp only at hSw); go_simp; (try with_reducible rfl))
    try simp only [Act.put, List.setIfInBounds_toArray, List.set_cons_zero, List.set_cons_succ]
    refine wpAnyH_ready (rs := [4]) (by kernel_rfl) (by simp) ?_
    refine (AllReadyH.cons (o := { dst := some 19, op := Op.call { callee := Callee.value (Operand.func 21), args := #[Operand.tmp 15, Operand.tmp 18], argTypes := #[22, 22] }, type := 22, pos := _, after := #[{ on := 0, ground := Ground.data }, { on := 3, ground := Ground.data }], guard := none }) rfl (fun K hK => ?_) AllReadyH.nil)
    go_simp
    (go_at_call 21; (with_reducible refine (dtgK ka key.length kc key T pa1 E pc1 (b.take E) _ HTG.out rfl HEL.out (sl_then hHeld (Nat.le_refl _) HKS0.out) HK0.out HKC.out HKX.out KL.out (sl_then hHeld (Nat.le_refl _) HP10.out) HP1.out.2.1 HP1.out.2.2.1 HP1.out.2.2.2 HBE8.out).mono ?_); rintro e w3 ⟨ta, tc, rfl, lg, _, _, ba⟩; have HTS := Lib.hid lg; have hN := below_then hHeld ba hHeld.size; clear ba lg)
    go_wp2_with fail
    refine hK.out _ _ ?_ (fun hHeld => ?_)
    · ((try dsimp only); (first | (with_reducible exact hN) | (with_reducible exact hHeld) | exact (Below.refl _ _).drew | exact Below.refl _ _))
    clear hK K
    try simp only [Act.put, List.setIfInBounds_toArray, List.set_cons_zero, List.set_cons_succ]
    refine wpAnyH_ready (rs := [8]) (by kernel_rfl) (by simp) ?_
    refine (AllReadyH.cons (o := { dst := some 23, op := Op.call { callee := Callee.value (Operand.func 15), args := #[Operand.tmp 19, Operand.tmp 22], argTypes := #[22, 22] }, type := 4, pos := _, after := #[{ on := 4, ground := Ground.data }, { on := 7, ground := Ground.data }, { on := 4, ground := Ground.chain }], guard := none }) rfl (fun K hK => ?_) AllReadyH.nil)
    go_simp
    (go_at_call 15; (with_reducible refine (bytesD ta pa2 tc pc2 16 16 T (b.drop E) _ false HTL.out HRL.out HTS.out (sl_then hHeld (Nat.le_refl _) HP20.out) HTX.out HP2.out.2.2.2 (by rw [HTG.out]; exact (decide_eq_false HNE.out).symm)).mono ?_); rintro e wb ⟨rfl, rfl⟩)
    go_wp2_with fail
    refine hK.out _ _ ?_ (fun hHeld => ?_)
    · ((try dsimp only); (first | (with_reducible exact hN) | (with_reducible exact hHeld) | exact (Below.refl _ _).drew | exact Below.refl _ _))
    clear hK K
    try simp only [Act.put, List.setIfInBounds_toArray, List.set_cons_zero, List.set_cons_succ]
    refine wpAnyH_take (i := 9) (oi := { dst := some 24, op := Op.unOp UnOp.not 4 (Operand.tmp 23), type := 4, pos := _, after := #[{ on := 8, ground := Ground.data }], guard := none }) (v := ?_) rfl (by kernel_rfl) (by kernel_rfl) (by kernel_rfl) (fun _ _ _ h => h) (Or.inl ⟨by rfl, ?_⟩) (by assumption) ?_
    rotate_left
    · ((intro w hSw); (try dsimp only at hSw); go_simp; (try with_reducible rfl))
    try simp only [Act.put, List.setIfInBounds_toArray, List.set_cons_zero, List.set_cons_succ]
    refine wpAnyH_done (by kernel_rfl) ?_ _
    have HBN := Lib.hid hHeld
    have zR : w3.heap[w.heap.size]? = some (.cells #[.int .i64 0, .int .i64 0, .int .u64 0, .slice none 0 0] 40) := by rw [HBN.out.block _ (Array.getElem?_eq_some_iff.1 HZ0.out).1]; exact HZ0.out
    have d0 : w3.cell? ⟨w.heap.size, 0, none⟩ = some (.int .i64 0) := by rw [cell_of_row w3 w.heap.size 0 _ 40 _ zR]; rfl
    have df0 := frozen_of_row w3 w.heap.size 0 _ 40 zR
    have d1 : w3.cell? ⟨w.heap.size, 1, none⟩ = some (.int .i64 0) := by rw [cell_of_row w3 w.heap.size 1 _ 40 _ zR]; rfl
    have df1 := frozen_of_row w3 w.heap.size 1 _ 40 zR
    have d2 : w3.cell? ⟨w.heap.size, 2, none⟩ = some (.int .u64 0) := by rw [cell_of_row w3 w.heap.size 2 _ 40 _ zR]; rfl
    have df2 := frozen_of_row w3 w.heap.size 2 _ 40 zR
    have d3 : w3.cell? ⟨w.heap.size, 3, none⟩ = some (.slice none 0 0) := by rw [cell_of_row w3 w.heap.size 3 _ 40 _ zR]; rfl
    have df3 := frozen_of_row w3 w.heap.size 3 _ 40 zR
    have HZR := Lib.hid zR
    clear hs1 hs2 hN zR hHeld
    as_aux_lemma =>
      go_wp2
      have Zf := pk_st HZR.out (.int .i64 0) (.int .i64 0) (.int .u64 0) (.slice none 0 0)
      have BF := Lib.hid (show Below w.heap.size w ((((w3.setCell ⟨w.heap.size, 0, none⟩ (.int .i64 0)).setCell ⟨w.heap.size, 1, none⟩ (.int .i64 0)).setCell ⟨w.heap.size, 2, none⟩ (.int .u64 0)).setCell ⟨w.heap.size, 3, none⟩ (.slice none 0 0)) from ((((below_then HB0.out HBN.out HB0.out.size).setCell (Nat.le_refl _) _).setCell (Nat.le_refl _) _).setCell (Nat.le_refl _) _).setCell (Nat.le_refl _) _)
      generalize ((((w3.setCell ⟨w.heap.size, 0, none⟩ (.int .i64 0)).setCell ⟨w.heap.size, 1, none⟩ (.int .i64 0)).setCell ⟨w.heap.size, 2, none⟩ (.int .u64 0)).setCell ⟨w.heap.size, 3, none⟩ (.slice none 0 0)) = WF at *
      have q0 : WF.cell? ⟨w.heap.size, 0, none⟩ = some (.int .i64 0) := by rw [cell_of_row WF w.heap.size 0 _ 40 _ Zf]; rfl
      have q1 : WF.cell? ⟨w.heap.size, 1, none⟩ = some (.int .i64 0) := by rw [cell_of_row WF w.heap.size 1 _ 40 _ Zf]; rfl
      have q2 : WF.cell? ⟨w.heap.size, 2, none⟩ = some (.int .u64 0) := by rw [cell_of_row WF w.heap.size 2 _ 40 _ Zf]; rfl
      have q3 : WF.cell? ⟨w.heap.size, 3, none⟩ = some (.slice none 0 0) := by rw [cell_of_row WF w.heap.size 3 _ 40 _ Zf]; rfl
      exact bodyPost_ret (v := .tuple #[.agg #[.int .i64 0, .int .i64 0, .int .u64 0, .slice none 0 0], .int .i64 15]) (by simp [results, Tryd.results28, go_sem, q0, q1, q2, q3]) rfl (⟨rfl, BF.out⟩)

def DoP (d v : Int) (n : Nat) (body : List Nat) (w : World) (e : Ending) (w' : World) : Prop :=
  ∃ sa sc, e = .returned (.tuple #[.agg #[.int .i64 d, .int .i64 v, .int .u64 (n : Int), .slice sa body.length sc], .int .i64 0]) ∧ Sl w' sa body ∧ Below w.heap.size w w'
theorem ne_al {w : World} {o : Obj} {b : Nat} (h : (w.alloc o).heap.size ≤ b) : b ≠ w.heap.size := by simp at h; omega
theorem sl_st4 {w : World} {a : Option Addr} {l : List Nat} {g : Nat} (h : Sl w a l) (hg : ∀ x, a = some x → x.block ≠ g) (y0 y1 y2 y3 : Value) :
    Sl ((((w.setCell ⟨g, 0, none⟩ y0).setCell ⟨g, 1, none⟩ y1).setCell ⟨g, 2, none⟩ y2).setCell ⟨g, 3, none⟩ y3) a l :=
  sl_set (sl_set (sl_set (sl_set h hg _) hg _) hg _) hg _

set_option maxRecDepth 100000 in
set_option maxHeartbeats 4000000 in
theorem dopenOk (bb bo bc bn kn : Nat) (b : List Nat) (ka : Option Addr) (kc : Nat) (key : List Nat) (w : World) (E : Nat) (ebn : bn = b.length) (ekn : kn = key.length)
    (hN : b.length = E + 16) (hE : 10 ≤ E) (hlen : b.length ≤ 100000) (hbc : b.length ≤ bc) (hb : Cells w bb bo b) (hbx : ∀ c ∈ b, c < 256)
    (ks : Sl w ka key) (k0 : ka = none → kc = 0) (kcap : key.length ≤ kc) (kl : ∀ c ∈ key, c < 256) (klen : key.length ≤ 800000)
    (hne : tagL key (b.take E) = b.drop E) (D0 D1 NN : Nat) (body : List Nat) (hD0 : D0 = b.getD 0 0) (hD1 : D1 = b.getD 1 0) (hNN : NN = numL ((b.drop 2).take 8)) (hbody : body = (b.drop 10).take (E - 10)) (hmay : mayB (D0 : Int) (D1 : Int) NN (E - 10) = true) :
    Calls Tryd.prog 28 #[.slice ka kn kc, .slice (some ⟨bb, bo, none⟩) bn bc] w (DoP (D0 : Int) (D1 : Int) NN body w) := by
  subst ebn ekn
  have KL := Lib.hid klen
  obtain ⟨T, hTg⟩ : ∃ T, T = tagL key (b.take E) := ⟨_, rfl⟩
  have HTG := Lib.hid hTg
  have HTL := Lib.hid (show 16 = T.length by rw [hTg]; exact (tagL_len _ _).symm)
  have HTX := Lib.hid (show ∀ c ∈ T, c < 256 by rw [hTg]; exact tagL_lt _ _)
  have HNE := Lib.hid hne
  have HKS := Lib.hid ks
  have HK0 := Lib.hid k0
  have HKC := Lib.hid kcap
  have HKX := Lib.hid kl
  have HBL := Lib.hid hN
  have HE10 := Lib.hid hE
  have HEL := Lib.hid (show E = (b.take E).length by rw [List.length_take]; omega)
  have HBE8 := Lib.hid (show (b.take E).length ≤ 800000 by rw [← HEL.out]; omega)
  have HRL := Lib.hid (show 16 = (b.drop E).length by rw [List.length_drop]; omega)
  obtain ⟨pa1, pc1, pa2, pc2, hs1, hs2, pt1, pt2⟩ := part_two (ra := some ⟨bb, bo, none⟩) (rc := bc) (n := b.length) rfl (sl_of hb) (fun h => by cases h) hbc hbx E (by omega)
  rw [show b.length - E = 16 by omega] at hs2
  have HP1 := Lib.hid pt1
  have HP2 := Lib.hid pt2
  have n1 : ¬ (b.length : Int) < 26 := by omega
  have n2 : (b.length : Int) - 16 = (E : Int) := by omega
  have gE : E ≤ 100000 := by omega
  have HC0 := Lib.hid (show ∀ i, i < b.length → w.cell? ⟨bb, bo + i, none⟩ = some (.int .u8 ((b.getD i 0 : Nat) : Int)) from fun i hi => by rw [hb i hi]; simp [hi])
  have HBX := Lib.hid (show ∀ i, b.getD i 0 < 256 from fun i => by
    rw [List.getD_eq_getElem?_getD]
    cases hx : b[i]? with
    | none => decide
    | some v => exact hbx v (List.mem_of_getElem? hx))
  have l0 : D0 < 256 := by rw [hD0]; exact HBX.out 0
  have l1 : D1 < 256 := by rw [hD1]; exact HBX.out 1
  have e0 : w.cell? ⟨bb, bo, none⟩ = some (.int .u8 (D0 : Int)) := by have := HC0.out 0 (by omega); rw [Nat.add_zero, ← hD0] at this; exact this
  have e1 : w.cell? ⟨bb, bo + 1, none⟩ = some (.int .u8 (D1 : Int)) := by have := HC0.out 1 (by omega); rw [← hD1] at this; exact this
  have HC00 := Lib.hid e0
  have HC01 := Lib.hid e1
  obtain ⟨na, nc, en, sn, kn, zn, _⟩ := sub_val (sl_of hb) (fun h => by cases h) hbc 2 10 (by omega) (by omega)
  obtain ⟨ya, yc, ey, sy, ky, zy, _⟩ := sub_val (sl_of hb) (fun h => by cases h) hbc 10 E (by omega) (by omega)
  have hs3 : ∀ w1 : World, (Instr.sliceAt 22 (.slice (some ⟨bb, bo, none⟩) b.length bc) (some (.int .i64 2)) (some (.int .i64 10)) none).run Tryd.prog w1 = .ok (.slice na 8 nc) w1 := fun w1 => by
    rw [run_sub (some ⟨bb, bo, none⟩) b.length bc (some (.int .i64 2)) (some (.int .i64 10)) 2 10 w1 (lo_some rfl) (hi_some rfl) (by omega) (by omega) hbc, en]
  have hs4 : ∀ w1 : World, (Instr.sliceAt 22 (.slice (some ⟨bb, bo, none⟩) b.length bc) (some (.int .i64 10)) (some (.int .i64 (E : Int))) none).run Tryd.prog w1 = .ok (.slice ya (E - 10) yc) w1 := fun w1 => by
    rw [run_sub (some ⟨bb, bo, none⟩) b.length bc (some (.int .i64 10)) (some (.int .i64 (E : Int))) 10 E w1 (lo_some rfl) (hi_some rfl) (by omega) (by omega) hbc, ey]
  have HSN := Lib.hid (show Sl w na ((b.drop 2).take 8) from sn)
  have HSY := Lib.hid (show Sl w ya body by rw [hbody]; exact sy)
  have HYZ := Lib.hid zy
  have HNL := Lib.hid (show 8 = ((b.drop 2).take 8).length by rw [List.length_take, List.length_drop]; omega)
  have HNX := Lib.hid (show ∀ c ∈ (b.drop 2).take 8, c < 256 from fun c hc => hbx c (List.mem_of_mem_drop (List.mem_of_mem_take hc)))
  have HNM := Lib.hid hNN
  have HBO := Lib.hid (show E - 10 = body.length by rw [hbody, List.length_take, List.length_drop]; omega)
  have HBM := Lib.hid (show body.length ≤ 1000000 by rw [← HBO.out]; omega)
  have HMY := Lib.hid (show mayB (D0 : Int) (D1 : Int) NN body.length = true by rw [← HBO.out]; exact hmay)
  have i0 : (0 : Int) < (b.length : Int) := by omega
  have i1 : (1 : Int) < (b.length : Int) := by omega
  have i2 : 0 < b.length := by omega
  have i3 : 1 < b.length := by omega
  have g0 : D0 ≤ 100000 := by omega
  have g1 : D1 ≤ 100000 := by omega
  have u0 := wr_w D0 g0
  have u1 := wr_w D1 g1
  have u2 := wr_i D0 g0
  have u3 := wr_i D1 g1
  clear g0 g1
  have HU := Lib.hid (And.intro u0 (And.intro u1 (And.intro u2 u3)))
  have HI := Lib.hid (And.intro i0 (And.intro i1 (And.intro i2 i3)))
  have HS3 := Lib.hid (And.intro hs3 hs4)
  clear e0 e1 hD0 hD1 hNN hbody hmay en sn kn zn ey sy ky zy hs3 hs4 u0 u1 u2 u3 i0 i1 i2 i3
  clear hb hbx ks k0 kcap kl klen hne hTg hE hlen hbc hN pt1 pt2
  have n3 := wr_w E gE
  have n4 := wr_i E gE
  clear gE
  have HZ0 := Lib.hid (show (w.alloc (.cells #[.int .i64 0, .int .i64 0, .int .u64 0, .slice none 0 0] 40)).heap[w.heap.size]? = some (.cells #[.int .i64 0, .int .i64 0, .int .u64 0, .slice none 0 0] 40) from heap_alloc_last w _)
  have HB0 := Lib.hid ((Below.refl w.heap.size w).alloc (Nat.le_refl _) (.cells #[.int .i64 0, .int .i64 0, .int .u64 0, .slice none 0 0] 40))
  go_enter Tryd.func28, Tryd.ntmps28
  go_wp2
  generalize (w.alloc (.cells #[.int .i64 0, .int .i64 0, .int .u64 0, .slice none 0 0] 40)) = w0 at *
  have HKS0 := Lib.hid (sl_then HB0.out (Nat.le_refl _) HKS.out)
  have HP10 := Lib.hid (sl_then HB0.out (Nat.le_refl _) HP1.out.1)
  have HP20 := Lib.hid (sl_then HB0.out (Nat.le_refl _) HP2.out.1)
  clear n1 n2
  as_aux_lemma =>
    refine wp_region_held_drew (S := (fun W => Below w0.heap.size w0 W)) (by kernel_rfl) ?_ (fun hHeld => ?_)
    · ((try dsimp only); (first | (with_reducible exact hN) | (with_reducible exact hHeld) | exact (Below.refl _ _).drew | exact Below.refl _ _))
    refine wpAnyH_take (i := 0) (oi := { dst := some 15, op := Op.move (Operand.tmp 0), type := 22, pos := _, after := #[], guard := none }) (v := ?_) rfl (by kernel_rfl) (by kernel_rfl) (by kernel_rfl) (fun _ _ _ h => h) (Or.inl ⟨by rfl, ?_⟩) (by assumption) ?_
    rotate_left
    · ((intro w hSw); (try dsimp only at hSw); go_simp; (try with_reducible rfl))
    try simp only [Act.put, List.setIfInBounds_toArray, List.set_cons_zero, List.set_cons_succ]
    refine wpAnyH_take (i := 1) (oi := { dst := some 16, op := Op.move (Operand.tmp 1), type := 22, pos := _, after := #[], guard := none }) (v := ?_) rfl (by kernel_rfl) (by kernel_rfl) (by kernel_rfl) (fun _ _ _ h => h) (Or.inl ⟨by rfl, ?_⟩) (by assumption) ?_
    rotate_left
    · ((intro w hSw); (try dsimp only at hSw); go_simp; (try with_reducible rfl))
    try simp only [Act.put, List.setIfInBounds_toArray, List.set_cons_zero, List.set_cons_succ]
    refine wpAnyH_take (i := 2) (oi := { dst := some 17, op := Op.move (Operand.tmp 6), type := 3, pos := _, after := #[], guard := none }) (v := ?_) rfl (by kernel_rfl) (by kernel_rfl) (by kernel_rfl) (fun _ _ _ h => h) (Or.inl ⟨by rfl, ?_⟩) (by assumption) ?_
    rotate_left
    · ((intro w hSw); (try dsimp only at hSw); go_simp; (try with_reducible rfl))
    try simp only [Act.put, List.setIfInBounds_toArray, List.set_cons_zero, List.set_cons_succ]
    refine wpAnyH_take (i := 3) (oi := { dst := some 18, op := Op.slice 22 (Operand.tmp 16) none (some (Operand.tmp 17)) none, type := 22, pos := _, after := #[{ on := 1, ground := Ground.data }, { on := 2, ground := Ground.data }], guard := none }) (v := ?_) rfl (by kernel_rfl) (by kernel_rfl) (by kernel_rfl) (fun _ _ _ h => h) (Or.inl ⟨by rfl, ?_⟩) (by assumption) ?_
    rotate_left
    · ((intro w hSw); (try dsimp only at hSw); go_simp; (try with_reducible rfl))
    try simp only [Act.put, List.setIfInBounds_toArray, List.set_cons_zero, List.set_cons_succ]
    refine wpAnyH_take (i := 5) (oi := { dst := some 20, op := Op.move (Operand.tmp 1), type := 22, pos := _, after := #[], guard := none }) (v := ?_) rfl (by kernel_rfl) (by kernel_rfl) (by kernel_rfl) (fun _ _ _ h => h) (Or.inl ⟨by rfl, ?_⟩) (by assumption) ?_
    rotate_left
    · ((intro w hSw); (try dsimp only at hSw); go_simp; (try with_reducible rfl))
    try simp only [Act.put, List.setIfInBounds_toArray, List.set_cons_zero, List.set_cons_succ]
    refine wpAnyH_take (i := 6) (oi := { dst := some 21, op := Op.move (Operand.tmp 6), type := 3, pos := _, after := #[], guard := none }) (v := ?_) rfl (by kernel_rfl) (by kernel_rfl) (by kernel_rfl) (fun _ _ _ h => h) (Or.inl ⟨by rfl, ?_⟩) (by assumption) ?_
    rotate_left
    · ((intro w hSw); (try dsimp only at hSw); go_simp; (try with_reducible rfl))
    try simp only [Act.put, List.setIfInBounds_toArray, List.set_cons_zero, List.set_cons_succ]
    refine wpAnyH_take (i := 7) (oi := { dst := some 22, op := Op.slice 22 (Operand.tmp 20) (some (Operand.tmp 21)) none none, type := 22, pos := _, after := #[{ on := 5, ground := Ground.data }, { on := 6, ground := Ground.data }], guard := none }) (v := ?_) rfl (by kernel_rfl) (by kernel_rfl) (by kernel_rfl) (fun _ _ _ h => h) (Or.inl ⟨by rfl, ?_⟩) (by assumption) ?_
    rotate_left
    · ((intro w hSw); (try dsimp only at hSw); go_simp; (try with_reducible rfl))
    try simp only [Act.put, List.setIfInBounds_toArray, List.set_cons_zero, List.set_cons_succ]
    refine wpAnyH_ready (rs := [4]) (by kernel_rfl) (by simp) ?_
    refine (AllReadyH.cons (o := { dst := some 19, op := Op.call { callee := Callee.value (Operand.func 21), args := #[Operand.tmp 15, Operand.tmp 18], argTypes := #[22, 22] }, type := 22, pos := _, after := #[{ on := 0, ground := Ground.data }, { on := 3, ground := Ground.data }], guard := none }) rfl (fun K hK => ?_) AllReadyH.nil)
    go_simp
    (go_at_call 21; (with_reducible refine (dtgK ka key.length kc key T pa1 E pc1 (b.take E) _ HTG.out rfl HEL.out (sl_then hHeld (Nat.le_refl _) HKS0.out) HK0.out HKC.out HKX.out KL.out (sl_then hHeld (Nat.le_refl _) HP10.out) HP1.out.2.1 HP1.out.2.2.1 HP1.out.2.2.2 HBE8.out).mono ?_); rintro e w3 ⟨ta, tc, rfl, lg, _, _, ba⟩; have HTS := Lib.hid lg; have hN := below_then hHeld ba hHeld.size; clear ba lg)
    go_wp2_with fail
    refine hK.out _ _ ?_ (fun hHeld => ?_)
    · ((try dsimp only); (first | (with_reducible exact hN) | (with_reducible exact hHeld) | exact (Below.refl _ _).drew | exact Below.refl _ _))
    clear hK K
    try simp only [Act.put, List.setIfInBounds_toArray, List.set_cons_zero, List.set_cons_succ]
    refine wpAnyH_ready (rs := [8]) (by kernel_rfl) (by simp) ?_
    refine (AllReadyH.cons (o := { dst := some 23, op := Op.call { callee := Callee.value (Operand.func 15), args := #[Operand.tmp 19, Operand.tmp 22], argTypes := #[22, 22] }, type := 4, pos := _, after := #[{ on := 4, ground := Ground.data }, { on := 7, ground := Ground.data }, { on := 4, ground := Ground.chain }], guard := none }) rfl (fun K hK => ?_) AllReadyH.nil)
    go_simp
    (go_at_call 15; (with_reducible refine (bytesD ta pa2 tc pc2 16 16 T (b.drop E) _ true HTL.out HRL.out HTS.out (sl_then hHeld (Nat.le_refl _) HP20.out) HTX.out HP2.out.2.2.2 (by rw [HTG.out]; exact (decide_eq_true HNE.out).symm)).mono ?_); rintro e wb ⟨rfl, rfl⟩)
    go_wp2_with fail
    refine hK.out _ _ ?_ (fun hHeld => ?_)
    · ((try dsimp only); (first | (with_reducible exact hN) | (with_reducible exact hHeld) | exact (Below.refl _ _).drew | exact Below.refl _ _))
    clear hK K
    try simp only [Act.put, List.setIfInBounds_toArray, List.set_cons_zero, List.set_cons_succ]
    refine wpAnyH_take (i := 9) (oi := { dst := some 24, op := Op.unOp UnOp.not 4 (Operand.tmp 23), type := 4, pos := _, after := #[{ on := 8, ground := Ground.data }], guard := none }) (v := ?_) rfl (by kernel_rfl) (by kernel_rfl) (by kernel_rfl) (fun _ _ _ h => h) (Or.inl ⟨by rfl, ?_⟩) (by assumption) ?_
    rotate_left
    · ((intro w hSw); (try dsimp only at hSw); go_simp; (try with_reducible rfl))
    try simp only [Act.put, List.setIfInBounds_toArray, List.set_cons_zero, List.set_cons_succ]
    refine wpAnyH_done (by kernel_rfl) ?_ _
    have HBz := Lib.hid hHeld
    clear hs1 hs2 hN hHeld
    as_aux_lemma =>
      go_wp2
      generalize w3 = wz at *
      obtain ⟨hs3, hs4⟩ := HS3.out
      obtain ⟨u0, u1, u2, u3⟩ := HU.out
      obtain ⟨i0, i1, i2, i3⟩ := HI.out
      have HWZ := Lib.hid (below_then HB0.out HBz.out HB0.out.size)
      have HSYz := Lib.hid (sl_then HWZ.out (Nat.le_refl _) HSY.out)
      have HSNz := Lib.hid (sl_then HWZ.out (Nat.le_refl _) HSN.out)
      have KS := Lib.hid (show ∀ W, Below wz.heap.size wz W → W.cell? ⟨bb, bo, none⟩ = some (.int .u8 (D0 : Int)) ∧ W.cell? ⟨bb, bo + 1, none⟩ = some (.int .u8 (D1 : Int)) ∧ Below wz.heap.size wz W from fun W h => ⟨cell_then (below_then HWZ.out h HWZ.out.size) (Nat.le_refl _) HC00.out, cell_then (below_then HWZ.out h HWZ.out.size) (Nat.le_refl _) HC01.out, h⟩)
      have KB := Lib.hid (show ∀ W, (W.cell? ⟨bb, bo, none⟩ = some (.int .u8 (D0 : Int)) ∧ W.cell? ⟨bb, bo + 1, none⟩ = some (.int .u8 (D1 : Int)) ∧ Below wz.heap.size wz W) → Below wz.heap.size wz W from fun W h => h.2.2)
      clear HTS
      refine wp_region_held_drew (S := (fun W => W.cell? ⟨bb, bo, none⟩ = some (.int .u8 (D0 : Int)) ∧ W.cell? ⟨bb, bo + 1, none⟩ = some (.int .u8 (D1 : Int)) ∧ Below wz.heap.size wz W)) (by kernel_rfl) ?_ (fun hHeld => ?_)
      · ((try dsimp only); (first | (with_reducible exact KS.out _ hN) | (with_reducible exact hHeld) | exact KS.out _ (Below.refl _ _).drew | exact KS.out _ (Below.alloc (KB.out _ hHeld) (KB.out _ hHeld).size _) | exact KS.out _ hN))
      refine wpAnyH_take (i := 0) (oi := { dst := some 26, op := Op.move (Operand.tmp 1), type := 22, pos := _, after := #[], guard := none }) (v := ?_) rfl (by kernel_rfl) (by kernel_rfl) (by kernel_rfl) (fun _ _ _ h => h) (Or.inl ⟨by rfl, ?_⟩) (by assumption) ?_
      rotate_left
      · ((intro w hSw); (try dsimp only at hSw); go_simp; (try with_reducible rfl))
      try simp only [Act.put, List.setIfInBounds_toArray, List.set_cons_zero, List.set_cons_succ]
      refine wpAnyH_take (i := 1) (oi := { dst := some 27, op := Op.indexAddr 22 (Operand.tmp 26) (Operand.const (Value.int IntKind.i64 0)), type := 0, pos := _, after := #[{ on := 0, ground := Ground.data }], guard := none }) (v := ?_) rfl (by kernel_rfl) (by kernel_rfl) (by kernel_rfl) (fun _ _ _ h => h) (Or.inl ⟨by rfl, ?_⟩) (by assumption) ?_
      rotate_left
      · ((intro w hSw); (try dsimp only at hSw); go_simp; (try with_reducible rfl))
      try simp only [Act.put, List.setIfInBounds_toArray, List.set_cons_zero, List.set_cons_succ]
      refine wpAnyH_take (i := 2) (oi := { dst := some 28, op := Op.load 5 (Operand.tmp 27), type := 5, pos := _, after := #[{ on := 1, ground := Ground.data }], guard := none }) (v := ?_) rfl (by kernel_rfl) (by kernel_rfl) (by kernel_rfl) (fun _ _ _ h => h) (Or.inl ⟨by rfl, ?_⟩) (by assumption) ?_
      rotate_left
      · ((intro w hSw); (try dsimp only at hSw); go_simp; (try with_reducible rfl))
      try simp only [Act.put, List.setIfInBounds_toArray, List.set_cons_zero, List.set_cons_succ]
      refine wpAnyH_take (i := 3) (oi := { dst := some 29, op := Op.convert 5 3 (Operand.tmp 28), type := 3, pos := _, after := #[{ on := 2, ground := Ground.data }], guard := none }) (v := ?_) rfl (by kernel_rfl) (by kernel_rfl) (by kernel_rfl) (fun _ _ _ h => h) (Or.inl ⟨by rfl, ?_⟩) (by assumption) ?_
      rotate_left
      · ((intro w hSw); (try dsimp only at hSw); go_simp; (try with_reducible rfl))
      try simp only [Act.put, List.setIfInBounds_toArray, List.set_cons_zero, List.set_cons_succ]
      refine wpAnyH_take (i := 4) (oi := { dst := some 30, op := Op.move (Operand.tmp 1), type := 22, pos := _, after := #[], guard := none }) (v := ?_) rfl (by kernel_rfl) (by kernel_rfl) (by kernel_rfl) (fun _ _ _ h => h) (Or.inl ⟨by rfl, ?_⟩) (by assumption) ?_
      rotate_left
      · ((intro w hSw); (try dsimp only at hSw); go_simp; (try with_reducible rfl))
      try simp only [Act.put, List.setIfInBounds_toArray, List.set_cons_zero, List.set_cons_succ]
      refine wpAnyH_take (i := 5) (oi := { dst := some 31, op := Op.indexAddr 22 (Operand.tmp 30) (Operand.const (Value.int IntKind.i64 1)), type := 0, pos := _, after := #[{ on := 4, ground := Ground.data }], guard := none }) (v := ?_) rfl (by kernel_rfl) (by kernel_rfl) (by kernel_rfl) (fun _ _ _ h => h) (Or.inl ⟨by rfl, ?_⟩) (by assumption) ?_
      rotate_left
      · ((intro w hSw); (try dsimp only at hSw); go_simp; (try with_reducible rfl))
      try simp only [Act.put, List.setIfInBounds_toArray, List.set_cons_zero, List.set_cons_succ]
      refine wpAnyH_take (i := 6) (oi := { dst := some 32, op := Op.load 5 (Operand.tmp 31), type := 5, pos := _, after := #[{ on := 5, ground := Ground.data }], guard := none }) (v := ?_) rfl (by kernel_rfl) (by kernel_rfl) (by kernel_rfl) (fun _ _ _ h => h) (Or.inl ⟨by rfl, ?_⟩) (by assumption) ?_
      rotate_left
      · ((intro w hSw); (try dsimp only at hSw); go_simp; (try with_reducible rfl))
      try simp only [Act.put, List.setIfInBounds_toArray, List.set_cons_zero, List.set_cons_succ]
      refine wpAnyH_take (i := 7) (oi := { dst := some 33, op := Op.convert 5 3 (Operand.tmp 32), type := 3, pos := _, after := #[{ on := 6, ground := Ground.data }], guard := none }) (v := ?_) rfl (by kernel_rfl) (by kernel_rfl) (by kernel_rfl) (fun _ _ _ h => h) (Or.inl ⟨by rfl, ?_⟩) (by assumption) ?_
      rotate_left
      · ((intro w hSw); (try dsimp only at hSw); go_simp; (try with_reducible rfl))
      try simp only [Act.put, List.setIfInBounds_toArray, List.set_cons_zero, List.set_cons_succ]
      refine wpAnyH_take (i := 8) (oi := { dst := some 34, op := Op.move (Operand.tmp 1), type := 22, pos := _, after := #[], guard := none }) (v := ?_) rfl (by kernel_rfl) (by kernel_rfl) (by kernel_rfl) (fun _ _ _ h => h) (Or.inl ⟨by rfl, ?_⟩) (by assumption) ?_
      rotate_left
      · ((intro w hSw); (try dsimp only at hSw); go_simp; (try with_reducible rfl))
      try simp only [Act.put, List.setIfInBounds_toArray, List.set_cons_zero, List.set_cons_succ]
      refine wpAnyH_take (i := 9) (oi := { dst := some 35, op := Op.slice 22 (Operand.tmp 34) (some (Operand.const (Value.int IntKind.i64 2))) (some (Operand.const (Value.int IntKind.i64 10))) none, type := 22, pos := _, after := #[{ on := 8, ground := Ground.data }], guard := none }) (v := ?_) rfl (by kernel_rfl) (by kernel_rfl) (by kernel_rfl) (fun _ _ _ h => h) (Or.inl ⟨by rfl, ?_⟩) (by assumption) ?_
      rotate_left
      · ((intro w hSw); (try dsimp only at hSw); go_simp; (try with_reducible rfl))
      try simp only [Act.put, List.setIfInBounds_toArray, List.set_cons_zero, List.set_cons_succ]
      refine wpAnyH_take (i := 11) (oi := { dst := some 37, op := Op.move (Operand.tmp 1), type := 22, pos := _, after := #[], guard := none }) (v := ?_) rfl (by kernel_rfl) (by kernel_rfl) (by kernel_rfl) (fun _ _ _ h => h) (Or.inl ⟨by rfl, ?_⟩) (by assumption) ?_
      rotate_left
      · ((intro w hSw); (try dsimp only at hSw); go_simp; (try with_reducible rfl))
      try simp only [Act.put, List.setIfInBounds_toArray, List.set_cons_zero, List.set_cons_succ]
      refine wpAnyH_take (i := 12) (oi := { dst := some 38, op := Op.move (Operand.tmp 6), type := 3, pos := _, after := #[], guard := none }) (v := ?_) rfl (by kernel_rfl) (by kernel_rfl) (by kernel_rfl) (fun _ _ _ h => h) (Or.inl ⟨by rfl, ?_⟩) (by assumption) ?_
      rotate_left
      · ((intro w hSw); (try dsimp only at hSw); go_simp; (try with_reducible rfl))
      try simp only [Act.put, List.setIfInBounds_toArray, List.set_cons_zero, List.set_cons_succ]
      refine wpAnyH_take (i := 13) (oi := { dst := some 39, op := Op.slice 22 (Operand.tmp 37) (some (Operand.const (Value.int IntKind.i64 10))) (some (Operand.tmp 38)) none, type := 22, pos := _, after := #[{ on := 11, ground := Ground.data }, { on := 12, ground := Ground.data }], guard := none }) (v := ?_) rfl (by kernel_rfl) (by kernel_rfl) (by kernel_rfl) (fun _ _ _ h => h) (Or.inl ⟨by rfl, ?_⟩) (by assumption) ?_
      rotate_left
      · ((intro w hSw); (try dsimp only at hSw); go_simp; (try with_reducible rfl))
      try simp only [Act.put, List.setIfInBounds_toArray, List.set_cons_zero, List.set_cons_succ]
      refine wpAnyH_ready (rs := [10, 16]) (by kernel_rfl) (by simp) ?_
      refine (AllReadyH.cons (o := { dst := some 36, op := Op.call { callee := Callee.value (Operand.func 56), args := #[Operand.tmp 35], argTypes := #[22] }, type := 33, pos := _, after := #[{ on := 9, ground := Ground.data }], guard := none }) rfl (fun K hK => ?_) (AllReadyH.cons (o := { dst := some 7, op := Op.alloc 40, type := 0, pos := _, after := #[], guard := none }) rfl (fun K hK => ?_) AllReadyH.nil))
      · skip
        go_simp
        (go_at_call 56; (with_reducible refine (bigC na 8 nc ((b.drop 2).take 8) _ HNL.out (by rw [← HNL.out]; decide) HNX.out (sl_then (KB.out _ hHeld) (Nat.le_refl _) HSNz.out)).mono ?_); rintro e wb ⟨rfl, rfl⟩; rw [← HNM.out])
        go_wp2_with fail
        refine hK.out _ _ ?_ (fun hHeld => ?_)
        · ((try dsimp only); (first | (with_reducible exact KS.out _ hN) | (with_reducible exact hHeld) | exact KS.out _ (Below.refl _ _).drew | exact KS.out _ (Below.alloc (KB.out _ hHeld) (KB.out _ hHeld).size _) | exact KS.out _ hN))
        clear hK K
        try simp only [Act.put, List.setIfInBounds_toArray, List.set_cons_zero, List.set_cons_succ]
        refine wpAnyH_ready (rs := [14, 16]) (by kernel_rfl) (by simp) ?_
        refine (AllReadyH.cons (o := { dst := some 40, op := Op.call { callee := Callee.value (Operand.func 14), args := #[Operand.tmp 39], argTypes := #[22] }, type := 22, pos := _, after := #[{ on := 13, ground := Ground.data }, { on := 10, ground := Ground.chain }], guard := none }) rfl (fun K hK => ?_) (AllReadyH.cons (o := { dst := some 7, op := Op.alloc 40, type := 0, pos := _, after := #[], guard := none }) rfl (fun K hK => ?_) AllReadyH.nil))
        · skip
          go_simp
          go_at_call 14
          refine (copyG ya yc (E - 10) body _ HBO.out HBM.out (sl_then (KB.out _ hHeld) (Nat.le_refl _) HSYz.out) HYZ.out).mono ?_
          rintro e w9 ⟨v9, rfl, o9, b9⟩
          have O9 := Lib.hid (rb_base o9 (KB.out _ hHeld).size)
          have O9B := Lib.hid o9
          obtain ⟨ra, rc, rfl, _, hr9, _, hx9⟩ := rb_sl o9
          have HR9 := Lib.hid hr9
          have HRX := Lib.hid hx9
          have HRN := Lib.hid (show ∀ x, ra = some x → x.block ≠ w.heap.size from fun x hx => Nat.ne_of_gt (Nat.lt_of_lt_of_le (Array.getElem?_eq_some_iff.1 HZ0.out).1 (Nat.le_trans HBz.out.size (Nat.le_trans (KB.out _ hHeld).size (hx9 x hx).1))))
          have hN := below_then (KB.out _ hHeld) b9 (KB.out _ hHeld).size
          clear o9 b9 hr9 hx9
          go_wp2_with fail
          refine hK.out _ _ ?_ (fun hHeld => ?_)
          · ((try dsimp only); (first | (with_reducible exact KS.out _ hN) | (with_reducible exact hHeld) | exact KS.out _ (Below.refl _ _).drew | exact KS.out _ (Below.alloc (KB.out _ hHeld) (KB.out _ hHeld).size _) | exact KS.out _ hN))
          clear hK K
          try simp only [Act.put, List.setIfInBounds_toArray, List.set_cons_zero, List.set_cons_succ]
          refine wpAnyH_take (i := 15) (oi := { dst := some 41, op := Op.build 40 #[(0, Operand.tmp 29), (1, Operand.tmp 33), (2, Operand.tmp 36), (3, Operand.tmp 40)], type := 40, pos := _, after := #[{ on := 3, ground := Ground.data }, { on := 7, ground := Ground.data }, { on := 10, ground := Ground.data }, { on := 14, ground := Ground.data }], guard := none }) (v := ?_) rfl (by kernel_rfl) (by kernel_rfl) (by kernel_rfl) (fun _ _ _ h => h) (Or.inl ⟨by rfl, ?_⟩) (by assumption) ?_
          rotate_left
          · ((intro w hSw); (try dsimp only at hSw); go_simp; (try with_reducible rfl))
          try simp only [Act.put, List.setIfInBounds_toArray, List.set_cons_zero, List.set_cons_succ]
          refine wpAnyH_ready (rs := [16]) (by kernel_rfl) (by simp) ?_
          refine (AllReadyH.cons (o := { dst := some 7, op := Op.alloc 40, type := 0, pos := _, after := #[], guard := none }) rfl (fun K hK => ?_) AllReadyH.nil)
          go_simp
          refine hK.out _ _ ?_ (fun hHeld => ?_)
          · ((try dsimp only); (first | (with_reducible exact KS.out _ hN) | (with_reducible exact hHeld) | exact KS.out _ (Below.refl _ _).drew | exact KS.out _ (Below.alloc (KB.out _ hHeld) (KB.out _ hHeld).size _) | exact KS.out _ hN))
          clear hK K
          try simp only [Act.put, List.setIfInBounds_toArray, List.set_cons_zero, List.set_cons_succ]
          refine wpAnyH_ready (rs := [17]) (by kernel_rfl) (by simp) ?_
          refine (AllReadyH.cons (o := { dst := none, op := Op.store 40 (Operand.tmp 7) (Operand.tmp 41), type := 0, pos := _, after := #[{ on := 16, ground := Ground.data }, { on := 15, ground := Ground.data }, { on := 14, ground := Ground.chain }, { on := 0, ground := Ground.phase }, { on := 1, ground := Ground.phase }, { on := 2, ground := Ground.phase }, { on := 3, ground := Ground.phase }, { on := 4, ground := Ground.phase }, { on := 5, ground := Ground.phase }, { on := 6, ground := Ground.phase }, { on := 7, ground := Ground.phase }, { on := 8, ground := Ground.phase }, { on := 9, ground := Ground.phase }, { on := 10, ground := Ground.phase }, { on := 11, ground := Ground.phase }, { on := 12, ground := Ground.phase }, { on := 13, ground := Ground.phase }, { on := 14, ground := Ground.phase }, { on := 15, ground := Ground.phase }, { on := 16, ground := Ground.phase }], guard := none }) rfl (fun K hK => ?_) AllReadyH.nil)
          refine wp_store_row 40 (.tmp 7) (.tmp 41) rfl (w9.heap.size) #[.int .i64 (D0 : Int), .int .i64 (D1 : Int), .int .u64 (NN : Int), .slice ra body.length rc] rfl rfl 40 _ (heap_alloc_last w9 _) (by kernel_rfl) rfl (all4 _ _ _ _ _ _ _ _ _) ?_
          have Z7 := Lib.hid (setRow_heap (w9.alloc (.cells #[.int .i64 0, .int .i64 0, .int .u64 0, .slice none 0 0] 40)) (w9.heap.size) _ #[.int .i64 (D0 : Int), .int .i64 (D1 : Int), .int .u64 (NN : Int), .slice ra body.length rc] 40 _ (heap_alloc_last w9 _))
          have hgz : wz.heap.size ≤ w9.heap.size := by exact hN.size
          have B7 := Lib.hid (below_setRow (hN.alloc hN.size (.cells #[.int .i64 0, .int .i64 0, .int .u64 0, .slice none 0 0] 40)) hgz #[.int .i64 (D0 : Int), .int .i64 (D1 : Int), .int .u64 (NN : Int), .slice ra body.length rc])
          have S7 := Lib.hid (show Sl ((w9.alloc (.cells #[.int .i64 0, .int .i64 0, .int .u64 0, .slice none 0 0] 40)).setRow (w9.heap.size) #[.int .i64 (D0 : Int), .int .i64 (D1 : Int), .int .u64 (NN : Int), .slice ra body.length rc]) ra body from sl_setRow (sl_alloc HR9.out _) (fun x hx => Nat.ne_of_lt (HRX.out x hx).2) #[.int .i64 (D0 : Int), .int .i64 (D1 : Int), .int .u64 (NN : Int), .slice ra body.length rc])
          have HGZ := Lib.hid hgz
          clear hN hgz
          have HB7 := Lib.hid (below_then HBz.out B7.out HBz.out.size)
          have HNN := Lib.hid B7.out
          have hN := B7.out
          first | generalize ((w9.alloc (.cells #[.int .i64 0, .int .i64 0, .int .u64 0, .slice none 0 0] 40)).setRow (w9.heap.size) #[.int .i64 (D0 : Int), .int .i64 (D1 : Int), .int .u64 (NN : Int), .slice ra body.length rc]) = w7 at * | skip
          generalize w9.heap.size = g7 at *
          refine hK.out _ _ ?_ (fun hHeld => ?_)
          · ((try dsimp only); (first | (with_reducible exact KS.out _ hN) | (with_reducible exact hHeld) | exact KS.out _ (Below.refl _ _).drew | exact KS.out _ (Below.alloc (KB.out _ hHeld) (KB.out _ hHeld).size _) | exact KS.out _ hN))
          clear hK K
          try simp only [Act.put]
          refine wpAnyH_done (by kernel_rfl) ?_ _
          clear hN hHeld u0 u1 u2 u3 i0 i1 i2 i3 hs3 hs4 n3 n4 l0 l1
          as_aux_lemma =>
            have p0 : w7.cell? ⟨g7, 0, none⟩ = some (.int .i64 (D0 : Int)) := by rw [cell_of_row w7 g7 0 _ 40 _ Z7.out]; rfl
            have p1 : w7.cell? ⟨g7, 1, none⟩ = some (.int .i64 (D1 : Int)) := by rw [cell_of_row w7 g7 1 _ 40 _ Z7.out]; rfl
            have p2 : w7.cell? ⟨g7, 2, none⟩ = some (.int .u64 (NN : Int)) := by rw [cell_of_row w7 g7 2 _ 40 _ Z7.out]; rfl
            have p3 : w7.cell? ⟨g7, 3, none⟩ = some (.slice ra body.length rc) := by rw [cell_of_row w7 g7 3 _ 40 _ Z7.out]; rfl
            go_wp2_with (go_at_call 31; (with_reducible refine (dmayE (D0 : Int) (D1 : Int) NN ra body.length rc body w7 true rfl HMY.out).mono ?_); rintro e w8 ⟨rfl, b8⟩; have HB8 := Lib.hid (below_then HB7.out b8 HB7.out.size); have zR : w8.heap[w.heap.size]? = some (.cells #[.int .i64 0, .int .i64 0, .int .u64 0, .slice none 0 0] 40) := (by rw [HB8.out.block _ (Array.getElem?_eq_some_iff.1 HZ0.out).1]; exact HZ0.out); have z8 : w8.heap[g7]? = some (.cells #[.int .i64 (D0 : Int), .int .i64 (D1 : Int), .int .u64 (NN : Int), .slice ra body.length rc] 40) := (by rw [b8.block _ (Array.getElem?_eq_some_iff.1 Z7.out).1]; exact Z7.out); have d0 : w8.cell? ⟨w.heap.size, 0, none⟩ = some (.int .i64 0) := (by rw [cell_of_row w8 w.heap.size 0 _ 40 _ zR]; rfl); have df0 := frozen_of_row w8 w.heap.size 0 _ 40 zR; have d1 : w8.cell? ⟨w.heap.size, 1, none⟩ = some (.int .i64 0) := (by rw [cell_of_row w8 w.heap.size 1 _ 40 _ zR]; rfl); have df1 := frozen_of_row w8 w.heap.size 1 _ 40 zR; have d2 : w8.cell? ⟨w.heap.size, 2, none⟩ = some (.int .u64 0) := (by rw [cell_of_row w8 w.heap.size 2 _ 40 _ zR]; rfl); have df2 := frozen_of_row w8 w.heap.size 2 _ 40 zR; have d3 : w8.cell? ⟨w.heap.size, 3, none⟩ = some (.slice none 0 0) := (by rw [cell_of_row w8 w.heap.size 3 _ 40 _ zR]; rfl); have df3 := frozen_of_row w8 w.heap.size 3 _ 40 zR; clear p0 p1 p2 p3; have p0 : w8.cell? ⟨g7, 0, none⟩ = some (.int .i64 (D0 : Int)) := (by rw [cell_of_row w8 g7 0 _ 40 _ z8]; rfl); have p1 : w8.cell? ⟨g7, 1, none⟩ = some (.int .i64 (D1 : Int)) := (by rw [cell_of_row w8 g7 1 _ 40 _ z8]; rfl); have p2 : w8.cell? ⟨g7, 2, none⟩ = some (.int .u64 (NN : Int)) := (by rw [cell_of_row w8 g7 2 _ 40 _ z8]; rfl); have p3 : w8.cell? ⟨g7, 3, none⟩ = some (.slice ra body.length rc) := (by rw [cell_of_row w8 g7 3 _ 40 _ z8]; rfl); have HZR := Lib.hid zR; have HS8 := Lib.hid (sl_then b8 (Nat.le_refl _) S7.out); clear b8 zR z8)
            have Zf := pk_st HZR.out (.int .i64 (D0 : Int)) (.int .i64 (D1 : Int)) (.int .u64 (NN : Int)) (.slice ra body.length rc)
            have BF := Lib.hid (show Below w.heap.size w ((((w8.setCell ⟨w.heap.size, 0, none⟩ (.int .i64 (D0 : Int))).setCell ⟨w.heap.size, 1, none⟩ (.int .i64 (D1 : Int))).setCell ⟨w.heap.size, 2, none⟩ (.int .u64 (NN : Int))).setCell ⟨w.heap.size, 3, none⟩ (.slice ra body.length rc)) from ((((below_then HB0.out HB8.out HB0.out.size).setCell (Nat.le_refl _) _).setCell (Nat.le_refl _) _).setCell (Nat.le_refl _) _).setCell (Nat.le_refl _) _)
            have RF := Lib.hid (show Sl ((((w8.setCell ⟨w.heap.size, 0, none⟩ (.int .i64 (D0 : Int))).setCell ⟨w.heap.size, 1, none⟩ (.int .i64 (D1 : Int))).setCell ⟨w.heap.size, 2, none⟩ (.int .u64 (NN : Int))).setCell ⟨w.heap.size, 3, none⟩ (.slice ra body.length rc)) ra body from sl_st4 HS8.out HRN.out _ _ _ _)
            generalize ((((w8.setCell ⟨w.heap.size, 0, none⟩ (.int .i64 (D0 : Int))).setCell ⟨w.heap.size, 1, none⟩ (.int .i64 (D1 : Int))).setCell ⟨w.heap.size, 2, none⟩ (.int .u64 (NN : Int))).setCell ⟨w.heap.size, 3, none⟩ (.slice ra body.length rc)) = WF at *
            have q0 : WF.cell? ⟨w.heap.size, 0, none⟩ = some (.int .i64 (D0 : Int)) := by rw [cell_of_row WF w.heap.size 0 _ 40 _ Zf]; rfl
            have q1 : WF.cell? ⟨w.heap.size, 1, none⟩ = some (.int .i64 (D1 : Int)) := by rw [cell_of_row WF w.heap.size 1 _ 40 _ Zf]; rfl
            have q2 : WF.cell? ⟨w.heap.size, 2, none⟩ = some (.int .u64 (NN : Int)) := by rw [cell_of_row WF w.heap.size 2 _ 40 _ Zf]; rfl
            have q3 : WF.cell? ⟨w.heap.size, 3, none⟩ = some (.slice ra body.length rc) := by rw [cell_of_row WF w.heap.size 3 _ 40 _ Zf]; rfl
            exact bodyPost_ret (v := .tuple #[.agg #[.int .i64 (D0 : Int), .int .i64 (D1 : Int), .int .u64 (NN : Int), .slice ra body.length rc], .int .i64 0]) (by simp [results, Tryd.results28, go_sem, q0, q1, q2, q3]) rfl (⟨ra, rc, rfl, RF.out, BF.out⟩)
        · skip
          go_simp
          refine hK.out _ _ ?_ (fun hHeld => ?_)
          · ((try dsimp only); (first | (with_reducible exact KS.out _ hN) | (with_reducible exact hHeld) | exact KS.out _ (Below.refl _ _).drew | exact KS.out _ (Below.alloc (KB.out _ hHeld) (KB.out _ hHeld).size _) | exact KS.out _ hN))
          clear hK K
          try simp only [Act.put, List.setIfInBounds_toArray, List.set_cons_zero, List.set_cons_succ]
          refine wpAnyH_ready (rs := [14]) (by kernel_rfl) (by simp) ?_
          refine (AllReadyH.cons (o := { dst := some 40, op := Op.call { callee := Callee.value (Operand.func 14), args := #[Operand.tmp 39], argTypes := #[22] }, type := 22, pos := _, after := #[{ on := 13, ground := Ground.data }, { on := 10, ground := Ground.chain }], guard := none }) rfl (fun K hK => ?_) AllReadyH.nil)
          go_simp
          go_at_call 14
          refine (copyG ya yc (E - 10) body _ HBO.out HBM.out (sl_then (KB.out _ hHeld) (Nat.le_refl _) HSYz.out) HYZ.out).mono ?_
          rintro e w9 ⟨v9, rfl, o9, b9⟩
          have HG7 := Lib.hid (show w9.heap[wz.heap.size]? = some (.cells #[.int .i64 0, .int .i64 0, .int .u64 0, .slice none 0 0] 40) from (b9.block wz.heap.size (by simp)).trans (heap_alloc_last wz _))
          have O9 := Lib.hid (rb_base o9 (KB.out _ hHeld).size)
          have O9B := Lib.hid o9
          obtain ⟨ra, rc, rfl, _, hr9, _, hx9⟩ := rb_sl o9
          have HR9 := Lib.hid hr9
          have HRX := Lib.hid hx9
          have HRN := Lib.hid (show ∀ x, ra = some x → x.block ≠ w.heap.size from fun x hx => Nat.ne_of_gt (Nat.lt_of_lt_of_le (Array.getElem?_eq_some_iff.1 HZ0.out).1 (Nat.le_trans HBz.out.size (Nat.le_trans (KB.out _ hHeld).size (hx9 x hx).1))))
          have hN := below_then (KB.out _ hHeld) b9 (KB.out _ hHeld).size
          clear o9 b9 hr9 hx9
          go_wp2_with fail
          refine hK.out _ _ ?_ (fun hHeld => ?_)
          · ((try dsimp only); (first | (with_reducible exact KS.out _ hN) | (with_reducible exact hHeld) | exact KS.out _ (Below.refl _ _).drew | exact KS.out _ (Below.alloc (KB.out _ hHeld) (KB.out _ hHeld).size _) | exact KS.out _ hN))
          clear hK K
          try simp only [Act.put, List.setIfInBounds_toArray, List.set_cons_zero, List.set_cons_succ]
          refine wpAnyH_take (i := 15) (oi := { dst := some 41, op := Op.build 40 #[(0, Operand.tmp 29), (1, Operand.tmp 33), (2, Operand.tmp 36), (3, Operand.tmp 40)], type := 40, pos := _, after := #[{ on := 3, ground := Ground.data }, { on := 7, ground := Ground.data }, { on := 10, ground := Ground.data }, { on := 14, ground := Ground.data }], guard := none }) (v := ?_) rfl (by kernel_rfl) (by kernel_rfl) (by kernel_rfl) (fun _ _ _ h => h) (Or.inl ⟨by rfl, ?_⟩) (by assumption) ?_
          rotate_left
          · ((intro w hSw); (try dsimp only at hSw); go_simp; (try with_reducible rfl))
          try simp only [Act.put, List.setIfInBounds_toArray, List.set_cons_zero, List.set_cons_succ]
          refine wpAnyH_ready (rs := [17]) (by kernel_rfl) (by simp) ?_
          refine (AllReadyH.cons (o := { dst := none, op := Op.store 40 (Operand.tmp 7) (Operand.tmp 41), type := 0, pos := _, after := #[{ on := 16, ground := Ground.data }, { on := 15, ground := Ground.data }, { on := 14, ground := Ground.chain }, { on := 0, ground := Ground.phase }, { on := 1, ground := Ground.phase }, { on := 2, ground := Ground.phase }, { on := 3, ground := Ground.phase }, { on := 4, ground := Ground.phase }, { on := 5, ground := Ground.phase }, { on := 6, ground := Ground.phase }, { on := 7, ground := Ground.phase }, { on := 8, ground := Ground.phase }, { on := 9, ground := Ground.phase }, { on := 10, ground := Ground.phase }, { on := 11, ground := Ground.phase }, { on := 12, ground := Ground.phase }, { on := 13, ground := Ground.phase }, { on := 14, ground := Ground.phase }, { on := 15, ground := Ground.phase }, { on := 16, ground := Ground.phase }], guard := none }) rfl (fun K hK => ?_) AllReadyH.nil)
          refine wp_store_row 40 (.tmp 7) (.tmp 41) rfl (wz.heap.size) #[.int .i64 (D0 : Int), .int .i64 (D1 : Int), .int .u64 (NN : Int), .slice ra body.length rc] rfl rfl 40 _ (HG7.out) (by kernel_rfl) rfl (all4 _ _ _ _ _ _ _ _ _) ?_
          have Z7 := Lib.hid (setRow_heap w9 (wz.heap.size) _ #[.int .i64 (D0 : Int), .int .i64 (D1 : Int), .int .u64 (NN : Int), .slice ra body.length rc] 40 _ (HG7.out))
          have hgz : wz.heap.size ≤ wz.heap.size := by exact Nat.le_refl _
          have B7 := Lib.hid (below_setRow hN hgz #[.int .i64 (D0 : Int), .int .i64 (D1 : Int), .int .u64 (NN : Int), .slice ra body.length rc])
          have S7 := Lib.hid (show Sl (w9.setRow (wz.heap.size) #[.int .i64 (D0 : Int), .int .i64 (D1 : Int), .int .u64 (NN : Int), .slice ra body.length rc]) ra body from sl_setRow HR9.out (fun x hx => ne_al (w := wz) (o := .cells #[.int .i64 0, .int .i64 0, .int .u64 0, .slice none 0 0] 40) (HRX.out x hx).1) #[.int .i64 (D0 : Int), .int .i64 (D1 : Int), .int .u64 (NN : Int), .slice ra body.length rc])
          have HGZ := Lib.hid hgz
          clear hN hgz
          have HB7 := Lib.hid (below_then HBz.out B7.out HBz.out.size)
          have HNN := Lib.hid B7.out
          have hN := B7.out
          generalize (w9.setRow (wz.heap.size) #[.int .i64 (D0 : Int), .int .i64 (D1 : Int), .int .u64 (NN : Int), .slice ra body.length rc]) = w7 at *
          generalize wz.heap.size = g7 at *
          refine hK.out _ _ ?_ (fun hHeld => ?_)
          · ((try dsimp only); (first | (with_reducible exact KS.out _ hN) | (with_reducible exact hHeld) | exact KS.out _ (Below.refl _ _).drew | exact KS.out _ (Below.alloc (KB.out _ hHeld) (KB.out _ hHeld).size _) | exact KS.out _ hN))
          clear hK K
          try simp only [Act.put]
          refine wpAnyH_done (by kernel_rfl) ?_ _
          clear hN hHeld u0 u1 u2 u3 i0 i1 i2 i3 hs3 hs4 n3 n4 l0 l1
          as_aux_lemma =>
            have p0 : w7.cell? ⟨g7, 0, none⟩ = some (.int .i64 (D0 : Int)) := by rw [cell_of_row w7 g7 0 _ 40 _ Z7.out]; rfl
            have p1 : w7.cell? ⟨g7, 1, none⟩ = some (.int .i64 (D1 : Int)) := by rw [cell_of_row w7 g7 1 _ 40 _ Z7.out]; rfl
            have p2 : w7.cell? ⟨g7, 2, none⟩ = some (.int .u64 (NN : Int)) := by rw [cell_of_row w7 g7 2 _ 40 _ Z7.out]; rfl
            have p3 : w7.cell? ⟨g7, 3, none⟩ = some (.slice ra body.length rc) := by rw [cell_of_row w7 g7 3 _ 40 _ Z7.out]; rfl
            go_wp2_with (go_at_call 31; (with_reducible refine (dmayE (D0 : Int) (D1 : Int) NN ra body.length rc body w7 true rfl HMY.out).mono ?_); rintro e w8 ⟨rfl, b8⟩; have HB8 := Lib.hid (below_then HB7.out b8 HB7.out.size); have zR : w8.heap[w.heap.size]? = some (.cells #[.int .i64 0, .int .i64 0, .int .u64 0, .slice none 0 0] 40) := (by rw [HB8.out.block _ (Array.getElem?_eq_some_iff.1 HZ0.out).1]; exact HZ0.out); have z8 : w8.heap[g7]? = some (.cells #[.int .i64 (D0 : Int), .int .i64 (D1 : Int), .int .u64 (NN : Int), .slice ra body.length rc] 40) := (by rw [b8.block _ (Array.getElem?_eq_some_iff.1 Z7.out).1]; exact Z7.out); have d0 : w8.cell? ⟨w.heap.size, 0, none⟩ = some (.int .i64 0) := (by rw [cell_of_row w8 w.heap.size 0 _ 40 _ zR]; rfl); have df0 := frozen_of_row w8 w.heap.size 0 _ 40 zR; have d1 : w8.cell? ⟨w.heap.size, 1, none⟩ = some (.int .i64 0) := (by rw [cell_of_row w8 w.heap.size 1 _ 40 _ zR]; rfl); have df1 := frozen_of_row w8 w.heap.size 1 _ 40 zR; have d2 : w8.cell? ⟨w.heap.size, 2, none⟩ = some (.int .u64 0) := (by rw [cell_of_row w8 w.heap.size 2 _ 40 _ zR]; rfl); have df2 := frozen_of_row w8 w.heap.size 2 _ 40 zR; have d3 : w8.cell? ⟨w.heap.size, 3, none⟩ = some (.slice none 0 0) := (by rw [cell_of_row w8 w.heap.size 3 _ 40 _ zR]; rfl); have df3 := frozen_of_row w8 w.heap.size 3 _ 40 zR; clear p0 p1 p2 p3; have p0 : w8.cell? ⟨g7, 0, none⟩ = some (.int .i64 (D0 : Int)) := (by rw [cell_of_row w8 g7 0 _ 40 _ z8]; rfl); have p1 : w8.cell? ⟨g7, 1, none⟩ = some (.int .i64 (D1 : Int)) := (by rw [cell_of_row w8 g7 1 _ 40 _ z8]; rfl); have p2 : w8.cell? ⟨g7, 2, none⟩ = some (.int .u64 (NN : Int)) := (by rw [cell_of_row w8 g7 2 _ 40 _ z8]; rfl); have p3 : w8.cell? ⟨g7, 3, none⟩ = some (.slice ra body.length rc) := (by rw [cell_of_row w8 g7 3 _ 40 _ z8]; rfl); have HZR := Lib.hid zR; have HS8 := Lib.hid (sl_then b8 (Nat.le_refl _) S7.out); clear b8 zR z8)
            have Zf := pk_st HZR.out (.int .i64 (D0 : Int)) (.int .i64 (D1 : Int)) (.int .u64 (NN : Int)) (.slice ra body.length rc)
            have BF := Lib.hid (show Below w.heap.size w ((((w8.setCell ⟨w.heap.size, 0, none⟩ (.int .i64 (D0 : Int))).setCell ⟨w.heap.size, 1, none⟩ (.int .i64 (D1 : Int))).setCell ⟨w.heap.size, 2, none⟩ (.int .u64 (NN : Int))).setCell ⟨w.heap.size, 3, none⟩ (.slice ra body.length rc)) from ((((below_then HB0.out HB8.out HB0.out.size).setCell (Nat.le_refl _) _).setCell (Nat.le_refl _) _).setCell (Nat.le_refl _) _).setCell (Nat.le_refl _) _)
            have RF := Lib.hid (show Sl ((((w8.setCell ⟨w.heap.size, 0, none⟩ (.int .i64 (D0 : Int))).setCell ⟨w.heap.size, 1, none⟩ (.int .i64 (D1 : Int))).setCell ⟨w.heap.size, 2, none⟩ (.int .u64 (NN : Int))).setCell ⟨w.heap.size, 3, none⟩ (.slice ra body.length rc)) ra body from sl_st4 HS8.out HRN.out _ _ _ _)
            generalize ((((w8.setCell ⟨w.heap.size, 0, none⟩ (.int .i64 (D0 : Int))).setCell ⟨w.heap.size, 1, none⟩ (.int .i64 (D1 : Int))).setCell ⟨w.heap.size, 2, none⟩ (.int .u64 (NN : Int))).setCell ⟨w.heap.size, 3, none⟩ (.slice ra body.length rc)) = WF at *
            have q0 : WF.cell? ⟨w.heap.size, 0, none⟩ = some (.int .i64 (D0 : Int)) := by rw [cell_of_row WF w.heap.size 0 _ 40 _ Zf]; rfl
            have q1 : WF.cell? ⟨w.heap.size, 1, none⟩ = some (.int .i64 (D1 : Int)) := by rw [cell_of_row WF w.heap.size 1 _ 40 _ Zf]; rfl
            have q2 : WF.cell? ⟨w.heap.size, 2, none⟩ = some (.int .u64 (NN : Int)) := by rw [cell_of_row WF w.heap.size 2 _ 40 _ Zf]; rfl
            have q3 : WF.cell? ⟨w.heap.size, 3, none⟩ = some (.slice ra body.length rc) := by rw [cell_of_row WF w.heap.size 3 _ 40 _ Zf]; rfl
            exact bodyPost_ret (v := .tuple #[.agg #[.int .i64 (D0 : Int), .int .i64 (D1 : Int), .int .u64 (NN : Int), .slice ra body.length rc], .int .i64 0]) (by simp [results, Tryd.results28, go_sem, q0, q1, q2, q3]) rfl (⟨ra, rc, rfl, RF.out, BF.out⟩)
      · skip
        go_simp
        refine hK.out _ _ ?_ (fun hHeld => ?_)
        · ((try dsimp only); (first | (with_reducible exact KS.out _ hN) | (with_reducible exact hHeld) | exact KS.out _ (Below.refl _ _).drew | exact KS.out _ (Below.alloc (KB.out _ hHeld) (KB.out _ hHeld).size _) | exact KS.out _ hN))
        clear hK K
        try simp only [Act.put, List.setIfInBounds_toArray, List.set_cons_zero, List.set_cons_succ]
        refine wpAnyH_ready (rs := [10]) (by kernel_rfl) (by simp) ?_
        refine (AllReadyH.cons (o := { dst := some 36, op := Op.call { callee := Callee.value (Operand.func 56), args := #[Operand.tmp 35], argTypes := #[22] }, type := 33, pos := _, after := #[{ on := 9, ground := Ground.data }], guard := none }) rfl (fun K hK => ?_) AllReadyH.nil)
        go_simp
        (go_at_call 56; (with_reducible refine (bigC na 8 nc ((b.drop 2).take 8) _ HNL.out (by rw [← HNL.out]; decide) HNX.out (sl_then (KB.out _ hHeld) (Nat.le_refl _) HSNz.out)).mono ?_); rintro e wb ⟨rfl, rfl⟩; rw [← HNM.out])
        go_wp2_with fail
        refine hK.out _ _ ?_ (fun hHeld => ?_)
        · ((try dsimp only); (first | (with_reducible exact KS.out _ hN) | (with_reducible exact hHeld) | exact KS.out _ (Below.refl _ _).drew | exact KS.out _ (Below.alloc (KB.out _ hHeld) (KB.out _ hHeld).size _) | exact KS.out _ hN))
        clear hK K
        try simp only [Act.put, List.setIfInBounds_toArray, List.set_cons_zero, List.set_cons_succ]
        refine wpAnyH_ready (rs := [14]) (by kernel_rfl) (by simp) ?_
        refine (AllReadyH.cons (o := { dst := some 40, op := Op.call { callee := Callee.value (Operand.func 14), args := #[Operand.tmp 39], argTypes := #[22] }, type := 22, pos := _, after := #[{ on := 13, ground := Ground.data }, { on := 10, ground := Ground.chain }], guard := none }) rfl (fun K hK => ?_) AllReadyH.nil)
        go_simp
        go_at_call 14
        refine (copyG ya yc (E - 10) body _ HBO.out HBM.out (sl_then (KB.out _ hHeld) (Nat.le_refl _) HSYz.out) HYZ.out).mono ?_
        rintro e w9 ⟨v9, rfl, o9, b9⟩
        have HG7 := Lib.hid (show w9.heap[wz.heap.size]? = some (.cells #[.int .i64 0, .int .i64 0, .int .u64 0, .slice none 0 0] 40) from (b9.block wz.heap.size (by simp)).trans (heap_alloc_last wz _))
        have O9 := Lib.hid (rb_base o9 (KB.out _ hHeld).size)
        have O9B := Lib.hid o9
        obtain ⟨ra, rc, rfl, _, hr9, _, hx9⟩ := rb_sl o9
        have HR9 := Lib.hid hr9
        have HRX := Lib.hid hx9
        have HRN := Lib.hid (show ∀ x, ra = some x → x.block ≠ w.heap.size from fun x hx => Nat.ne_of_gt (Nat.lt_of_lt_of_le (Array.getElem?_eq_some_iff.1 HZ0.out).1 (Nat.le_trans HBz.out.size (Nat.le_trans (KB.out _ hHeld).size (hx9 x hx).1))))
        have hN := below_then (KB.out _ hHeld) b9 (KB.out _ hHeld).size
        clear o9 b9 hr9 hx9
        go_wp2_with fail
        refine hK.out _ _ ?_ (fun hHeld => ?_)
        · ((try dsimp only); (first | (with_reducible exact KS.out _ hN) | (with_reducible exact hHeld) | exact KS.out _ (Below.refl _ _).drew | exact KS.out _ (Below.alloc (KB.out _ hHeld) (KB.out _ hHeld).size _) | exact KS.out _ hN))
        clear hK K
        try simp only [Act.put, List.setIfInBounds_toArray, List.set_cons_zero, List.set_cons_succ]
        refine wpAnyH_take (i := 15) (oi := { dst := some 41, op := Op.build 40 #[(0, Operand.tmp 29), (1, Operand.tmp 33), (2, Operand.tmp 36), (3, Operand.tmp 40)], type := 40, pos := _, after := #[{ on := 3, ground := Ground.data }, { on := 7, ground := Ground.data }, { on := 10, ground := Ground.data }, { on := 14, ground := Ground.data }], guard := none }) (v := ?_) rfl (by kernel_rfl) (by kernel_rfl) (by kernel_rfl) (fun _ _ _ h => h) (Or.inl ⟨by rfl, ?_⟩) (by assumption) ?_
        rotate_left
        · ((intro w hSw); (try dsimp only at hSw); go_simp; (try with_reducible rfl))
        try simp only [Act.put, List.setIfInBounds_toArray, List.set_cons_zero, List.set_cons_succ]
        refine wpAnyH_ready (rs := [17]) (by kernel_rfl) (by simp) ?_
        refine (AllReadyH.cons (o := { dst := none, op := Op.store 40 (Operand.tmp 7) (Operand.tmp 41), type := 0, pos := _, after := #[{ on := 16, ground := Ground.data }, { on := 15, ground := Ground.data }, { on := 14, ground := Ground.chain }, { on := 0, ground := Ground.phase }, { on := 1, ground := Ground.phase }, { on := 2, ground := Ground.phase }, { on := 3, ground := Ground.phase }, { on := 4, ground := Ground.phase }, { on := 5, ground := Ground.phase }, { on := 6, ground := Ground.phase }, { on := 7, ground := Ground.phase }, { on := 8, ground := Ground.phase }, { on := 9, ground := Ground.phase }, { on := 10, ground := Ground.phase }, { on := 11, ground := Ground.phase }, { on := 12, ground := Ground.phase }, { on := 13, ground := Ground.phase }, { on := 14, ground := Ground.phase }, { on := 15, ground := Ground.phase }, { on := 16, ground := Ground.phase }], guard := none }) rfl (fun K hK => ?_) AllReadyH.nil)
        refine wp_store_row 40 (.tmp 7) (.tmp 41) rfl (wz.heap.size) #[.int .i64 (D0 : Int), .int .i64 (D1 : Int), .int .u64 (NN : Int), .slice ra body.length rc] rfl rfl 40 _ (HG7.out) (by kernel_rfl) rfl (all4 _ _ _ _ _ _ _ _ _) ?_
        have Z7 := Lib.hid (setRow_heap w9 (wz.heap.size) _ #[.int .i64 (D0 : Int), .int .i64 (D1 : Int), .int .u64 (NN : Int), .slice ra body.length rc] 40 _ (HG7.out))
        have hgz : wz.heap.size ≤ wz.heap.size := by exact Nat.le_refl _
        have B7 := Lib.hid (below_setRow hN hgz #[.int .i64 (D0 : Int), .int .i64 (D1 : Int), .int .u64 (NN : Int), .slice ra body.length rc])
        have S7 := Lib.hid (show Sl (w9.setRow (wz.heap.size) #[.int .i64 (D0 : Int), .int .i64 (D1 : Int), .int .u64 (NN : Int), .slice ra body.length rc]) ra body from sl_setRow HR9.out (fun x hx => ne_al (w := wz) (o := .cells #[.int .i64 0, .int .i64 0, .int .u64 0, .slice none 0 0] 40) (HRX.out x hx).1) #[.int .i64 (D0 : Int), .int .i64 (D1 : Int), .int .u64 (NN : Int), .slice ra body.length rc])
        have HGZ := Lib.hid hgz
        clear hN hgz
        have HB7 := Lib.hid (below_then HBz.out B7.out HBz.out.size)
        have HNN := Lib.hid B7.out
        have hN := B7.out
        generalize (w9.setRow (wz.heap.size) #[.int .i64 (D0 : Int), .int .i64 (D1 : Int), .int .u64 (NN : Int), .slice ra body.length rc]) = w7 at *
        generalize wz.heap.size = g7 at *
        refine hK.out _ _ ?_ (fun hHeld => ?_)
        · ((try dsimp only); (first | (with_reducible exact KS.out _ hN) | (with_reducible exact hHeld) | exact KS.out _ (Below.refl _ _).drew | exact KS.out _ (Below.alloc (KB.out _ hHeld) (KB.out _ hHeld).size _) | exact KS.out _ hN))
        clear hK K
        try simp only [Act.put]
        refine wpAnyH_done (by kernel_rfl) ?_ _
        clear hN hHeld u0 u1 u2 u3 i0 i1 i2 i3 hs3 hs4 n3 n4 l0 l1
        as_aux_lemma =>
          have p0 : w7.cell? ⟨g7, 0, none⟩ = some (.int .i64 (D0 : Int)) := by rw [cell_of_row w7 g7 0 _ 40 _ Z7.out]; rfl
          have p1 : w7.cell? ⟨g7, 1, none⟩ = some (.int .i64 (D1 : Int)) := by rw [cell_of_row w7 g7 1 _ 40 _ Z7.out]; rfl
          have p2 : w7.cell? ⟨g7, 2, none⟩ = some (.int .u64 (NN : Int)) := by rw [cell_of_row w7 g7 2 _ 40 _ Z7.out]; rfl
          have p3 : w7.cell? ⟨g7, 3, none⟩ = some (.slice ra body.length rc) := by rw [cell_of_row w7 g7 3 _ 40 _ Z7.out]; rfl
          go_wp2_with (go_at_call 31; (with_reducible refine (dmayE (D0 : Int) (D1 : Int) NN ra body.length rc body w7 true rfl HMY.out).mono ?_); rintro e w8 ⟨rfl, b8⟩; have HB8 := Lib.hid (below_then HB7.out b8 HB7.out.size); have zR : w8.heap[w.heap.size]? = some (.cells #[.int .i64 0, .int .i64 0, .int .u64 0, .slice none 0 0] 40) := (by rw [HB8.out.block _ (Array.getElem?_eq_some_iff.1 HZ0.out).1]; exact HZ0.out); have z8 : w8.heap[g7]? = some (.cells #[.int .i64 (D0 : Int), .int .i64 (D1 : Int), .int .u64 (NN : Int), .slice ra body.length rc] 40) := (by rw [b8.block _ (Array.getElem?_eq_some_iff.1 Z7.out).1]; exact Z7.out); have d0 : w8.cell? ⟨w.heap.size, 0, none⟩ = some (.int .i64 0) := (by rw [cell_of_row w8 w.heap.size 0 _ 40 _ zR]; rfl); have df0 := frozen_of_row w8 w.heap.size 0 _ 40 zR; have d1 : w8.cell? ⟨w.heap.size, 1, none⟩ = some (.int .i64 0) := (by rw [cell_of_row w8 w.heap.size 1 _ 40 _ zR]; rfl); have df1 := frozen_of_row w8 w.heap.size 1 _ 40 zR; have d2 : w8.cell? ⟨w.heap.size, 2, none⟩ = some (.int .u64 0) := (by rw [cell_of_row w8 w.heap.size 2 _ 40 _ zR]; rfl); have df2 := frozen_of_row w8 w.heap.size 2 _ 40 zR; have d3 : w8.cell? ⟨w.heap.size, 3, none⟩ = some (.slice none 0 0) := (by rw [cell_of_row w8 w.heap.size 3 _ 40 _ zR]; rfl); have df3 := frozen_of_row w8 w.heap.size 3 _ 40 zR; clear p0 p1 p2 p3; have p0 : w8.cell? ⟨g7, 0, none⟩ = some (.int .i64 (D0 : Int)) := (by rw [cell_of_row w8 g7 0 _ 40 _ z8]; rfl); have p1 : w8.cell? ⟨g7, 1, none⟩ = some (.int .i64 (D1 : Int)) := (by rw [cell_of_row w8 g7 1 _ 40 _ z8]; rfl); have p2 : w8.cell? ⟨g7, 2, none⟩ = some (.int .u64 (NN : Int)) := (by rw [cell_of_row w8 g7 2 _ 40 _ z8]; rfl); have p3 : w8.cell? ⟨g7, 3, none⟩ = some (.slice ra body.length rc) := (by rw [cell_of_row w8 g7 3 _ 40 _ z8]; rfl); have HZR := Lib.hid zR; have HS8 := Lib.hid (sl_then b8 (Nat.le_refl _) S7.out); clear b8 zR z8)
          have Zf := pk_st HZR.out (.int .i64 (D0 : Int)) (.int .i64 (D1 : Int)) (.int .u64 (NN : Int)) (.slice ra body.length rc)
          have BF := Lib.hid (show Below w.heap.size w ((((w8.setCell ⟨w.heap.size, 0, none⟩ (.int .i64 (D0 : Int))).setCell ⟨w.heap.size, 1, none⟩ (.int .i64 (D1 : Int))).setCell ⟨w.heap.size, 2, none⟩ (.int .u64 (NN : Int))).setCell ⟨w.heap.size, 3, none⟩ (.slice ra body.length rc)) from ((((below_then HB0.out HB8.out HB0.out.size).setCell (Nat.le_refl _) _).setCell (Nat.le_refl _) _).setCell (Nat.le_refl _) _).setCell (Nat.le_refl _) _)
          have RF := Lib.hid (show Sl ((((w8.setCell ⟨w.heap.size, 0, none⟩ (.int .i64 (D0 : Int))).setCell ⟨w.heap.size, 1, none⟩ (.int .i64 (D1 : Int))).setCell ⟨w.heap.size, 2, none⟩ (.int .u64 (NN : Int))).setCell ⟨w.heap.size, 3, none⟩ (.slice ra body.length rc)) ra body from sl_st4 HS8.out HRN.out _ _ _ _)
          generalize ((((w8.setCell ⟨w.heap.size, 0, none⟩ (.int .i64 (D0 : Int))).setCell ⟨w.heap.size, 1, none⟩ (.int .i64 (D1 : Int))).setCell ⟨w.heap.size, 2, none⟩ (.int .u64 (NN : Int))).setCell ⟨w.heap.size, 3, none⟩ (.slice ra body.length rc)) = WF at *
          have q0 : WF.cell? ⟨w.heap.size, 0, none⟩ = some (.int .i64 (D0 : Int)) := by rw [cell_of_row WF w.heap.size 0 _ 40 _ Zf]; rfl
          have q1 : WF.cell? ⟨w.heap.size, 1, none⟩ = some (.int .i64 (D1 : Int)) := by rw [cell_of_row WF w.heap.size 1 _ 40 _ Zf]; rfl
          have q2 : WF.cell? ⟨w.heap.size, 2, none⟩ = some (.int .u64 (NN : Int)) := by rw [cell_of_row WF w.heap.size 2 _ 40 _ Zf]; rfl
          have q3 : WF.cell? ⟨w.heap.size, 3, none⟩ = some (.slice ra body.length rc) := by rw [cell_of_row WF w.heap.size 3 _ 40 _ Zf]; rfl
          exact bodyPost_ret (v := .tuple #[.agg #[.int .i64 (D0 : Int), .int .i64 (D1 : Int), .int .u64 (NN : Int), .slice ra body.length rc], .int .i64 0]) (by simp [results, Tryd.results28, go_sem, q0, q1, q2, q3]) rfl (⟨ra, rc, rfl, RF.out, BF.out⟩)

set_option maxRecDepth 100000 in
set_option maxHeartbeats 4000000 in
theorem dopenForm (bb bo bc bn kn : Nat) (b : List Nat) (ka : Option Addr) (kc : Nat) (key : List Nat) (w : World) (E : Nat) (ebn : bn = b.length) (ekn : kn = key.length)
    (hN : b.length = E + 16) (hE : 10 ≤ E) (hlen : b.length ≤ 100000) (hbc : b.length ≤ bc) (hb : Cells w bb bo b) (hbx : ∀ c ∈ b, c < 256)
    (ks : Sl w ka key) (k0 : ka = none → kc = 0) (kcap : key.length ≤ kc) (kl : ∀ c ∈ key, c < 256) (klen : key.length ≤ 800000)
    (hne : tagL key (b.take E) = b.drop E) (D0 D1 NN : Nat) (body : List Nat) (hD0 : D0 = b.getD 0 0) (hD1 : D1 = b.getD 1 0) (hNN : NN = numL ((b.drop 2).take 8)) (hbody : body = (b.drop 10).take (E - 10)) (hmay : mayB (D0 : Int) (D1 : Int) NN (E - 10) = false) :
    Calls Tryd.prog 28 #[.slice ka kn kc, .slice (some ⟨bb, bo, none⟩) bn bc] w fun e w' => e = .returned (.tuple #[.agg #[.int .i64 0, .int .i64 0, .int .u64 0, .slice none 0 0], .int .i64 2]) ∧ Below w.heap.size w w' := by
  subst ebn ekn
  have KL := Lib.hid klen
  obtain ⟨T, hTg⟩ : ∃ T, T = tagL key (b.take E) := ⟨_, rfl⟩
  have HTG := Lib.hid hTg
  have HTL := Lib.hid (show 16 = T.length by rw [hTg]; exact (tagL_len _ _).symm)
  have HTX := Lib.hid (show ∀ c ∈ T, c < 256 by rw [hTg]; exact tagL_lt _ _)
  have HNE := Lib.hid hne
  have HKS := Lib.hid ks
  have HK0 := Lib.hid k0
  have HKC := Lib.hid kcap
  have HKX := Lib.hid kl
  have HBL := Lib.hid hN
  have HE10 := Lib.hid hE
  have HEL := Lib.hid (show E = (b.take E).length by rw [List.length_take]; omega)
  have HBE8 := Lib.hid (show (b.take E).length ≤ 800000 by rw [← HEL.out]; omega)
  have HRL := Lib.hid (show 16 = (b.drop E).length by rw [List.length_drop]; omega)
  obtain ⟨pa1, pc1, pa2, pc2, hs1, hs2, pt1, pt2⟩ := part_two (ra := some ⟨bb, bo, none⟩) (rc := bc) (n := b.length) rfl (sl_of hb) (fun h => by cases h) hbc hbx E (by omega)
  rw [show b.length - E = 16 by omega] at hs2
  have HP1 := Lib.hid pt1
  have HP2 := Lib.hid pt2
  have n1 : ¬ (b.length : Int) < 26 := by omega
  have n2 : (b.length : Int) - 16 = (E : Int) := by omega
  have gE : E ≤ 100000 := by omega
  have HC0 := Lib.hid (show ∀ i, i < b.length → w.cell? ⟨bb, bo + i, none⟩ = some (.int .u8 ((b.getD i 0 : Nat) : Int)) from fun i hi => by rw [hb i hi]; simp [hi])
  have HBX := Lib.hid (show ∀ i, b.getD i 0 < 256 from fun i => by
    rw [List.getD_eq_getElem?_getD]
    cases hx : b[i]? with
    | none => decide
    | some v => exact hbx v (List.mem_of_getElem? hx))
  have l0 : D0 < 256 := by rw [hD0]; exact HBX.out 0
  have l1 : D1 < 256 := by rw [hD1]; exact HBX.out 1
  have e0 : w.cell? ⟨bb, bo, none⟩ = some (.int .u8 (D0 : Int)) := by have := HC0.out 0 (by omega); rw [Nat.add_zero, ← hD0] at this; exact this
  have e1 : w.cell? ⟨bb, bo + 1, none⟩ = some (.int .u8 (D1 : Int)) := by have := HC0.out 1 (by omega); rw [← hD1] at this; exact this
  have HC00 := Lib.hid e0
  have HC01 := Lib.hid e1
  obtain ⟨na, nc, en, sn, kn, zn, _⟩ := sub_val (sl_of hb) (fun h => by cases h) hbc 2 10 (by omega) (by omega)
  obtain ⟨ya, yc, ey, sy, ky, zy, _⟩ := sub_val (sl_of hb) (fun h => by cases h) hbc 10 E (by omega) (by omega)
  have hs3 : ∀ w1 : World, (Instr.sliceAt 22 (.slice (some ⟨bb, bo, none⟩) b.length bc) (some (.int .i64 2)) (some (.int .i64 10)) none).run Tryd.prog w1 = .ok (.slice na 8 nc) w1 := fun w1 => by
    rw [run_sub (some ⟨bb, bo, none⟩) b.length bc (some (.int .i64 2)) (some (.int .i64 10)) 2 10 w1 (lo_some rfl) (hi_some rfl) (by omega) (by omega) hbc, en]
  have hs4 : ∀ w1 : World, (Instr.sliceAt 22 (.slice (some ⟨bb, bo, none⟩) b.length bc) (some (.int .i64 10)) (some (.int .i64 (E : Int))) none).run Tryd.prog w1 = .ok (.slice ya (E - 10) yc) w1 := fun w1 => by
    rw [run_sub (some ⟨bb, bo, none⟩) b.length bc (some (.int .i64 10)) (some (.int .i64 (E : Int))) 10 E w1 (lo_some rfl) (hi_some rfl) (by omega) (by omega) hbc, ey]
  have HSN := Lib.hid (show Sl w na ((b.drop 2).take 8) from sn)
  have HSY := Lib.hid (show Sl w ya body by rw [hbody]; exact sy)
  have HYZ := Lib.hid zy
  have HNL := Lib.hid (show 8 = ((b.drop 2).take 8).length by rw [List.length_take, List.length_drop]; omega)
  have HNX := Lib.hid (show ∀ c ∈ (b.drop 2).take 8, c < 256 from fun c hc => hbx c (List.mem_of_mem_drop (List.mem_of_mem_take hc)))
  have HNM := Lib.hid hNN
  have HBO := Lib.hid (show E - 10 = body.length by rw [hbody, List.length_take, List.length_drop]; omega)
  have HBM := Lib.hid (show body.length ≤ 1000000 by rw [← HBO.out]; omega)
  have HMY := Lib.hid (show mayB (D0 : Int) (D1 : Int) NN body.length = false by rw [← HBO.out]; exact hmay)
  have i0 : (0 : Int) < (b.length : Int) := by omega
  have i1 : (1 : Int) < (b.length : Int) := by omega
  have i2 : 0 < b.length := by omega
  have i3 : 1 < b.length := by omega
  have g0 : D0 ≤ 100000 := by omega
  have g1 : D1 ≤ 100000 := by omega
  have u0 := wr_w D0 g0
  have u1 := wr_w D1 g1
  have u2 := wr_i D0 g0
  have u3 := wr_i D1 g1
  clear g0 g1
  have HU := Lib.hid (And.intro u0 (And.intro u1 (And.intro u2 u3)))
  have HI := Lib.hid (And.intro i0 (And.intro i1 (And.intro i2 i3)))
  have HS3 := Lib.hid (And.intro hs3 hs4)
  clear e0 e1 hD0 hD1 hNN hbody hmay en sn kn zn ey sy ky zy hs3 hs4 u0 u1 u2 u3 i0 i1 i2 i3
  clear hb hbx ks k0 kcap kl klen hne hTg hE hlen hbc hN pt1 pt2
  have n3 := wr_w E gE
  have n4 := wr_i E gE
  clear gE
  have HZ0 := Lib.hid (show (w.alloc (.cells #[.int .i64 0, .int .i64 0, .int .u64 0, .slice none 0 0] 40)).heap[w.heap.size]? = some (.cells #[.int .i64 0, .int .i64 0, .int .u64 0, .slice none 0 0] 40) from heap_alloc_last w _)
  have HB0 := Lib.hid ((Below.refl w.heap.size w).alloc (Nat.le_refl _) (.cells #[.int .i64 0, .int .i64 0, .int .u64 0, .slice none 0 0] 40))
  go_enter Tryd.func28, Tryd.ntmps28
  go_wp2
  generalize (w.alloc (.cells #[.int .i64 0, .int .i64 0, .int .u64 0, .slice none 0 0] 40)) = w0 at *
  have HKS0 := Lib.hid (sl_then HB0.out (Nat.le_refl _) HKS.out)
  have HP10 := Lib.hid (sl_then HB0.out (Nat.le_refl _) HP1.out.1)
  have HP20 := Lib.hid (sl_then HB0.out (Nat.le_refl _) HP2.out.1)
  clear n1 n2
  as_aux_lemma =>
    refine wp_region_held_drew (S := (fun W => Below w0.heap.size w0 W)) (by kernel_rfl) ?_ (fun hHeld => ?_)
    · ((try dsimp only); (first | (with_reducible exact hN) | (with_reducible exact hHeld) | exact (Below.refl _ _).drew | exact Below.refl _ _))
    refine wpAnyH_take (i := 0) (oi := { dst := some 15, op := Op.move (Operand.tmp 0), type := 22, pos := _, after := #[], guard := none }) (v := ?_) rfl (by kernel_rfl) (by kernel_rfl) (by kernel_rfl) (fun _ _ _ h => h) (Or.inl ⟨by rfl, ?_⟩) (by assumption) ?_
    rotate_left
    · ((intro w hSw); (try dsimp only at hSw); go_simp; (try with_reducible rfl))
    try simp only [Act.put, List.setIfInBounds_toArray, List.set_cons_zero, List.set_cons_succ]
    refine wpAnyH_take (i := 1) (oi := { dst := some 16, op := Op.move (Operand.tmp 1), type := 22, pos := _, after := #[], guard := none }) (v := ?_) rfl (by kernel_rfl) (by kernel_rfl) (by kernel_rfl) (fun _ _ _ h => h) (Or.inl ⟨by rfl, ?_⟩) (by assumption) ?_
    rotate_left
    · ((intro w hSw); (try dsimp only at hSw); go_simp; (try with_reducible rfl))
    try simp only [Act.put, List.setIfInBounds_toArray, List.set_cons_zero, List.set_cons_succ]
    refine wpAnyH_take (i := 2) (oi := { dst := some 17, op := Op.move (Operand.tmp 6), type := 3, pos := _, after := #[], guard := none }) (v := ?_) rfl (by kernel_rfl) (by kernel_rfl) (by kernel_rfl) (fun _ _ _ h => h) (Or.inl ⟨by rfl, ?_⟩) (by assumption) ?_
    rotate_left
    · ((intro w hSw); (try dsimp only at hSw); go_simp; (try with_reducible rfl))
    try simp only [Act.put, List.setIfInBounds_toArray, List.set_cons_zero, List.set_cons_succ]
    refine wpAnyH_take (i := 3) (oi := { dst := some 18, op := Op.slice 22 (Operand.tmp 16) none (some (Operand.tmp 17)) none, type := 22, pos := _, after := #[{ on := 1, ground := Ground.data }, { on := 2, ground := Ground.data }], guard := none }) (v := ?_) rfl (by kernel_rfl) (by kernel_rfl) (by kernel_rfl) (fun _ _ _ h => h) (Or.inl ⟨by rfl, ?_⟩) (by assumption) ?_
    rotate_left
    · ((intro w hSw); (try dsimp only at hSw); go_simp; (try with_reducible rfl))
    try simp only [Act.put, List.setIfInBounds_toArray, List.set_cons_zero, List.set_cons_succ]
    refine wpAnyH_take (i := 5) (oi := { dst := some 20, op := Op.move (Operand.tmp 1), type := 22, pos := _, after := #[], guard := none }) (v := ?_) rfl (by kernel_rfl) (by kernel_rfl) (by kernel_rfl) (fun _ _ _ h => h) (Or.inl ⟨by rfl, ?_⟩) (by assumption) ?_
    rotate_left
    · ((intro w hSw); (try dsimp only at hSw); go_simp; (try with_reducible rfl))
    try simp only [Act.put, List.setIfInBounds_toArray, List.set_cons_zero, List.set_cons_succ]
    refine wpAnyH_take (i := 6) (oi := { dst := some 21, op := Op.move (Operand.tmp 6), type := 3, pos := _, after := #[], guard := none }) (v := ?_) rfl (by kernel_rfl) (by kernel_rfl) (by kernel_rfl) (fun _ _ _ h => h) (Or.inl ⟨by rfl, ?_⟩) (by assumption) ?_
    rotate_left
    · ((intro w hSw); (try dsimp only at hSw); go_simp; (try with_reducible rfl))
    try simp only [Act.put, List.setIfInBounds_toArray, List.set_cons_zero, List.set_cons_succ]
    refine wpAnyH_take (i := 7) (oi := { dst := some 22, op := Op.slice 22 (Operand.tmp 20) (some (Operand.tmp 21)) none none, type := 22, pos := _, after := #[{ on := 5, ground := Ground.data }, { on := 6, ground := Ground.data }], guard := none }) (v := ?_) rfl (by kernel_rfl) (by kernel_rfl) (by kernel_rfl) (fun _ _ _ h => h) (Or.inl ⟨by rfl, ?_⟩) (by assumption) ?_
    rotate_left
    · ((intro w hSw); (try dsimp only at hSw); go_simp; (try with_reducible rfl))
    try simp only [Act.put, List.setIfInBounds_toArray, List.set_cons_zero, List.set_cons_succ]
    refine wpAnyH_ready (rs := [4]) (by kernel_rfl) (by simp) ?_
    refine (AllReadyH.cons (o := { dst := some 19, op := Op.call { callee := Callee.value (Operand.func 21), args := #[Operand.tmp 15, Operand.tmp 18], argTypes := #[22, 22] }, type := 22, pos := _, after := #[{ on := 0, ground := Ground.data }, { on := 3, ground := Ground.data }], guard := none }) rfl (fun K hK => ?_) AllReadyH.nil)
    go_simp
    (go_at_call 21; (with_reducible refine (dtgK ka key.length kc key T pa1 E pc1 (b.take E) _ HTG.out rfl HEL.out (sl_then hHeld (Nat.le_refl _) HKS0.out) HK0.out HKC.out HKX.out KL.out (sl_then hHeld (Nat.le_refl _) HP10.out) HP1.out.2.1 HP1.out.2.2.1 HP1.out.2.2.2 HBE8.out).mono ?_); rintro e w3 ⟨ta, tc, rfl, lg, _, _, ba⟩; have HTS := Lib.hid lg; have hN := below_then hHeld ba hHeld.size; clear ba lg)
    go_wp2_with fail
    refine hK.out _ _ ?_ (fun hHeld => ?_)
    · ((try dsimp only); (first | (with_reducible exact hN) | (with_reducible exact hHeld) | exact (Below.refl _ _).drew | exact Below.refl _ _))
    clear hK K
    try simp only [Act.put, List.setIfInBounds_toArray, List.set_cons_zero, List.set_cons_succ]
    refine wpAnyH_ready (rs := [8]) (by kernel_rfl) (by simp) ?_
    refine (AllReadyH.cons (o := { dst := some 23, op := Op.call { callee := Callee.value (Operand.func 15), args := #[Operand.tmp 19, Operand.tmp 22], argTypes := #[22, 22] }, type := 4, pos := _, after := #[{ on := 4, ground := Ground.data }, { on := 7, ground := Ground.data }, { on := 4, ground := Ground.chain }], guard := none }) rfl (fun K hK => ?_) AllReadyH.nil)
    go_simp
    (go_at_call 15; (with_reducible refine (bytesD ta pa2 tc pc2 16 16 T (b.drop E) _ true HTL.out HRL.out HTS.out (sl_then hHeld (Nat.le_refl _) HP20.out) HTX.out HP2.out.2.2.2 (by rw [HTG.out]; exact (decide_eq_true HNE.out).symm)).mono ?_); rintro e wb ⟨rfl, rfl⟩)
    go_wp2_with fail
    refine hK.out _ _ ?_ (fun hHeld => ?_)
    · ((try dsimp only); (first | (with_reducible exact hN) | (with_reducible exact hHeld) | exact (Below.refl _ _).drew | exact Below.refl _ _))
    clear hK K
    try simp only [Act.put, List.setIfInBounds_toArray, List.set_cons_zero, List.set_cons_succ]
    refine wpAnyH_take (i := 9) (oi := { dst := some 24, op := Op.unOp UnOp.not 4 (Operand.tmp 23), type := 4, pos := _, after := #[{ on := 8, ground := Ground.data }], guard := none }) (v := ?_) rfl (by kernel_rfl) (by kernel_rfl) (by kernel_rfl) (fun _ _ _ h => h) (Or.inl ⟨by rfl, ?_⟩) (by assumption) ?_
    rotate_left
    · ((intro w hSw); (try dsimp only at hSw); go_simp; (try with_reducible rfl))
    try simp only [Act.put, List.setIfInBounds_toArray, List.set_cons_zero, List.set_cons_succ]
    refine wpAnyH_done (by kernel_rfl) ?_ _
    have HBz := Lib.hid hHeld
    clear hs1 hs2 hN hHeld
    as_aux_lemma =>
      go_wp2
      generalize w3 = wz at *
      obtain ⟨hs3, hs4⟩ := HS3.out
      obtain ⟨u0, u1, u2, u3⟩ := HU.out
      obtain ⟨i0, i1, i2, i3⟩ := HI.out
      have HWZ := Lib.hid (below_then HB0.out HBz.out HB0.out.size)
      have HSYz := Lib.hid (sl_then HWZ.out (Nat.le_refl _) HSY.out)
      have HSNz := Lib.hid (sl_then HWZ.out (Nat.le_refl _) HSN.out)
      have KS := Lib.hid (show ∀ W, Below wz.heap.size wz W → W.cell? ⟨bb, bo, none⟩ = some (.int .u8 (D0 : Int)) ∧ W.cell? ⟨bb, bo + 1, none⟩ = some (.int .u8 (D1 : Int)) ∧ Below wz.heap.size wz W from fun W h => ⟨cell_then (below_then HWZ.out h HWZ.out.size) (Nat.le_refl _) HC00.out, cell_then (below_then HWZ.out h HWZ.out.size) (Nat.le_refl _) HC01.out, h⟩)
      have KB := Lib.hid (show ∀ W, (W.cell? ⟨bb, bo, none⟩ = some (.int .u8 (D0 : Int)) ∧ W.cell? ⟨bb, bo + 1, none⟩ = some (.int .u8 (D1 : Int)) ∧ Below wz.heap.size wz W) → Below wz.heap.size wz W from fun W h => h.2.2)
      clear HTS
      refine wp_region_held_drew (S := (fun W => W.cell? ⟨bb, bo, none⟩ = some (.int .u8 (D0 : Int)) ∧ W.cell? ⟨bb, bo + 1, none⟩ = some (.int .u8 (D1 : Int)) ∧ Below wz.heap.size wz W)) (by kernel_rfl) ?_ (fun hHeld => ?_)
      · ((try dsimp only); (first | (with_reducible exact KS.out _ hN) | (with_reducible exact hHeld) | exact KS.out _ (Below.refl _ _).drew | exact KS.out _ (Below.alloc (KB.out _ hHeld) (KB.out _ hHeld).size _) | exact KS.out _ hN))
      refine wpAnyH_take (i := 0) (oi := { dst := some 26, op := Op.move (Operand.tmp 1), type := 22, pos := _, after := #[], guard := none }) (v := ?_) rfl (by kernel_rfl) (by kernel_rfl) (by kernel_rfl) (fun _ _ _ h => h) (Or.inl ⟨by rfl, ?_⟩) (by assumption) ?_
      rotate_left
      · ((intro w hSw); (try dsimp only at hSw); go_simp; (try with_reducible rfl))
      try simp only [Act.put, List.setIfInBounds_toArray, List.set_cons_zero, List.set_cons_succ]
      refine wpAnyH_take (i := 1) (oi := { dst := some 27, op := Op.indexAddr 22 (Operand.tmp 26) (Operand.const (Value.int IntKind.i64 0)), type := 0, pos := _, after := #[{ on := 0, ground := Ground.data }], guard := none }) (v := ?_) rfl (by kernel_rfl) (by kernel_rfl) (by kernel_rfl) (fun _ _ _ h => h) (Or.inl ⟨by rfl, ?_⟩) (by assumption) ?_
      rotate_left
      · ((intro w hSw); (try dsimp only at hSw); go_simp; (try with_reducible rfl))
      try simp only [Act.put, List.setIfInBounds_toArray, List.set_cons_zero, List.set_cons_succ]
      refine wpAnyH_take (i := 2) (oi := { dst := some 28, op := Op.load 5 (Operand.tmp 27), type := 5, pos := _, after := #[{ on := 1, ground := Ground.data }], guard := none }) (v := ?_) rfl (by kernel_rfl) (by kernel_rfl) (by kernel_rfl) (fun _ _ _ h => h) (Or.inl ⟨by rfl, ?_⟩) (by assumption) ?_
      rotate_left
      · ((intro w hSw); (try dsimp only at hSw); go_simp; (try with_reducible rfl))
      try simp only [Act.put, List.setIfInBounds_toArray, List.set_cons_zero, List.set_cons_succ]
      refine wpAnyH_take (i := 3) (oi := { dst := some 29, op := Op.convert 5 3 (Operand.tmp 28), type := 3, pos := _, after := #[{ on := 2, ground := Ground.data }], guard := none }) (v := ?_) rfl (by kernel_rfl) (by kernel_rfl) (by kernel_rfl) (fun _ _ _ h => h) (Or.inl ⟨by rfl, ?_⟩) (by assumption) ?_
      rotate_left
      · ((intro w hSw); (try dsimp only at hSw); go_simp; (try with_reducible rfl))
      try simp only [Act.put, List.setIfInBounds_toArray, List.set_cons_zero, List.set_cons_succ]
      refine wpAnyH_take (i := 4) (oi := { dst := some 30, op := Op.move (Operand.tmp 1), type := 22, pos := _, after := #[], guard := none }) (v := ?_) rfl (by kernel_rfl) (by kernel_rfl) (by kernel_rfl) (fun _ _ _ h => h) (Or.inl ⟨by rfl, ?_⟩) (by assumption) ?_
      rotate_left
      · ((intro w hSw); (try dsimp only at hSw); go_simp; (try with_reducible rfl))
      try simp only [Act.put, List.setIfInBounds_toArray, List.set_cons_zero, List.set_cons_succ]
      refine wpAnyH_take (i := 5) (oi := { dst := some 31, op := Op.indexAddr 22 (Operand.tmp 30) (Operand.const (Value.int IntKind.i64 1)), type := 0, pos := _, after := #[{ on := 4, ground := Ground.data }], guard := none }) (v := ?_) rfl (by kernel_rfl) (by kernel_rfl) (by kernel_rfl) (fun _ _ _ h => h) (Or.inl ⟨by rfl, ?_⟩) (by assumption) ?_
      rotate_left
      · ((intro w hSw); (try dsimp only at hSw); go_simp; (try with_reducible rfl))
      try simp only [Act.put, List.setIfInBounds_toArray, List.set_cons_zero, List.set_cons_succ]
      refine wpAnyH_take (i := 6) (oi := { dst := some 32, op := Op.load 5 (Operand.tmp 31), type := 5, pos := _, after := #[{ on := 5, ground := Ground.data }], guard := none }) (v := ?_) rfl (by kernel_rfl) (by kernel_rfl) (by kernel_rfl) (fun _ _ _ h => h) (Or.inl ⟨by rfl, ?_⟩) (by assumption) ?_
      rotate_left
      · ((intro w hSw); (try dsimp only at hSw); go_simp; (try with_reducible rfl))
      try simp only [Act.put, List.setIfInBounds_toArray, List.set_cons_zero, List.set_cons_succ]
      refine wpAnyH_take (i := 7) (oi := { dst := some 33, op := Op.convert 5 3 (Operand.tmp 32), type := 3, pos := _, after := #[{ on := 6, ground := Ground.data }], guard := none }) (v := ?_) rfl (by kernel_rfl) (by kernel_rfl) (by kernel_rfl) (fun _ _ _ h => h) (Or.inl ⟨by rfl, ?_⟩) (by assumption) ?_
      rotate_left
      · ((intro w hSw); (try dsimp only at hSw); go_simp; (try with_reducible rfl))
      try simp only [Act.put, List.setIfInBounds_toArray, List.set_cons_zero, List.set_cons_succ]
      refine wpAnyH_take (i := 8) (oi := { dst := some 34, op := Op.move (Operand.tmp 1), type := 22, pos := _, after := #[], guard := none }) (v := ?_) rfl (by kernel_rfl) (by kernel_rfl) (by kernel_rfl) (fun _ _ _ h => h) (Or.inl ⟨by rfl, ?_⟩) (by assumption) ?_
      rotate_left
      · ((intro w hSw); (try dsimp only at hSw); go_simp; (try with_reducible rfl))
      try simp only [Act.put, List.setIfInBounds_toArray, List.set_cons_zero, List.set_cons_succ]
      refine wpAnyH_take (i := 9) (oi := { dst := some 35, op := Op.slice 22 (Operand.tmp 34) (some (Operand.const (Value.int IntKind.i64 2))) (some (Operand.const (Value.int IntKind.i64 10))) none, type := 22, pos := _, after := #[{ on := 8, ground := Ground.data }], guard := none }) (v := ?_) rfl (by kernel_rfl) (by kernel_rfl) (by kernel_rfl) (fun _ _ _ h => h) (Or.inl ⟨by rfl, ?_⟩) (by assumption) ?_
      rotate_left
      · ((intro w hSw); (try dsimp only at hSw); go_simp; (try with_reducible rfl))
      try simp only [Act.put, List.setIfInBounds_toArray, List.set_cons_zero, List.set_cons_succ]
      refine wpAnyH_take (i := 11) (oi := { dst := some 37, op := Op.move (Operand.tmp 1), type := 22, pos := _, after := #[], guard := none }) (v := ?_) rfl (by kernel_rfl) (by kernel_rfl) (by kernel_rfl) (fun _ _ _ h => h) (Or.inl ⟨by rfl, ?_⟩) (by assumption) ?_
      rotate_left
      · ((intro w hSw); (try dsimp only at hSw); go_simp; (try with_reducible rfl))
      try simp only [Act.put, List.setIfInBounds_toArray, List.set_cons_zero, List.set_cons_succ]
      refine wpAnyH_take (i := 12) (oi := { dst := some 38, op := Op.move (Operand.tmp 6), type := 3, pos := _, after := #[], guard := none }) (v := ?_) rfl (by kernel_rfl) (by kernel_rfl) (by kernel_rfl) (fun _ _ _ h => h) (Or.inl ⟨by rfl, ?_⟩) (by assumption) ?_
      rotate_left
      · ((intro w hSw); (try dsimp only at hSw); go_simp; (try with_reducible rfl))
      try simp only [Act.put, List.setIfInBounds_toArray, List.set_cons_zero, List.set_cons_succ]
      refine wpAnyH_take (i := 13) (oi := { dst := some 39, op := Op.slice 22 (Operand.tmp 37) (some (Operand.const (Value.int IntKind.i64 10))) (some (Operand.tmp 38)) none, type := 22, pos := _, after := #[{ on := 11, ground := Ground.data }, { on := 12, ground := Ground.data }], guard := none }) (v := ?_) rfl (by kernel_rfl) (by kernel_rfl) (by kernel_rfl) (fun _ _ _ h => h) (Or.inl ⟨by rfl, ?_⟩) (by assumption) ?_
      rotate_left
      · ((intro w hSw); (try dsimp only at hSw); go_simp; (try with_reducible rfl))
      try simp only [Act.put, List.setIfInBounds_toArray, List.set_cons_zero, List.set_cons_succ]
      refine wpAnyH_ready (rs := [10, 16]) (by kernel_rfl) (by simp) ?_
      refine (AllReadyH.cons (o := { dst := some 36, op := Op.call { callee := Callee.value (Operand.func 56), args := #[Operand.tmp 35], argTypes := #[22] }, type := 33, pos := _, after := #[{ on := 9, ground := Ground.data }], guard := none }) rfl (fun K hK => ?_) (AllReadyH.cons (o := { dst := some 7, op := Op.alloc 40, type := 0, pos := _, after := #[], guard := none }) rfl (fun K hK => ?_) AllReadyH.nil))
      · skip
        go_simp
        (go_at_call 56; (with_reducible refine (bigC na 8 nc ((b.drop 2).take 8) _ HNL.out (by rw [← HNL.out]; decide) HNX.out (sl_then (KB.out _ hHeld) (Nat.le_refl _) HSNz.out)).mono ?_); rintro e wb ⟨rfl, rfl⟩; rw [← HNM.out])
        go_wp2_with fail
        refine hK.out _ _ ?_ (fun hHeld => ?_)
        · ((try dsimp only); (first | (with_reducible exact KS.out _ hN) | (with_reducible exact hHeld) | exact KS.out _ (Below.refl _ _).drew | exact KS.out _ (Below.alloc (KB.out _ hHeld) (KB.out _ hHeld).size _) | exact KS.out _ hN))
        clear hK K
        try simp only [Act.put, List.setIfInBounds_toArray, List.set_cons_zero, List.set_cons_succ]
        refine wpAnyH_ready (rs := [14, 16]) (by kernel_rfl) (by simp) ?_
        refine (AllReadyH.cons (o := { dst := some 40, op := Op.call { callee := Callee.value (Operand.func 14), args := #[Operand.tmp 39], argTypes := #[22] }, type := 22, pos := _, after := #[{ on := 13, ground := Ground.data }, { on := 10, ground := Ground.chain }], guard := none }) rfl (fun K hK => ?_) (AllReadyH.cons (o := { dst := some 7, op := Op.alloc 40, type := 0, pos := _, after := #[], guard := none }) rfl (fun K hK => ?_) AllReadyH.nil))
        · skip
          go_simp
          go_at_call 14
          refine (copyG ya yc (E - 10) body _ HBO.out HBM.out (sl_then (KB.out _ hHeld) (Nat.le_refl _) HSYz.out) HYZ.out).mono ?_
          rintro e w9 ⟨v9, rfl, o9, b9⟩
          have O9 := Lib.hid (rb_base o9 (KB.out _ hHeld).size)
          have O9B := Lib.hid o9
          obtain ⟨ra, rc, rfl, _, hr9, _, hx9⟩ := rb_sl o9
          have HR9 := Lib.hid hr9
          have HRX := Lib.hid hx9
          have HRN := Lib.hid (show ∀ x, ra = some x → x.block ≠ w.heap.size from fun x hx => Nat.ne_of_gt (Nat.lt_of_lt_of_le (Array.getElem?_eq_some_iff.1 HZ0.out).1 (Nat.le_trans HBz.out.size (Nat.le_trans (KB.out _ hHeld).size (hx9 x hx).1))))
          have hN := below_then (KB.out _ hHeld) b9 (KB.out _ hHeld).size
          clear o9 b9 hr9 hx9
          go_wp2_with fail
          refine hK.out _ _ ?_ (fun hHeld => ?_)
          · ((try dsimp only); (first | (with_reducible exact KS.out _ hN) | (with_reducible exact hHeld) | exact KS.out _ (Below.refl _ _).drew | exact KS.out _ (Below.alloc (KB.out _ hHeld) (KB.out _ hHeld).size _) | exact KS.out _ hN))
          clear hK K
          try simp only [Act.put, List.setIfInBounds_toArray, List.set_cons_zero, List.set_cons_succ]
          refine wpAnyH_take (i := 15) (oi := { dst := some 41, op := Op.build 40 #[(0, Operand.tmp 29), (1, Operand.tmp 33), (2, Operand.tmp 36), (3, Operand.tmp 40)], type := 40, pos := _, after := #[{ on := 3, ground := Ground.data }, { on := 7, ground := Ground.data }, { on := 10, ground := Ground.data }, { on := 14, ground := Ground.data }], guard := none }) (v := ?_) rfl (by kernel_rfl) (by kernel_rfl) (by kernel_rfl) (fun _ _ _ h => h) (Or.inl ⟨by rfl, ?_⟩) (by assumption) ?_
          rotate_left
          · ((intro w hSw); (try dsimp only at hSw); go_simp; (try with_reducible rfl))
          try simp only [Act.put, List.setIfInBounds_toArray, List.set_cons_zero, List.set_cons_succ]
          refine wpAnyH_ready (rs := [16]) (by kernel_rfl) (by simp) ?_
          refine (AllReadyH.cons (o := { dst := some 7, op := Op.alloc 40, type := 0, pos := _, after := #[], guard := none }) rfl (fun K hK => ?_) AllReadyH.nil)
          go_simp
          refine hK.out _ _ ?_ (fun hHeld => ?_)
          · ((try dsimp only); (first | (with_reducible exact KS.out _ hN) | (with_reducible exact hHeld) | exact KS.out _ (Below.refl _ _).drew | exact KS.out _ (Below.alloc (KB.out _ hHeld) (KB.out _ hHeld).size _) | exact KS.out _ hN))
          clear hK K
          try simp only [Act.put, List.setIfInBounds_toArray, List.set_cons_zero, List.set_cons_succ]
          refine wpAnyH_ready (rs := [17]) (by kernel_rfl) (by simp) ?_
          refine (AllReadyH.cons (o := { dst := none, op := Op.store 40 (Operand.tmp 7) (Operand.tmp 41), type := 0, pos := _, after := #[{ on := 16, ground := Ground.data }, { on := 15, ground := Ground.data }, { on := 14, ground := Ground.chain }, { on := 0, ground := Ground.phase }, { on := 1, ground := Ground.phase }, { on := 2, ground := Ground.phase }, { on := 3, ground := Ground.phase }, { on := 4, ground := Ground.phase }, { on := 5, ground := Ground.phase }, { on := 6, ground := Ground.phase }, { on := 7, ground := Ground.phase }, { on := 8, ground := Ground.phase }, { on := 9, ground := Ground.phase }, { on := 10, ground := Ground.phase }, { on := 11, ground := Ground.phase }, { on := 12, ground := Ground.phase }, { on := 13, ground := Ground.phase }, { on := 14, ground := Ground.phase }, { on := 15, ground := Ground.phase }, { on := 16, ground := Ground.phase }], guard := none }) rfl (fun K hK => ?_) AllReadyH.nil)
          refine wp_store_row 40 (.tmp 7) (.tmp 41) rfl (w9.heap.size) #[.int .i64 (D0 : Int), .int .i64 (D1 : Int), .int .u64 (NN : Int), .slice ra body.length rc] rfl rfl 40 _ (heap_alloc_last w9 _) (by kernel_rfl) rfl (all4 _ _ _ _ _ _ _ _ _) ?_
          have Z7 := Lib.hid (setRow_heap (w9.alloc (.cells #[.int .i64 0, .int .i64 0, .int .u64 0, .slice none 0 0] 40)) (w9.heap.size) _ #[.int .i64 (D0 : Int), .int .i64 (D1 : Int), .int .u64 (NN : Int), .slice ra body.length rc] 40 _ (heap_alloc_last w9 _))
          have hgz : wz.heap.size ≤ w9.heap.size := by exact hN.size
          have B7 := Lib.hid (below_setRow (hN.alloc hN.size (.cells #[.int .i64 0, .int .i64 0, .int .u64 0, .slice none 0 0] 40)) hgz #[.int .i64 (D0 : Int), .int .i64 (D1 : Int), .int .u64 (NN : Int), .slice ra body.length rc])
          have S7 := Lib.hid (show Sl ((w9.alloc (.cells #[.int .i64 0, .int .i64 0, .int .u64 0, .slice none 0 0] 40)).setRow (w9.heap.size) #[.int .i64 (D0 : Int), .int .i64 (D1 : Int), .int .u64 (NN : Int), .slice ra body.length rc]) ra body from sl_setRow (sl_alloc HR9.out _) (fun x hx => Nat.ne_of_lt (HRX.out x hx).2) #[.int .i64 (D0 : Int), .int .i64 (D1 : Int), .int .u64 (NN : Int), .slice ra body.length rc])
          have HGZ := Lib.hid hgz
          clear hN hgz
          have HB7 := Lib.hid (below_then HBz.out B7.out HBz.out.size)
          have HNN := Lib.hid B7.out
          have hN := B7.out
          first | generalize ((w9.alloc (.cells #[.int .i64 0, .int .i64 0, .int .u64 0, .slice none 0 0] 40)).setRow (w9.heap.size) #[.int .i64 (D0 : Int), .int .i64 (D1 : Int), .int .u64 (NN : Int), .slice ra body.length rc]) = w7 at * | skip
          generalize w9.heap.size = g7 at *
          refine hK.out _ _ ?_ (fun hHeld => ?_)
          · ((try dsimp only); (first | (with_reducible exact KS.out _ hN) | (with_reducible exact hHeld) | exact KS.out _ (Below.refl _ _).drew | exact KS.out _ (Below.alloc (KB.out _ hHeld) (KB.out _ hHeld).size _) | exact KS.out _ hN))
          clear hK K
          try simp only [Act.put]
          refine wpAnyH_done (by kernel_rfl) ?_ _
          clear hN hHeld u0 u1 u2 u3 i0 i1 i2 i3 hs3 hs4 n3 n4 l0 l1
          as_aux_lemma =>
            have p0 : w7.cell? ⟨g7, 0, none⟩ = some (.int .i64 (D0 : Int)) := by rw [cell_of_row w7 g7 0 _ 40 _ Z7.out]; rfl
            have p1 : w7.cell? ⟨g7, 1, none⟩ = some (.int .i64 (D1 : Int)) := by rw [cell_of_row w7 g7 1 _ 40 _ Z7.out]; rfl
            have p2 : w7.cell? ⟨g7, 2, none⟩ = some (.int .u64 (NN : Int)) := by rw [cell_of_row w7 g7 2 _ 40 _ Z7.out]; rfl
            have p3 : w7.cell? ⟨g7, 3, none⟩ = some (.slice ra body.length rc) := by rw [cell_of_row w7 g7 3 _ 40 _ Z7.out]; rfl
            go_wp2_with (go_at_call 31; (with_reducible refine (dmayE (D0 : Int) (D1 : Int) NN ra body.length rc body w7 false rfl HMY.out).mono ?_); rintro e w8 ⟨rfl, b8⟩; have HB8 := Lib.hid (below_then HB7.out b8 HB7.out.size); have zR : w8.heap[w.heap.size]? = some (.cells #[.int .i64 0, .int .i64 0, .int .u64 0, .slice none 0 0] 40) := (by rw [HB8.out.block _ (Array.getElem?_eq_some_iff.1 HZ0.out).1]; exact HZ0.out); have z8 : w8.heap[g7]? = some (.cells #[.int .i64 (D0 : Int), .int .i64 (D1 : Int), .int .u64 (NN : Int), .slice ra body.length rc] 40) := (by rw [b8.block _ (Array.getElem?_eq_some_iff.1 Z7.out).1]; exact Z7.out); have d0 : w8.cell? ⟨w.heap.size, 0, none⟩ = some (.int .i64 0) := (by rw [cell_of_row w8 w.heap.size 0 _ 40 _ zR]; rfl); have df0 := frozen_of_row w8 w.heap.size 0 _ 40 zR; have d1 : w8.cell? ⟨w.heap.size, 1, none⟩ = some (.int .i64 0) := (by rw [cell_of_row w8 w.heap.size 1 _ 40 _ zR]; rfl); have df1 := frozen_of_row w8 w.heap.size 1 _ 40 zR; have d2 : w8.cell? ⟨w.heap.size, 2, none⟩ = some (.int .u64 0) := (by rw [cell_of_row w8 w.heap.size 2 _ 40 _ zR]; rfl); have df2 := frozen_of_row w8 w.heap.size 2 _ 40 zR; have d3 : w8.cell? ⟨w.heap.size, 3, none⟩ = some (.slice none 0 0) := (by rw [cell_of_row w8 w.heap.size 3 _ 40 _ zR]; rfl); have df3 := frozen_of_row w8 w.heap.size 3 _ 40 zR; clear p0 p1 p2 p3; have p0 : w8.cell? ⟨g7, 0, none⟩ = some (.int .i64 (D0 : Int)) := (by rw [cell_of_row w8 g7 0 _ 40 _ z8]; rfl); have p1 : w8.cell? ⟨g7, 1, none⟩ = some (.int .i64 (D1 : Int)) := (by rw [cell_of_row w8 g7 1 _ 40 _ z8]; rfl); have p2 : w8.cell? ⟨g7, 2, none⟩ = some (.int .u64 (NN : Int)) := (by rw [cell_of_row w8 g7 2 _ 40 _ z8]; rfl); have p3 : w8.cell? ⟨g7, 3, none⟩ = some (.slice ra body.length rc) := (by rw [cell_of_row w8 g7 3 _ 40 _ z8]; rfl); have HZR := Lib.hid zR; have HS8 := Lib.hid (sl_then b8 (Nat.le_refl _) S7.out); clear b8 zR z8)
            have Zf := pk_st HZR.out (.int .i64 0) (.int .i64 0) (.int .u64 0) (.slice none 0 0)
            have BF := Lib.hid (show Below w.heap.size w ((((w8.setCell ⟨w.heap.size, 0, none⟩ (.int .i64 0)).setCell ⟨w.heap.size, 1, none⟩ (.int .i64 0)).setCell ⟨w.heap.size, 2, none⟩ (.int .u64 0)).setCell ⟨w.heap.size, 3, none⟩ (.slice none 0 0)) from ((((below_then HB0.out HB8.out HB0.out.size).setCell (Nat.le_refl _) _).setCell (Nat.le_refl _) _).setCell (Nat.le_refl _) _).setCell (Nat.le_refl _) _)
            generalize ((((w8.setCell ⟨w.heap.size, 0, none⟩ (.int .i64 0)).setCell ⟨w.heap.size, 1, none⟩ (.int .i64 0)).setCell ⟨w.heap.size, 2, none⟩ (.int .u64 0)).setCell ⟨w.heap.size, 3, none⟩ (.slice none 0 0)) = WF at *
            have q0 : WF.cell? ⟨w.heap.size, 0, none⟩ = some (.int .i64 0) := by rw [cell_of_row WF w.heap.size 0 _ 40 _ Zf]; rfl
            have q1 : WF.cell? ⟨w.heap.size, 1, none⟩ = some (.int .i64 0) := by rw [cell_of_row WF w.heap.size 1 _ 40 _ Zf]; rfl
            have q2 : WF.cell? ⟨w.heap.size, 2, none⟩ = some (.int .u64 0) := by rw [cell_of_row WF w.heap.size 2 _ 40 _ Zf]; rfl
            have q3 : WF.cell? ⟨w.heap.size, 3, none⟩ = some (.slice none 0 0) := by rw [cell_of_row WF w.heap.size 3 _ 40 _ Zf]; rfl
            exact bodyPost_ret (v := .tuple #[.agg #[.int .i64 0, .int .i64 0, .int .u64 0, .slice none 0 0], .int .i64 2]) (by simp [results, Tryd.results28, go_sem, q0, q1, q2, q3]) rfl (⟨rfl, BF.out⟩)
        · skip
          go_simp
          refine hK.out _ _ ?_ (fun hHeld => ?_)
          · ((try dsimp only); (first | (with_reducible exact KS.out _ hN) | (with_reducible exact hHeld) | exact KS.out _ (Below.refl _ _).drew | exact KS.out _ (Below.alloc (KB.out _ hHeld) (KB.out _ hHeld).size _) | exact KS.out _ hN))
          clear hK K
          try simp only [Act.put, List.setIfInBounds_toArray, List.set_cons_zero, List.set_cons_succ]
          refine wpAnyH_ready (rs := [14]) (by kernel_rfl) (by simp) ?_
          refine (AllReadyH.cons (o := { dst := some 40, op := Op.call { callee := Callee.value (Operand.func 14), args := #[Operand.tmp 39], argTypes := #[22] }, type := 22, pos := _, after := #[{ on := 13, ground := Ground.data }, { on := 10, ground := Ground.chain }], guard := none }) rfl (fun K hK => ?_) AllReadyH.nil)
          go_simp
          go_at_call 14
          refine (copyG ya yc (E - 10) body _ HBO.out HBM.out (sl_then (KB.out _ hHeld) (Nat.le_refl _) HSYz.out) HYZ.out).mono ?_
          rintro e w9 ⟨v9, rfl, o9, b9⟩
          have HG7 := Lib.hid (show w9.heap[wz.heap.size]? = some (.cells #[.int .i64 0, .int .i64 0, .int .u64 0, .slice none 0 0] 40) from (b9.block wz.heap.size (by simp)).trans (heap_alloc_last wz _))
          have O9 := Lib.hid (rb_base o9 (KB.out _ hHeld).size)
          have O9B := Lib.hid o9
          obtain ⟨ra, rc, rfl, _, hr9, _, hx9⟩ := rb_sl o9
          have HR9 := Lib.hid hr9
          have HRX := Lib.hid hx9
          have HRN := Lib.hid (show ∀ x, ra = some x → x.block ≠ w.heap.size from fun x hx => Nat.ne_of_gt (Nat.lt_of_lt_of_le (Array.getElem?_eq_some_iff.1 HZ0.out).1 (Nat.le_trans HBz.out.size (Nat.le_trans (KB.out _ hHeld).size (hx9 x hx).1))))
          have hN := below_then (KB.out _ hHeld) b9 (KB.out _ hHeld).size
          clear o9 b9 hr9 hx9
          go_wp2_with fail
          refine hK.out _ _ ?_ (fun hHeld => ?_)
          · ((try dsimp only); (first | (with_reducible exact KS.out _ hN) | (with_reducible exact hHeld) | exact KS.out _ (Below.refl _ _).drew | exact KS.out _ (Below.alloc (KB.out _ hHeld) (KB.out _ hHeld).size _) | exact KS.out _ hN))
          clear hK K
          try simp only [Act.put, List.setIfInBounds_toArray, List.set_cons_zero, List.set_cons_succ]
          refine wpAnyH_take (i := 15) (oi := { dst := some 41, op := Op.build 40 #[(0, Operand.tmp 29), (1, Operand.tmp 33), (2, Operand.tmp 36), (3, Operand.tmp 40)], type := 40, pos := _, after := #[{ on := 3, ground := Ground.data }, { on := 7, ground := Ground.data }, { on := 10, ground := Ground.data }, { on := 14, ground := Ground.data }], guard := none }) (v := ?_) rfl (by kernel_rfl) (by kernel_rfl) (by kernel_rfl) (fun _ _ _ h => h) (Or.inl ⟨by rfl, ?_⟩) (by assumption) ?_
          rotate_left
          · ((intro w hSw); (try dsimp only at hSw); go_simp; (try with_reducible rfl))
          try simp only [Act.put, List.setIfInBounds_toArray, List.set_cons_zero, List.set_cons_succ]
          refine wpAnyH_ready (rs := [17]) (by kernel_rfl) (by simp) ?_
          refine (AllReadyH.cons (o := { dst := none, op := Op.store 40 (Operand.tmp 7) (Operand.tmp 41), type := 0, pos := _, after := #[{ on := 16, ground := Ground.data }, { on := 15, ground := Ground.data }, { on := 14, ground := Ground.chain }, { on := 0, ground := Ground.phase }, { on := 1, ground := Ground.phase }, { on := 2, ground := Ground.phase }, { on := 3, ground := Ground.phase }, { on := 4, ground := Ground.phase }, { on := 5, ground := Ground.phase }, { on := 6, ground := Ground.phase }, { on := 7, ground := Ground.phase }, { on := 8, ground := Ground.phase }, { on := 9, ground := Ground.phase }, { on := 10, ground := Ground.phase }, { on := 11, ground := Ground.phase }, { on := 12, ground := Ground.phase }, { on := 13, ground := Ground.phase }, { on := 14, ground := Ground.phase }, { on := 15, ground := Ground.phase }, { on := 16, ground := Ground.phase }], guard := none }) rfl (fun K hK => ?_) AllReadyH.nil)
          refine wp_store_row 40 (.tmp 7) (.tmp 41) rfl (wz.heap.size) #[.int .i64 (D0 : Int), .int .i64 (D1 : Int), .int .u64 (NN : Int), .slice ra body.length rc] rfl rfl 40 _ (HG7.out) (by kernel_rfl) rfl (all4 _ _ _ _ _ _ _ _ _) ?_
          have Z7 := Lib.hid (setRow_heap w9 (wz.heap.size) _ #[.int .i64 (D0 : Int), .int .i64 (D1 : Int), .int .u64 (NN : Int), .slice ra body.length rc] 40 _ (HG7.out))
          have hgz : wz.heap.size ≤ wz.heap.size := by exact Nat.le_refl _
          have B7 := Lib.hid (below_setRow hN hgz #[.int .i64 (D0 : Int), .int .i64 (D1 : Int), .int .u64 (NN : Int), .slice ra body.length rc])
          have S7 := Lib.hid (show Sl (w9.setRow (wz.heap.size) #[.int .i64 (D0 : Int), .int .i64 (D1 : Int), .int .u64 (NN : Int), .slice ra body.length rc]) ra body from sl_setRow HR9.out (fun x hx => ne_al (w := wz) (o := .cells #[.int .i64 0, .int .i64 0, .int .u64 0, .slice none 0 0] 40) (HRX.out x hx).1) #[.int .i64 (D0 : Int), .int .i64 (D1 : Int), .int .u64 (NN : Int), .slice ra body.length rc])
          have HGZ := Lib.hid hgz
          clear hN hgz
          have HB7 := Lib.hid (below_then HBz.out B7.out HBz.out.size)
          have HNN := Lib.hid B7.out
          have hN := B7.out
          generalize (w9.setRow (wz.heap.size) #[.int .i64 (D0 : Int), .int .i64 (D1 : Int), .int .u64 (NN : Int), .slice ra body.length rc]) = w7 at *
          generalize wz.heap.size = g7 at *
          refine hK.out _ _ ?_ (fun hHeld => ?_)
          · ((try dsimp only); (first | (with_reducible exact KS.out _ hN) | (with_reducible exact hHeld) | exact KS.out _ (Below.refl _ _).drew | exact KS.out _ (Below.alloc (KB.out _ hHeld) (KB.out _ hHeld).size _) | exact KS.out _ hN))
          clear hK K
          try simp only [Act.put]
          refine wpAnyH_done (by kernel_rfl) ?_ _
          clear hN hHeld u0 u1 u2 u3 i0 i1 i2 i3 hs3 hs4 n3 n4 l0 l1
          as_aux_lemma =>
            have p0 : w7.cell? ⟨g7, 0, none⟩ = some (.int .i64 (D0 : Int)) := by rw [cell_of_row w7 g7 0 _ 40 _ Z7.out]; rfl
            have p1 : w7.cell? ⟨g7, 1, none⟩ = some (.int .i64 (D1 : Int)) := by rw [cell_of_row w7 g7 1 _ 40 _ Z7.out]; rfl
            have p2 : w7.cell? ⟨g7, 2, none⟩ = some (.int .u64 (NN : Int)) := by rw [cell_of_row w7 g7 2 _ 40 _ Z7.out]; rfl
            have p3 : w7.cell? ⟨g7, 3, none⟩ = some (.slice ra body.length rc) := by rw [cell_of_row w7 g7 3 _ 40 _ Z7.out]; rfl
            go_wp2_with (go_at_call 31; (with_reducible refine (dmayE (D0 : Int) (D1 : Int) NN ra body.length rc body w7 false rfl HMY.out).mono ?_); rintro e w8 ⟨rfl, b8⟩; have HB8 := Lib.hid (below_then HB7.out b8 HB7.out.size); have zR : w8.heap[w.heap.size]? = some (.cells #[.int .i64 0, .int .i64 0, .int .u64 0, .slice none 0 0] 40) := (by rw [HB8.out.block _ (Array.getElem?_eq_some_iff.1 HZ0.out).1]; exact HZ0.out); have z8 : w8.heap[g7]? = some (.cells #[.int .i64 (D0 : Int), .int .i64 (D1 : Int), .int .u64 (NN : Int), .slice ra body.length rc] 40) := (by rw [b8.block _ (Array.getElem?_eq_some_iff.1 Z7.out).1]; exact Z7.out); have d0 : w8.cell? ⟨w.heap.size, 0, none⟩ = some (.int .i64 0) := (by rw [cell_of_row w8 w.heap.size 0 _ 40 _ zR]; rfl); have df0 := frozen_of_row w8 w.heap.size 0 _ 40 zR; have d1 : w8.cell? ⟨w.heap.size, 1, none⟩ = some (.int .i64 0) := (by rw [cell_of_row w8 w.heap.size 1 _ 40 _ zR]; rfl); have df1 := frozen_of_row w8 w.heap.size 1 _ 40 zR; have d2 : w8.cell? ⟨w.heap.size, 2, none⟩ = some (.int .u64 0) := (by rw [cell_of_row w8 w.heap.size 2 _ 40 _ zR]; rfl); have df2 := frozen_of_row w8 w.heap.size 2 _ 40 zR; have d3 : w8.cell? ⟨w.heap.size, 3, none⟩ = some (.slice none 0 0) := (by rw [cell_of_row w8 w.heap.size 3 _ 40 _ zR]; rfl); have df3 := frozen_of_row w8 w.heap.size 3 _ 40 zR; clear p0 p1 p2 p3; have p0 : w8.cell? ⟨g7, 0, none⟩ = some (.int .i64 (D0 : Int)) := (by rw [cell_of_row w8 g7 0 _ 40 _ z8]; rfl); have p1 : w8.cell? ⟨g7, 1, none⟩ = some (.int .i64 (D1 : Int)) := (by rw [cell_of_row w8 g7 1 _ 40 _ z8]; rfl); have p2 : w8.cell? ⟨g7, 2, none⟩ = some (.int .u64 (NN : Int)) := (by rw [cell_of_row w8 g7 2 _ 40 _ z8]; rfl); have p3 : w8.cell? ⟨g7, 3, none⟩ = some (.slice ra body.length rc) := (by rw [cell_of_row w8 g7 3 _ 40 _ z8]; rfl); have HZR := Lib.hid zR; have HS8 := Lib.hid (sl_then b8 (Nat.le_refl _) S7.out); clear b8 zR z8)
            have Zf := pk_st HZR.out (.int .i64 0) (.int .i64 0) (.int .u64 0) (.slice none 0 0)
            have BF := Lib.hid (show Below w.heap.size w ((((w8.setCell ⟨w.heap.size, 0, none⟩ (.int .i64 0)).setCell ⟨w.heap.size, 1, none⟩ (.int .i64 0)).setCell ⟨w.heap.size, 2, none⟩ (.int .u64 0)).setCell ⟨w.heap.size, 3, none⟩ (.slice none 0 0)) from ((((below_then HB0.out HB8.out HB0.out.size).setCell (Nat.le_refl _) _).setCell (Nat.le_refl _) _).setCell (Nat.le_refl _) _).setCell (Nat.le_refl _) _)
            generalize ((((w8.setCell ⟨w.heap.size, 0, none⟩ (.int .i64 0)).setCell ⟨w.heap.size, 1, none⟩ (.int .i64 0)).setCell ⟨w.heap.size, 2, none⟩ (.int .u64 0)).setCell ⟨w.heap.size, 3, none⟩ (.slice none 0 0)) = WF at *
            have q0 : WF.cell? ⟨w.heap.size, 0, none⟩ = some (.int .i64 0) := by rw [cell_of_row WF w.heap.size 0 _ 40 _ Zf]; rfl
            have q1 : WF.cell? ⟨w.heap.size, 1, none⟩ = some (.int .i64 0) := by rw [cell_of_row WF w.heap.size 1 _ 40 _ Zf]; rfl
            have q2 : WF.cell? ⟨w.heap.size, 2, none⟩ = some (.int .u64 0) := by rw [cell_of_row WF w.heap.size 2 _ 40 _ Zf]; rfl
            have q3 : WF.cell? ⟨w.heap.size, 3, none⟩ = some (.slice none 0 0) := by rw [cell_of_row WF w.heap.size 3 _ 40 _ Zf]; rfl
            exact bodyPost_ret (v := .tuple #[.agg #[.int .i64 0, .int .i64 0, .int .u64 0, .slice none 0 0], .int .i64 2]) (by simp [results, Tryd.results28, go_sem, q0, q1, q2, q3]) rfl (⟨rfl, BF.out⟩)
      · skip
        go_simp
        refine hK.out _ _ ?_ (fun hHeld => ?_)
        · ((try dsimp only); (first | (with_reducible exact KS.out _ hN) | (with_reducible exact hHeld) | exact KS.out _ (Below.refl _ _).drew | exact KS.out _ (Below.alloc (KB.out _ hHeld) (KB.out _ hHeld).size _) | exact KS.out _ hN))
        clear hK K
        try simp only [Act.put, List.setIfInBounds_toArray, List.set_cons_zero, List.set_cons_succ]
        refine wpAnyH_ready (rs := [10]) (by kernel_rfl) (by simp) ?_
        refine (AllReadyH.cons (o := { dst := some 36, op := Op.call { callee := Callee.value (Operand.func 56), args := #[Operand.tmp 35], argTypes := #[22] }, type := 33, pos := _, after := #[{ on := 9, ground := Ground.data }], guard := none }) rfl (fun K hK => ?_) AllReadyH.nil)
        go_simp
        (go_at_call 56; (with_reducible refine (bigC na 8 nc ((b.drop 2).take 8) _ HNL.out (by rw [← HNL.out]; decide) HNX.out (sl_then (KB.out _ hHeld) (Nat.le_refl _) HSNz.out)).mono ?_); rintro e wb ⟨rfl, rfl⟩; rw [← HNM.out])
        go_wp2_with fail
        refine hK.out _ _ ?_ (fun hHeld => ?_)
        · ((try dsimp only); (first | (with_reducible exact KS.out _ hN) | (with_reducible exact hHeld) | exact KS.out _ (Below.refl _ _).drew | exact KS.out _ (Below.alloc (KB.out _ hHeld) (KB.out _ hHeld).size _) | exact KS.out _ hN))
        clear hK K
        try simp only [Act.put, List.setIfInBounds_toArray, List.set_cons_zero, List.set_cons_succ]
        refine wpAnyH_ready (rs := [14]) (by kernel_rfl) (by simp) ?_
        refine (AllReadyH.cons (o := { dst := some 40, op := Op.call { callee := Callee.value (Operand.func 14), args := #[Operand.tmp 39], argTypes := #[22] }, type := 22, pos := _, after := #[{ on := 13, ground := Ground.data }, { on := 10, ground := Ground.chain }], guard := none }) rfl (fun K hK => ?_) AllReadyH.nil)
        go_simp
        go_at_call 14
        refine (copyG ya yc (E - 10) body _ HBO.out HBM.out (sl_then (KB.out _ hHeld) (Nat.le_refl _) HSYz.out) HYZ.out).mono ?_
        rintro e w9 ⟨v9, rfl, o9, b9⟩
        have HG7 := Lib.hid (show w9.heap[wz.heap.size]? = some (.cells #[.int .i64 0, .int .i64 0, .int .u64 0, .slice none 0 0] 40) from (b9.block wz.heap.size (by simp)).trans (heap_alloc_last wz _))
        have O9 := Lib.hid (rb_base o9 (KB.out _ hHeld).size)
        have O9B := Lib.hid o9
        obtain ⟨ra, rc, rfl, _, hr9, _, hx9⟩ := rb_sl o9
        have HR9 := Lib.hid hr9
        have HRX := Lib.hid hx9
        have HRN := Lib.hid (show ∀ x, ra = some x → x.block ≠ w.heap.size from fun x hx => Nat.ne_of_gt (Nat.lt_of_lt_of_le (Array.getElem?_eq_some_iff.1 HZ0.out).1 (Nat.le_trans HBz.out.size (Nat.le_trans (KB.out _ hHeld).size (hx9 x hx).1))))
        have hN := below_then (KB.out _ hHeld) b9 (KB.out _ hHeld).size
        clear o9 b9 hr9 hx9
        go_wp2_with fail
        refine hK.out _ _ ?_ (fun hHeld => ?_)
        · ((try dsimp only); (first | (with_reducible exact KS.out _ hN) | (with_reducible exact hHeld) | exact KS.out _ (Below.refl _ _).drew | exact KS.out _ (Below.alloc (KB.out _ hHeld) (KB.out _ hHeld).size _) | exact KS.out _ hN))
        clear hK K
        try simp only [Act.put, List.setIfInBounds_toArray, List.set_cons_zero, List.set_cons_succ]
        refine wpAnyH_take (i := 15) (oi := { dst := some 41, op := Op.build 40 #[(0, Operand.tmp 29), (1, Operand.tmp 33), (2, Operand.tmp 36), (3, Operand.tmp 40)], type := 40, pos := _, after := #[{ on := 3, ground := Ground.data }, { on := 7, ground := Ground.data }, { on := 10, ground := Ground.data }, { on := 14, ground := Ground.data }], guard := none }) (v := ?_) rfl (by kernel_rfl) (by kernel_rfl) (by kernel_rfl) (fun _ _ _ h => h) (Or.inl ⟨by rfl, ?_⟩) (by assumption) ?_
        rotate_left
        · ((intro w hSw); (try dsimp only at hSw); go_simp; (try with_reducible rfl))
        try simp only [Act.put, List.setIfInBounds_toArray, List.set_cons_zero, List.set_cons_succ]
        refine wpAnyH_ready (rs := [17]) (by kernel_rfl) (by simp) ?_
        refine (AllReadyH.cons (o := { dst := none, op := Op.store 40 (Operand.tmp 7) (Operand.tmp 41), type := 0, pos := _, after := #[{ on := 16, ground := Ground.data }, { on := 15, ground := Ground.data }, { on := 14, ground := Ground.chain }, { on := 0, ground := Ground.phase }, { on := 1, ground := Ground.phase }, { on := 2, ground := Ground.phase }, { on := 3, ground := Ground.phase }, { on := 4, ground := Ground.phase }, { on := 5, ground := Ground.phase }, { on := 6, ground := Ground.phase }, { on := 7, ground := Ground.phase }, { on := 8, ground := Ground.phase }, { on := 9, ground := Ground.phase }, { on := 10, ground := Ground.phase }, { on := 11, ground := Ground.phase }, { on := 12, ground := Ground.phase }, { on := 13, ground := Ground.phase }, { on := 14, ground := Ground.phase }, { on := 15, ground := Ground.phase }, { on := 16, ground := Ground.phase }], guard := none }) rfl (fun K hK => ?_) AllReadyH.nil)
        refine wp_store_row 40 (.tmp 7) (.tmp 41) rfl (wz.heap.size) #[.int .i64 (D0 : Int), .int .i64 (D1 : Int), .int .u64 (NN : Int), .slice ra body.length rc] rfl rfl 40 _ (HG7.out) (by kernel_rfl) rfl (all4 _ _ _ _ _ _ _ _ _) ?_
        have Z7 := Lib.hid (setRow_heap w9 (wz.heap.size) _ #[.int .i64 (D0 : Int), .int .i64 (D1 : Int), .int .u64 (NN : Int), .slice ra body.length rc] 40 _ (HG7.out))
        have hgz : wz.heap.size ≤ wz.heap.size := by exact Nat.le_refl _
        have B7 := Lib.hid (below_setRow hN hgz #[.int .i64 (D0 : Int), .int .i64 (D1 : Int), .int .u64 (NN : Int), .slice ra body.length rc])
        have S7 := Lib.hid (show Sl (w9.setRow (wz.heap.size) #[.int .i64 (D0 : Int), .int .i64 (D1 : Int), .int .u64 (NN : Int), .slice ra body.length rc]) ra body from sl_setRow HR9.out (fun x hx => ne_al (w := wz) (o := .cells #[.int .i64 0, .int .i64 0, .int .u64 0, .slice none 0 0] 40) (HRX.out x hx).1) #[.int .i64 (D0 : Int), .int .i64 (D1 : Int), .int .u64 (NN : Int), .slice ra body.length rc])
        have HGZ := Lib.hid hgz
        clear hN hgz
        have HB7 := Lib.hid (below_then HBz.out B7.out HBz.out.size)
        have HNN := Lib.hid B7.out
        have hN := B7.out
        generalize (w9.setRow (wz.heap.size) #[.int .i64 (D0 : Int), .int .i64 (D1 : Int), .int .u64 (NN : Int), .slice ra body.length rc]) = w7 at *
        generalize wz.heap.size = g7 at *
        refine hK.out _ _ ?_ (fun hHeld => ?_)
        · ((try dsimp only); (first | (with_reducible exact KS.out _ hN) | (with_reducible exact hHeld) | exact KS.out _ (Below.refl _ _).drew | exact KS.out _ (Below.alloc (KB.out _ hHeld) (KB.out _ hHeld).size _) | exact KS.out _ hN))
        clear hK K
        try simp only [Act.put]
        refine wpAnyH_done (by kernel_rfl) ?_ _
        clear hN hHeld u0 u1 u2 u3 i0 i1 i2 i3 hs3 hs4 n3 n4 l0 l1
        as_aux_lemma =>
          have p0 : w7.cell? ⟨g7, 0, none⟩ = some (.int .i64 (D0 : Int)) := by rw [cell_of_row w7 g7 0 _ 40 _ Z7.out]; rfl
          have p1 : w7.cell? ⟨g7, 1, none⟩ = some (.int .i64 (D1 : Int)) := by rw [cell_of_row w7 g7 1 _ 40 _ Z7.out]; rfl
          have p2 : w7.cell? ⟨g7, 2, none⟩ = some (.int .u64 (NN : Int)) := by rw [cell_of_row w7 g7 2 _ 40 _ Z7.out]; rfl
          have p3 : w7.cell? ⟨g7, 3, none⟩ = some (.slice ra body.length rc) := by rw [cell_of_row w7 g7 3 _ 40 _ Z7.out]; rfl
          go_wp2_with (go_at_call 31; (with_reducible refine (dmayE (D0 : Int) (D1 : Int) NN ra body.length rc body w7 false rfl HMY.out).mono ?_); rintro e w8 ⟨rfl, b8⟩; have HB8 := Lib.hid (below_then HB7.out b8 HB7.out.size); have zR : w8.heap[w.heap.size]? = some (.cells #[.int .i64 0, .int .i64 0, .int .u64 0, .slice none 0 0] 40) := (by rw [HB8.out.block _ (Array.getElem?_eq_some_iff.1 HZ0.out).1]; exact HZ0.out); have z8 : w8.heap[g7]? = some (.cells #[.int .i64 (D0 : Int), .int .i64 (D1 : Int), .int .u64 (NN : Int), .slice ra body.length rc] 40) := (by rw [b8.block _ (Array.getElem?_eq_some_iff.1 Z7.out).1]; exact Z7.out); have d0 : w8.cell? ⟨w.heap.size, 0, none⟩ = some (.int .i64 0) := (by rw [cell_of_row w8 w.heap.size 0 _ 40 _ zR]; rfl); have df0 := frozen_of_row w8 w.heap.size 0 _ 40 zR; have d1 : w8.cell? ⟨w.heap.size, 1, none⟩ = some (.int .i64 0) := (by rw [cell_of_row w8 w.heap.size 1 _ 40 _ zR]; rfl); have df1 := frozen_of_row w8 w.heap.size 1 _ 40 zR; have d2 : w8.cell? ⟨w.heap.size, 2, none⟩ = some (.int .u64 0) := (by rw [cell_of_row w8 w.heap.size 2 _ 40 _ zR]; rfl); have df2 := frozen_of_row w8 w.heap.size 2 _ 40 zR; have d3 : w8.cell? ⟨w.heap.size, 3, none⟩ = some (.slice none 0 0) := (by rw [cell_of_row w8 w.heap.size 3 _ 40 _ zR]; rfl); have df3 := frozen_of_row w8 w.heap.size 3 _ 40 zR; clear p0 p1 p2 p3; have p0 : w8.cell? ⟨g7, 0, none⟩ = some (.int .i64 (D0 : Int)) := (by rw [cell_of_row w8 g7 0 _ 40 _ z8]; rfl); have p1 : w8.cell? ⟨g7, 1, none⟩ = some (.int .i64 (D1 : Int)) := (by rw [cell_of_row w8 g7 1 _ 40 _ z8]; rfl); have p2 : w8.cell? ⟨g7, 2, none⟩ = some (.int .u64 (NN : Int)) := (by rw [cell_of_row w8 g7 2 _ 40 _ z8]; rfl); have p3 : w8.cell? ⟨g7, 3, none⟩ = some (.slice ra body.length rc) := (by rw [cell_of_row w8 g7 3 _ 40 _ z8]; rfl); have HZR := Lib.hid zR; have HS8 := Lib.hid (sl_then b8 (Nat.le_refl _) S7.out); clear b8 zR z8)
          have Zf := pk_st HZR.out (.int .i64 0) (.int .i64 0) (.int .u64 0) (.slice none 0 0)
          have BF := Lib.hid (show Below w.heap.size w ((((w8.setCell ⟨w.heap.size, 0, none⟩ (.int .i64 0)).setCell ⟨w.heap.size, 1, none⟩ (.int .i64 0)).setCell ⟨w.heap.size, 2, none⟩ (.int .u64 0)).setCell ⟨w.heap.size, 3, none⟩ (.slice none 0 0)) from ((((below_then HB0.out HB8.out HB0.out.size).setCell (Nat.le_refl _) _).setCell (Nat.le_refl _) _).setCell (Nat.le_refl _) _).setCell (Nat.le_refl _) _)
          generalize ((((w8.setCell ⟨w.heap.size, 0, none⟩ (.int .i64 0)).setCell ⟨w.heap.size, 1, none⟩ (.int .i64 0)).setCell ⟨w.heap.size, 2, none⟩ (.int .u64 0)).setCell ⟨w.heap.size, 3, none⟩ (.slice none 0 0)) = WF at *
          have q0 : WF.cell? ⟨w.heap.size, 0, none⟩ = some (.int .i64 0) := by rw [cell_of_row WF w.heap.size 0 _ 40 _ Zf]; rfl
          have q1 : WF.cell? ⟨w.heap.size, 1, none⟩ = some (.int .i64 0) := by rw [cell_of_row WF w.heap.size 1 _ 40 _ Zf]; rfl
          have q2 : WF.cell? ⟨w.heap.size, 2, none⟩ = some (.int .u64 0) := by rw [cell_of_row WF w.heap.size 2 _ 40 _ Zf]; rfl
          have q3 : WF.cell? ⟨w.heap.size, 3, none⟩ = some (.slice none 0 0) := by rw [cell_of_row WF w.heap.size 3 _ 40 _ Zf]; rfl
          exact bodyPost_ret (v := .tuple #[.agg #[.int .i64 0, .int .i64 0, .int .u64 0, .slice none 0 0], .int .i64 2]) (by simp [results, Tryd.results28, go_sem, q0, q1, q2, q3]) rfl (⟨rfl, BF.out⟩)

end Go.Proofs.YtmfkfpgomglplaaDoor.Dt
