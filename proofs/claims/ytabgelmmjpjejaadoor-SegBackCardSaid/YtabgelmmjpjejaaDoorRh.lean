/- A segment's beginning, read. -/
import Derived.Test.YtabgelmmjpjejaaDoorSn
import Derived.Deep.RegionHeld
set_option linter.unusedVariables false
namespace Go.Proofs.YtabgelmmjpjejaaDoor.Rh
open Go Go.RowKit Kit Crc Var Get Ref3 Copy Bytes Bx Py Py2 Ry Rz Dn Df Dd Da Dc Rs Rf Rg Ar Bg Hd Sn


/-- what a segment's bytes say of their beginning. -/
def hdN (l : List Nat) : Nat := numL ((l.drop 4).take 4)
def hdV (l : List Nat) : Nat := numL ((l.drop 8).take 8)
def hdY (l : List Nat) : Prop := 20 ≤ l.length ∧ hdOk (hdN l) (hdV l) ∧ l.take 20 = hdL (hdN l) (hdV l)
instance (l : List Nat) : Decidable (hdY l) := inferInstanceAs (Decidable (_ ∧ _))
def RhP (l : List Nat) (w : World) (e : Ending) (w' : World) : Prop := e = .returned (.tuple #[.agg #[.int .i64 ((if hdY l then hdN l else 0 : Nat) : Int), .int .u64 ((if hdY l then hdV l else 0 : Nat) : Int)], .bool (decide (hdY l))]) ∧ Below w.heap.size w w'
theorem rhNo {l : List Nat} {w w' : World} (h : ¬ hdY l) (b : Below w.heap.size w w') : RhP l w (.returned (.tuple #[.agg #[.int .i64 0, .int .u64 0], .bool false])) w' := by
  unfold RhP; rw [if_neg h, if_neg h, decide_eq_false h]; exact ⟨rfl, b⟩
theorem rhYes {l : List Nat} {w w' : World} (h : hdY l) (b : Below w.heap.size w w') : RhP l w (.returned (.tuple #[.agg #[.int .i64 (hdN l : Int), .int .u64 (hdV l : Int)], .bool true])) w' := by
  unfold RhP; rw [if_pos h, if_pos h, decide_eq_true h]; exact ⟨rfl, b⟩
set_option maxRecDepth 100000 in
set_option maxHeartbeats 2000000 in
theorem rhShort (a : Option Addr) (n cap : Nat) (l : List Nat) (w : World) (hn : n = l.length) (h : l.length < 20) : Calls Tryd.prog 48 #[.slice a n cap] w (RhP l w) := by
  subst hn
  have HY := Lib.hid (show ¬ hdY l from fun h' => by have := h'.1; omega)
  have c1 : (w.alloc (.cells #[.int .i64 0, .int .u64 0] 49)).cell? ⟨w.heap.size, 1, none⟩ = some (.int .u64 0) := by rw [cell_of_row _ w.heap.size 1 _ 49 (0, 0) (heap_alloc_last w _)]; rfl
  have c0 : (w.alloc (.cells #[.int .i64 0, .int .u64 0] 49)).cell? ⟨w.heap.size, 0, none⟩ = some (.int .i64 0) := by rw [cell_of_row _ w.heap.size 0 _ 49 (0, 0) (heap_alloc_last w _)]; rfl
  go_enter Tryd.func48, Tryd.ntmps48
  go_wp2
  exact bodyPost_ret (v := .tuple #[.agg #[.int .i64 0, .int .u64 0], .bool false]) (by simp [results, Tryd.results48, go_sem, c0, c1]) rfl (rhNo HY.out ((Below.refl _ _).alloc (Nat.le_refl _) _))
/-- two cells of a block, put anew. -/
theorem two_set {w : World} {g : Nat} {x0 x1 : Value} (h : w.heap[g]? = some (.cells #[x0, x1] 49 (0, 0))) (a b : Value) : ((w.setCell ⟨g, 0, none⟩ a).setCell ⟨g, 1, none⟩ b).heap[g]? = some (.cells #[a, b] 49 (0, 0)) := by
  rw [heap_setCell_same _ g 1 _ 49 b (heap_setCell_same _ g 0 _ 49 a h)]; rfl
theorem two_cells {w : World} {g : Nat} {x0 x1 : Value} (h : w.heap[g]? = some (.cells #[x0, x1] 49 (0, 0))) : w.cell? ⟨g, 0, none⟩ = some x0 ∧ w.cell? ⟨g, 1, none⟩ = some x1 ∧ w.frozen? ⟨g, 0, none⟩ = false ∧ w.frozen? ⟨g, 1, none⟩ = false := by
  refine ⟨?_, ?_, frozen_of_row w g 0 _ 49 h, frozen_of_row w g 1 _ 49 h⟩
  · rw [cell_of_row w g 0 _ 49 _ h]; rfl
  · rw [cell_of_row w g 1 _ 49 _ h]; rfl
theorem two_below {B : Nat} {w0 w : World} {g : Nat} (h : Below B w0 w) (hB : B ≤ g) (a b : Value) : Below B w0 ((w.setCell ⟨g, 0, none⟩ a).setCell ⟨g, 1, none⟩ b) := (h.setCell hB _).setCell hB _

set_option maxRecDepth 100000 in
set_option maxHeartbeats 2000000 in
theorem rhLong (b off cap : Nat) (l : List Nat) (w : World) (h : 20 ≤ l.length) (hs : Sl w (some ⟨b, off, none⟩) l) (hcap : l.length ≤ cap) (hl : ∀ c ∈ l, c < 256) (hT : TabC w) : Calls Tryd.prog 48 #[.slice (some ⟨b, off, none⟩) l.length cap] w (RhP l w) := by
  obtain ⟨M1, hM1⟩ : ∃ M, M = (l.drop 4).take 4 := ⟨_, rfl⟩
  obtain ⟨M2, hM2⟩ : ∃ M, M = (l.drop 8).take 8 := ⟨_, rfl⟩
  obtain ⟨V1, hV1⟩ : ∃ V, V = numL M1 := ⟨_, rfl⟩
  obtain ⟨V2, hV2⟩ : ∃ V, V = numL M2 := ⟨_, rfl⟩
  have HM1 := Lib.hid hM1
  have HM2 := Lib.hid hM2
  have HV1 := Lib.hid hV1
  have HV2 := Lib.hid hV2
  have HL := Lib.hid hl
  have HLE := Lib.hid h
  have HEV := Lib.hid (show V1 = hdN l ∧ V2 = hdV l by rw [hV1, hV2, hM1, hM2]; exact ⟨rfl, rfl⟩)
  obtain ⟨X, hX⟩ : ∃ X, X = hdX V1 V2 := ⟨_, rfl⟩
  obtain ⟨E, hE⟩ : ∃ E, E = hdE V1 V2 := ⟨_, rfl⟩
  obtain ⟨L20, hL20⟩ : ∃ L, L = l.take 20 := ⟨_, rfl⟩
  obtain ⟨QB, hQB⟩ : ∃ Q, Q = decide (L20 = X) := ⟨_, rfl⟩
  have HX := Lib.hid hX
  have HE := Lib.hid hE
  have HQ := Lib.hid hQB
  have HXL := Lib.hid (show ∀ c ∈ X, c < 256 by
    rw [hX]; unfold hdX; split
    · exact hdL_lt _ _
    · intro c hc; cases hc)
  have HL20 := Lib.hid (show 20 = L20.length ∧ (∀ c ∈ L20, c < 256) ∧ ∀ W, Sl W (some ⟨b, off, none⟩) l → Sl W (some ⟨b, off, none⟩) L20 by
    refine ⟨by rw [hL20, List.length_take]; omega, by rw [hL20]; exact fun c hc => hl c (List.mem_of_mem_take hc), fun W hW => ?_⟩
    obtain ⟨b', o', e1, hc⟩ := sl_at hW (by omega)
    injection e1 with e1; injection e1 with e2 e3 e4; subst e2 e3
    exact sl_take hc 20 _ hL20)
  have HCASE := Lib.hid (show (E = 1 ∧ ¬ hdY l) ∨ (E = 0 ∧ QB = false ∧ ¬ hdY l) ∨ (E = 0 ∧ QB = true ∧ hdY l) by
    rw [hE, hQB, hX, hL20]
    unfold hdE hdX
    obtain ⟨e1, e2⟩ := HEV.out
    by_cases ho : hdOk V1 V2
    · rw [if_pos ho, if_pos ho]
      by_cases hq : l.take 20 = hdL V1 V2
      · exact .inr (.inr ⟨rfl, decide_eq_true hq, h, by rw [← e1, ← e2]; exact ho, by rw [← e1, ← e2]; exact hq⟩)
      · exact .inr (.inl ⟨rfl, decide_eq_false hq, fun hy => hq (by rw [e1, e2]; exact hy.2.2)⟩)
    · rw [if_neg ho, if_neg ho]
      exact .inl ⟨rfl, fun hy => ho (by rw [e1, e2]; exact hy.2.1)⟩)
  have g9 : ¬ cap < 20 := by omega
  have g10 : ¬ (cap : Int) < 20 := by omega
  have VL : V1 < 4294967296 := by
    rw [hV1]
    refine Nat.lt_of_lt_of_le (numL_lt M1 ?_) (Nat.le_trans (Nat.pow_le_pow_right (by decide) (show M1.length ≤ 4 by rw [hM1, List.length_take]; omega)) (by decide))
    rw [hM1]; exact fun c hc => hl c (List.mem_of_mem_drop (List.mem_of_mem_take hc))
  have HVL := Lib.hid VL
  have g1 : ¬ (l.length : Int) < 20 := by omega
  have g2 : ¬ (cap : Int) < 8 := by omega
  have g3 : ¬ (cap : Int) < 16 := by omega
  have g4 : ¬ cap < 8 := by omega
  have g5 : ¬ cap < 16 := by omega
  have g6 : ¬ cap = 4 := by omega
  have g7 : ¬ cap = 8 := by omega
  have HB0 := Lib.hid ((Below.refl w.heap.size w).alloc (Nat.le_refl _) (.cells #[.int .i64 0, .int .u64 0] 49))
  have HR0 := Lib.hid (heap_alloc_last w (.cells #[.int .i64 0, .int .u64 0] 49))
  have HS1 := Lib.hid (sl_then HB0.out (Nat.le_refl _) hs)
  have HT1 := Lib.hid (tabC_then HB0.out (Nat.le_refl _) hT)
  clear hM1 hM2 hV1 hV2 hs hl hT h hcap hX hE hL20 hQB
  go_enter Tryd.func48, Tryd.ntmps48
  go_wp2_with fail
  generalize w.alloc (.cells #[.int .i64 0, .int .u64 0] 49) = w1 at *
  have w8 : IntKind.i64.wrap (V1 : Int) = (V1 : Int) := by rw [IntKind.wrap_i64]; omega
  clear VL
  as_aux_lemma =>
    refine wp_region_held_drew (S := (fun W => Below w1.heap.size w1 W)) (by kernel_rfl) ?_ (fun hHeld => ?_)
    · ((try dsimp only); (first | exact (Below.refl _ _).drew | exact ((Below.refl w1.heap.size w1).alloc (Nat.le_refl _) (.cells #[.int .i64 (V1 : Int), .int .u64 (V2 : Int)] 49)).drew | (with_reducible exact hHeld) | exact Below.alloc hHeld hHeld.size _))
    refine wpAnyH_take (i := 0) (oi := { dst := some 11, op := Op.move (Operand.tmp 0), type := 23, pos := _, after := #[], guard := none }) (v := ?_) rfl (by kernel_rfl) (by kernel_rfl) (by kernel_rfl) (fun _ _ _ h => h) (Or.inl ⟨by rfl, ?_⟩) (by assumption) ?_
    rotate_left
    · ((intro w hSw); (try dsimp only at hSw); go_simp; (try with_reducible rfl))
    try simp only [Act.put, List.setIfInBounds_toArray, List.set_cons_zero, List.set_cons_succ]
    refine wpAnyH_take (i := 1) (oi := { dst := some 12, op := Op.slice 23 (Operand.tmp 11) (some (Operand.const (Value.int IntKind.i64 4))) (some (Operand.const (Value.int IntKind.i64 8))) none, type := 23, pos := _, after := #[{ on := 0, ground := Ground.data }], guard := none }) (v := ?_) rfl (by kernel_rfl) (by kernel_rfl) (by kernel_rfl) (fun _ _ _ h => h) (Or.inl ⟨by rfl, ?_⟩) (by assumption) ?_
    rotate_left
    · ((intro w hSw); (try dsimp only at hSw); go_simp; (try with_reducible rfl))
    try simp only [Act.put, List.setIfInBounds_toArray, List.set_cons_zero, List.set_cons_succ]
    refine wpAnyH_take (i := 4) (oi := { dst := some 15, op := Op.move (Operand.tmp 0), type := 23, pos := _, after := #[], guard := none }) (v := ?_) rfl (by kernel_rfl) (by kernel_rfl) (by kernel_rfl) (fun _ _ _ h => h) (Or.inl ⟨by rfl, ?_⟩) (by assumption) ?_
    rotate_left
    · ((intro w hSw); (try dsimp only at hSw); go_simp; (try with_reducible rfl))
    try simp only [Act.put, List.setIfInBounds_toArray, List.set_cons_zero, List.set_cons_succ]
    refine wpAnyH_take (i := 5) (oi := { dst := some 16, op := Op.slice 23 (Operand.tmp 15) (some (Operand.const (Value.int IntKind.i64 8))) (some (Operand.const (Value.int IntKind.i64 16))) none, type := 23, pos := _, after := #[{ on := 4, ground := Ground.data }], guard := none }) (v := ?_) rfl (by kernel_rfl) (by kernel_rfl) (by kernel_rfl) (fun _ _ _ h => h) (Or.inl ⟨by rfl, ?_⟩) (by assumption) ?_
    rotate_left
    · ((intro w hSw); (try dsimp only at hSw); go_simp; (try with_reducible rfl))
    try simp only [Act.put, List.setIfInBounds_toArray, List.set_cons_zero, List.set_cons_succ]
    refine wpAnyH_ready (rs := [2, 8]) (by kernel_rfl) (by simp) ?_
    refine (AllReadyH.cons (o := { dst := some 13, op := Op.call { callee := Callee.value (Operand.func 60), args := #[Operand.tmp 12], argTypes := #[23] }, type := 22, pos := _, after := #[{ on := 1, ground := Ground.data }], guard := none }) rfl (fun K hK => ?_) (AllReadyH.cons (o := { dst := some 4, op := Op.alloc 49, type := 0, pos := _, after := #[], guard := none }) rfl (fun K hK => ?_) AllReadyH.nil))
    · skip
      go_simp
      go_at_call 60
      refine (numQ b off 4 4 _ l M1 V1 _ HM1.out (by decide) (by decide) (by have := HLE.out; omega) HL.out HV1.out (sl_then hHeld (Nat.le_refl _) HS1.out)).mono ?_
      rintro e w9 ⟨rfl, rfl⟩
      go_wp2_with fail
      refine hK.out _ _ ?_ (fun hHeld => ?_)
      · ((try dsimp only); (first | exact (Below.refl _ _).drew | exact ((Below.refl w1.heap.size w1).alloc (Nat.le_refl _) (.cells #[.int .i64 (V1 : Int), .int .u64 (V2 : Int)] 49)).drew | (with_reducible exact hHeld) | exact Below.alloc hHeld hHeld.size _))
      clear hK K
      try simp only [Act.put, List.setIfInBounds_toArray, List.set_cons_zero, List.set_cons_succ]
      refine wpAnyH_take (i := 3) (oi := { dst := some 14, op := Op.convert 22 3 (Operand.tmp 13), type := 3, pos := _, after := #[{ on := 2, ground := Ground.data }], guard := none }) (v := ?_) rfl (by kernel_rfl) (by kernel_rfl) (by kernel_rfl) (fun _ _ _ h => h) (Or.inl ⟨by rfl, ?_⟩) (by assumption) ?_
      rotate_left
      · ((intro w hSw); (try dsimp only at hSw); go_simp; (try with_reducible rfl))
      try simp only [Act.put, List.setIfInBounds_toArray, List.set_cons_zero, List.set_cons_succ]
      refine wpAnyH_ready (rs := [6, 8]) (by kernel_rfl) (by simp) ?_
      refine (AllReadyH.cons (o := { dst := some 17, op := Op.call { callee := Callee.value (Operand.func 60), args := #[Operand.tmp 16], argTypes := #[23] }, type := 22, pos := _, after := #[{ on := 5, ground := Ground.data }, { on := 2, ground := Ground.chain }], guard := none }) rfl (fun K hK => ?_) (AllReadyH.cons (o := { dst := some 4, op := Op.alloc 49, type := 0, pos := _, after := #[], guard := none }) rfl (fun K hK => ?_) AllReadyH.nil))
      · skip
        go_simp
        go_at_call 60
        refine (numQ b off 8 8 _ l M2 V2 _ HM2.out (by decide) (by decide) (by have := HLE.out; omega) HL.out HV2.out (sl_then hHeld (Nat.le_refl _) HS1.out)).mono ?_
        rintro e w9 ⟨rfl, rfl⟩
        go_wp2_with fail
        refine hK.out _ _ ?_ (fun hHeld => ?_)
        · ((try dsimp only); (first | exact (Below.refl _ _).drew | exact ((Below.refl w1.heap.size w1).alloc (Nat.le_refl _) (.cells #[.int .i64 (V1 : Int), .int .u64 (V2 : Int)] 49)).drew | (with_reducible exact hHeld) | exact Below.alloc hHeld hHeld.size _))
        clear hK K
        try simp only [Act.put, List.setIfInBounds_toArray, List.set_cons_zero, List.set_cons_succ]
        refine wpAnyH_take (i := 7) (oi := { dst := some 18, op := Op.build 49 #[(0, Operand.tmp 14), (1, Operand.tmp 17)], type := 49, pos := _, after := #[{ on := 3, ground := Ground.data }, { on := 6, ground := Ground.data }], guard := none }) (v := ?_) rfl (by kernel_rfl) (by kernel_rfl) (by kernel_rfl) (fun _ _ _ h => h) (Or.inl ⟨by rfl, ?_⟩) (by assumption) ?_
        rotate_left
        · ((intro w hSw); (try dsimp only at hSw); go_simp; (try with_reducible rfl))
        try simp only [Act.put, List.setIfInBounds_toArray, List.set_cons_zero, List.set_cons_succ]
        refine wpAnyH_ready (rs := [8]) (by kernel_rfl) (by simp) ?_
        refine (AllReadyH.cons (o := { dst := some 4, op := Op.alloc 49, type := 0, pos := _, after := #[], guard := none }) rfl (fun K hK => ?_) AllReadyH.nil)
        go_simp
        refine hK.out _ _ ?_ (fun hHeld => ?_)
        · ((try dsimp only); (first | exact (Below.refl _ _).drew | exact ((Below.refl w1.heap.size w1).alloc (Nat.le_refl _) (.cells #[.int .i64 (V1 : Int), .int .u64 (V2 : Int)] 49)).drew | (with_reducible exact hHeld) | exact Below.alloc hHeld hHeld.size _))
        clear hK K
        try simp only [Act.put, List.setIfInBounds_toArray, List.set_cons_zero, List.set_cons_succ]
        refine wpAnyH_ready (rs := [9]) (by kernel_rfl) (by simp) ?_
        refine (AllReadyH.cons (o := { dst := none, op := Op.store 49 (Operand.tmp 4) (Operand.tmp 18), type := 0, pos := _, after := #[{ on := 8, ground := Ground.data }, { on := 7, ground := Ground.data }, { on := 6, ground := Ground.chain }, { on := 0, ground := Ground.phase }, { on := 1, ground := Ground.phase }, { on := 2, ground := Ground.phase }, { on := 3, ground := Ground.phase }, { on := 4, ground := Ground.phase }, { on := 5, ground := Ground.phase }, { on := 6, ground := Ground.phase }, { on := 7, ground := Ground.phase }, { on := 8, ground := Ground.phase }], guard := none }) rfl (fun K hK => ?_) AllReadyH.nil)
        go_simp
        refine hK.out _ _ ?_ (fun hHeld => ?_)
        · ((try dsimp only); (first | exact (Below.refl _ _).drew | exact ((Below.refl w1.heap.size w1).alloc (Nat.le_refl _) (.cells #[.int .i64 (V1 : Int), .int .u64 (V2 : Int)] 49)).drew | (with_reducible exact hHeld) | exact Below.alloc hHeld hHeld.size _))
        clear hK K
        try simp only [Act.put]
        refine wpAnyH_done (by kernel_rfl) ?_ _
        have HBW := Lib.hid (((Below.refl w1.heap.size w1).alloc (Nat.le_refl _) (.cells #[.int .i64 (V1 : Int), .int .u64 (V2 : Int)] 49)).drew)
        have HP := Lib.hid (show ((w1.alloc (.cells #[.int .i64 (V1 : Int), .int .u64 (V2 : Int)] 49)).drew).heap[w1.heap.size]? = some (.cells #[.int .i64 (V1 : Int), .int .u64 (V2 : Int)] 49 (0, 0)) from heap_alloc_last w1 _)
        have HPL := Lib.hid (show w1.heap.size < ((w1.alloc (.cells #[.int .i64 (V1 : Int), .int .u64 (V2 : Int)] 49)).drew).heap.size from (Array.getElem?_eq_some_iff.1 HP.out).1)
        as_aux_lemma =>
          generalize (w1.alloc (.cells #[.int .i64 (V1 : Int), .int .u64 (V2 : Int)] 49)).drew = w2 at *
          have HRL := Lib.hid (Array.getElem?_eq_some_iff.1 HR0.out).1
          have HB2 := Lib.hid (below_then HB0.out HBW.out HB0.out.size)
          have HR2 := Lib.hid ((HBW.out.block _ HRL.out).trans HR0.out)
          have HT2 := Lib.hid (tabC_then HBW.out (Nat.le_refl _) HT1.out)
          have HS2 := Lib.hid (sl_then HBW.out (Nat.le_refl _) HS1.out)
          have HW2 := Lib.hid HBW.out.size
          obtain ⟨p0, p1, _, _⟩ := two_cells HP.out
          clear hHeld
          rcases HCASE.out with ⟨rfl, hy⟩ | ⟨rfl, rfl, hy⟩ | ⟨rfl, rfl, hy⟩
          · have HY := Lib.hid hy
            clear hy
            go_wp2_with (go_at_call 27; (with_reducible refine (headK V1 V2 X 1 w2 HX.out HE.out HT2.out).mono ?_); rintro e w3 ⟨xa, xc, rfl, xs, xz, xcap, xfresh, b3⟩; have HB3 := Lib.hid (below_then HB2.out b3 HB2.out.size); have HR3 := Lib.hid ((b3.block _ (Nat.lt_of_lt_of_le HRL.out HW2.out)).trans HR2.out); obtain ⟨q0, q1, q2, q3⟩ := two_cells HR3.out; clear xs xz xcap xfresh b3)
            clear q0 q1 q2 q3
            obtain ⟨q0, q1, _, _⟩ := two_cells (two_set HR3.out (.int .i64 0) (.int .u64 0))
            exact bodyPost_ret (v := .tuple #[.agg #[.int .i64 0, .int .u64 0], .bool false]) (by simp [results, Tryd.results48, go_sem, q0, q1]) rfl (rhNo HY.out (two_below HB3.out (Nat.le_refl _) _ _))
          · have HY := Lib.hid hy
            clear hy
            go_wp2_with (first
              | (go_at_call 27; (with_reducible refine (headK V1 V2 X 0 w2 HX.out HE.out HT2.out).mono ?_); rintro e w3 ⟨xa, xc, rfl, xs, xz, xcap, xfresh, b3⟩; have HB3 := Lib.hid (below_then HB2.out b3 HB2.out.size); have HR3 := Lib.hid ((b3.block _ (Nat.lt_of_lt_of_le HRL.out HW2.out)).trans HR2.out); have HS3 := Lib.hid (sl_then b3 (Nat.le_refl _) HS2.out); have HXS := Lib.hid xs; obtain ⟨q0, q1, q2, q3⟩ := two_cells HR3.out; clear xs xz xcap xfresh b3)
              | (go_at_call 44; (with_reducible refine (equalK (some ⟨b, off, none⟩) xa cap xc 20 X.length L20 X w3 false HL20.out.1 rfl (HL20.out.2.2 _ HS3.out) HXS.out HL20.out.2.1 HXL.out HQ.out).mono ?_); rintro e w' ⟨rfl, rfl⟩))
            clear q0 q1 q2 q3
            obtain ⟨q0, q1, _, _⟩ := two_cells (two_set HR3.out (.int .i64 0) (.int .u64 0))
            exact bodyPost_ret (v := .tuple #[.agg #[.int .i64 0, .int .u64 0], .bool false]) (by simp [results, Tryd.results48, go_sem, q0, q1]) rfl (rhNo HY.out (two_below HB3.out (Nat.le_refl _) _ _))
          · have HY := Lib.hid hy
            clear hy
            go_wp2_with (first
              | (go_at_call 27; (with_reducible refine (headK V1 V2 X 0 w2 HX.out HE.out HT2.out).mono ?_); rintro e w3 ⟨xa, xc, rfl, xs, xz, xcap, xfresh, b3⟩; have HB3 := Lib.hid (below_then HB2.out b3 HB2.out.size); have HR3 := Lib.hid ((b3.block _ (Nat.lt_of_lt_of_le HRL.out HW2.out)).trans HR2.out); have HP3 := Lib.hid ((b3.block _ HPL.out).trans HP.out); have HS3 := Lib.hid (sl_then b3 (Nat.le_refl _) HS2.out); have HXS := Lib.hid xs; obtain ⟨q0, q1, q2, q3⟩ := two_cells HR3.out; clear p0 p1; obtain ⟨p0, p1, _, _⟩ := two_cells HP3.out; clear xs xz xcap xfresh b3)
              | (go_at_call 44; (with_reducible refine (equalK (some ⟨b, off, none⟩) xa cap xc 20 X.length L20 X w3 true HL20.out.1 rfl (HL20.out.2.2 _ HS3.out) HXS.out HL20.out.2.1 HXL.out HQ.out).mono ?_); rintro e w' ⟨rfl, rfl⟩))
            clear q0 q1 q2 q3
            obtain ⟨q0, q1, _, _⟩ := two_cells (two_set HR3.out (.int .i64 (V1 : Int)) (.int .u64 (V2 : Int)))
            have HFIN := Lib.hid (two_below HB3.out (Nat.le_refl w.heap.size) (.int .i64 (V1 : Int)) (.int .u64 (V2 : Int)))
            exact bodyPost_ret (v := .tuple #[.agg #[.int .i64 (V1 : Int), .int .u64 (V2 : Int)], .bool true]) (by simp [results, Tryd.results48, go_sem, q0, q1]) rfl (by rw [HEV.out.1, HEV.out.2]; rw [HEV.out.1, HEV.out.2] at HFIN; exact rhYes HY.out HFIN.out)
      · skip
        go_simp
        refine hK.out _ _ ?_ (fun hHeld => ?_)
        · ((try dsimp only); (first | exact (Below.refl _ _).drew | exact ((Below.refl w1.heap.size w1).alloc (Nat.le_refl _) (.cells #[.int .i64 (V1 : Int), .int .u64 (V2 : Int)] 49)).drew | (with_reducible exact hHeld) | exact Below.alloc hHeld hHeld.size _))
        clear hK K
        try simp only [Act.put, List.setIfInBounds_toArray, List.set_cons_zero, List.set_cons_succ]
        refine wpAnyH_ready (rs := [6]) (by kernel_rfl) (by simp) ?_
        refine (AllReadyH.cons (o := { dst := some 17, op := Op.call { callee := Callee.value (Operand.func 60), args := #[Operand.tmp 16], argTypes := #[23] }, type := 22, pos := _, after := #[{ on := 5, ground := Ground.data }, { on := 2, ground := Ground.chain }], guard := none }) rfl (fun K hK => ?_) AllReadyH.nil)
        go_simp
        go_at_call 60
        refine (numQ b off 8 8 _ l M2 V2 _ HM2.out (by decide) (by decide) (by have := HLE.out; omega) HL.out HV2.out (sl_then hHeld (Nat.le_refl _) HS1.out)).mono ?_
        rintro e w9 ⟨rfl, rfl⟩
        go_wp2_with fail
        refine hK.out _ _ ?_ (fun hHeld => ?_)
        · ((try dsimp only); (first | exact (Below.refl _ _).drew | exact ((Below.refl w1.heap.size w1).alloc (Nat.le_refl _) (.cells #[.int .i64 (V1 : Int), .int .u64 (V2 : Int)] 49)).drew | (with_reducible exact hHeld) | exact Below.alloc hHeld hHeld.size _))
        clear hK K
        try simp only [Act.put, List.setIfInBounds_toArray, List.set_cons_zero, List.set_cons_succ]
        refine wpAnyH_take (i := 7) (oi := { dst := some 18, op := Op.build 49 #[(0, Operand.tmp 14), (1, Operand.tmp 17)], type := 49, pos := _, after := #[{ on := 3, ground := Ground.data }, { on := 6, ground := Ground.data }], guard := none }) (v := ?_) rfl (by kernel_rfl) (by kernel_rfl) (by kernel_rfl) (fun _ _ _ h => h) (Or.inl ⟨by rfl, ?_⟩) (by assumption) ?_
        rotate_left
        · ((intro w hSw); (try dsimp only at hSw); go_simp; (try with_reducible rfl))
        try simp only [Act.put, List.setIfInBounds_toArray, List.set_cons_zero, List.set_cons_succ]
        refine wpAnyH_ready (rs := [9]) (by kernel_rfl) (by simp) ?_
        refine (AllReadyH.cons (o := { dst := none, op := Op.store 49 (Operand.tmp 4) (Operand.tmp 18), type := 0, pos := _, after := #[{ on := 8, ground := Ground.data }, { on := 7, ground := Ground.data }, { on := 6, ground := Ground.chain }, { on := 0, ground := Ground.phase }, { on := 1, ground := Ground.phase }, { on := 2, ground := Ground.phase }, { on := 3, ground := Ground.phase }, { on := 4, ground := Ground.phase }, { on := 5, ground := Ground.phase }, { on := 6, ground := Ground.phase }, { on := 7, ground := Ground.phase }, { on := 8, ground := Ground.phase }], guard := none }) rfl (fun K hK => ?_) AllReadyH.nil)
        go_simp
        refine hK.out _ _ ?_ (fun hHeld => ?_)
        · ((try dsimp only); (first | exact (Below.refl _ _).drew | exact ((Below.refl w1.heap.size w1).alloc (Nat.le_refl _) (.cells #[.int .i64 (V1 : Int), .int .u64 (V2 : Int)] 49)).drew | (with_reducible exact hHeld) | exact Below.alloc hHeld hHeld.size _))
        clear hK K
        try simp only [Act.put]
        refine wpAnyH_done (by kernel_rfl) ?_ _
        have HBW := Lib.hid (((Below.refl w1.heap.size w1).alloc (Nat.le_refl _) (.cells #[.int .i64 (V1 : Int), .int .u64 (V2 : Int)] 49)).drew)
        have HP := Lib.hid (show ((w1.alloc (.cells #[.int .i64 (V1 : Int), .int .u64 (V2 : Int)] 49)).drew).heap[w1.heap.size]? = some (.cells #[.int .i64 (V1 : Int), .int .u64 (V2 : Int)] 49 (0, 0)) from heap_alloc_last w1 _)
        have HPL := Lib.hid (show w1.heap.size < ((w1.alloc (.cells #[.int .i64 (V1 : Int), .int .u64 (V2 : Int)] 49)).drew).heap.size from (Array.getElem?_eq_some_iff.1 HP.out).1)
        as_aux_lemma =>
          generalize (w1.alloc (.cells #[.int .i64 (V1 : Int), .int .u64 (V2 : Int)] 49)).drew = w2 at *
          have HRL := Lib.hid (Array.getElem?_eq_some_iff.1 HR0.out).1
          have HB2 := Lib.hid (below_then HB0.out HBW.out HB0.out.size)
          have HR2 := Lib.hid ((HBW.out.block _ HRL.out).trans HR0.out)
          have HT2 := Lib.hid (tabC_then HBW.out (Nat.le_refl _) HT1.out)
          have HS2 := Lib.hid (sl_then HBW.out (Nat.le_refl _) HS1.out)
          have HW2 := Lib.hid HBW.out.size
          obtain ⟨p0, p1, _, _⟩ := two_cells HP.out
          clear hHeld
          rcases HCASE.out with ⟨rfl, hy⟩ | ⟨rfl, rfl, hy⟩ | ⟨rfl, rfl, hy⟩
          · have HY := Lib.hid hy
            clear hy
            go_wp2_with (go_at_call 27; (with_reducible refine (headK V1 V2 X 1 w2 HX.out HE.out HT2.out).mono ?_); rintro e w3 ⟨xa, xc, rfl, xs, xz, xcap, xfresh, b3⟩; have HB3 := Lib.hid (below_then HB2.out b3 HB2.out.size); have HR3 := Lib.hid ((b3.block _ (Nat.lt_of_lt_of_le HRL.out HW2.out)).trans HR2.out); obtain ⟨q0, q1, q2, q3⟩ := two_cells HR3.out; clear xs xz xcap xfresh b3)
            clear q0 q1 q2 q3
            obtain ⟨q0, q1, _, _⟩ := two_cells (two_set HR3.out (.int .i64 0) (.int .u64 0))
            exact bodyPost_ret (v := .tuple #[.agg #[.int .i64 0, .int .u64 0], .bool false]) (by simp [results, Tryd.results48, go_sem, q0, q1]) rfl (rhNo HY.out (two_below HB3.out (Nat.le_refl _) _ _))
          · have HY := Lib.hid hy
            clear hy
            go_wp2_with (first
              | (go_at_call 27; (with_reducible refine (headK V1 V2 X 0 w2 HX.out HE.out HT2.out).mono ?_); rintro e w3 ⟨xa, xc, rfl, xs, xz, xcap, xfresh, b3⟩; have HB3 := Lib.hid (below_then HB2.out b3 HB2.out.size); have HR3 := Lib.hid ((b3.block _ (Nat.lt_of_lt_of_le HRL.out HW2.out)).trans HR2.out); have HS3 := Lib.hid (sl_then b3 (Nat.le_refl _) HS2.out); have HXS := Lib.hid xs; obtain ⟨q0, q1, q2, q3⟩ := two_cells HR3.out; clear xs xz xcap xfresh b3)
              | (go_at_call 44; (with_reducible refine (equalK (some ⟨b, off, none⟩) xa cap xc 20 X.length L20 X w3 false HL20.out.1 rfl (HL20.out.2.2 _ HS3.out) HXS.out HL20.out.2.1 HXL.out HQ.out).mono ?_); rintro e w' ⟨rfl, rfl⟩))
            clear q0 q1 q2 q3
            obtain ⟨q0, q1, _, _⟩ := two_cells (two_set HR3.out (.int .i64 0) (.int .u64 0))
            exact bodyPost_ret (v := .tuple #[.agg #[.int .i64 0, .int .u64 0], .bool false]) (by simp [results, Tryd.results48, go_sem, q0, q1]) rfl (rhNo HY.out (two_below HB3.out (Nat.le_refl _) _ _))
          · have HY := Lib.hid hy
            clear hy
            go_wp2_with (first
              | (go_at_call 27; (with_reducible refine (headK V1 V2 X 0 w2 HX.out HE.out HT2.out).mono ?_); rintro e w3 ⟨xa, xc, rfl, xs, xz, xcap, xfresh, b3⟩; have HB3 := Lib.hid (below_then HB2.out b3 HB2.out.size); have HR3 := Lib.hid ((b3.block _ (Nat.lt_of_lt_of_le HRL.out HW2.out)).trans HR2.out); have HP3 := Lib.hid ((b3.block _ HPL.out).trans HP.out); have HS3 := Lib.hid (sl_then b3 (Nat.le_refl _) HS2.out); have HXS := Lib.hid xs; obtain ⟨q0, q1, q2, q3⟩ := two_cells HR3.out; clear p0 p1; obtain ⟨p0, p1, _, _⟩ := two_cells HP3.out; clear xs xz xcap xfresh b3)
              | (go_at_call 44; (with_reducible refine (equalK (some ⟨b, off, none⟩) xa cap xc 20 X.length L20 X w3 true HL20.out.1 rfl (HL20.out.2.2 _ HS3.out) HXS.out HL20.out.2.1 HXL.out HQ.out).mono ?_); rintro e w' ⟨rfl, rfl⟩))
            clear q0 q1 q2 q3
            obtain ⟨q0, q1, _, _⟩ := two_cells (two_set HR3.out (.int .i64 (V1 : Int)) (.int .u64 (V2 : Int)))
            have HFIN := Lib.hid (two_below HB3.out (Nat.le_refl w.heap.size) (.int .i64 (V1 : Int)) (.int .u64 (V2 : Int)))
            exact bodyPost_ret (v := .tuple #[.agg #[.int .i64 (V1 : Int), .int .u64 (V2 : Int)], .bool true]) (by simp [results, Tryd.results48, go_sem, q0, q1]) rfl (by rw [HEV.out.1, HEV.out.2]; rw [HEV.out.1, HEV.out.2] at HFIN; exact rhYes HY.out HFIN.out)
    · skip
      go_simp
      refine hK.out _ _ ?_ (fun hHeld => ?_)
      · ((try dsimp only); (first | exact (Below.refl _ _).drew | exact ((Below.refl w1.heap.size w1).alloc (Nat.le_refl _) (.cells #[.int .i64 (V1 : Int), .int .u64 (V2 : Int)] 49)).drew | (with_reducible exact hHeld) | exact Below.alloc hHeld hHeld.size _))
      clear hK K
      try simp only [Act.put, List.setIfInBounds_toArray, List.set_cons_zero, List.set_cons_succ]
      refine wpAnyH_ready (rs := [2]) (by kernel_rfl) (by simp) ?_
      refine (AllReadyH.cons (o := { dst := some 13, op := Op.call { callee := Callee.value (Operand.func 60), args := #[Operand.tmp 12], argTypes := #[23] }, type := 22, pos := _, after := #[{ on := 1, ground := Ground.data }], guard := none }) rfl (fun K hK => ?_) AllReadyH.nil)
      go_simp
      go_at_call 60
      refine (numQ b off 4 4 _ l M1 V1 _ HM1.out (by decide) (by decide) (by have := HLE.out; omega) HL.out HV1.out (sl_then hHeld (Nat.le_refl _) HS1.out)).mono ?_
      rintro e w9 ⟨rfl, rfl⟩
      go_wp2_with fail
      refine hK.out _ _ ?_ (fun hHeld => ?_)
      · ((try dsimp only); (first | exact (Below.refl _ _).drew | exact ((Below.refl w1.heap.size w1).alloc (Nat.le_refl _) (.cells #[.int .i64 (V1 : Int), .int .u64 (V2 : Int)] 49)).drew | (with_reducible exact hHeld) | exact Below.alloc hHeld hHeld.size _))
      clear hK K
      try simp only [Act.put, List.setIfInBounds_toArray, List.set_cons_zero, List.set_cons_succ]
      refine wpAnyH_take (i := 3) (oi := { dst := some 14, op := Op.convert 22 3 (Operand.tmp 13), type := 3, pos := _, after := #[{ on := 2, ground := Ground.data }], guard := none }) (v := ?_) rfl (by kernel_rfl) (by kernel_rfl) (by kernel_rfl) (fun _ _ _ h => h) (Or.inl ⟨by rfl, ?_⟩) (by assumption) ?_
      rotate_left
      · ((intro w hSw); (try dsimp only at hSw); go_simp; (try with_reducible rfl))
      try simp only [Act.put, List.setIfInBounds_toArray, List.set_cons_zero, List.set_cons_succ]
      refine wpAnyH_ready (rs := [6]) (by kernel_rfl) (by simp) ?_
      refine (AllReadyH.cons (o := { dst := some 17, op := Op.call { callee := Callee.value (Operand.func 60), args := #[Operand.tmp 16], argTypes := #[23] }, type := 22, pos := _, after := #[{ on := 5, ground := Ground.data }, { on := 2, ground := Ground.chain }], guard := none }) rfl (fun K hK => ?_) AllReadyH.nil)
      go_simp
      go_at_call 60
      refine (numQ b off 8 8 _ l M2 V2 _ HM2.out (by decide) (by decide) (by have := HLE.out; omega) HL.out HV2.out (sl_then hHeld (Nat.le_refl _) HS1.out)).mono ?_
      rintro e w9 ⟨rfl, rfl⟩
      go_wp2_with fail
      refine hK.out _ _ ?_ (fun hHeld => ?_)
      · ((try dsimp only); (first | exact (Below.refl _ _).drew | exact ((Below.refl w1.heap.size w1).alloc (Nat.le_refl _) (.cells #[.int .i64 (V1 : Int), .int .u64 (V2 : Int)] 49)).drew | (with_reducible exact hHeld) | exact Below.alloc hHeld hHeld.size _))
      clear hK K
      try simp only [Act.put, List.setIfInBounds_toArray, List.set_cons_zero, List.set_cons_succ]
      refine wpAnyH_take (i := 7) (oi := { dst := some 18, op := Op.build 49 #[(0, Operand.tmp 14), (1, Operand.tmp 17)], type := 49, pos := _, after := #[{ on := 3, ground := Ground.data }, { on := 6, ground := Ground.data }], guard := none }) (v := ?_) rfl (by kernel_rfl) (by kernel_rfl) (by kernel_rfl) (fun _ _ _ h => h) (Or.inl ⟨by rfl, ?_⟩) (by assumption) ?_
      rotate_left
      · ((intro w hSw); (try dsimp only at hSw); go_simp; (try with_reducible rfl))
      try simp only [Act.put, List.setIfInBounds_toArray, List.set_cons_zero, List.set_cons_succ]
      refine wpAnyH_ready (rs := [9]) (by kernel_rfl) (by simp) ?_
      refine (AllReadyH.cons (o := { dst := none, op := Op.store 49 (Operand.tmp 4) (Operand.tmp 18), type := 0, pos := _, after := #[{ on := 8, ground := Ground.data }, { on := 7, ground := Ground.data }, { on := 6, ground := Ground.chain }, { on := 0, ground := Ground.phase }, { on := 1, ground := Ground.phase }, { on := 2, ground := Ground.phase }, { on := 3, ground := Ground.phase }, { on := 4, ground := Ground.phase }, { on := 5, ground := Ground.phase }, { on := 6, ground := Ground.phase }, { on := 7, ground := Ground.phase }, { on := 8, ground := Ground.phase }], guard := none }) rfl (fun K hK => ?_) AllReadyH.nil)
      go_simp
      refine hK.out _ _ ?_ (fun hHeld => ?_)
      · ((try dsimp only); (first | exact (Below.refl _ _).drew | exact ((Below.refl w1.heap.size w1).alloc (Nat.le_refl _) (.cells #[.int .i64 (V1 : Int), .int .u64 (V2 : Int)] 49)).drew | (with_reducible exact hHeld) | exact Below.alloc hHeld hHeld.size _))
      clear hK K
      try simp only [Act.put]
      refine wpAnyH_done (by kernel_rfl) ?_ _
      have HBW := Lib.hid (((Below.refl w1.heap.size w1).alloc (Nat.le_refl _) (.cells #[.int .i64 (V1 : Int), .int .u64 (V2 : Int)] 49)).drew)
      have HP := Lib.hid (show ((w1.alloc (.cells #[.int .i64 (V1 : Int), .int .u64 (V2 : Int)] 49)).drew).heap[w1.heap.size]? = some (.cells #[.int .i64 (V1 : Int), .int .u64 (V2 : Int)] 49 (0, 0)) from heap_alloc_last w1 _)
      have HPL := Lib.hid (show w1.heap.size < ((w1.alloc (.cells #[.int .i64 (V1 : Int), .int .u64 (V2 : Int)] 49)).drew).heap.size from (Array.getElem?_eq_some_iff.1 HP.out).1)
      as_aux_lemma =>
        generalize (w1.alloc (.cells #[.int .i64 (V1 : Int), .int .u64 (V2 : Int)] 49)).drew = w2 at *
        have HRL := Lib.hid (Array.getElem?_eq_some_iff.1 HR0.out).1
        have HB2 := Lib.hid (below_then HB0.out HBW.out HB0.out.size)
        have HR2 := Lib.hid ((HBW.out.block _ HRL.out).trans HR0.out)
        have HT2 := Lib.hid (tabC_then HBW.out (Nat.le_refl _) HT1.out)
        have HS2 := Lib.hid (sl_then HBW.out (Nat.le_refl _) HS1.out)
        have HW2 := Lib.hid HBW.out.size
        obtain ⟨p0, p1, _, _⟩ := two_cells HP.out
        clear hHeld
        rcases HCASE.out with ⟨rfl, hy⟩ | ⟨rfl, rfl, hy⟩ | ⟨rfl, rfl, hy⟩
        · have HY := Lib.hid hy
          clear hy
          go_wp2_with (go_at_call 27; (with_reducible refine (headK V1 V2 X 1 w2 HX.out HE.out HT2.out).mono ?_); rintro e w3 ⟨xa, xc, rfl, xs, xz, xcap, xfresh, b3⟩; have HB3 := Lib.hid (below_then HB2.out b3 HB2.out.size); have HR3 := Lib.hid ((b3.block _ (Nat.lt_of_lt_of_le HRL.out HW2.out)).trans HR2.out); obtain ⟨q0, q1, q2, q3⟩ := two_cells HR3.out; clear xs xz xcap xfresh b3)
          clear q0 q1 q2 q3
          obtain ⟨q0, q1, _, _⟩ := two_cells (two_set HR3.out (.int .i64 0) (.int .u64 0))
          exact bodyPost_ret (v := .tuple #[.agg #[.int .i64 0, .int .u64 0], .bool false]) (by simp [results, Tryd.results48, go_sem, q0, q1]) rfl (rhNo HY.out (two_below HB3.out (Nat.le_refl _) _ _))
        · have HY := Lib.hid hy
          clear hy
          go_wp2_with (first
            | (go_at_call 27; (with_reducible refine (headK V1 V2 X 0 w2 HX.out HE.out HT2.out).mono ?_); rintro e w3 ⟨xa, xc, rfl, xs, xz, xcap, xfresh, b3⟩; have HB3 := Lib.hid (below_then HB2.out b3 HB2.out.size); have HR3 := Lib.hid ((b3.block _ (Nat.lt_of_lt_of_le HRL.out HW2.out)).trans HR2.out); have HS3 := Lib.hid (sl_then b3 (Nat.le_refl _) HS2.out); have HXS := Lib.hid xs; obtain ⟨q0, q1, q2, q3⟩ := two_cells HR3.out; clear xs xz xcap xfresh b3)
            | (go_at_call 44; (with_reducible refine (equalK (some ⟨b, off, none⟩) xa cap xc 20 X.length L20 X w3 false HL20.out.1 rfl (HL20.out.2.2 _ HS3.out) HXS.out HL20.out.2.1 HXL.out HQ.out).mono ?_); rintro e w' ⟨rfl, rfl⟩))
          clear q0 q1 q2 q3
          obtain ⟨q0, q1, _, _⟩ := two_cells (two_set HR3.out (.int .i64 0) (.int .u64 0))
          exact bodyPost_ret (v := .tuple #[.agg #[.int .i64 0, .int .u64 0], .bool false]) (by simp [results, Tryd.results48, go_sem, q0, q1]) rfl (rhNo HY.out (two_below HB3.out (Nat.le_refl _) _ _))
        · have HY := Lib.hid hy
          clear hy
          go_wp2_with (first
            | (go_at_call 27; (with_reducible refine (headK V1 V2 X 0 w2 HX.out HE.out HT2.out).mono ?_); rintro e w3 ⟨xa, xc, rfl, xs, xz, xcap, xfresh, b3⟩; have HB3 := Lib.hid (below_then HB2.out b3 HB2.out.size); have HR3 := Lib.hid ((b3.block _ (Nat.lt_of_lt_of_le HRL.out HW2.out)).trans HR2.out); have HP3 := Lib.hid ((b3.block _ HPL.out).trans HP.out); have HS3 := Lib.hid (sl_then b3 (Nat.le_refl _) HS2.out); have HXS := Lib.hid xs; obtain ⟨q0, q1, q2, q3⟩ := two_cells HR3.out; clear p0 p1; obtain ⟨p0, p1, _, _⟩ := two_cells HP3.out; clear xs xz xcap xfresh b3)
            | (go_at_call 44; (with_reducible refine (equalK (some ⟨b, off, none⟩) xa cap xc 20 X.length L20 X w3 true HL20.out.1 rfl (HL20.out.2.2 _ HS3.out) HXS.out HL20.out.2.1 HXL.out HQ.out).mono ?_); rintro e w' ⟨rfl, rfl⟩))
          clear q0 q1 q2 q3
          obtain ⟨q0, q1, _, _⟩ := two_cells (two_set HR3.out (.int .i64 (V1 : Int)) (.int .u64 (V2 : Int)))
          have HFIN := Lib.hid (two_below HB3.out (Nat.le_refl w.heap.size) (.int .i64 (V1 : Int)) (.int .u64 (V2 : Int)))
          exact bodyPost_ret (v := .tuple #[.agg #[.int .i64 (V1 : Int), .int .u64 (V2 : Int)], .bool true]) (by simp [results, Tryd.results48, go_sem, q0, q1]) rfl (by rw [HEV.out.1, HEV.out.2]; rw [HEV.out.1, HEV.out.2] at HFIN; exact rhYes HY.out HFIN.out)


/-- a segment's beginning, read. -/
theorem rhK (a : Option Addr) (n cap : Nat) (l : List Nat) (w : World) (hn : n = l.length) (hs : Sl w a l) (hcap : l.length ≤ cap) (hl : ∀ c ∈ l, c < 256) (hT : TabC w) : Calls Tryd.prog 48 #[.slice a n cap] w (RhP l w) := by
  by_cases h : l.length < 20
  · exact rhShort a n cap l w hn h
  · subst hn
    obtain ⟨b, off, rfl, _⟩ := sl_at hs (by omega)
    exact rhLong b off cap l w (by omega) hs hcap hl hT

end Go.Proofs.YtabgelmmjpjejaaDoor.Rh
