/- DiffSmall: a cell that is another one: what lies between is short (pure); the flags of a cell in a longer row. -/
import Derived.Test.YtfogbokifbjjlaaDo
set_option linter.unusedVariables false
namespace Go.Proofs.Ytfogbokifbjjlaa.Ea
open Go Go.RowKit Kit Gm Gv Crc Var Get Bytes WireFirst Ref3 Copy Ap Sa Sb Sd Rd RdA La Lb Lc Ld Oe Of Na Nb Ti Tj Tk Pb Da Db Dc Dd Df Dg Dh Di Dj Dk Dl Dn Do Fr Lf

/-- a cell with another flag. -/
def flip (c : Ce) : Ce := ⟨c.r, bits .xor .i64 c.fl 4, c.fg, c.bg, c.wd⟩
theorem xor4 (f : Int) (h : 0 ≤ f ∧ f ≤ 255) : (0 ≤ bits .xor .i64 f 4 ∧ bits .xor .i64 f 4 ≤ 255) ∧ bits .xor .i64 f 4 ≠ f := by
  obtain ⟨n, rfl⟩ := Int.eq_ofNat_of_zero_le h.1
  have h2 : n < 256 := by omega
  have : ∀ n, n < 256 → (0 ≤ bits .xor .i64 ((n : Nat) : Int) 4 ∧ bits .xor .i64 ((n : Nat) : Int) 4 ≤ 255) ∧ bits .xor .i64 ((n : Nat) : Int) 4 ≠ ((n : Nat) : Int) := by decide +kernel
  exact this n h2
theorem mayC_fl {c : Ce} (h : MayC c) : 0 ≤ c.fl ∧ c.fl ≤ 255 := by
  unfold MayC Cell.mayB at h
  simp only [Cell.attrB, Bool.and_eq_true, decide_eq_true_eq] at h
  exact h.1.1.1
theorem may_flip {c : Ce} (h : MayC c) : MayC (flip c) := by
  have hx := (xor4 c.fl (mayC_fl h)).1
  unfold MayC Cell.mayB at h ⊢
  simp only [Cell.attrB, Bool.and_eq_true, decide_eq_true_eq, flip] at h ⊢
  exact ⟨⟨⟨decide_eq_true hx, h.1.1.2⟩, h.1.2⟩, h.2⟩
theorem flip_ne {c : Ce} (h : MayC c) : flip c ≠ c := fun he => (xor4 c.fl (mayC_fl h)).2 (congrArg Ce.fl he)
theorem set_get {L : List Ce} {k j : Nat} {c d : Ce} (hc : L[k]? = some c) (hd : L[j]? = some d) : ∃ d', (L.set k (flip c))[j]? = some d' ∧ d'.wd = d.wd ∧ (MayC d → MayC d') := by
  by_cases hj : k = j
  · subst hj
    obtain rfl : c = d := by rw [hc] at hd; injection hd
    exact ⟨flip c, by rw [List.getElem?_set_self (List.getElem?_eq_some_iff.1 hc).1], rfl, may_flip⟩
  · exact ⟨d, by rw [List.getElem?_set_ne hj, hd], rfl, id⟩
theorem mend_set {C k : Nat} {L : List Ce} {c : Ce} (h : Mend C L) (hc : L[k]? = some c) : Mend C (L.set k (flip c)) := by
  intro i hi
  rw [List.length_set] at hi
  obtain ⟨d, h1, h2, h3, h4⟩ := h i hi
  obtain ⟨d', e1, e2, e3⟩ := set_get hc h1
  refine ⟨d', e1, e3 h2, fun hw => ?_, fun hw => ?_⟩
  · obtain ⟨g1, u, g2, g3⟩ := h3 (e2 ▸ hw)
    obtain ⟨u', f1, f2, _⟩ := set_get hc g2
    exact ⟨g1, u', f1, f2.trans g3⟩
  · obtain ⟨g1, u, g2, g3⟩ := h4 (e2 ▸ hw)
    obtain ⟨u', f1, f2, _⟩ := set_get hc g2
    exact ⟨g1, u', f1, f2.trans g3⟩
theorem mayS_set {s : Scr} {k : Nat} {L : List Ce} {c : Ce} (h : MayS s L) (hc : L[k]? = some c) : MayS s (L.set k (flip c)) :=
  ⟨h.1, h.2.1, h.2.2.1, h.2.2.2.1, by rw [List.length_set]; exact h.2.2.2.2.1, mend_set h.2.2.2.2.2 hc⟩
theorem may_at {s : Scr} {k : Nat} {L : List Ce} {c : Ce} (h : MayS s L) (hc : L[k]? = some c) : MayC c := by
  obtain ⟨d, h1, h2, _⟩ := h.2.2.2.2.2 k (List.getElem?_eq_some_iff.1 hc).1
  rw [hc] at h1; injection h1 with h1; exact h1 ▸ h2
theorem cnt_set : ∀ (L : List Ce) (k : Nat) (c d : Ce), L[k]? = some c → d ≠ c → cnt true L (L.set k d) = k
  | [], k, c, d, h, _ => by simp at h
  | a :: L, 0, c, d, h, hd => by
    obtain rfl : a = c := by simpa using h
    rw [List.set_cons_zero, cnt_cons, decide_eq_false (fun h => hd h.symm), if_neg (by decide)]
  | a :: L, k + 1, c, d, h, hd => by
    rw [List.set_cons_succ, cnt_cons, decide_eq_true rfl, if_pos rfl, cnt_set L k c d (by simpa using h) hd]
theorem cnt_one (l : List Ce) (c d : Ce) (hd : d ≠ c) : cnt false (c :: l) (d :: l) = 1 := by
  rw [cnt_cons, decide_eq_false (fun h => hd h.symm), if_pos rfl, cnt_false_zero (.inr rfl)]
theorem str_set {L : List Ce} {k : Nat} {c d : Ce} (hc : L[k]? = some c) (hd : d ≠ c) : strS L (L.set k d) = varL k ++ varL 1 ++ cellsB [d] := by
  have hk : k < L.length := (List.getElem?_eq_some_iff.1 hc).1
  have e1 : L.drop k = c :: L.drop (k + 1) := by
    rw [List.drop_eq_getElem_cons hk]; congr 1; exact (List.getElem?_eq_some_iff.1 hc).2
  have e2 : (L.set k d).drop k = d :: L.drop (k + 1) := by
    rw [List.drop_eq_getElem_cons (by rw [List.length_set]; exact hk), List.getElem_set_self]
    congr 1
    rw [List.drop_set, if_pos (by omega)]
  have e3 : (L.set k d).drop (k + 1) = L.drop (k + 1) := by rw [List.drop_set, if_pos (by omega)]
  show strF (L.length + 1) L (L.set k d) = _
  rw [strF_step (r := 1) (cnt_set L k c d hc hd) (by omega) (by rw [e1, e2]; exact cnt_one _ _ _ hd), e2, e3, strF_end (cnt_self _)]
  simp
theorem un_le {n : Int} {k : Nat} (h0 : 0 ≤ n) (h : n < k) (hk : k ≤ 18446744073709551616) : un n < k := by unfold un; omega
theorem one_short {c : Ce} (h : MayC c) : (oneL c).length ≤ 14 := by
  unfold MayC Cell.mayB at h
  simp only [Cell.attrB, Bool.and_eq_true, Bool.or_eq_true, decide_eq_true_eq, beq_iff_eq, Cell.colB_iff] at h
  obtain ⟨⟨⟨hf, hg⟩, hb⟩, hw⟩ := h
  have hr : 0 ≤ c.r ∧ c.r < 2097152 ∧ 0 ≤ c.wd ∧ c.wd < 128 := by
    rcases hw with (⟨h1, h2⟩ | ⟨h1, h2⟩) | ⟨h1, h2⟩
    · unfold Cell.widthZ Cell.noneB at h2; split at h2
      · omega
      · rename_i h3; rw [decide_eq_true_eq] at h3; omega
    · unfold Cell.widthZ Cell.noneB at h2; split at h2
      · omega
      · rename_i h3; rw [decide_eq_true_eq] at h3; omega
    · omega
  have e1 : (varL (un c.r)).length ≤ 3 := varL_three (un_le (k := 2097152) hr.1 (by omega) (by omega))
  have e2 : (varL (un c.fl)).length ≤ 2 := varL_two (un_le (k := 16384) hf.1 (by omega) (by omega))
  have e3 : (varL (un c.fg)).length ≤ 4 := varL_four (un_le (k := 268435456) (by omega) (by omega) (by omega))
  have e4 : (varL (un c.bg)).length ≤ 4 := varL_four (un_le (k := 268435456) (by omega) (by omega) (by omega))
  have e5 : (varL (un c.wd)).length = 1 := varL_one (un_le (k := 128) (by omega) (by omega) (by omega))
  show (varL (un c.r) ++ varL (un c.fl) ++ varL (un c.fg) ++ varL (un c.bg) ++ varL (un c.wd)).length ≤ 14
  simp only [List.length_append]
  omega
theorem run_single (d : Ce) : runL [d] = 1 := by
  have := run_pos d []
  simp only [List.length_nil] at this
  omega
theorem cells_short {d : Ce} (h : MayC d) : (cellsB [d]).length ≤ 15 := by
  rw [cellsB_cons, run_single, List.drop_one, List.tail_cons, cellsB_nil]
  have := one_short h
  have e : (varL 1).length = 1 := varL_one (by omega)
  simp only [List.length_append, List.length_nil]
  omega
/-- of one cell that is another one the text is short. -/
theorem make_short {s : Scr} {k : Nat} {L : List Ce} {c : Ce} (h : MayS s L) (hc : L[k]? = some c) : (makeP s L s (L.set k (flip c))).length ≤ 32 + s.ti.size := by
  have hm := may_at h hc
  have hk : k < L.length := (List.getElem?_eq_some_iff.1 hc).1
  have hlen := h.len
  unfold makeP
  rw [if_pos ⟨rfl, rfl⟩, head_six, str_set hc (flip_ne hm)]
  have h1 := h.1
  have h2 := h.2.1
  have h3 := h.2.2.1
  have h4 := titleB_le h.2.2.2.1
  have e0 : (varL 0).length = 1 := varL_one (by omega)
  have e1 : (varL (un s.row)).length ≤ 2 := varL_two (un_le (k := 16384) (by omega) (by omega) (by omega))
  have e2 : (varL (un s.col)).length ≤ 2 := varL_two (un_le (k := 16384) (by omega) (by omega) (by omega))
  have e3 : (varL (un (numB s.hid))).length = 1 := varL_one (by unfold numB; split <;> decide)
  have e4 : (varL (un (s.ti.size : Int))).length ≤ 2 := varL_two (un_le (k := 16384) (by omega) (by omega) (by omega))
  have e5 : (varL k).length ≤ 2 := varL_two (by omega)
  have e6 : (varL 1).length = 1 := varL_one (by omega)
  have e7 := cells_short (may_flip hm)
  have e8 : (byL s.ti).length = s.ti.size := byL_len s.ti
  simp only [List.length_append]
  omega
/-- what begins with a one is a whole screen. -/
theorem make_zero {s t : Scr} {L M : List Ce} (h : s.R = t.R ∧ s.C = t.C) : ∃ l, makeP s L t M = 0 :: l := by
  unfold makeP
  rw [if_pos h, head_six, varL_small (n := 0) (by omega)]
  exact ⟨_, rfl⟩
theorem make_whole {s t : Scr} {L M : List Ce} (h : ¬ (s.R = t.R ∧ s.C = t.C)) : makeP s L t M = 1 :: encL t M := by
  unfold makeP
  rw [if_neg h, one_small]; rfl
theorem Rw.set {w : World} {g k : Nat} {L : List Ce} {c : Ce} (X : Int) (h : Rw w g L) (hc : L[k]? = some c) : ∃ cur us : Array Value, w.heap[g]? = some (.cells cur 52 (0, 0)) ∧ us = (cur.toList.take (k * 5 + 1 + 0) ++ [Value.int .i64 X] ++ cur.toList.drop (k * 5 + 1 + 0 + [Value.int .i64 X].length)).toArray ∧ us.toList.take ((L.set k ⟨c.r, X, c.fg, c.bg, c.wd⟩).length * 5) = flat (L.set k ⟨c.r, X, c.fg, c.bg, c.wd⟩) ∧ k * 5 + 1 < cur.size := by
  obtain ⟨cur, h1, h2⟩ := h
  have hk : k < L.length := (List.getElem?_eq_some_iff.1 hc).1
  have hl : L.length * 5 ≤ cur.toList.length := by
    have := congrArg List.length h2
    rw [List.length_take, flat_len] at this; omega
  refine ⟨cur, _, h1, rfl, ?_, by simp only [Array.length_toList] at hl; omega⟩
  rw [← flat_fl L k c X hc, ← h2, List.length_set]
  have hlt : k * 5 + 1 < cur.toList.length := by omega
  have e : cur.toList.take (k * 5 + 1 + 0) ++ [Value.int .i64 X] ++ cur.toList.drop (k * 5 + 1 + 0 + [Value.int .i64 X].length) = cur.toList.set (k * 5 + 1) (.int .i64 X) := by
    simp only [Nat.add_zero, List.length_singleton]
    rw [List.set_eq_take_append_cons_drop, if_pos hlt]
    simp
  rw [e, List.toList_toArray, List.take_set]
/-- the flags of a cell in a longer row are stored. -/
theorem wpList_store_flw {w : World} {ops : Array Oper} {rest : List Oper} {o : Oper} {a : Act} {Q : Exit → Act → World → Prop} (hgd : o.guard = none) (x y : Operand) (ho : o.op = .store 3 x y)
    (g k : Nat) (L : List Ce) (c : Ce) (X : Int) (hx : a.eval x = .pointer (some ⟨g, k * 5 + 1, none⟩)) (hy : a.eval y = .int .i64 X) (h : Rw w g L) (hc : L[k]? = some c)
    (hK : ∀ w', Rw w' g (L.set k ⟨c.r, X, c.fg, c.bg, c.wd⟩) → (∀ j, j ≠ g → w'.heap[j]? = w.heap[j]?) → (∀ B W, B ≤ g → Below B W w → Below B W w') → w'.heap.size = w.heap.size → wpList Try.prog ops Q rest (a.put o.dst undef) w') : wpList Try.prog ops Q (o :: rest) a w := by
  obtain ⟨cur, us, h1, h2, h3, h4⟩ := Rw.set X h hc
  have hst := run_storeCells_at Try.prog g (k * 5 + 1) 52 [.int .i64 X] 0 cur w h1 (by rw [List.length_singleton]; omega) (fun u hu => by simp at hu; subst hu; rfl)
  rw [← h2] at hst
  have hi : (Try.prog.info? 3).map (·.size) = some 1 := by kernel_rfl
  have hrun : (storeVar 3 ⟨g, k * 5 + 1, none⟩ (.int .i64 X)).run Try.prog w = .ok () (w.setRow g us) := by
    cases hq : Try.prog.info? 3 with
    | none => simp [hq] at hi
    | some j =>
      have hs : j.size = 1 := by simpa [hq] using hi
      have hc : (Value.int .i64 X).cells = #[.int .i64 X] := rfl
      simp [storeVar, sizeOf, typeInfo, hq, hc, hs]
      exact hst
  refine wpList_plain hgd fun _ hk => ?_
  unfold Oper.wp execOp
  simp only [ho, hx, hy, Instr.storeAt, Instr.sureAddr, Sem.run_bind, Sem.run_pure, Result.andThen_ok, hrun]
  refine hk _ _ (hK _ ⟨us, setRow_heap w g _ _ 52 _ h1, h3⟩ (fun j hj => setRow_other w g j _ hj) (fun B W hB hb => ⟨hb.os, hb.tape, hb.output, by simpa using hb.size, fun j hj => (setRow_other w g j _ (by omega)).trans (hb.block j hj)⟩) (by simp))
end Go.Proofs.Ytfogbokifbjjlaa.Ea
/- DiffSmall: the walk. -/
set_option linter.unusedVariables false
namespace Go.Proofs.Ytfogbokifbjjlaa.Eb
open Go Go.RowKit Kit Gm Gv Crc Var Get Bytes WireFirst Ref3 Copy Ap Sa Sb Sd Rd RdA La Lb Lc Ld Oe Of Na Nb Ti Tj Tk Pb Da Db Dc Dd Df Dg Dh Di Dj Dk Dl Dn Do Ea

theorem two_box (W : World) (o1 o2 : Obj) : Below W.heap.size W ((W.alloc o1).alloc o2) ∧ ((W.alloc o1).alloc o2).heap[W.heap.size]? = some o1 ∧ ((W.alloc o1).alloc o2).heap[W.heap.size + 1]? = some o2 :=
  ⟨below_two W o1 o2, two_heap W o1 o2⟩
theorem sl_tail {w : World} {b off : Nat} {x : Nat} {l : List Nat} (h : Sl w (some ⟨b, off, none⟩) (x :: l)) : Sl w (some ⟨b, off + 1, none⟩) l := by
  rcases h with h | ⟨b', off', h1, h2⟩
  · simp at h
  · injection h1 with h1; injection h1 with h1 h3; subst h1 h3
    refine .inr ⟨b, off + 1, rfl, fun i hi => ?_⟩
    have := h2 (i + 1) (by simp only [List.length_cons]; omega)
    rw [show off + 1 + i = off + (i + 1) by omega, this]; simp
theorem sl_head {w : World} {b off : Nat} {x : Nat} {l : List Nat} (h : Sl w (some ⟨b, off, none⟩) (x :: l)) : w.cell? ⟨b, off, none⟩ = some (.int .u8 (x : Int)) := by
  rcases h with h | ⟨b', off', h1, h2⟩
  · simp at h
  · injection h1 with h1; injection h1 with h1 h3; subst h1 h3
    have := h2 0 (by simp)
    simpa using this
theorem rw_fl {w : World} {p k : Nat} {L : List Ce} {c : Ce} (h : Rw w p L) (hc : L[k]? = some c) : w.cell? ⟨p, k * 5 + 1, none⟩ = some (.int .i64 c.fl) := by
  obtain ⟨hk, he⟩ := List.getElem?_eq_some_iff.1 hc
  have := h.sc k hk 1 (by omega)
  simpa [he, cv] using this
set_option maxRecDepth 100000 in
set_option maxHeartbeats 8000000 in
theorem less0 (R C row col : Int) (hid : Bool) (ti : ByteArray) (a1 : Option Addr) (n1 c1 : Nat) (L1 : List Ce) (R2 C2 row2 col2 : Int) (hid2 : Bool) (ti2 : ByteArray) (a2 : Option Addr) (n2 c2 : Nat) (L2 : List Ce) (z : Int) (W : World) (f1 : ¬ (n1 ≤ 3000 ∧ ti.size ≤ 3000)) :
    Calls Try.prog 10 #[svA ⟨R, C, row, col, hid, ti⟩ a1 n1 c1, svA ⟨R2, C2, row2, col2, hid2, ti2⟩ a2 n2 c2, .int .i64 z] W fun e w' => e = .returned (.bool true) ∧ Below W.heap.size W w' := by
  obtain ⟨hb, hA, hB⟩ := two_box W (svO ⟨R, C, row, col, hid, ti⟩ a1 n1 c1) (svO ⟨R2, C2, row2, col2, hid2, ti2⟩ a2 n2 c2)
  obtain ⟨x0, x1, x2, x3, x4, x5, x6⟩ := seven hA
  obtain ⟨y0, y1, y2, y3, y4, y5, y6⟩ := seven hB
  dsimp only [svO] at hb x0 x1 x2 x3 x4 x5 x6 y0 y1 y2 y3 y4 y5 y6
  generalize hw0 : (W.alloc (.cells #[.int .i64 R, .int .i64 C, .slice a1 n1 c1, .int .i64 row, .int .i64 col, .bool hid, .string ti] 24)).alloc (.cells #[.int .i64 R2, .int .i64 C2, .slice a2 n2 c2, .int .i64 row2, .int .i64 col2, .bool hid2, .string ti2] 24) = w0 at *
  have HB0 := Lib.hid hb
  have HFIRST := Lib.hid (fun w => firstD w)
  have HFEW1 := Lib.hid (fun w => (fewC ⟨R, C, row, col, hid, ti⟩ a1 n1 c1 w).mono (fun e w' hq => (show e = .returned (.bool false) ∧ Below w.heap.size w w' from ⟨by rw [hq.1, decide_eq_false f1], hq.2⟩)))
  clear hb hA hB f1
  go_enter Try.func10, Try.ntmps10
  go_wp2_with (first
    | (go_at_call 33; (with_reducible refine (HFIRST.out w0).mono ?_); rintro e w1 ⟨rfl, hb⟩; have HB1 := Lib.hid (below_then HB0.out hb HB0.out.size); replace x0 := cell_then hb (Nat.le_refl _) x0; replace x1 := cell_then hb (Nat.le_refl _) x1; replace x2 := cell_then hb (Nat.le_refl _) x2; replace x3 := cell_then hb (Nat.le_refl _) x3; replace x4 := cell_then hb (Nat.le_refl _) x4; replace x5 := cell_then hb (Nat.le_refl _) x5; replace x6 := cell_then hb (Nat.le_refl _) x6; replace y0 := cell_then hb (Nat.le_refl _) y0; replace y1 := cell_then hb (Nat.le_refl _) y1; replace y2 := cell_then hb (Nat.le_refl _) y2; replace y3 := cell_then hb (Nat.le_refl _) y3; replace y4 := cell_then hb (Nat.le_refl _) y4; replace y5 := cell_then hb (Nat.le_refl _) y5; replace y6 := cell_then hb (Nat.le_refl _) y6; clear hb )
    | (go_at_call 13; (with_reducible refine (HFEW1.out w1).mono ?_); rintro e w2 ⟨rfl, hb⟩; have HB2 := Lib.hid (below_then HB1.out hb HB1.out.size); replace x0 := cell_then hb (Nat.le_refl _) x0; replace x1 := cell_then hb (Nat.le_refl _) x1; replace x2 := cell_then hb (Nat.le_refl _) x2; replace x3 := cell_then hb (Nat.le_refl _) x3; replace x4 := cell_then hb (Nat.le_refl _) x4; replace x5 := cell_then hb (Nat.le_refl _) x5; replace x6 := cell_then hb (Nat.le_refl _) x6; replace y0 := cell_then hb (Nat.le_refl _) y0; replace y1 := cell_then hb (Nat.le_refl _) y1; replace y2 := cell_then hb (Nat.le_refl _) y2; replace y3 := cell_then hb (Nat.le_refl _) y3; replace y4 := cell_then hb (Nat.le_refl _) y4; replace y5 := cell_then hb (Nat.le_refl _) y5; replace y6 := cell_then hb (Nat.le_refl _) y6; clear hb )
    | (go_at_call 33; (with_reducible refine (HFIRST.out w2).mono ?_); rintro e w3 ⟨rfl, hb⟩; have HB3 := Lib.hid (below_then HB2.out hb HB2.out.size); replace x0 := cell_then hb (Nat.le_refl _) x0; replace x1 := cell_then hb (Nat.le_refl _) x1; replace x2 := cell_then hb (Nat.le_refl _) x2; replace x3 := cell_then hb (Nat.le_refl _) x3; replace x4 := cell_then hb (Nat.le_refl _) x4; replace x5 := cell_then hb (Nat.le_refl _) x5; replace x6 := cell_then hb (Nat.le_refl _) x6; replace y0 := cell_then hb (Nat.le_refl _) y0; replace y1 := cell_then hb (Nat.le_refl _) y1; replace y2 := cell_then hb (Nat.le_refl _) y2; replace y3 := cell_then hb (Nat.le_refl _) y3; replace y4 := cell_then hb (Nat.le_refl _) y4; replace y5 := cell_then hb (Nat.le_refl _) y5; replace y6 := cell_then hb (Nat.le_refl _) y6; clear hb ))
  go_ret
  exact ⟨rfl, HB3.out⟩

set_option maxRecDepth 100000 in
set_option maxHeartbeats 8000000 in
theorem less1 (R C row col : Int) (hid : Bool) (ti : ByteArray) (a1 : Option Addr) (n1 c1 : Nat) (L1 : List Ce) (R2 C2 row2 col2 : Int) (hid2 : Bool) (ti2 : ByteArray) (a2 : Option Addr) (n2 c2 : Nat) (L2 : List Ce) (z : Int) (W : World) (f1 : (n1 ≤ 3000 ∧ ti.size ≤ 3000)) (f2 : ¬ (n2 ≤ 3000 ∧ ti2.size ≤ 3000)) :
    Calls Try.prog 10 #[svA ⟨R, C, row, col, hid, ti⟩ a1 n1 c1, svA ⟨R2, C2, row2, col2, hid2, ti2⟩ a2 n2 c2, .int .i64 z] W fun e w' => e = .returned (.bool true) ∧ Below W.heap.size W w' := by
  obtain ⟨hb, hA, hB⟩ := two_box W (svO ⟨R, C, row, col, hid, ti⟩ a1 n1 c1) (svO ⟨R2, C2, row2, col2, hid2, ti2⟩ a2 n2 c2)
  obtain ⟨x0, x1, x2, x3, x4, x5, x6⟩ := seven hA
  obtain ⟨y0, y1, y2, y3, y4, y5, y6⟩ := seven hB
  dsimp only [svO] at hb x0 x1 x2 x3 x4 x5 x6 y0 y1 y2 y3 y4 y5 y6
  generalize hw0 : (W.alloc (.cells #[.int .i64 R, .int .i64 C, .slice a1 n1 c1, .int .i64 row, .int .i64 col, .bool hid, .string ti] 24)).alloc (.cells #[.int .i64 R2, .int .i64 C2, .slice a2 n2 c2, .int .i64 row2, .int .i64 col2, .bool hid2, .string ti2] 24) = w0 at *
  have HB0 := Lib.hid hb
  have HFIRST := Lib.hid (fun w => firstD w)
  have HFEW1 := Lib.hid (fun w => few_yes ⟨R, C, row, col, hid, ti⟩ a1 n1 c1 f1 w)
  have HFEW2 := Lib.hid (fun w => (fewC ⟨R2, C2, row2, col2, hid2, ti2⟩ a2 n2 c2 w).mono (fun e w' hq => (show e = .returned (.bool false) ∧ Below w.heap.size w w' from ⟨by rw [hq.1, decide_eq_false f2], hq.2⟩)))
  clear hb hA hB f1 f2
  go_enter Try.func10, Try.ntmps10
  go_wp2_with (first
    | (go_at_call 33; (with_reducible refine (HFIRST.out w0).mono ?_); rintro e w1 ⟨rfl, hb⟩; have HB1 := Lib.hid (below_then HB0.out hb HB0.out.size); replace x0 := cell_then hb (Nat.le_refl _) x0; replace x1 := cell_then hb (Nat.le_refl _) x1; replace x2 := cell_then hb (Nat.le_refl _) x2; replace x3 := cell_then hb (Nat.le_refl _) x3; replace x4 := cell_then hb (Nat.le_refl _) x4; replace x5 := cell_then hb (Nat.le_refl _) x5; replace x6 := cell_then hb (Nat.le_refl _) x6; replace y0 := cell_then hb (Nat.le_refl _) y0; replace y1 := cell_then hb (Nat.le_refl _) y1; replace y2 := cell_then hb (Nat.le_refl _) y2; replace y3 := cell_then hb (Nat.le_refl _) y3; replace y4 := cell_then hb (Nat.le_refl _) y4; replace y5 := cell_then hb (Nat.le_refl _) y5; replace y6 := cell_then hb (Nat.le_refl _) y6; clear hb )
    | (go_at_call 13; (with_reducible refine (HFEW1.out w1).mono ?_); rintro e w2 ⟨rfl, hb⟩; have HB2 := Lib.hid (below_then HB1.out hb HB1.out.size); replace x0 := cell_then hb (Nat.le_refl _) x0; replace x1 := cell_then hb (Nat.le_refl _) x1; replace x2 := cell_then hb (Nat.le_refl _) x2; replace x3 := cell_then hb (Nat.le_refl _) x3; replace x4 := cell_then hb (Nat.le_refl _) x4; replace x5 := cell_then hb (Nat.le_refl _) x5; replace x6 := cell_then hb (Nat.le_refl _) x6; replace y0 := cell_then hb (Nat.le_refl _) y0; replace y1 := cell_then hb (Nat.le_refl _) y1; replace y2 := cell_then hb (Nat.le_refl _) y2; replace y3 := cell_then hb (Nat.le_refl _) y3; replace y4 := cell_then hb (Nat.le_refl _) y4; replace y5 := cell_then hb (Nat.le_refl _) y5; replace y6 := cell_then hb (Nat.le_refl _) y6; clear hb )
    | (go_at_call 13; (with_reducible refine (HFEW2.out w2).mono ?_); rintro e w3 ⟨rfl, hb⟩; have HB3 := Lib.hid (below_then HB2.out hb HB2.out.size); replace x0 := cell_then hb (Nat.le_refl _) x0; replace x1 := cell_then hb (Nat.le_refl _) x1; replace x2 := cell_then hb (Nat.le_refl _) x2; replace x3 := cell_then hb (Nat.le_refl _) x3; replace x4 := cell_then hb (Nat.le_refl _) x4; replace x5 := cell_then hb (Nat.le_refl _) x5; replace x6 := cell_then hb (Nat.le_refl _) x6; replace y0 := cell_then hb (Nat.le_refl _) y0; replace y1 := cell_then hb (Nat.le_refl _) y1; replace y2 := cell_then hb (Nat.le_refl _) y2; replace y3 := cell_then hb (Nat.le_refl _) y3; replace y4 := cell_then hb (Nat.le_refl _) y4; replace y5 := cell_then hb (Nat.le_refl _) y5; replace y6 := cell_then hb (Nat.le_refl _) y6; clear hb )
    | (go_at_call 33; (with_reducible refine (HFIRST.out w3).mono ?_); rintro e w4 ⟨rfl, hb⟩; have HB4 := Lib.hid (below_then HB3.out hb HB3.out.size); replace x0 := cell_then hb (Nat.le_refl _) x0; replace x1 := cell_then hb (Nat.le_refl _) x1; replace x2 := cell_then hb (Nat.le_refl _) x2; replace x3 := cell_then hb (Nat.le_refl _) x3; replace x4 := cell_then hb (Nat.le_refl _) x4; replace x5 := cell_then hb (Nat.le_refl _) x5; replace x6 := cell_then hb (Nat.le_refl _) x6; replace y0 := cell_then hb (Nat.le_refl _) y0; replace y1 := cell_then hb (Nat.le_refl _) y1; replace y2 := cell_then hb (Nat.le_refl _) y2; replace y3 := cell_then hb (Nat.le_refl _) y3; replace y4 := cell_then hb (Nat.le_refl _) y4; replace y5 := cell_then hb (Nat.le_refl _) y5; replace y6 := cell_then hb (Nat.le_refl _) y6; clear hb ))
  go_ret
  exact ⟨rfl, HB4.out⟩

set_option maxRecDepth 100000 in
set_option maxHeartbeats 8000000 in
theorem less2 (R C row col : Int) (hid : Bool) (ti : ByteArray) (a1 : Option Addr) (n1 c1 : Nat) (L1 : List Ce) (R2 C2 row2 col2 : Int) (hid2 : Bool) (ti2 : ByteArray) (a2 : Option Addr) (n2 c2 : Nat) (L2 : List Ce) (z : Int) (W : World) (f1 : (n1 ≤ 3000 ∧ ti.size ≤ 3000)) (f2 : (n2 ≤ 3000 ∧ ti2.size ≤ 3000)) (h1 : ScA W a1 n1 c1 L1) (m1 : ¬ MayS ⟨R, C, row, col, hid, ti⟩ L1) :
    Calls Try.prog 10 #[svA ⟨R, C, row, col, hid, ti⟩ a1 n1 c1, svA ⟨R2, C2, row2, col2, hid2, ti2⟩ a2 n2 c2, .int .i64 z] W fun e w' => e = .returned (.bool true) ∧ Below W.heap.size W w' := by
  obtain ⟨hb, hA, hB⟩ := two_box W (svO ⟨R, C, row, col, hid, ti⟩ a1 n1 c1) (svO ⟨R2, C2, row2, col2, hid2, ti2⟩ a2 n2 c2)
  obtain ⟨x0, x1, x2, x3, x4, x5, x6⟩ := seven hA
  obtain ⟨y0, y1, y2, y3, y4, y5, y6⟩ := seven hB
  dsimp only [svO] at hb x0 x1 x2 x3 x4 x5 x6 y0 y1 y2 y3 y4 y5 y6
  generalize hw0 : (W.alloc (.cells #[.int .i64 R, .int .i64 C, .slice a1 n1 c1, .int .i64 row, .int .i64 col, .bool hid, .string ti] 24)).alloc (.cells #[.int .i64 R2, .int .i64 C2, .slice a2 n2 c2, .int .i64 row2, .int .i64 col2, .bool hid2, .string ti2] 24) = w0 at *
  have HB0 := Lib.hid hb
  have HFIRST := Lib.hid (fun w => firstD w)
  have HFEW1 := Lib.hid (fun w => few_yes ⟨R, C, row, col, hid, ti⟩ a1 n1 c1 f1 w)
  have HFEW2 := Lib.hid (fun w => few_yes ⟨R2, C2, row2, col2, hid2, ti2⟩ a2 n2 c2 f2 w)
  have HMAY1 := Lib.hid (fun w1 (hb : Below W.heap.size W w1) => mayNoA ⟨R, C, row, col, hid, ti⟩ a1 n1 c1 L1 w1 (h1.then_ hb (Nat.le_refl _)) (few_up f1) m1)
  clear hb hA hB h1 m1 f1 f2
  go_enter Try.func10, Try.ntmps10
  go_wp2_with (first
    | (go_at_call 33; (with_reducible refine (HFIRST.out w0).mono ?_); rintro e w1 ⟨rfl, hb⟩; have HB1 := Lib.hid (below_then HB0.out hb HB0.out.size); replace x0 := cell_then hb (Nat.le_refl _) x0; replace x1 := cell_then hb (Nat.le_refl _) x1; replace x2 := cell_then hb (Nat.le_refl _) x2; replace x3 := cell_then hb (Nat.le_refl _) x3; replace x4 := cell_then hb (Nat.le_refl _) x4; replace x5 := cell_then hb (Nat.le_refl _) x5; replace x6 := cell_then hb (Nat.le_refl _) x6; replace y0 := cell_then hb (Nat.le_refl _) y0; replace y1 := cell_then hb (Nat.le_refl _) y1; replace y2 := cell_then hb (Nat.le_refl _) y2; replace y3 := cell_then hb (Nat.le_refl _) y3; replace y4 := cell_then hb (Nat.le_refl _) y4; replace y5 := cell_then hb (Nat.le_refl _) y5; replace y6 := cell_then hb (Nat.le_refl _) y6; clear hb )
    | (go_at_call 13; (with_reducible refine (HFEW1.out w1).mono ?_); rintro e w2 ⟨rfl, hb⟩; have HB2 := Lib.hid (below_then HB1.out hb HB1.out.size); replace x0 := cell_then hb (Nat.le_refl _) x0; replace x1 := cell_then hb (Nat.le_refl _) x1; replace x2 := cell_then hb (Nat.le_refl _) x2; replace x3 := cell_then hb (Nat.le_refl _) x3; replace x4 := cell_then hb (Nat.le_refl _) x4; replace x5 := cell_then hb (Nat.le_refl _) x5; replace x6 := cell_then hb (Nat.le_refl _) x6; replace y0 := cell_then hb (Nat.le_refl _) y0; replace y1 := cell_then hb (Nat.le_refl _) y1; replace y2 := cell_then hb (Nat.le_refl _) y2; replace y3 := cell_then hb (Nat.le_refl _) y3; replace y4 := cell_then hb (Nat.le_refl _) y4; replace y5 := cell_then hb (Nat.le_refl _) y5; replace y6 := cell_then hb (Nat.le_refl _) y6; clear hb )
    | (go_at_call 13; (with_reducible refine (HFEW2.out w2).mono ?_); rintro e w3 ⟨rfl, hb⟩; have HB3 := Lib.hid (below_then HB2.out hb HB2.out.size); replace x0 := cell_then hb (Nat.le_refl _) x0; replace x1 := cell_then hb (Nat.le_refl _) x1; replace x2 := cell_then hb (Nat.le_refl _) x2; replace x3 := cell_then hb (Nat.le_refl _) x3; replace x4 := cell_then hb (Nat.le_refl _) x4; replace x5 := cell_then hb (Nat.le_refl _) x5; replace x6 := cell_then hb (Nat.le_refl _) x6; replace y0 := cell_then hb (Nat.le_refl _) y0; replace y1 := cell_then hb (Nat.le_refl _) y1; replace y2 := cell_then hb (Nat.le_refl _) y2; replace y3 := cell_then hb (Nat.le_refl _) y3; replace y4 := cell_then hb (Nat.le_refl _) y4; replace y5 := cell_then hb (Nat.le_refl _) y5; replace y6 := cell_then hb (Nat.le_refl _) y6; clear hb )
    | (go_at_call 28; (with_reducible refine (HMAY1.out w3 HB3.out).mono ?_); rintro e w4 ⟨rfl, hb⟩; have HB4 := Lib.hid (below_then HB3.out hb HB3.out.size); replace x0 := cell_then hb (Nat.le_refl _) x0; replace x1 := cell_then hb (Nat.le_refl _) x1; replace x2 := cell_then hb (Nat.le_refl _) x2; replace x3 := cell_then hb (Nat.le_refl _) x3; replace x4 := cell_then hb (Nat.le_refl _) x4; replace x5 := cell_then hb (Nat.le_refl _) x5; replace x6 := cell_then hb (Nat.le_refl _) x6; replace y0 := cell_then hb (Nat.le_refl _) y0; replace y1 := cell_then hb (Nat.le_refl _) y1; replace y2 := cell_then hb (Nat.le_refl _) y2; replace y3 := cell_then hb (Nat.le_refl _) y3; replace y4 := cell_then hb (Nat.le_refl _) y4; replace y5 := cell_then hb (Nat.le_refl _) y5; replace y6 := cell_then hb (Nat.le_refl _) y6; clear hb )
    | (go_at_call 33; (with_reducible refine (HFIRST.out w4).mono ?_); rintro e w5 ⟨rfl, hb⟩; have HB5 := Lib.hid (below_then HB4.out hb HB4.out.size); replace x0 := cell_then hb (Nat.le_refl _) x0; replace x1 := cell_then hb (Nat.le_refl _) x1; replace x2 := cell_then hb (Nat.le_refl _) x2; replace x3 := cell_then hb (Nat.le_refl _) x3; replace x4 := cell_then hb (Nat.le_refl _) x4; replace x5 := cell_then hb (Nat.le_refl _) x5; replace x6 := cell_then hb (Nat.le_refl _) x6; replace y0 := cell_then hb (Nat.le_refl _) y0; replace y1 := cell_then hb (Nat.le_refl _) y1; replace y2 := cell_then hb (Nat.le_refl _) y2; replace y3 := cell_then hb (Nat.le_refl _) y3; replace y4 := cell_then hb (Nat.le_refl _) y4; replace y5 := cell_then hb (Nat.le_refl _) y5; replace y6 := cell_then hb (Nat.le_refl _) y6; clear hb ))
  go_ret
  exact ⟨rfl, HB5.out⟩

set_option maxRecDepth 100000 in
set_option maxHeartbeats 8000000 in
theorem less3 (R C row col : Int) (hid : Bool) (ti : ByteArray) (a1 : Option Addr) (n1 c1 : Nat) (L1 : List Ce) (R2 C2 row2 col2 : Int) (hid2 : Bool) (ti2 : ByteArray) (a2 : Option Addr) (n2 c2 : Nat) (L2 : List Ce) (z : Int) (W : World) (f1 : (n1 ≤ 3000 ∧ ti.size ≤ 3000)) (f2 : (n2 ≤ 3000 ∧ ti2.size ≤ 3000)) (h1 : ScA W a1 n1 c1 L1) (m1 : MayS ⟨R, C, row, col, hid, ti⟩ L1) (h2 : ScA W a2 n2 c2 L2) (m2 : ¬ MayS ⟨R2, C2, row2, col2, hid2, ti2⟩ L2) :
    Calls Try.prog 10 #[svA ⟨R, C, row, col, hid, ti⟩ a1 n1 c1, svA ⟨R2, C2, row2, col2, hid2, ti2⟩ a2 n2 c2, .int .i64 z] W fun e w' => e = .returned (.bool true) ∧ Below W.heap.size W w' := by
  obtain ⟨hb, hA, hB⟩ := two_box W (svO ⟨R, C, row, col, hid, ti⟩ a1 n1 c1) (svO ⟨R2, C2, row2, col2, hid2, ti2⟩ a2 n2 c2)
  obtain ⟨x0, x1, x2, x3, x4, x5, x6⟩ := seven hA
  obtain ⟨y0, y1, y2, y3, y4, y5, y6⟩ := seven hB
  dsimp only [svO] at hb x0 x1 x2 x3 x4 x5 x6 y0 y1 y2 y3 y4 y5 y6
  generalize hw0 : (W.alloc (.cells #[.int .i64 R, .int .i64 C, .slice a1 n1 c1, .int .i64 row, .int .i64 col, .bool hid, .string ti] 24)).alloc (.cells #[.int .i64 R2, .int .i64 C2, .slice a2 n2 c2, .int .i64 row2, .int .i64 col2, .bool hid2, .string ti2] 24) = w0 at *
  have HB0 := Lib.hid hb
  have HFIRST := Lib.hid (fun w => firstD w)
  have HFEW1 := Lib.hid (fun w => few_yes ⟨R, C, row, col, hid, ti⟩ a1 n1 c1 f1 w)
  have HFEW2 := Lib.hid (fun w => few_yes ⟨R2, C2, row2, col2, hid2, ti2⟩ a2 n2 c2 f2 w)
  have HMAY1 := Lib.hid (fun w1 (hb : Below W.heap.size W w1) => mayYesA ⟨R, C, row, col, hid, ti⟩ a1 n1 c1 L1 w1 (h1.then_ hb (Nat.le_refl _)) (few_up f1) m1)
  have HMAY2 := Lib.hid (fun w1 (hb : Below W.heap.size W w1) => mayNoA ⟨R2, C2, row2, col2, hid2, ti2⟩ a2 n2 c2 L2 w1 (h2.then_ hb (Nat.le_refl _)) (few_up f2) m2)
  clear hb hA hB h1 m1 h2 m2 f1 f2
  go_enter Try.func10, Try.ntmps10
  go_wp2_with (first
    | (go_at_call 33; (with_reducible refine (HFIRST.out w0).mono ?_); rintro e w1 ⟨rfl, hb⟩; have HB1 := Lib.hid (below_then HB0.out hb HB0.out.size); replace x0 := cell_then hb (Nat.le_refl _) x0; replace x1 := cell_then hb (Nat.le_refl _) x1; replace x2 := cell_then hb (Nat.le_refl _) x2; replace x3 := cell_then hb (Nat.le_refl _) x3; replace x4 := cell_then hb (Nat.le_refl _) x4; replace x5 := cell_then hb (Nat.le_refl _) x5; replace x6 := cell_then hb (Nat.le_refl _) x6; replace y0 := cell_then hb (Nat.le_refl _) y0; replace y1 := cell_then hb (Nat.le_refl _) y1; replace y2 := cell_then hb (Nat.le_refl _) y2; replace y3 := cell_then hb (Nat.le_refl _) y3; replace y4 := cell_then hb (Nat.le_refl _) y4; replace y5 := cell_then hb (Nat.le_refl _) y5; replace y6 := cell_then hb (Nat.le_refl _) y6; clear hb )
    | (go_at_call 13; (with_reducible refine (HFEW1.out w1).mono ?_); rintro e w2 ⟨rfl, hb⟩; have HB2 := Lib.hid (below_then HB1.out hb HB1.out.size); replace x0 := cell_then hb (Nat.le_refl _) x0; replace x1 := cell_then hb (Nat.le_refl _) x1; replace x2 := cell_then hb (Nat.le_refl _) x2; replace x3 := cell_then hb (Nat.le_refl _) x3; replace x4 := cell_then hb (Nat.le_refl _) x4; replace x5 := cell_then hb (Nat.le_refl _) x5; replace x6 := cell_then hb (Nat.le_refl _) x6; replace y0 := cell_then hb (Nat.le_refl _) y0; replace y1 := cell_then hb (Nat.le_refl _) y1; replace y2 := cell_then hb (Nat.le_refl _) y2; replace y3 := cell_then hb (Nat.le_refl _) y3; replace y4 := cell_then hb (Nat.le_refl _) y4; replace y5 := cell_then hb (Nat.le_refl _) y5; replace y6 := cell_then hb (Nat.le_refl _) y6; clear hb )
    | (go_at_call 13; (with_reducible refine (HFEW2.out w2).mono ?_); rintro e w3 ⟨rfl, hb⟩; have HB3 := Lib.hid (below_then HB2.out hb HB2.out.size); replace x0 := cell_then hb (Nat.le_refl _) x0; replace x1 := cell_then hb (Nat.le_refl _) x1; replace x2 := cell_then hb (Nat.le_refl _) x2; replace x3 := cell_then hb (Nat.le_refl _) x3; replace x4 := cell_then hb (Nat.le_refl _) x4; replace x5 := cell_then hb (Nat.le_refl _) x5; replace x6 := cell_then hb (Nat.le_refl _) x6; replace y0 := cell_then hb (Nat.le_refl _) y0; replace y1 := cell_then hb (Nat.le_refl _) y1; replace y2 := cell_then hb (Nat.le_refl _) y2; replace y3 := cell_then hb (Nat.le_refl _) y3; replace y4 := cell_then hb (Nat.le_refl _) y4; replace y5 := cell_then hb (Nat.le_refl _) y5; replace y6 := cell_then hb (Nat.le_refl _) y6; clear hb )
    | (go_at_call 28; (with_reducible refine (HMAY1.out w3 HB3.out).mono ?_); rintro e w4 ⟨rfl, hb⟩; have HB4 := Lib.hid (below_then HB3.out hb HB3.out.size); replace x0 := cell_then hb (Nat.le_refl _) x0; replace x1 := cell_then hb (Nat.le_refl _) x1; replace x2 := cell_then hb (Nat.le_refl _) x2; replace x3 := cell_then hb (Nat.le_refl _) x3; replace x4 := cell_then hb (Nat.le_refl _) x4; replace x5 := cell_then hb (Nat.le_refl _) x5; replace x6 := cell_then hb (Nat.le_refl _) x6; replace y0 := cell_then hb (Nat.le_refl _) y0; replace y1 := cell_then hb (Nat.le_refl _) y1; replace y2 := cell_then hb (Nat.le_refl _) y2; replace y3 := cell_then hb (Nat.le_refl _) y3; replace y4 := cell_then hb (Nat.le_refl _) y4; replace y5 := cell_then hb (Nat.le_refl _) y5; replace y6 := cell_then hb (Nat.le_refl _) y6; clear hb )
    | (go_at_call 28; (with_reducible refine (HMAY2.out w4 HB4.out).mono ?_); rintro e w5 ⟨rfl, hb⟩; have HB5 := Lib.hid (below_then HB4.out hb HB4.out.size); replace x0 := cell_then hb (Nat.le_refl _) x0; replace x1 := cell_then hb (Nat.le_refl _) x1; replace x2 := cell_then hb (Nat.le_refl _) x2; replace x3 := cell_then hb (Nat.le_refl _) x3; replace x4 := cell_then hb (Nat.le_refl _) x4; replace x5 := cell_then hb (Nat.le_refl _) x5; replace x6 := cell_then hb (Nat.le_refl _) x6; replace y0 := cell_then hb (Nat.le_refl _) y0; replace y1 := cell_then hb (Nat.le_refl _) y1; replace y2 := cell_then hb (Nat.le_refl _) y2; replace y3 := cell_then hb (Nat.le_refl _) y3; replace y4 := cell_then hb (Nat.le_refl _) y4; replace y5 := cell_then hb (Nat.le_refl _) y5; replace y6 := cell_then hb (Nat.le_refl _) y6; clear hb )
    | (go_at_call 33; (with_reducible refine (HFIRST.out w5).mono ?_); rintro e w6 ⟨rfl, hb⟩; have HB6 := Lib.hid (below_then HB5.out hb HB5.out.size); replace x0 := cell_then hb (Nat.le_refl _) x0; replace x1 := cell_then hb (Nat.le_refl _) x1; replace x2 := cell_then hb (Nat.le_refl _) x2; replace x3 := cell_then hb (Nat.le_refl _) x3; replace x4 := cell_then hb (Nat.le_refl _) x4; replace x5 := cell_then hb (Nat.le_refl _) x5; replace x6 := cell_then hb (Nat.le_refl _) x6; replace y0 := cell_then hb (Nat.le_refl _) y0; replace y1 := cell_then hb (Nat.le_refl _) y1; replace y2 := cell_then hb (Nat.le_refl _) y2; replace y3 := cell_then hb (Nat.le_refl _) y3; replace y4 := cell_then hb (Nat.le_refl _) y4; replace y5 := cell_then hb (Nat.le_refl _) y5; replace y6 := cell_then hb (Nat.le_refl _) y6; clear hb ))
  go_ret
  exact ⟨rfl, HB6.out⟩

set_option maxRecDepth 100000 in
set_option maxHeartbeats 8000000 in
theorem less4 (R C row col : Int) (hid : Bool) (ti : ByteArray) (a1 : Option Addr) (n1 c1 : Nat) (L1 : List Ce) (R2 C2 row2 col2 : Int) (hid2 : Bool) (ti2 : ByteArray) (a2 : Option Addr) (n2 c2 : Nat) (L2 : List Ce) (z : Int) (W : World) (f1 : (n1 ≤ 3000 ∧ ti.size ≤ 3000)) (f2 : (n2 ≤ 3000 ∧ ti2.size ≤ 3000)) (h1 : ScA W a1 n1 c1 L1) (m1 : MayS ⟨R, C, row, col, hid, ti⟩ L1) (h2 : ScA W a2 n2 c2 L2) (m2 : MayS ⟨R2, C2, row2, col2, hid2, ti2⟩ L2) (hz : z < 0) :
    Calls Try.prog 10 #[svA ⟨R, C, row, col, hid, ti⟩ a1 n1 c1, svA ⟨R2, C2, row2, col2, hid2, ti2⟩ a2 n2 c2, .int .i64 z] W fun e w' => e = .returned (.bool true) ∧ Below W.heap.size W w' := by
  obtain ⟨hb, hA, hB⟩ := two_box W (svO ⟨R, C, row, col, hid, ti⟩ a1 n1 c1) (svO ⟨R2, C2, row2, col2, hid2, ti2⟩ a2 n2 c2)
  obtain ⟨x0, x1, x2, x3, x4, x5, x6⟩ := seven hA
  obtain ⟨y0, y1, y2, y3, y4, y5, y6⟩ := seven hB
  dsimp only [svO] at hb x0 x1 x2 x3 x4 x5 x6 y0 y1 y2 y3 y4 y5 y6
  generalize hw0 : (W.alloc (.cells #[.int .i64 R, .int .i64 C, .slice a1 n1 c1, .int .i64 row, .int .i64 col, .bool hid, .string ti] 24)).alloc (.cells #[.int .i64 R2, .int .i64 C2, .slice a2 n2 c2, .int .i64 row2, .int .i64 col2, .bool hid2, .string ti2] 24) = w0 at *
  have HB0 := Lib.hid hb
  have HFIRST := Lib.hid (fun w => firstD w)
  have HFEW1 := Lib.hid (fun w => few_yes ⟨R, C, row, col, hid, ti⟩ a1 n1 c1 f1 w)
  have HFEW2 := Lib.hid (fun w => few_yes ⟨R2, C2, row2, col2, hid2, ti2⟩ a2 n2 c2 f2 w)
  have HMAY1 := Lib.hid (fun w1 (hb : Below W.heap.size W w1) => mayYesA ⟨R, C, row, col, hid, ti⟩ a1 n1 c1 L1 w1 (h1.then_ hb (Nat.le_refl _)) (few_up f1) m1)
  have HMAY2 := Lib.hid (fun w1 (hb : Below W.heap.size W w1) => mayYesA ⟨R2, C2, row2, col2, hid2, ti2⟩ a2 n2 c2 L2 w1 (h2.then_ hb (Nat.le_refl _)) (few_up f2) m2)
  clear hb hA hB h1 m1 h2 m2 f1 f2
  go_enter Try.func10, Try.ntmps10
  go_wp2_with (first
    | (go_at_call 33; (with_reducible refine (HFIRST.out w0).mono ?_); rintro e w1 ⟨rfl, hb⟩; have HB1 := Lib.hid (below_then HB0.out hb HB0.out.size); replace x0 := cell_then hb (Nat.le_refl _) x0; replace x1 := cell_then hb (Nat.le_refl _) x1; replace x2 := cell_then hb (Nat.le_refl _) x2; replace x3 := cell_then hb (Nat.le_refl _) x3; replace x4 := cell_then hb (Nat.le_refl _) x4; replace x5 := cell_then hb (Nat.le_refl _) x5; replace x6 := cell_then hb (Nat.le_refl _) x6; replace y0 := cell_then hb (Nat.le_refl _) y0; replace y1 := cell_then hb (Nat.le_refl _) y1; replace y2 := cell_then hb (Nat.le_refl _) y2; replace y3 := cell_then hb (Nat.le_refl _) y3; replace y4 := cell_then hb (Nat.le_refl _) y4; replace y5 := cell_then hb (Nat.le_refl _) y5; replace y6 := cell_then hb (Nat.le_refl _) y6; clear hb )
    | (go_at_call 13; (with_reducible refine (HFEW1.out w1).mono ?_); rintro e w2 ⟨rfl, hb⟩; have HB2 := Lib.hid (below_then HB1.out hb HB1.out.size); replace x0 := cell_then hb (Nat.le_refl _) x0; replace x1 := cell_then hb (Nat.le_refl _) x1; replace x2 := cell_then hb (Nat.le_refl _) x2; replace x3 := cell_then hb (Nat.le_refl _) x3; replace x4 := cell_then hb (Nat.le_refl _) x4; replace x5 := cell_then hb (Nat.le_refl _) x5; replace x6 := cell_then hb (Nat.le_refl _) x6; replace y0 := cell_then hb (Nat.le_refl _) y0; replace y1 := cell_then hb (Nat.le_refl _) y1; replace y2 := cell_then hb (Nat.le_refl _) y2; replace y3 := cell_then hb (Nat.le_refl _) y3; replace y4 := cell_then hb (Nat.le_refl _) y4; replace y5 := cell_then hb (Nat.le_refl _) y5; replace y6 := cell_then hb (Nat.le_refl _) y6; clear hb )
    | (go_at_call 13; (with_reducible refine (HFEW2.out w2).mono ?_); rintro e w3 ⟨rfl, hb⟩; have HB3 := Lib.hid (below_then HB2.out hb HB2.out.size); replace x0 := cell_then hb (Nat.le_refl _) x0; replace x1 := cell_then hb (Nat.le_refl _) x1; replace x2 := cell_then hb (Nat.le_refl _) x2; replace x3 := cell_then hb (Nat.le_refl _) x3; replace x4 := cell_then hb (Nat.le_refl _) x4; replace x5 := cell_then hb (Nat.le_refl _) x5; replace x6 := cell_then hb (Nat.le_refl _) x6; replace y0 := cell_then hb (Nat.le_refl _) y0; replace y1 := cell_then hb (Nat.le_refl _) y1; replace y2 := cell_then hb (Nat.le_refl _) y2; replace y3 := cell_then hb (Nat.le_refl _) y3; replace y4 := cell_then hb (Nat.le_refl _) y4; replace y5 := cell_then hb (Nat.le_refl _) y5; replace y6 := cell_then hb (Nat.le_refl _) y6; clear hb )
    | (go_at_call 28; (with_reducible refine (HMAY1.out w3 HB3.out).mono ?_); rintro e w4 ⟨rfl, hb⟩; have HB4 := Lib.hid (below_then HB3.out hb HB3.out.size); replace x0 := cell_then hb (Nat.le_refl _) x0; replace x1 := cell_then hb (Nat.le_refl _) x1; replace x2 := cell_then hb (Nat.le_refl _) x2; replace x3 := cell_then hb (Nat.le_refl _) x3; replace x4 := cell_then hb (Nat.le_refl _) x4; replace x5 := cell_then hb (Nat.le_refl _) x5; replace x6 := cell_then hb (Nat.le_refl _) x6; replace y0 := cell_then hb (Nat.le_refl _) y0; replace y1 := cell_then hb (Nat.le_refl _) y1; replace y2 := cell_then hb (Nat.le_refl _) y2; replace y3 := cell_then hb (Nat.le_refl _) y3; replace y4 := cell_then hb (Nat.le_refl _) y4; replace y5 := cell_then hb (Nat.le_refl _) y5; replace y6 := cell_then hb (Nat.le_refl _) y6; clear hb )
    | (go_at_call 28; (with_reducible refine (HMAY2.out w4 HB4.out).mono ?_); rintro e w5 ⟨rfl, hb⟩; have HB5 := Lib.hid (below_then HB4.out hb HB4.out.size); replace x0 := cell_then hb (Nat.le_refl _) x0; replace x1 := cell_then hb (Nat.le_refl _) x1; replace x2 := cell_then hb (Nat.le_refl _) x2; replace x3 := cell_then hb (Nat.le_refl _) x3; replace x4 := cell_then hb (Nat.le_refl _) x4; replace x5 := cell_then hb (Nat.le_refl _) x5; replace x6 := cell_then hb (Nat.le_refl _) x6; replace y0 := cell_then hb (Nat.le_refl _) y0; replace y1 := cell_then hb (Nat.le_refl _) y1; replace y2 := cell_then hb (Nat.le_refl _) y2; replace y3 := cell_then hb (Nat.le_refl _) y3; replace y4 := cell_then hb (Nat.le_refl _) y4; replace y5 := cell_then hb (Nat.le_refl _) y5; replace y6 := cell_then hb (Nat.le_refl _) y6; clear hb )
    | (go_at_call 33; (with_reducible refine (HFIRST.out w5).mono ?_); rintro e w6 ⟨rfl, hb⟩; have HB6 := Lib.hid (below_then HB5.out hb HB5.out.size); replace x0 := cell_then hb (Nat.le_refl _) x0; replace x1 := cell_then hb (Nat.le_refl _) x1; replace x2 := cell_then hb (Nat.le_refl _) x2; replace x3 := cell_then hb (Nat.le_refl _) x3; replace x4 := cell_then hb (Nat.le_refl _) x4; replace x5 := cell_then hb (Nat.le_refl _) x5; replace x6 := cell_then hb (Nat.le_refl _) x6; replace y0 := cell_then hb (Nat.le_refl _) y0; replace y1 := cell_then hb (Nat.le_refl _) y1; replace y2 := cell_then hb (Nat.le_refl _) y2; replace y3 := cell_then hb (Nat.le_refl _) y3; replace y4 := cell_then hb (Nat.le_refl _) y4; replace y5 := cell_then hb (Nat.le_refl _) y5; replace y6 := cell_then hb (Nat.le_refl _) y6; clear hb ))
  go_ret
  exact ⟨rfl, HB6.out⟩
set_option maxRecDepth 100000 in
set_option maxHeartbeats 8000000 in
theorem main_s (R C row col : Int) (hid : Bool) (ti : ByteArray) (a1 : Option Addr) (n1 c1 : Nat) (L1 : List Ce) (R2 C2 row2 col2 : Int) (hid2 : Bool) (ti2 : ByteArray) (a2 : Option Addr) (n2 c2 : Nat) (L2 : List Ce) (z : Int) (W : World) (f1 : n1 ≤ 3000 ∧ ti.size ≤ 3000) (h1 : ScA W a1 n1 c1 L1) (m1 : MayS ⟨R, C, row, col, hid, ti⟩ L1) (f2 : n2 ≤ 3000 ∧ ti2.size ≤ 3000) (h2 : ScA W a2 n2 c2 L2) (m2 : MayS ⟨R2, C2, row2, col2, hid2, ti2⟩ L2) (hz : 0 ≤ z) (hr : R = R2) (hc : C = C2) :
    Calls Try.prog 10 #[svA ⟨R, C, row, col, hid, ti⟩ a1 n1 c1, svA ⟨R2, C2, row2, col2, hid2, ti2⟩ a2 n2 c2, .int .i64 z] W fun e w' => e = .returned (.bool true) ∧ Below W.heap.size W w' := by
  obtain ⟨hb, hA, hB⟩ := two_box W (svO ⟨R, C, row, col, hid, ti⟩ a1 n1 c1) (svO ⟨R2, C2, row2, col2, hid2, ti2⟩ a2 n2 c2)
  obtain ⟨x0, x1, x2, x3, x4, x5, x6⟩ := seven hA
  obtain ⟨y0, y1, y2, y3, y4, y5, y6⟩ := seven hB
  dsimp only [svO] at hb x0 x1 x2 x3 x4 x5 x6 y0 y1 y2 y3 y4 y5 y6
  generalize hw0 : (W.alloc (.cells #[.int .i64 R, .int .i64 C, .slice a1 n1 c1, .int .i64 row, .int .i64 col, .bool hid, .string ti] 24)).alloc (.cells #[.int .i64 R2, .int .i64 C2, .slice a2 n2 c2, .int .i64 row2, .int .i64 col2, .bool hid2, .string ti2] 24) = w0 at *
  have HB0 := Lib.hid hb
  have HFIRST := Lib.hid (fun w => firstD w)
  obtain ⟨q1, o1, rfl⟩ := sca_some h1 m1
  have hlen := m1.len
  have hn := h1.len
  obtain ⟨i, hi⟩ := Int.eq_ofNat_of_zero_le hz
  obtain ⟨k, hk⟩ : ∃ k, k = i % n1 := ⟨_, rfl⟩
  have hn0 : 0 < n1 := by omega
  have hkn : k < n1 := by rw [hk]; exact Nat.mod_lt _ hn0
  obtain ⟨g, hgk⟩ : ∃ g, L1[k]? = some g := ⟨L1[k]'(by omega), List.getElem?_eq_getElem (by omega)⟩
  have HFEW1 := Lib.hid (fun w => few_yes ⟨R, C, row, col, hid, ti⟩ (some ⟨q1, o1, none⟩) n1 c1 f1 w)
  have HMAY1 := Lib.hid (fun w1 (hb : Below W.heap.size W w1) => mayYesA ⟨R, C, row, col, hid, ti⟩ (some ⟨q1, o1, none⟩) n1 c1 L1 w1 (h1.then_ hb (Nat.le_refl _)) (few_up f1) m1)
  have HFEW2 := Lib.hid (fun w => few_yes ⟨R2, C2, row2, col2, hid2, ti2⟩ a2 n2 c2 f2 w)
  have HMAY2 := Lib.hid (fun w1 (hb : Below W.heap.size W w1) => mayYesA ⟨R2, C2, row2, col2, hid2, ti2⟩ a2 n2 c2 L2 w1 (h2.then_ hb (Nat.le_refl _)) (few_up f2) m2)
  have HCP := Lib.hid (fun w1 (hb : Below W.heap.size W w1) => copyC ⟨R, C, row, col, hid, ti⟩ q1 o1 n1 c1 L1 w1 hn hn0 (by omega) (sca_sc (h1.then_ hb (Nat.le_refl _)) m1))
  obtain ⟨F, hxr⟩ : ∃ F, bits .xor .i64 g.fl 4 = F := ⟨_, rfl⟩
  have hflip : Ea.flip g = ⟨g.r, F, g.fg, g.bg, g.wd⟩ := by rw [Ea.flip, hxr]
  have HMK1 := Lib.hid (fun (p c : Nat) w1 (hb : Below W.heap.size W w1) (hc : n1 ≤ c) (hs : Rw w1 p (L1.set k ⟨g.r, F, g.fg, g.bg, g.wd⟩)) => makeYes ⟨R, C, row, col, hid, ti⟩ ⟨R, C, row, col, hid, ti⟩ (some ⟨q1, o1, none⟩) n1 c1 L1 (some ⟨p, 0, none⟩) n1 c (L1.set k (Ea.flip g)) w1 (h1.then_ hb (Nat.le_refl _)) ⟨by rw [List.length_set]; exact hn, hc, .inr ⟨p, 0, rfl, by rw [hflip]; exact hs.sc⟩⟩ (few_up f1) (few_up f1) m1 (mayS_set m1 hgk))
  have HMK2 := Lib.hid (fun w1 (hb : Below W.heap.size W w1) => makeYes ⟨R, C, row, col, hid, ti⟩ ⟨R2, C2, row2, col2, hid2, ti2⟩ (some ⟨q1, o1, none⟩) n1 c1 L1 a2 n2 c2 L2 w1 (h1.then_ hb (Nat.le_refl _)) (h2.then_ hb (Nat.le_refl _)) (few_up f1) (few_up f2) m1 m2)
  have HEN := Lib.hid (fun w1 (hb : Below W.heap.size W w1) => encYesA ⟨R2, C2, row2, col2, hid2, ti2⟩ a2 n2 c2 L2 w1 (h2.then_ hb (Nat.le_refl _)) (few_up f2) m2)
  have hsh := make_short m1 hgk
  dsimp only at hsh
  generalize makeP ⟨R, C, row, col, hid, ti⟩ L1 ⟨R, C, row, col, hid, ti⟩ (L1.set k (Ea.flip g)) = D at *
  obtain ⟨nd, hnd⟩ : ∃ nd, nd = D.length := ⟨_, rfl⟩
  rw [← hnd] at HMK1 hsh
  obtain ⟨X, hX⟩ := make_zero (s := ⟨R, C, row, col, hid, ti⟩) (t := ⟨R2, C2, row2, col2, hid2, ti2⟩) (L := L1) (M := L2) ⟨hr, hc⟩
  rw [hX] at HMK2
  obtain ⟨nx, hnx⟩ : ∃ nx, nx = X.length := ⟨_, rfl⟩
  rw [List.length_cons, ← hnx] at HMK2
  generalize hXL : encL ⟨R2, C2, row2, col2, hid2, ti2⟩ L2 = Y at HEN
  generalize hny : Y.length = ny at HEN
  clear hXL hny
  have HK := Lib.hid hgk
  have d3 : ¬ z < 0 := by omega
  have d4 : ((n1 : Int) == 0) = false := by rw [beq_eq_false_iff_ne]; omega
  have d5 : ¬ (n1 : Int) = 0 := by omega
  have d5n : ¬ n1 = 0 := by omega
  have d6 : Int.tmod z (n1 : Int) = (k : Int) := by rw [hi, hk]; exact (Int.tmod_eq_emod_of_nonneg (Int.natCast_nonneg _)).trans (Int.natCast_emod i n1).symm
  have d7 : (k : Int) < (n1 : Int) := by omega
  have d8 : ¬ (32 + (ti.size : Int)) < (nd : Int) := by omega
  have d9 : (ti.size : Int) ≤ 3000 := by omega
  have d10 : IntKind.i64.wrap (32 + (ti.size : Int)) = 32 + (ti.size : Int) := IntWalk.i64_in _ (by omega)
  have d11 : (0 : Int) < ((nx + 1 : Nat) : Int) := by omega
  have t1 : (R != R2) = false := by simp [hr]
  have t2 : (C != C2) = false := by simp [hc]
  have HN0 := Lib.hid (show W.heap.size + 2 ≤ w0.heap.size by rw [← hw0]; simp)
  clear hflip hb hA hB hz hnx hnd hsh hi hk hn hn0 hkn hlen hX h1 h2 m1 m2 f1 f2 hr hc hgk
  go_enter Try.func10, Try.ntmps10
  go_upto_region 8 with (first
    | (go_at_call 33; (with_reducible refine (HFIRST.out w0).mono ?_); rintro e w1 ⟨rfl, hb⟩; have HN1 := Lib.hid (Nat.le_trans HN0.out hb.size); have HB1 := Lib.hid (below_then HB0.out hb HB0.out.size); replace x0 := cell_then hb (Nat.le_refl _) x0; replace x1 := cell_then hb (Nat.le_refl _) x1; replace x2 := cell_then hb (Nat.le_refl _) x2; replace x3 := cell_then hb (Nat.le_refl _) x3; replace x4 := cell_then hb (Nat.le_refl _) x4; replace x5 := cell_then hb (Nat.le_refl _) x5; replace x6 := cell_then hb (Nat.le_refl _) x6; replace y0 := cell_then hb (Nat.le_refl _) y0; replace y1 := cell_then hb (Nat.le_refl _) y1; replace y2 := cell_then hb (Nat.le_refl _) y2; replace y3 := cell_then hb (Nat.le_refl _) y3; replace y4 := cell_then hb (Nat.le_refl _) y4; replace y5 := cell_then hb (Nat.le_refl _) y5; replace y6 := cell_then hb (Nat.le_refl _) y6; clear hb )
    | (go_at_call 13; (with_reducible refine (HFEW1.out w1).mono ?_); rintro e w2 ⟨rfl, hb⟩; have HN2 := Lib.hid (Nat.le_trans HN1.out hb.size); have HB2 := Lib.hid (below_then HB1.out hb HB1.out.size); replace x0 := cell_then hb (Nat.le_refl _) x0; replace x1 := cell_then hb (Nat.le_refl _) x1; replace x2 := cell_then hb (Nat.le_refl _) x2; replace x3 := cell_then hb (Nat.le_refl _) x3; replace x4 := cell_then hb (Nat.le_refl _) x4; replace x5 := cell_then hb (Nat.le_refl _) x5; replace x6 := cell_then hb (Nat.le_refl _) x6; replace y0 := cell_then hb (Nat.le_refl _) y0; replace y1 := cell_then hb (Nat.le_refl _) y1; replace y2 := cell_then hb (Nat.le_refl _) y2; replace y3 := cell_then hb (Nat.le_refl _) y3; replace y4 := cell_then hb (Nat.le_refl _) y4; replace y5 := cell_then hb (Nat.le_refl _) y5; replace y6 := cell_then hb (Nat.le_refl _) y6; clear hb )
    | (go_at_call 13; (with_reducible refine (HFEW2.out w2).mono ?_); rintro e w3 ⟨rfl, hb⟩; have HN3 := Lib.hid (Nat.le_trans HN2.out hb.size); have HB3 := Lib.hid (below_then HB2.out hb HB2.out.size); replace x0 := cell_then hb (Nat.le_refl _) x0; replace x1 := cell_then hb (Nat.le_refl _) x1; replace x2 := cell_then hb (Nat.le_refl _) x2; replace x3 := cell_then hb (Nat.le_refl _) x3; replace x4 := cell_then hb (Nat.le_refl _) x4; replace x5 := cell_then hb (Nat.le_refl _) x5; replace x6 := cell_then hb (Nat.le_refl _) x6; replace y0 := cell_then hb (Nat.le_refl _) y0; replace y1 := cell_then hb (Nat.le_refl _) y1; replace y2 := cell_then hb (Nat.le_refl _) y2; replace y3 := cell_then hb (Nat.le_refl _) y3; replace y4 := cell_then hb (Nat.le_refl _) y4; replace y5 := cell_then hb (Nat.le_refl _) y5; replace y6 := cell_then hb (Nat.le_refl _) y6; clear hb )
    | (go_at_call 28; (with_reducible refine (HMAY1.out w3 HB3.out).mono ?_); rintro e w4 ⟨rfl, hb⟩; have HN4 := Lib.hid (Nat.le_trans HN3.out hb.size); have HB4 := Lib.hid (below_then HB3.out hb HB3.out.size); replace x0 := cell_then hb (Nat.le_refl _) x0; replace x1 := cell_then hb (Nat.le_refl _) x1; replace x2 := cell_then hb (Nat.le_refl _) x2; replace x3 := cell_then hb (Nat.le_refl _) x3; replace x4 := cell_then hb (Nat.le_refl _) x4; replace x5 := cell_then hb (Nat.le_refl _) x5; replace x6 := cell_then hb (Nat.le_refl _) x6; replace y0 := cell_then hb (Nat.le_refl _) y0; replace y1 := cell_then hb (Nat.le_refl _) y1; replace y2 := cell_then hb (Nat.le_refl _) y2; replace y3 := cell_then hb (Nat.le_refl _) y3; replace y4 := cell_then hb (Nat.le_refl _) y4; replace y5 := cell_then hb (Nat.le_refl _) y5; replace y6 := cell_then hb (Nat.le_refl _) y6; clear hb )
    | (go_at_call 28; (with_reducible refine (HMAY2.out w4 HB4.out).mono ?_); rintro e w5 ⟨rfl, hb⟩; have HN5 := Lib.hid (Nat.le_trans HN4.out hb.size); have HB5 := Lib.hid (below_then HB4.out hb HB4.out.size); replace x0 := cell_then hb (Nat.le_refl _) x0; replace x1 := cell_then hb (Nat.le_refl _) x1; replace x2 := cell_then hb (Nat.le_refl _) x2; replace x3 := cell_then hb (Nat.le_refl _) x3; replace x4 := cell_then hb (Nat.le_refl _) x4; replace x5 := cell_then hb (Nat.le_refl _) x5; replace x6 := cell_then hb (Nat.le_refl _) x6; replace y0 := cell_then hb (Nat.le_refl _) y0; replace y1 := cell_then hb (Nat.le_refl _) y1; replace y2 := cell_then hb (Nat.le_refl _) y2; replace y3 := cell_then hb (Nat.le_refl _) y3; replace y4 := cell_then hb (Nat.le_refl _) y4; replace y5 := cell_then hb (Nat.le_refl _) y5; replace y6 := cell_then hb (Nat.le_refl _) y6; clear hb )
    | (go_at_call 38; (with_reducible refine (HCP.out w5 HB5.out).mono ?_); rintro e w6 ⟨p, cp, rfl, hpw, hcp, hrw, hb⟩; have HN6 := Lib.hid (Nat.le_trans HN5.out hb.size); have HB6 := Lib.hid (below_then HB5.out hb HB5.out.size); replace x0 := cell_then hb (Nat.le_refl _) x0; replace x1 := cell_then hb (Nat.le_refl _) x1; replace x2 := cell_then hb (Nat.le_refl _) x2; replace x3 := cell_then hb (Nat.le_refl _) x3; replace x4 := cell_then hb (Nat.le_refl _) x4; replace x5 := cell_then hb (Nat.le_refl _) x5; replace x6 := cell_then hb (Nat.le_refl _) x6; replace y0 := cell_then hb (Nat.le_refl _) y0; replace y1 := cell_then hb (Nat.le_refl _) y1; replace y2 := cell_then hb (Nat.le_refl _) y2; replace y3 := cell_then hb (Nat.le_refl _) y3; replace y4 := cell_then hb (Nat.le_refl _) y4; replace y5 := cell_then hb (Nat.le_refl _) y5; replace y6 := cell_then hb (Nat.le_refl _) y6; have HZ6 := Lib.hid (heap_alloc_last w6 sO0); have HPW := Lib.hid hpw; have HCQ := Lib.hid hcp; have HRW := Lib.hid hrw; have HPL := Lib.hid (Nat.le_trans HB5.out.size hpw); have HPZ := Lib.hid (Nat.ne_of_lt hrw.lt); clear hb hpw hcp hrw)
    | ((with_reducible refine wpList_store_sc rfl _ _ rfl w6.heap.size ⟨R, C, row, col, hid, ti⟩ (some ⟨p, 0, none⟩) n1 cp _ rfl rfl HZ6.out rfl ?_); intro w7 hs hb0 hk hz; have hb := hb0 _ _ (Nat.le_refl _) (below_one w6 sO0); have HRW2 := Lib.hid (HRW.out.then_ hb (Nat.le_refl _)); have HN7 := Lib.hid (Nat.le_trans HN6.out hb.size); have HB7 := Lib.hid (below_then HB6.out hb HB6.out.size); replace x0 := cell_then hb (Nat.le_refl _) x0; replace x1 := cell_then hb (Nat.le_refl _) x1; replace x2 := cell_then hb (Nat.le_refl _) x2; replace x3 := cell_then hb (Nat.le_refl _) x3; replace x4 := cell_then hb (Nat.le_refl _) x4; replace x5 := cell_then hb (Nat.le_refl _) x5; replace x6 := cell_then hb (Nat.le_refl _) x6; replace y0 := cell_then hb (Nat.le_refl _) y0; replace y1 := cell_then hb (Nat.le_refl _) y1; replace y2 := cell_then hb (Nat.le_refl _) y2; replace y3 := cell_then hb (Nat.le_refl _) y3; replace y4 := cell_then hb (Nat.le_refl _) y4; replace y5 := cell_then hb (Nat.le_refl _) y5; replace y6 := cell_then hb (Nat.le_refl _) y6; have HV := Lib.hid hs; have hfl := rw_fl HRW2.out HK.out; obtain ⟨u0, u1, u2, u3, u4, u5, u6⟩ := seven hs; (dsimp only at u0 u1 u2 u3 u4 u5 u6); clear hs hb0 hk hz hb))
  go_still_tail 22, (by kernel_rfl)
  change wpList _ _ _ _ _ w7.drew
  clear hfl
  have HRW2d := Lib.hid (show Rw w7.drew p L1 from HRW2.out)
  have HVd := Lib.hid (show w7.drew.heap[w6.heap.size]? = _ from HV.out)
  have HB7d := Lib.hid (Below.drew HB7.out)
  replace x0 := past_drew x0
  replace x1 := past_drew x1
  replace x2 := past_drew x2
  replace x3 := past_drew x3
  replace x4 := past_drew x4
  replace x5 := past_drew x5
  replace x6 := past_drew x6
  replace y0 := past_drew y0
  replace y1 := past_drew y1
  replace y2 := past_drew y2
  replace y3 := past_drew y3
  replace y4 := past_drew y4
  replace y5 := past_drew y5
  replace y6 := past_drew y6
  refine wpList_store_flw rfl (.tmp 76) (.tmp 73) rfl p k L1 g F rfl rfl HRW2d.out HK.out ?_
  intro w8 hrw hkp hbl hsz
  have HX0 := Lib.hid (show W.heap.size ≠ p by have := HN5.out; have := HPW.out; omega)
  have HX1 := Lib.hid (show W.heap.size + 1 ≠ p by have := HN5.out; have := HPW.out; omega)
  have HRW3 := Lib.hid hrw
  have HN8 := Lib.hid (show W.heap.size + 2 ≤ w8.heap.size by rw [hsz]; exact HN7.out)
  have HB8 := Lib.hid (hbl _ _ HPL.out HB7d.out)
  have HV2 := Lib.hid ((hkp _ (Ne.symm HPZ.out)).trans HVd.out)
  replace x0 := (World.cell?_of_block (hkp _ HX0.out)).trans x0
  replace x1 := (World.cell?_of_block (hkp _ HX0.out)).trans x1
  replace x2 := (World.cell?_of_block (hkp _ HX0.out)).trans x2
  replace x3 := (World.cell?_of_block (hkp _ HX0.out)).trans x3
  replace x4 := (World.cell?_of_block (hkp _ HX0.out)).trans x4
  replace x5 := (World.cell?_of_block (hkp _ HX0.out)).trans x5
  replace x6 := (World.cell?_of_block (hkp _ HX0.out)).trans x6
  replace y0 := (World.cell?_of_block (hkp _ HX1.out)).trans y0
  replace y1 := (World.cell?_of_block (hkp _ HX1.out)).trans y1
  replace y2 := (World.cell?_of_block (hkp _ HX1.out)).trans y2
  replace y3 := (World.cell?_of_block (hkp _ HX1.out)).trans y3
  replace y4 := (World.cell?_of_block (hkp _ HX1.out)).trans y4
  replace y5 := (World.cell?_of_block (hkp _ HX1.out)).trans y5
  replace y6 := (World.cell?_of_block (hkp _ HX1.out)).trans y6
  clear u0 u1 u2 u3 u4 u5 u6
  obtain ⟨u0, u1, u2, u3, u4, u5, u6⟩ := seven HV2.out
  (dsimp only at u0 u1 u2 u3 u4 u5 u6)
  clear hrw hkp hbl hsz
  go_wp2_with (first
    | (go_at_call 34; (with_reducible refine (HMK1.out p cp w8 HB8.out HCQ.out HRW3.out).mono ?_); rintro e w9 ⟨bx, ox, cx, rfl, hcx, hsx, hb⟩; have HN9 := Lib.hid (Nat.le_trans HN8.out hb.size); have HB9 := Lib.hid (below_then HB8.out hb HB8.out.size); replace x0 := cell_then hb (Nat.le_refl _) x0; replace x1 := cell_then hb (Nat.le_refl _) x1; replace x2 := cell_then hb (Nat.le_refl _) x2; replace x3 := cell_then hb (Nat.le_refl _) x3; replace x4 := cell_then hb (Nat.le_refl _) x4; replace x5 := cell_then hb (Nat.le_refl _) x5; replace x6 := cell_then hb (Nat.le_refl _) x6; replace y0 := cell_then hb (Nat.le_refl _) y0; replace y1 := cell_then hb (Nat.le_refl _) y1; replace y2 := cell_then hb (Nat.le_refl _) y2; replace y3 := cell_then hb (Nat.le_refl _) y3; replace y4 := cell_then hb (Nat.le_refl _) y4; replace y5 := cell_then hb (Nat.le_refl _) y5; replace y6 := cell_then hb (Nat.le_refl _) y6; replace u0 := cell_then hb (Nat.le_refl _) u0; replace u1 := cell_then hb (Nat.le_refl _) u1; replace u2 := cell_then hb (Nat.le_refl _) u2; replace u3 := cell_then hb (Nat.le_refl _) u3; replace u4 := cell_then hb (Nat.le_refl _) u4; replace u5 := cell_then hb (Nat.le_refl _) u5; replace u6 := cell_then hb (Nat.le_refl _) u6; clear hb hcx hsx)
    | (go_at_call 34; (with_reducible refine (HMK2.out w9 HB9.out).mono ?_); rintro e w10 ⟨by_, oy, cy, rfl, hcy, hsy, hb⟩; have HN10 := Lib.hid (Nat.le_trans HN9.out hb.size); have HB10 := Lib.hid (below_then HB9.out hb HB9.out.size); replace x0 := cell_then hb (Nat.le_refl _) x0; replace x1 := cell_then hb (Nat.le_refl _) x1; replace x2 := cell_then hb (Nat.le_refl _) x2; replace x3 := cell_then hb (Nat.le_refl _) x3; replace x4 := cell_then hb (Nat.le_refl _) x4; replace x5 := cell_then hb (Nat.le_refl _) x5; replace x6 := cell_then hb (Nat.le_refl _) x6; replace y0 := cell_then hb (Nat.le_refl _) y0; replace y1 := cell_then hb (Nat.le_refl _) y1; replace y2 := cell_then hb (Nat.le_refl _) y2; replace y3 := cell_then hb (Nat.le_refl _) y3; replace y4 := cell_then hb (Nat.le_refl _) y4; replace y5 := cell_then hb (Nat.le_refl _) y5; replace y6 := cell_then hb (Nat.le_refl _) y6; replace u0 := cell_then hb (Nat.le_refl _) u0; replace u1 := cell_then hb (Nat.le_refl _) u1; replace u2 := cell_then hb (Nat.le_refl _) u2; replace u3 := cell_then hb (Nat.le_refl _) u3; replace u4 := cell_then hb (Nat.le_refl _) u4; replace u5 := cell_then hb (Nat.le_refl _) u5; replace u6 := cell_then hb (Nat.le_refl _) u6; have X_10 := Lib.hid hsy; have HCY := Lib.hid hcy; clear hb hcy hsy)
    | (go_at_call 14; (with_reducible refine (HEN.out w10 HB10.out).mono ?_); rintro e w11 ⟨bz, oz, cz, rfl, hcz, hsz, hb⟩; have HN11 := Lib.hid (Nat.le_trans HN10.out hb.size); have HB11 := Lib.hid (below_then HB10.out hb HB10.out.size); replace x0 := cell_then hb (Nat.le_refl _) x0; replace x1 := cell_then hb (Nat.le_refl _) x1; replace x2 := cell_then hb (Nat.le_refl _) x2; replace x3 := cell_then hb (Nat.le_refl _) x3; replace x4 := cell_then hb (Nat.le_refl _) x4; replace x5 := cell_then hb (Nat.le_refl _) x5; replace x6 := cell_then hb (Nat.le_refl _) x6; replace y0 := cell_then hb (Nat.le_refl _) y0; replace y1 := cell_then hb (Nat.le_refl _) y1; replace y2 := cell_then hb (Nat.le_refl _) y2; replace y3 := cell_then hb (Nat.le_refl _) y3; replace y4 := cell_then hb (Nat.le_refl _) y4; replace y5 := cell_then hb (Nat.le_refl _) y5; replace y6 := cell_then hb (Nat.le_refl _) y6; replace u0 := cell_then hb (Nat.le_refl _) u0; replace u1 := cell_then hb (Nat.le_refl _) u1; replace u2 := cell_then hb (Nat.le_refl _) u2; replace u3 := cell_then hb (Nat.le_refl _) u3; replace u4 := cell_then hb (Nat.le_refl _) u4; replace u5 := cell_then hb (Nat.le_refl _) u5; replace u6 := cell_then hb (Nat.le_refl _) u6; have X_11 := Lib.hid (sl_then hb (Nat.le_refl _) X_10.out); have Y_11 := Lib.hid hsz; clear hb hcz hsz)
    | (go_at_call 33; (with_reducible refine (HFIRST.out w11).mono ?_); rintro e w12 ⟨rfl, hb⟩; have HN12 := Lib.hid (Nat.le_trans HN11.out hb.size); have HB12 := Lib.hid (below_then HB11.out hb HB11.out.size); replace x0 := cell_then hb (Nat.le_refl _) x0; replace x1 := cell_then hb (Nat.le_refl _) x1; replace x2 := cell_then hb (Nat.le_refl _) x2; replace x3 := cell_then hb (Nat.le_refl _) x3; replace x4 := cell_then hb (Nat.le_refl _) x4; replace x5 := cell_then hb (Nat.le_refl _) x5; replace x6 := cell_then hb (Nat.le_refl _) x6; replace y0 := cell_then hb (Nat.le_refl _) y0; replace y1 := cell_then hb (Nat.le_refl _) y1; replace y2 := cell_then hb (Nat.le_refl _) y2; replace y3 := cell_then hb (Nat.le_refl _) y3; replace y4 := cell_then hb (Nat.le_refl _) y4; replace y5 := cell_then hb (Nat.le_refl _) y5; replace y6 := cell_then hb (Nat.le_refl _) y6; replace u0 := cell_then hb (Nat.le_refl _) u0; replace u1 := cell_then hb (Nat.le_refl _) u1; replace u2 := cell_then hb (Nat.le_refl _) u2; replace u3 := cell_then hb (Nat.le_refl _) u3; replace u4 := cell_then hb (Nat.le_refl _) u4; replace u5 := cell_then hb (Nat.le_refl _) u5; replace u6 := cell_then hb (Nat.le_refl _) u6; have X_12 := Lib.hid (sl_then hb (Nat.le_refl _) X_11.out); have Y_12 := Lib.hid (sl_then hb (Nat.le_refl _) Y_11.out); clear hb ; have hx0 := sl_head X_12.out; have hcy := HCY.out; have hcyI : ((nx + 1 : Nat) : Int) ≤ (cy : Int) := (by omega)))
  go_ret
  exact ⟨rfl, HB12.out⟩
set_option maxRecDepth 100000 in
set_option maxHeartbeats 8000000 in
theorem main_r (R C row col : Int) (hid : Bool) (ti : ByteArray) (a1 : Option Addr) (n1 c1 : Nat) (L1 : List Ce) (R2 C2 row2 col2 : Int) (hid2 : Bool) (ti2 : ByteArray) (a2 : Option Addr) (n2 c2 : Nat) (L2 : List Ce) (z : Int) (W : World) (f1 : n1 ≤ 3000 ∧ ti.size ≤ 3000) (h1 : ScA W a1 n1 c1 L1) (m1 : MayS ⟨R, C, row, col, hid, ti⟩ L1) (f2 : n2 ≤ 3000 ∧ ti2.size ≤ 3000) (h2 : ScA W a2 n2 c2 L2) (m2 : MayS ⟨R2, C2, row2, col2, hid2, ti2⟩ L2) (hz : 0 ≤ z) (hr : R ≠ R2) :
    Calls Try.prog 10 #[svA ⟨R, C, row, col, hid, ti⟩ a1 n1 c1, svA ⟨R2, C2, row2, col2, hid2, ti2⟩ a2 n2 c2, .int .i64 z] W fun e w' => e = .returned (.bool true) ∧ Below W.heap.size W w' := by
  obtain ⟨hb, hA, hB⟩ := two_box W (svO ⟨R, C, row, col, hid, ti⟩ a1 n1 c1) (svO ⟨R2, C2, row2, col2, hid2, ti2⟩ a2 n2 c2)
  obtain ⟨x0, x1, x2, x3, x4, x5, x6⟩ := seven hA
  obtain ⟨y0, y1, y2, y3, y4, y5, y6⟩ := seven hB
  dsimp only [svO] at hb x0 x1 x2 x3 x4 x5 x6 y0 y1 y2 y3 y4 y5 y6
  generalize hw0 : (W.alloc (.cells #[.int .i64 R, .int .i64 C, .slice a1 n1 c1, .int .i64 row, .int .i64 col, .bool hid, .string ti] 24)).alloc (.cells #[.int .i64 R2, .int .i64 C2, .slice a2 n2 c2, .int .i64 row2, .int .i64 col2, .bool hid2, .string ti2] 24) = w0 at *
  have HB0 := Lib.hid hb
  have HFIRST := Lib.hid (fun w => firstD w)
  obtain ⟨q1, o1, rfl⟩ := sca_some h1 m1
  have hlen := m1.len
  have hn := h1.len
  obtain ⟨i, hi⟩ := Int.eq_ofNat_of_zero_le hz
  obtain ⟨k, hk⟩ : ∃ k, k = i % n1 := ⟨_, rfl⟩
  have hn0 : 0 < n1 := by omega
  have hkn : k < n1 := by rw [hk]; exact Nat.mod_lt _ hn0
  obtain ⟨g, hgk⟩ : ∃ g, L1[k]? = some g := ⟨L1[k]'(by omega), List.getElem?_eq_getElem (by omega)⟩
  have HFEW1 := Lib.hid (fun w => few_yes ⟨R, C, row, col, hid, ti⟩ (some ⟨q1, o1, none⟩) n1 c1 f1 w)
  have HMAY1 := Lib.hid (fun w1 (hb : Below W.heap.size W w1) => mayYesA ⟨R, C, row, col, hid, ti⟩ (some ⟨q1, o1, none⟩) n1 c1 L1 w1 (h1.then_ hb (Nat.le_refl _)) (few_up f1) m1)
  have HFEW2 := Lib.hid (fun w => few_yes ⟨R2, C2, row2, col2, hid2, ti2⟩ a2 n2 c2 f2 w)
  have HMAY2 := Lib.hid (fun w1 (hb : Below W.heap.size W w1) => mayYesA ⟨R2, C2, row2, col2, hid2, ti2⟩ a2 n2 c2 L2 w1 (h2.then_ hb (Nat.le_refl _)) (few_up f2) m2)
  have HCP := Lib.hid (fun w1 (hb : Below W.heap.size W w1) => copyC ⟨R, C, row, col, hid, ti⟩ q1 o1 n1 c1 L1 w1 hn hn0 (by omega) (sca_sc (h1.then_ hb (Nat.le_refl _)) m1))
  obtain ⟨F, hxr⟩ : ∃ F, bits .xor .i64 g.fl 4 = F := ⟨_, rfl⟩
  have hflip : Ea.flip g = ⟨g.r, F, g.fg, g.bg, g.wd⟩ := by rw [Ea.flip, hxr]
  have HMK1 := Lib.hid (fun (p c : Nat) w1 (hb : Below W.heap.size W w1) (hc : n1 ≤ c) (hs : Rw w1 p (L1.set k ⟨g.r, F, g.fg, g.bg, g.wd⟩)) => makeYes ⟨R, C, row, col, hid, ti⟩ ⟨R, C, row, col, hid, ti⟩ (some ⟨q1, o1, none⟩) n1 c1 L1 (some ⟨p, 0, none⟩) n1 c (L1.set k (Ea.flip g)) w1 (h1.then_ hb (Nat.le_refl _)) ⟨by rw [List.length_set]; exact hn, hc, .inr ⟨p, 0, rfl, by rw [hflip]; exact hs.sc⟩⟩ (few_up f1) (few_up f1) m1 (mayS_set m1 hgk))
  have HMK2 := Lib.hid (fun w1 (hb : Below W.heap.size W w1) => makeYes ⟨R, C, row, col, hid, ti⟩ ⟨R2, C2, row2, col2, hid2, ti2⟩ (some ⟨q1, o1, none⟩) n1 c1 L1 a2 n2 c2 L2 w1 (h1.then_ hb (Nat.le_refl _)) (h2.then_ hb (Nat.le_refl _)) (few_up f1) (few_up f2) m1 m2)
  have HEN := Lib.hid (fun w1 (hb : Below W.heap.size W w1) => encYesA ⟨R2, C2, row2, col2, hid2, ti2⟩ a2 n2 c2 L2 w1 (h2.then_ hb (Nat.le_refl _)) (few_up f2) m2)
  have hsh := make_short m1 hgk
  dsimp only at hsh
  generalize makeP ⟨R, C, row, col, hid, ti⟩ L1 ⟨R, C, row, col, hid, ti⟩ (L1.set k (Ea.flip g)) = D at *
  obtain ⟨nd, hnd⟩ : ∃ nd, nd = D.length := ⟨_, rfl⟩
  rw [← hnd] at HMK1 hsh
  rw [make_whole (s := ⟨R, C, row, col, hid, ti⟩) (t := ⟨R2, C2, row2, col2, hid2, ti2⟩) (L := L1) (M := L2) (fun h => hr h.1)] at HMK2
  have h8 := Lf.enc_byte ⟨R2, C2, row2, col2, hid2, ti2⟩ L2
  have hlen2 : 1 ≤ (encL ⟨R2, C2, row2, col2, hid2, ti2⟩ L2).length := by have := enc_len ⟨R2, C2, row2, col2, hid2, ti2⟩ L2 m2; omega
  generalize encL ⟨R2, C2, row2, col2, hid2, ti2⟩ L2 = X at *
  obtain ⟨nx, hnx⟩ : ∃ nx, nx = X.length := ⟨_, rfl⟩
  rw [List.length_cons, ← hnx] at HMK2
  rw [← hnx] at HEN
  have hnx1 : 1 ≤ nx := hnx ▸ hlen2
  have HBY := Lib.hid (fun a1 a2 c1 c2 w1 (k1 : Sl w1 a1 X) (k2 : Sl w1 a2 X) => bytes_yes a1 a2 nx nx c1 c2 X w1 hnx hnx k1 k2 h8)
  have HNX1 := Lib.hid hnx1
  clear h8 hnx1 hlen2
  have HK := Lib.hid hgk
  have d3 : ¬ z < 0 := by omega
  have d4 : ((n1 : Int) == 0) = false := by rw [beq_eq_false_iff_ne]; omega
  have d5 : ¬ (n1 : Int) = 0 := by omega
  have d5n : ¬ n1 = 0 := by omega
  have d6 : Int.tmod z (n1 : Int) = (k : Int) := by rw [hi, hk]; exact (Int.tmod_eq_emod_of_nonneg (Int.natCast_nonneg _)).trans (Int.natCast_emod i n1).symm
  have d7 : (k : Int) < (n1 : Int) := by omega
  have d8 : ¬ (32 + (ti.size : Int)) < (nd : Int) := by omega
  have d9 : (ti.size : Int) ≤ 3000 := by omega
  have d10 : IntKind.i64.wrap (32 + (ti.size : Int)) = 32 + (ti.size : Int) := IntWalk.i64_in _ (by omega)
  have d11 : (0 : Int) < ((nx + 1 : Nat) : Int) := by omega
  have t1 : (R != R2) = true := by simp [hr]
  have HN0 := Lib.hid (show W.heap.size + 2 ≤ w0.heap.size by rw [← hw0]; simp)
  clear hflip hb hA hB hz hnx hnd hsh hi hk hn hn0 hkn hlen h1 h2 m1 m2 f1 f2 hr hgk
  go_enter Try.func10, Try.ntmps10
  go_upto_region 8 with (first
    | (go_at_call 33; (with_reducible refine (HFIRST.out w0).mono ?_); rintro e w1 ⟨rfl, hb⟩; have HN1 := Lib.hid (Nat.le_trans HN0.out hb.size); have HB1 := Lib.hid (below_then HB0.out hb HB0.out.size); replace x0 := cell_then hb (Nat.le_refl _) x0; replace x1 := cell_then hb (Nat.le_refl _) x1; replace x2 := cell_then hb (Nat.le_refl _) x2; replace x3 := cell_then hb (Nat.le_refl _) x3; replace x4 := cell_then hb (Nat.le_refl _) x4; replace x5 := cell_then hb (Nat.le_refl _) x5; replace x6 := cell_then hb (Nat.le_refl _) x6; replace y0 := cell_then hb (Nat.le_refl _) y0; replace y1 := cell_then hb (Nat.le_refl _) y1; replace y2 := cell_then hb (Nat.le_refl _) y2; replace y3 := cell_then hb (Nat.le_refl _) y3; replace y4 := cell_then hb (Nat.le_refl _) y4; replace y5 := cell_then hb (Nat.le_refl _) y5; replace y6 := cell_then hb (Nat.le_refl _) y6; clear hb )
    | (go_at_call 13; (with_reducible refine (HFEW1.out w1).mono ?_); rintro e w2 ⟨rfl, hb⟩; have HN2 := Lib.hid (Nat.le_trans HN1.out hb.size); have HB2 := Lib.hid (below_then HB1.out hb HB1.out.size); replace x0 := cell_then hb (Nat.le_refl _) x0; replace x1 := cell_then hb (Nat.le_refl _) x1; replace x2 := cell_then hb (Nat.le_refl _) x2; replace x3 := cell_then hb (Nat.le_refl _) x3; replace x4 := cell_then hb (Nat.le_refl _) x4; replace x5 := cell_then hb (Nat.le_refl _) x5; replace x6 := cell_then hb (Nat.le_refl _) x6; replace y0 := cell_then hb (Nat.le_refl _) y0; replace y1 := cell_then hb (Nat.le_refl _) y1; replace y2 := cell_then hb (Nat.le_refl _) y2; replace y3 := cell_then hb (Nat.le_refl _) y3; replace y4 := cell_then hb (Nat.le_refl _) y4; replace y5 := cell_then hb (Nat.le_refl _) y5; replace y6 := cell_then hb (Nat.le_refl _) y6; clear hb )
    | (go_at_call 13; (with_reducible refine (HFEW2.out w2).mono ?_); rintro e w3 ⟨rfl, hb⟩; have HN3 := Lib.hid (Nat.le_trans HN2.out hb.size); have HB3 := Lib.hid (below_then HB2.out hb HB2.out.size); replace x0 := cell_then hb (Nat.le_refl _) x0; replace x1 := cell_then hb (Nat.le_refl _) x1; replace x2 := cell_then hb (Nat.le_refl _) x2; replace x3 := cell_then hb (Nat.le_refl _) x3; replace x4 := cell_then hb (Nat.le_refl _) x4; replace x5 := cell_then hb (Nat.le_refl _) x5; replace x6 := cell_then hb (Nat.le_refl _) x6; replace y0 := cell_then hb (Nat.le_refl _) y0; replace y1 := cell_then hb (Nat.le_refl _) y1; replace y2 := cell_then hb (Nat.le_refl _) y2; replace y3 := cell_then hb (Nat.le_refl _) y3; replace y4 := cell_then hb (Nat.le_refl _) y4; replace y5 := cell_then hb (Nat.le_refl _) y5; replace y6 := cell_then hb (Nat.le_refl _) y6; clear hb )
    | (go_at_call 28; (with_reducible refine (HMAY1.out w3 HB3.out).mono ?_); rintro e w4 ⟨rfl, hb⟩; have HN4 := Lib.hid (Nat.le_trans HN3.out hb.size); have HB4 := Lib.hid (below_then HB3.out hb HB3.out.size); replace x0 := cell_then hb (Nat.le_refl _) x0; replace x1 := cell_then hb (Nat.le_refl _) x1; replace x2 := cell_then hb (Nat.le_refl _) x2; replace x3 := cell_then hb (Nat.le_refl _) x3; replace x4 := cell_then hb (Nat.le_refl _) x4; replace x5 := cell_then hb (Nat.le_refl _) x5; replace x6 := cell_then hb (Nat.le_refl _) x6; replace y0 := cell_then hb (Nat.le_refl _) y0; replace y1 := cell_then hb (Nat.le_refl _) y1; replace y2 := cell_then hb (Nat.le_refl _) y2; replace y3 := cell_then hb (Nat.le_refl _) y3; replace y4 := cell_then hb (Nat.le_refl _) y4; replace y5 := cell_then hb (Nat.le_refl _) y5; replace y6 := cell_then hb (Nat.le_refl _) y6; clear hb )
    | (go_at_call 28; (with_reducible refine (HMAY2.out w4 HB4.out).mono ?_); rintro e w5 ⟨rfl, hb⟩; have HN5 := Lib.hid (Nat.le_trans HN4.out hb.size); have HB5 := Lib.hid (below_then HB4.out hb HB4.out.size); replace x0 := cell_then hb (Nat.le_refl _) x0; replace x1 := cell_then hb (Nat.le_refl _) x1; replace x2 := cell_then hb (Nat.le_refl _) x2; replace x3 := cell_then hb (Nat.le_refl _) x3; replace x4 := cell_then hb (Nat.le_refl _) x4; replace x5 := cell_then hb (Nat.le_refl _) x5; replace x6 := cell_then hb (Nat.le_refl _) x6; replace y0 := cell_then hb (Nat.le_refl _) y0; replace y1 := cell_then hb (Nat.le_refl _) y1; replace y2 := cell_then hb (Nat.le_refl _) y2; replace y3 := cell_then hb (Nat.le_refl _) y3; replace y4 := cell_then hb (Nat.le_refl _) y4; replace y5 := cell_then hb (Nat.le_refl _) y5; replace y6 := cell_then hb (Nat.le_refl _) y6; clear hb )
    | (go_at_call 38; (with_reducible refine (HCP.out w5 HB5.out).mono ?_); rintro e w6 ⟨p, cp, rfl, hpw, hcp, hrw, hb⟩; have HN6 := Lib.hid (Nat.le_trans HN5.out hb.size); have HB6 := Lib.hid (below_then HB5.out hb HB5.out.size); replace x0 := cell_then hb (Nat.le_refl _) x0; replace x1 := cell_then hb (Nat.le_refl _) x1; replace x2 := cell_then hb (Nat.le_refl _) x2; replace x3 := cell_then hb (Nat.le_refl _) x3; replace x4 := cell_then hb (Nat.le_refl _) x4; replace x5 := cell_then hb (Nat.le_refl _) x5; replace x6 := cell_then hb (Nat.le_refl _) x6; replace y0 := cell_then hb (Nat.le_refl _) y0; replace y1 := cell_then hb (Nat.le_refl _) y1; replace y2 := cell_then hb (Nat.le_refl _) y2; replace y3 := cell_then hb (Nat.le_refl _) y3; replace y4 := cell_then hb (Nat.le_refl _) y4; replace y5 := cell_then hb (Nat.le_refl _) y5; replace y6 := cell_then hb (Nat.le_refl _) y6; have HZ6 := Lib.hid (heap_alloc_last w6 sO0); have HPW := Lib.hid hpw; have HCQ := Lib.hid hcp; have HRW := Lib.hid hrw; have HPL := Lib.hid (Nat.le_trans HB5.out.size hpw); have HPZ := Lib.hid (Nat.ne_of_lt hrw.lt); clear hb hpw hcp hrw)
    | ((with_reducible refine wpList_store_sc rfl _ _ rfl w6.heap.size ⟨R, C, row, col, hid, ti⟩ (some ⟨p, 0, none⟩) n1 cp _ rfl rfl HZ6.out rfl ?_); intro w7 hs hb0 hk hz; have hb := hb0 _ _ (Nat.le_refl _) (below_one w6 sO0); have HRW2 := Lib.hid (HRW.out.then_ hb (Nat.le_refl _)); have HN7 := Lib.hid (Nat.le_trans HN6.out hb.size); have HB7 := Lib.hid (below_then HB6.out hb HB6.out.size); replace x0 := cell_then hb (Nat.le_refl _) x0; replace x1 := cell_then hb (Nat.le_refl _) x1; replace x2 := cell_then hb (Nat.le_refl _) x2; replace x3 := cell_then hb (Nat.le_refl _) x3; replace x4 := cell_then hb (Nat.le_refl _) x4; replace x5 := cell_then hb (Nat.le_refl _) x5; replace x6 := cell_then hb (Nat.le_refl _) x6; replace y0 := cell_then hb (Nat.le_refl _) y0; replace y1 := cell_then hb (Nat.le_refl _) y1; replace y2 := cell_then hb (Nat.le_refl _) y2; replace y3 := cell_then hb (Nat.le_refl _) y3; replace y4 := cell_then hb (Nat.le_refl _) y4; replace y5 := cell_then hb (Nat.le_refl _) y5; replace y6 := cell_then hb (Nat.le_refl _) y6; have HV := Lib.hid hs; have hfl := rw_fl HRW2.out HK.out; obtain ⟨u0, u1, u2, u3, u4, u5, u6⟩ := seven hs; (dsimp only at u0 u1 u2 u3 u4 u5 u6); clear hs hb0 hk hz hb))
  go_still_tail 22, (by kernel_rfl)
  change wpList _ _ _ _ _ w7.drew
  clear hfl
  have HRW2d := Lib.hid (show Rw w7.drew p L1 from HRW2.out)
  have HVd := Lib.hid (show w7.drew.heap[w6.heap.size]? = _ from HV.out)
  have HB7d := Lib.hid (Below.drew HB7.out)
  replace x0 := past_drew x0
  replace x1 := past_drew x1
  replace x2 := past_drew x2
  replace x3 := past_drew x3
  replace x4 := past_drew x4
  replace x5 := past_drew x5
  replace x6 := past_drew x6
  replace y0 := past_drew y0
  replace y1 := past_drew y1
  replace y2 := past_drew y2
  replace y3 := past_drew y3
  replace y4 := past_drew y4
  replace y5 := past_drew y5
  replace y6 := past_drew y6
  refine wpList_store_flw rfl (.tmp 76) (.tmp 73) rfl p k L1 g F rfl rfl HRW2d.out HK.out ?_
  intro w8 hrw hkp hbl hsz
  have HX0 := Lib.hid (show W.heap.size ≠ p by have := HN5.out; have := HPW.out; omega)
  have HX1 := Lib.hid (show W.heap.size + 1 ≠ p by have := HN5.out; have := HPW.out; omega)
  have HRW3 := Lib.hid hrw
  have HN8 := Lib.hid (show W.heap.size + 2 ≤ w8.heap.size by rw [hsz]; exact HN7.out)
  have HB8 := Lib.hid (hbl _ _ HPL.out HB7d.out)
  have HV2 := Lib.hid ((hkp _ (Ne.symm HPZ.out)).trans HVd.out)
  replace x0 := (World.cell?_of_block (hkp _ HX0.out)).trans x0
  replace x1 := (World.cell?_of_block (hkp _ HX0.out)).trans x1
  replace x2 := (World.cell?_of_block (hkp _ HX0.out)).trans x2
  replace x3 := (World.cell?_of_block (hkp _ HX0.out)).trans x3
  replace x4 := (World.cell?_of_block (hkp _ HX0.out)).trans x4
  replace x5 := (World.cell?_of_block (hkp _ HX0.out)).trans x5
  replace x6 := (World.cell?_of_block (hkp _ HX0.out)).trans x6
  replace y0 := (World.cell?_of_block (hkp _ HX1.out)).trans y0
  replace y1 := (World.cell?_of_block (hkp _ HX1.out)).trans y1
  replace y2 := (World.cell?_of_block (hkp _ HX1.out)).trans y2
  replace y3 := (World.cell?_of_block (hkp _ HX1.out)).trans y3
  replace y4 := (World.cell?_of_block (hkp _ HX1.out)).trans y4
  replace y5 := (World.cell?_of_block (hkp _ HX1.out)).trans y5
  replace y6 := (World.cell?_of_block (hkp _ HX1.out)).trans y6
  clear u0 u1 u2 u3 u4 u5 u6
  obtain ⟨u0, u1, u2, u3, u4, u5, u6⟩ := seven HV2.out
  (dsimp only at u0 u1 u2 u3 u4 u5 u6)
  clear hrw hkp hbl hsz
  go_wp2_with (first
    | (go_at_call 34; (with_reducible refine (HMK1.out p cp w8 HB8.out HCQ.out HRW3.out).mono ?_); rintro e w9 ⟨bx, ox, cx, rfl, hcx, hsx, hb⟩; have HN9 := Lib.hid (Nat.le_trans HN8.out hb.size); have HB9 := Lib.hid (below_then HB8.out hb HB8.out.size); replace x0 := cell_then hb (Nat.le_refl _) x0; replace x1 := cell_then hb (Nat.le_refl _) x1; replace x2 := cell_then hb (Nat.le_refl _) x2; replace x3 := cell_then hb (Nat.le_refl _) x3; replace x4 := cell_then hb (Nat.le_refl _) x4; replace x5 := cell_then hb (Nat.le_refl _) x5; replace x6 := cell_then hb (Nat.le_refl _) x6; replace y0 := cell_then hb (Nat.le_refl _) y0; replace y1 := cell_then hb (Nat.le_refl _) y1; replace y2 := cell_then hb (Nat.le_refl _) y2; replace y3 := cell_then hb (Nat.le_refl _) y3; replace y4 := cell_then hb (Nat.le_refl _) y4; replace y5 := cell_then hb (Nat.le_refl _) y5; replace y6 := cell_then hb (Nat.le_refl _) y6; replace u0 := cell_then hb (Nat.le_refl _) u0; replace u1 := cell_then hb (Nat.le_refl _) u1; replace u2 := cell_then hb (Nat.le_refl _) u2; replace u3 := cell_then hb (Nat.le_refl _) u3; replace u4 := cell_then hb (Nat.le_refl _) u4; replace u5 := cell_then hb (Nat.le_refl _) u5; replace u6 := cell_then hb (Nat.le_refl _) u6; clear hb hcx hsx)
    | (go_at_call 34; (with_reducible refine (HMK2.out w9 HB9.out).mono ?_); rintro e w10 ⟨by_, oy, cy, rfl, hcy, hsy, hb⟩; have HN10 := Lib.hid (Nat.le_trans HN9.out hb.size); have HB10 := Lib.hid (below_then HB9.out hb HB9.out.size); replace x0 := cell_then hb (Nat.le_refl _) x0; replace x1 := cell_then hb (Nat.le_refl _) x1; replace x2 := cell_then hb (Nat.le_refl _) x2; replace x3 := cell_then hb (Nat.le_refl _) x3; replace x4 := cell_then hb (Nat.le_refl _) x4; replace x5 := cell_then hb (Nat.le_refl _) x5; replace x6 := cell_then hb (Nat.le_refl _) x6; replace y0 := cell_then hb (Nat.le_refl _) y0; replace y1 := cell_then hb (Nat.le_refl _) y1; replace y2 := cell_then hb (Nat.le_refl _) y2; replace y3 := cell_then hb (Nat.le_refl _) y3; replace y4 := cell_then hb (Nat.le_refl _) y4; replace y5 := cell_then hb (Nat.le_refl _) y5; replace y6 := cell_then hb (Nat.le_refl _) y6; replace u0 := cell_then hb (Nat.le_refl _) u0; replace u1 := cell_then hb (Nat.le_refl _) u1; replace u2 := cell_then hb (Nat.le_refl _) u2; replace u3 := cell_then hb (Nat.le_refl _) u3; replace u4 := cell_then hb (Nat.le_refl _) u4; replace u5 := cell_then hb (Nat.le_refl _) u5; replace u6 := cell_then hb (Nat.le_refl _) u6; have X_10 := Lib.hid hsy; have HCY := Lib.hid hcy; clear hb hcy hsy)
    | (go_at_call 14; (with_reducible refine (HEN.out w10 HB10.out).mono ?_); rintro e w11 ⟨bz, oz, cz, rfl, hcz, hsz, hb⟩; have HN11 := Lib.hid (Nat.le_trans HN10.out hb.size); have HB11 := Lib.hid (below_then HB10.out hb HB10.out.size); replace x0 := cell_then hb (Nat.le_refl _) x0; replace x1 := cell_then hb (Nat.le_refl _) x1; replace x2 := cell_then hb (Nat.le_refl _) x2; replace x3 := cell_then hb (Nat.le_refl _) x3; replace x4 := cell_then hb (Nat.le_refl _) x4; replace x5 := cell_then hb (Nat.le_refl _) x5; replace x6 := cell_then hb (Nat.le_refl _) x6; replace y0 := cell_then hb (Nat.le_refl _) y0; replace y1 := cell_then hb (Nat.le_refl _) y1; replace y2 := cell_then hb (Nat.le_refl _) y2; replace y3 := cell_then hb (Nat.le_refl _) y3; replace y4 := cell_then hb (Nat.le_refl _) y4; replace y5 := cell_then hb (Nat.le_refl _) y5; replace y6 := cell_then hb (Nat.le_refl _) y6; replace u0 := cell_then hb (Nat.le_refl _) u0; replace u1 := cell_then hb (Nat.le_refl _) u1; replace u2 := cell_then hb (Nat.le_refl _) u2; replace u3 := cell_then hb (Nat.le_refl _) u3; replace u4 := cell_then hb (Nat.le_refl _) u4; replace u5 := cell_then hb (Nat.le_refl _) u5; replace u6 := cell_then hb (Nat.le_refl _) u6; have X_11 := Lib.hid (sl_then hb (Nat.le_refl _) X_10.out); have Y_11 := Lib.hid hsz; clear hb hcz hsz)
    | (go_at_call 33; (with_reducible refine (HFIRST.out w11).mono ?_); rintro e w12 ⟨rfl, hb⟩; have HN12 := Lib.hid (Nat.le_trans HN11.out hb.size); have HB12 := Lib.hid (below_then HB11.out hb HB11.out.size); replace x0 := cell_then hb (Nat.le_refl _) x0; replace x1 := cell_then hb (Nat.le_refl _) x1; replace x2 := cell_then hb (Nat.le_refl _) x2; replace x3 := cell_then hb (Nat.le_refl _) x3; replace x4 := cell_then hb (Nat.le_refl _) x4; replace x5 := cell_then hb (Nat.le_refl _) x5; replace x6 := cell_then hb (Nat.le_refl _) x6; replace y0 := cell_then hb (Nat.le_refl _) y0; replace y1 := cell_then hb (Nat.le_refl _) y1; replace y2 := cell_then hb (Nat.le_refl _) y2; replace y3 := cell_then hb (Nat.le_refl _) y3; replace y4 := cell_then hb (Nat.le_refl _) y4; replace y5 := cell_then hb (Nat.le_refl _) y5; replace y6 := cell_then hb (Nat.le_refl _) y6; replace u0 := cell_then hb (Nat.le_refl _) u0; replace u1 := cell_then hb (Nat.le_refl _) u1; replace u2 := cell_then hb (Nat.le_refl _) u2; replace u3 := cell_then hb (Nat.le_refl _) u3; replace u4 := cell_then hb (Nat.le_refl _) u4; replace u5 := cell_then hb (Nat.le_refl _) u5; replace u6 := cell_then hb (Nat.le_refl _) u6; have X_12 := Lib.hid (sl_then hb (Nat.le_refl _) X_11.out); have Y_12 := Lib.hid (sl_then hb (Nat.le_refl _) Y_11.out); clear hb ; have hx0 := sl_head X_12.out; have hcy := HCY.out; have hcyI : ((nx + 1 : Nat) : Int) ≤ (cy : Int) := (by omega); have hcn : ¬ cy = 1 := (by have := HNX1.out; omega))
    | (go_at_call 16; (with_reducible refine (HBY.out _ _ _ _ _ (sl_tail X_12.out) Y_12.out).mono ?_); rintro e w' ⟨rfl, rfl⟩))
  go_ret
  exact ⟨rfl, HB12.out⟩
set_option maxRecDepth 100000 in
set_option maxHeartbeats 8000000 in
theorem main_c (R C row col : Int) (hid : Bool) (ti : ByteArray) (a1 : Option Addr) (n1 c1 : Nat) (L1 : List Ce) (R2 C2 row2 col2 : Int) (hid2 : Bool) (ti2 : ByteArray) (a2 : Option Addr) (n2 c2 : Nat) (L2 : List Ce) (z : Int) (W : World) (f1 : n1 ≤ 3000 ∧ ti.size ≤ 3000) (h1 : ScA W a1 n1 c1 L1) (m1 : MayS ⟨R, C, row, col, hid, ti⟩ L1) (f2 : n2 ≤ 3000 ∧ ti2.size ≤ 3000) (h2 : ScA W a2 n2 c2 L2) (m2 : MayS ⟨R2, C2, row2, col2, hid2, ti2⟩ L2) (hz : 0 ≤ z) (hr : R = R2) (hc : C ≠ C2) :
    Calls Try.prog 10 #[svA ⟨R, C, row, col, hid, ti⟩ a1 n1 c1, svA ⟨R2, C2, row2, col2, hid2, ti2⟩ a2 n2 c2, .int .i64 z] W fun e w' => e = .returned (.bool true) ∧ Below W.heap.size W w' := by
  obtain ⟨hb, hA, hB⟩ := two_box W (svO ⟨R, C, row, col, hid, ti⟩ a1 n1 c1) (svO ⟨R2, C2, row2, col2, hid2, ti2⟩ a2 n2 c2)
  obtain ⟨x0, x1, x2, x3, x4, x5, x6⟩ := seven hA
  obtain ⟨y0, y1, y2, y3, y4, y5, y6⟩ := seven hB
  dsimp only [svO] at hb x0 x1 x2 x3 x4 x5 x6 y0 y1 y2 y3 y4 y5 y6
  generalize hw0 : (W.alloc (.cells #[.int .i64 R, .int .i64 C, .slice a1 n1 c1, .int .i64 row, .int .i64 col, .bool hid, .string ti] 24)).alloc (.cells #[.int .i64 R2, .int .i64 C2, .slice a2 n2 c2, .int .i64 row2, .int .i64 col2, .bool hid2, .string ti2] 24) = w0 at *
  have HB0 := Lib.hid hb
  have HFIRST := Lib.hid (fun w => firstD w)
  obtain ⟨q1, o1, rfl⟩ := sca_some h1 m1
  have hlen := m1.len
  have hn := h1.len
  obtain ⟨i, hi⟩ := Int.eq_ofNat_of_zero_le hz
  obtain ⟨k, hk⟩ : ∃ k, k = i % n1 := ⟨_, rfl⟩
  have hn0 : 0 < n1 := by omega
  have hkn : k < n1 := by rw [hk]; exact Nat.mod_lt _ hn0
  obtain ⟨g, hgk⟩ : ∃ g, L1[k]? = some g := ⟨L1[k]'(by omega), List.getElem?_eq_getElem (by omega)⟩
  have HFEW1 := Lib.hid (fun w => few_yes ⟨R, C, row, col, hid, ti⟩ (some ⟨q1, o1, none⟩) n1 c1 f1 w)
  have HMAY1 := Lib.hid (fun w1 (hb : Below W.heap.size W w1) => mayYesA ⟨R, C, row, col, hid, ti⟩ (some ⟨q1, o1, none⟩) n1 c1 L1 w1 (h1.then_ hb (Nat.le_refl _)) (few_up f1) m1)
  have HFEW2 := Lib.hid (fun w => few_yes ⟨R2, C2, row2, col2, hid2, ti2⟩ a2 n2 c2 f2 w)
  have HMAY2 := Lib.hid (fun w1 (hb : Below W.heap.size W w1) => mayYesA ⟨R2, C2, row2, col2, hid2, ti2⟩ a2 n2 c2 L2 w1 (h2.then_ hb (Nat.le_refl _)) (few_up f2) m2)
  have HCP := Lib.hid (fun w1 (hb : Below W.heap.size W w1) => copyC ⟨R, C, row, col, hid, ti⟩ q1 o1 n1 c1 L1 w1 hn hn0 (by omega) (sca_sc (h1.then_ hb (Nat.le_refl _)) m1))
  obtain ⟨F, hxr⟩ : ∃ F, bits .xor .i64 g.fl 4 = F := ⟨_, rfl⟩
  have hflip : Ea.flip g = ⟨g.r, F, g.fg, g.bg, g.wd⟩ := by rw [Ea.flip, hxr]
  have HMK1 := Lib.hid (fun (p c : Nat) w1 (hb : Below W.heap.size W w1) (hc : n1 ≤ c) (hs : Rw w1 p (L1.set k ⟨g.r, F, g.fg, g.bg, g.wd⟩)) => makeYes ⟨R, C, row, col, hid, ti⟩ ⟨R, C, row, col, hid, ti⟩ (some ⟨q1, o1, none⟩) n1 c1 L1 (some ⟨p, 0, none⟩) n1 c (L1.set k (Ea.flip g)) w1 (h1.then_ hb (Nat.le_refl _)) ⟨by rw [List.length_set]; exact hn, hc, .inr ⟨p, 0, rfl, by rw [hflip]; exact hs.sc⟩⟩ (few_up f1) (few_up f1) m1 (mayS_set m1 hgk))
  have HMK2 := Lib.hid (fun w1 (hb : Below W.heap.size W w1) => makeYes ⟨R, C, row, col, hid, ti⟩ ⟨R2, C2, row2, col2, hid2, ti2⟩ (some ⟨q1, o1, none⟩) n1 c1 L1 a2 n2 c2 L2 w1 (h1.then_ hb (Nat.le_refl _)) (h2.then_ hb (Nat.le_refl _)) (few_up f1) (few_up f2) m1 m2)
  have HEN := Lib.hid (fun w1 (hb : Below W.heap.size W w1) => encYesA ⟨R2, C2, row2, col2, hid2, ti2⟩ a2 n2 c2 L2 w1 (h2.then_ hb (Nat.le_refl _)) (few_up f2) m2)
  have hsh := make_short m1 hgk
  dsimp only at hsh
  generalize makeP ⟨R, C, row, col, hid, ti⟩ L1 ⟨R, C, row, col, hid, ti⟩ (L1.set k (Ea.flip g)) = D at *
  obtain ⟨nd, hnd⟩ : ∃ nd, nd = D.length := ⟨_, rfl⟩
  rw [← hnd] at HMK1 hsh
  rw [make_whole (s := ⟨R, C, row, col, hid, ti⟩) (t := ⟨R2, C2, row2, col2, hid2, ti2⟩) (L := L1) (M := L2) (fun h => hc h.2)] at HMK2
  have h8 := Lf.enc_byte ⟨R2, C2, row2, col2, hid2, ti2⟩ L2
  have hlen2 : 1 ≤ (encL ⟨R2, C2, row2, col2, hid2, ti2⟩ L2).length := by have := enc_len ⟨R2, C2, row2, col2, hid2, ti2⟩ L2 m2; omega
  generalize encL ⟨R2, C2, row2, col2, hid2, ti2⟩ L2 = X at *
  obtain ⟨nx, hnx⟩ : ∃ nx, nx = X.length := ⟨_, rfl⟩
  rw [List.length_cons, ← hnx] at HMK2
  rw [← hnx] at HEN
  have hnx1 : 1 ≤ nx := hnx ▸ hlen2
  have HBY := Lib.hid (fun a1 a2 c1 c2 w1 (k1 : Sl w1 a1 X) (k2 : Sl w1 a2 X) => bytes_yes a1 a2 nx nx c1 c2 X w1 hnx hnx k1 k2 h8)
  have HNX1 := Lib.hid hnx1
  clear h8 hnx1 hlen2
  have HK := Lib.hid hgk
  have d3 : ¬ z < 0 := by omega
  have d4 : ((n1 : Int) == 0) = false := by rw [beq_eq_false_iff_ne]; omega
  have d5 : ¬ (n1 : Int) = 0 := by omega
  have d5n : ¬ n1 = 0 := by omega
  have d6 : Int.tmod z (n1 : Int) = (k : Int) := by rw [hi, hk]; exact (Int.tmod_eq_emod_of_nonneg (Int.natCast_nonneg _)).trans (Int.natCast_emod i n1).symm
  have d7 : (k : Int) < (n1 : Int) := by omega
  have d8 : ¬ (32 + (ti.size : Int)) < (nd : Int) := by omega
  have d9 : (ti.size : Int) ≤ 3000 := by omega
  have d10 : IntKind.i64.wrap (32 + (ti.size : Int)) = 32 + (ti.size : Int) := IntWalk.i64_in _ (by omega)
  have d11 : (0 : Int) < ((nx + 1 : Nat) : Int) := by omega
  have t1 : (R != R2) = false := by simp [hr]
  have t2 : (C != C2) = true := by simp [hc]
  have HN0 := Lib.hid (show W.heap.size + 2 ≤ w0.heap.size by rw [← hw0]; simp)
  clear hflip hb hA hB hz hnx hnd hsh hi hk hn hn0 hkn hlen h1 h2 m1 m2 f1 f2 hr hc hgk
  go_enter Try.func10, Try.ntmps10
  go_upto_region 8 with (first
    | (go_at_call 33; (with_reducible refine (HFIRST.out w0).mono ?_); rintro e w1 ⟨rfl, hb⟩; have HN1 := Lib.hid (Nat.le_trans HN0.out hb.size); have HB1 := Lib.hid (below_then HB0.out hb HB0.out.size); replace x0 := cell_then hb (Nat.le_refl _) x0; replace x1 := cell_then hb (Nat.le_refl _) x1; replace x2 := cell_then hb (Nat.le_refl _) x2; replace x3 := cell_then hb (Nat.le_refl _) x3; replace x4 := cell_then hb (Nat.le_refl _) x4; replace x5 := cell_then hb (Nat.le_refl _) x5; replace x6 := cell_then hb (Nat.le_refl _) x6; replace y0 := cell_then hb (Nat.le_refl _) y0; replace y1 := cell_then hb (Nat.le_refl _) y1; replace y2 := cell_then hb (Nat.le_refl _) y2; replace y3 := cell_then hb (Nat.le_refl _) y3; replace y4 := cell_then hb (Nat.le_refl _) y4; replace y5 := cell_then hb (Nat.le_refl _) y5; replace y6 := cell_then hb (Nat.le_refl _) y6; clear hb )
    | (go_at_call 13; (with_reducible refine (HFEW1.out w1).mono ?_); rintro e w2 ⟨rfl, hb⟩; have HN2 := Lib.hid (Nat.le_trans HN1.out hb.size); have HB2 := Lib.hid (below_then HB1.out hb HB1.out.size); replace x0 := cell_then hb (Nat.le_refl _) x0; replace x1 := cell_then hb (Nat.le_refl _) x1; replace x2 := cell_then hb (Nat.le_refl _) x2; replace x3 := cell_then hb (Nat.le_refl _) x3; replace x4 := cell_then hb (Nat.le_refl _) x4; replace x5 := cell_then hb (Nat.le_refl _) x5; replace x6 := cell_then hb (Nat.le_refl _) x6; replace y0 := cell_then hb (Nat.le_refl _) y0; replace y1 := cell_then hb (Nat.le_refl _) y1; replace y2 := cell_then hb (Nat.le_refl _) y2; replace y3 := cell_then hb (Nat.le_refl _) y3; replace y4 := cell_then hb (Nat.le_refl _) y4; replace y5 := cell_then hb (Nat.le_refl _) y5; replace y6 := cell_then hb (Nat.le_refl _) y6; clear hb )
    | (go_at_call 13; (with_reducible refine (HFEW2.out w2).mono ?_); rintro e w3 ⟨rfl, hb⟩; have HN3 := Lib.hid (Nat.le_trans HN2.out hb.size); have HB3 := Lib.hid (below_then HB2.out hb HB2.out.size); replace x0 := cell_then hb (Nat.le_refl _) x0; replace x1 := cell_then hb (Nat.le_refl _) x1; replace x2 := cell_then hb (Nat.le_refl _) x2; replace x3 := cell_then hb (Nat.le_refl _) x3; replace x4 := cell_then hb (Nat.le_refl _) x4; replace x5 := cell_then hb (Nat.le_refl _) x5; replace x6 := cell_then hb (Nat.le_refl _) x6; replace y0 := cell_then hb (Nat.le_refl _) y0; replace y1 := cell_then hb (Nat.le_refl _) y1; replace y2 := cell_then hb (Nat.le_refl _) y2; replace y3 := cell_then hb (Nat.le_refl _) y3; replace y4 := cell_then hb (Nat.le_refl _) y4; replace y5 := cell_then hb (Nat.le_refl _) y5; replace y6 := cell_then hb (Nat.le_refl _) y6; clear hb )
    | (go_at_call 28; (with_reducible refine (HMAY1.out w3 HB3.out).mono ?_); rintro e w4 ⟨rfl, hb⟩; have HN4 := Lib.hid (Nat.le_trans HN3.out hb.size); have HB4 := Lib.hid (below_then HB3.out hb HB3.out.size); replace x0 := cell_then hb (Nat.le_refl _) x0; replace x1 := cell_then hb (Nat.le_refl _) x1; replace x2 := cell_then hb (Nat.le_refl _) x2; replace x3 := cell_then hb (Nat.le_refl _) x3; replace x4 := cell_then hb (Nat.le_refl _) x4; replace x5 := cell_then hb (Nat.le_refl _) x5; replace x6 := cell_then hb (Nat.le_refl _) x6; replace y0 := cell_then hb (Nat.le_refl _) y0; replace y1 := cell_then hb (Nat.le_refl _) y1; replace y2 := cell_then hb (Nat.le_refl _) y2; replace y3 := cell_then hb (Nat.le_refl _) y3; replace y4 := cell_then hb (Nat.le_refl _) y4; replace y5 := cell_then hb (Nat.le_refl _) y5; replace y6 := cell_then hb (Nat.le_refl _) y6; clear hb )
    | (go_at_call 28; (with_reducible refine (HMAY2.out w4 HB4.out).mono ?_); rintro e w5 ⟨rfl, hb⟩; have HN5 := Lib.hid (Nat.le_trans HN4.out hb.size); have HB5 := Lib.hid (below_then HB4.out hb HB4.out.size); replace x0 := cell_then hb (Nat.le_refl _) x0; replace x1 := cell_then hb (Nat.le_refl _) x1; replace x2 := cell_then hb (Nat.le_refl _) x2; replace x3 := cell_then hb (Nat.le_refl _) x3; replace x4 := cell_then hb (Nat.le_refl _) x4; replace x5 := cell_then hb (Nat.le_refl _) x5; replace x6 := cell_then hb (Nat.le_refl _) x6; replace y0 := cell_then hb (Nat.le_refl _) y0; replace y1 := cell_then hb (Nat.le_refl _) y1; replace y2 := cell_then hb (Nat.le_refl _) y2; replace y3 := cell_then hb (Nat.le_refl _) y3; replace y4 := cell_then hb (Nat.le_refl _) y4; replace y5 := cell_then hb (Nat.le_refl _) y5; replace y6 := cell_then hb (Nat.le_refl _) y6; clear hb )
    | (go_at_call 38; (with_reducible refine (HCP.out w5 HB5.out).mono ?_); rintro e w6 ⟨p, cp, rfl, hpw, hcp, hrw, hb⟩; have HN6 := Lib.hid (Nat.le_trans HN5.out hb.size); have HB6 := Lib.hid (below_then HB5.out hb HB5.out.size); replace x0 := cell_then hb (Nat.le_refl _) x0; replace x1 := cell_then hb (Nat.le_refl _) x1; replace x2 := cell_then hb (Nat.le_refl _) x2; replace x3 := cell_then hb (Nat.le_refl _) x3; replace x4 := cell_then hb (Nat.le_refl _) x4; replace x5 := cell_then hb (Nat.le_refl _) x5; replace x6 := cell_then hb (Nat.le_refl _) x6; replace y0 := cell_then hb (Nat.le_refl _) y0; replace y1 := cell_then hb (Nat.le_refl _) y1; replace y2 := cell_then hb (Nat.le_refl _) y2; replace y3 := cell_then hb (Nat.le_refl _) y3; replace y4 := cell_then hb (Nat.le_refl _) y4; replace y5 := cell_then hb (Nat.le_refl _) y5; replace y6 := cell_then hb (Nat.le_refl _) y6; have HZ6 := Lib.hid (heap_alloc_last w6 sO0); have HPW := Lib.hid hpw; have HCQ := Lib.hid hcp; have HRW := Lib.hid hrw; have HPL := Lib.hid (Nat.le_trans HB5.out.size hpw); have HPZ := Lib.hid (Nat.ne_of_lt hrw.lt); clear hb hpw hcp hrw)
    | ((with_reducible refine wpList_store_sc rfl _ _ rfl w6.heap.size ⟨R, C, row, col, hid, ti⟩ (some ⟨p, 0, none⟩) n1 cp _ rfl rfl HZ6.out rfl ?_); intro w7 hs hb0 hk hz; have hb := hb0 _ _ (Nat.le_refl _) (below_one w6 sO0); have HRW2 := Lib.hid (HRW.out.then_ hb (Nat.le_refl _)); have HN7 := Lib.hid (Nat.le_trans HN6.out hb.size); have HB7 := Lib.hid (below_then HB6.out hb HB6.out.size); replace x0 := cell_then hb (Nat.le_refl _) x0; replace x1 := cell_then hb (Nat.le_refl _) x1; replace x2 := cell_then hb (Nat.le_refl _) x2; replace x3 := cell_then hb (Nat.le_refl _) x3; replace x4 := cell_then hb (Nat.le_refl _) x4; replace x5 := cell_then hb (Nat.le_refl _) x5; replace x6 := cell_then hb (Nat.le_refl _) x6; replace y0 := cell_then hb (Nat.le_refl _) y0; replace y1 := cell_then hb (Nat.le_refl _) y1; replace y2 := cell_then hb (Nat.le_refl _) y2; replace y3 := cell_then hb (Nat.le_refl _) y3; replace y4 := cell_then hb (Nat.le_refl _) y4; replace y5 := cell_then hb (Nat.le_refl _) y5; replace y6 := cell_then hb (Nat.le_refl _) y6; have HV := Lib.hid hs; have hfl := rw_fl HRW2.out HK.out; obtain ⟨u0, u1, u2, u3, u4, u5, u6⟩ := seven hs; (dsimp only at u0 u1 u2 u3 u4 u5 u6); clear hs hb0 hk hz hb))
  go_still_tail 22, (by kernel_rfl)
  change wpList _ _ _ _ _ w7.drew
  clear hfl
  have HRW2d := Lib.hid (show Rw w7.drew p L1 from HRW2.out)
  have HVd := Lib.hid (show w7.drew.heap[w6.heap.size]? = _ from HV.out)
  have HB7d := Lib.hid (Below.drew HB7.out)
  replace x0 := past_drew x0
  replace x1 := past_drew x1
  replace x2 := past_drew x2
  replace x3 := past_drew x3
  replace x4 := past_drew x4
  replace x5 := past_drew x5
  replace x6 := past_drew x6
  replace y0 := past_drew y0
  replace y1 := past_drew y1
  replace y2 := past_drew y2
  replace y3 := past_drew y3
  replace y4 := past_drew y4
  replace y5 := past_drew y5
  replace y6 := past_drew y6
  refine wpList_store_flw rfl (.tmp 76) (.tmp 73) rfl p k L1 g F rfl rfl HRW2d.out HK.out ?_
  intro w8 hrw hkp hbl hsz
  have HX0 := Lib.hid (show W.heap.size ≠ p by have := HN5.out; have := HPW.out; omega)
  have HX1 := Lib.hid (show W.heap.size + 1 ≠ p by have := HN5.out; have := HPW.out; omega)
  have HRW3 := Lib.hid hrw
  have HN8 := Lib.hid (show W.heap.size + 2 ≤ w8.heap.size by rw [hsz]; exact HN7.out)
  have HB8 := Lib.hid (hbl _ _ HPL.out HB7d.out)
  have HV2 := Lib.hid ((hkp _ (Ne.symm HPZ.out)).trans HVd.out)
  replace x0 := (World.cell?_of_block (hkp _ HX0.out)).trans x0
  replace x1 := (World.cell?_of_block (hkp _ HX0.out)).trans x1
  replace x2 := (World.cell?_of_block (hkp _ HX0.out)).trans x2
  replace x3 := (World.cell?_of_block (hkp _ HX0.out)).trans x3
  replace x4 := (World.cell?_of_block (hkp _ HX0.out)).trans x4
  replace x5 := (World.cell?_of_block (hkp _ HX0.out)).trans x5
  replace x6 := (World.cell?_of_block (hkp _ HX0.out)).trans x6
  replace y0 := (World.cell?_of_block (hkp _ HX1.out)).trans y0
  replace y1 := (World.cell?_of_block (hkp _ HX1.out)).trans y1
  replace y2 := (World.cell?_of_block (hkp _ HX1.out)).trans y2
  replace y3 := (World.cell?_of_block (hkp _ HX1.out)).trans y3
  replace y4 := (World.cell?_of_block (hkp _ HX1.out)).trans y4
  replace y5 := (World.cell?_of_block (hkp _ HX1.out)).trans y5
  replace y6 := (World.cell?_of_block (hkp _ HX1.out)).trans y6
  clear u0 u1 u2 u3 u4 u5 u6
  obtain ⟨u0, u1, u2, u3, u4, u5, u6⟩ := seven HV2.out
  (dsimp only at u0 u1 u2 u3 u4 u5 u6)
  clear hrw hkp hbl hsz
  go_wp2_with (first
    | (go_at_call 34; (with_reducible refine (HMK1.out p cp w8 HB8.out HCQ.out HRW3.out).mono ?_); rintro e w9 ⟨bx, ox, cx, rfl, hcx, hsx, hb⟩; have HN9 := Lib.hid (Nat.le_trans HN8.out hb.size); have HB9 := Lib.hid (below_then HB8.out hb HB8.out.size); replace x0 := cell_then hb (Nat.le_refl _) x0; replace x1 := cell_then hb (Nat.le_refl _) x1; replace x2 := cell_then hb (Nat.le_refl _) x2; replace x3 := cell_then hb (Nat.le_refl _) x3; replace x4 := cell_then hb (Nat.le_refl _) x4; replace x5 := cell_then hb (Nat.le_refl _) x5; replace x6 := cell_then hb (Nat.le_refl _) x6; replace y0 := cell_then hb (Nat.le_refl _) y0; replace y1 := cell_then hb (Nat.le_refl _) y1; replace y2 := cell_then hb (Nat.le_refl _) y2; replace y3 := cell_then hb (Nat.le_refl _) y3; replace y4 := cell_then hb (Nat.le_refl _) y4; replace y5 := cell_then hb (Nat.le_refl _) y5; replace y6 := cell_then hb (Nat.le_refl _) y6; replace u0 := cell_then hb (Nat.le_refl _) u0; replace u1 := cell_then hb (Nat.le_refl _) u1; replace u2 := cell_then hb (Nat.le_refl _) u2; replace u3 := cell_then hb (Nat.le_refl _) u3; replace u4 := cell_then hb (Nat.le_refl _) u4; replace u5 := cell_then hb (Nat.le_refl _) u5; replace u6 := cell_then hb (Nat.le_refl _) u6; clear hb hcx hsx)
    | (go_at_call 34; (with_reducible refine (HMK2.out w9 HB9.out).mono ?_); rintro e w10 ⟨by_, oy, cy, rfl, hcy, hsy, hb⟩; have HN10 := Lib.hid (Nat.le_trans HN9.out hb.size); have HB10 := Lib.hid (below_then HB9.out hb HB9.out.size); replace x0 := cell_then hb (Nat.le_refl _) x0; replace x1 := cell_then hb (Nat.le_refl _) x1; replace x2 := cell_then hb (Nat.le_refl _) x2; replace x3 := cell_then hb (Nat.le_refl _) x3; replace x4 := cell_then hb (Nat.le_refl _) x4; replace x5 := cell_then hb (Nat.le_refl _) x5; replace x6 := cell_then hb (Nat.le_refl _) x6; replace y0 := cell_then hb (Nat.le_refl _) y0; replace y1 := cell_then hb (Nat.le_refl _) y1; replace y2 := cell_then hb (Nat.le_refl _) y2; replace y3 := cell_then hb (Nat.le_refl _) y3; replace y4 := cell_then hb (Nat.le_refl _) y4; replace y5 := cell_then hb (Nat.le_refl _) y5; replace y6 := cell_then hb (Nat.le_refl _) y6; replace u0 := cell_then hb (Nat.le_refl _) u0; replace u1 := cell_then hb (Nat.le_refl _) u1; replace u2 := cell_then hb (Nat.le_refl _) u2; replace u3 := cell_then hb (Nat.le_refl _) u3; replace u4 := cell_then hb (Nat.le_refl _) u4; replace u5 := cell_then hb (Nat.le_refl _) u5; replace u6 := cell_then hb (Nat.le_refl _) u6; have X_10 := Lib.hid hsy; have HCY := Lib.hid hcy; clear hb hcy hsy)
    | (go_at_call 14; (with_reducible refine (HEN.out w10 HB10.out).mono ?_); rintro e w11 ⟨bz, oz, cz, rfl, hcz, hsz, hb⟩; have HN11 := Lib.hid (Nat.le_trans HN10.out hb.size); have HB11 := Lib.hid (below_then HB10.out hb HB10.out.size); replace x0 := cell_then hb (Nat.le_refl _) x0; replace x1 := cell_then hb (Nat.le_refl _) x1; replace x2 := cell_then hb (Nat.le_refl _) x2; replace x3 := cell_then hb (Nat.le_refl _) x3; replace x4 := cell_then hb (Nat.le_refl _) x4; replace x5 := cell_then hb (Nat.le_refl _) x5; replace x6 := cell_then hb (Nat.le_refl _) x6; replace y0 := cell_then hb (Nat.le_refl _) y0; replace y1 := cell_then hb (Nat.le_refl _) y1; replace y2 := cell_then hb (Nat.le_refl _) y2; replace y3 := cell_then hb (Nat.le_refl _) y3; replace y4 := cell_then hb (Nat.le_refl _) y4; replace y5 := cell_then hb (Nat.le_refl _) y5; replace y6 := cell_then hb (Nat.le_refl _) y6; replace u0 := cell_then hb (Nat.le_refl _) u0; replace u1 := cell_then hb (Nat.le_refl _) u1; replace u2 := cell_then hb (Nat.le_refl _) u2; replace u3 := cell_then hb (Nat.le_refl _) u3; replace u4 := cell_then hb (Nat.le_refl _) u4; replace u5 := cell_then hb (Nat.le_refl _) u5; replace u6 := cell_then hb (Nat.le_refl _) u6; have X_11 := Lib.hid (sl_then hb (Nat.le_refl _) X_10.out); have Y_11 := Lib.hid hsz; clear hb hcz hsz)
    | (go_at_call 33; (with_reducible refine (HFIRST.out w11).mono ?_); rintro e w12 ⟨rfl, hb⟩; have HN12 := Lib.hid (Nat.le_trans HN11.out hb.size); have HB12 := Lib.hid (below_then HB11.out hb HB11.out.size); replace x0 := cell_then hb (Nat.le_refl _) x0; replace x1 := cell_then hb (Nat.le_refl _) x1; replace x2 := cell_then hb (Nat.le_refl _) x2; replace x3 := cell_then hb (Nat.le_refl _) x3; replace x4 := cell_then hb (Nat.le_refl _) x4; replace x5 := cell_then hb (Nat.le_refl _) x5; replace x6 := cell_then hb (Nat.le_refl _) x6; replace y0 := cell_then hb (Nat.le_refl _) y0; replace y1 := cell_then hb (Nat.le_refl _) y1; replace y2 := cell_then hb (Nat.le_refl _) y2; replace y3 := cell_then hb (Nat.le_refl _) y3; replace y4 := cell_then hb (Nat.le_refl _) y4; replace y5 := cell_then hb (Nat.le_refl _) y5; replace y6 := cell_then hb (Nat.le_refl _) y6; replace u0 := cell_then hb (Nat.le_refl _) u0; replace u1 := cell_then hb (Nat.le_refl _) u1; replace u2 := cell_then hb (Nat.le_refl _) u2; replace u3 := cell_then hb (Nat.le_refl _) u3; replace u4 := cell_then hb (Nat.le_refl _) u4; replace u5 := cell_then hb (Nat.le_refl _) u5; replace u6 := cell_then hb (Nat.le_refl _) u6; have X_12 := Lib.hid (sl_then hb (Nat.le_refl _) X_11.out); have Y_12 := Lib.hid (sl_then hb (Nat.le_refl _) Y_11.out); clear hb ; have hx0 := sl_head X_12.out; have hcy := HCY.out; have hcyI : ((nx + 1 : Nat) : Int) ≤ (cy : Int) := (by omega); have hcn : ¬ cy = 1 := (by have := HNX1.out; omega))
    | (go_at_call 16; (with_reducible refine (HBY.out _ _ _ _ _ (sl_tail X_12.out) Y_12.out).mono ?_); rintro e w' ⟨rfl, rfl⟩))
  go_ret
  exact ⟨rfl, HB12.out⟩
/-- DiffSmall. -/
theorem walk (s : Scr) (a1 : Option Addr) (n1 c1 : Nat) (L1 : List Gm.Ce) (t : Scr) (a2 : Option Addr) (n2 c2 : Nat) (L2 : List Gm.Ce) (z : Int) (W : World) (h1 : Sp.IsCells W a1 n1 c1 L1 ∧ (Lit.int .i64 s.R).wf = true ∧ (Lit.int .i64 s.C).wf = true ∧ (Lit.int .i64 s.row).wf = true ∧ (Lit.int .i64 s.col).wf = true) (h2 : Sp.IsCells W a2 n2 c2 L2 ∧ (Lit.int .i64 t.R).wf = true ∧ (Lit.int .i64 t.C).wf = true ∧ (Lit.int .i64 t.row).wf = true ∧ (Lit.int .i64 t.col).wf = true) (_ : (Lit.int .i64 z).wf = true) :
    Calls Try.prog 10 #[svA s a1 n1 c1, svA t a2 n2 c2, .int .i64 z] W fun e w' => e = .returned (.bool true) ∧ Below W.heap.size W w' := by
  obtain ⟨R, C, row, col, hid, ti⟩ := s
  obtain ⟨R2, C2, row2, col2, hid2, ti2⟩ := t
  obtain ⟨⟨k1, _, e1, s1, _⟩, _⟩ := h1
  obtain ⟨⟨k2, _, e2, s2, _⟩, _⟩ := h2
  have KA : ScA W a1 n1 c1 L1 := ⟨e1, k1, s1⟩
  have KB : ScA W a2 n2 c2 L2 := ⟨e2, k2, s2⟩
  by_cases f1 : n1 ≤ 3000 ∧ ti.size ≤ 3000
  · by_cases f2 : n2 ≤ 3000 ∧ ti2.size ≤ 3000
    · by_cases m1 : MayS ⟨R, C, row, col, hid, ti⟩ L1
      · by_cases m2 : MayS ⟨R2, C2, row2, col2, hid2, ti2⟩ L2
        · by_cases hz : z < 0
          · exact less4 R C row col hid ti a1 n1 c1 L1 R2 C2 row2 col2 hid2 ti2 a2 n2 c2 L2 z W f1 f2 KA m1 KB m2 hz
          · by_cases hr : R = R2
            · by_cases hc : C = C2
              · exact main_s R C row col hid ti a1 n1 c1 L1 R2 C2 row2 col2 hid2 ti2 a2 n2 c2 L2 z W f1 KA m1 f2 KB m2 (by omega) hr hc
              · exact main_c R C row col hid ti a1 n1 c1 L1 R2 C2 row2 col2 hid2 ti2 a2 n2 c2 L2 z W f1 KA m1 f2 KB m2 (by omega) hr hc
            · exact main_r R C row col hid ti a1 n1 c1 L1 R2 C2 row2 col2 hid2 ti2 a2 n2 c2 L2 z W f1 KA m1 f2 KB m2 (by omega) hr
        · exact less3 R C row col hid ti a1 n1 c1 L1 R2 C2 row2 col2 hid2 ti2 a2 n2 c2 L2 z W f1 f2 KA m1 KB m2
      · exact less2 R C row col hid ti a1 n1 c1 L1 R2 C2 row2 col2 hid2 ti2 a2 n2 c2 L2 z W f1 f2 KA m1
    · exact less1 R C row col hid ti a1 n1 c1 L1 R2 C2 row2 col2 hid2 ti2 a2 n2 c2 L2 z W f1 f2
  · exact less0 R C row col hid ti a1 n1 c1 L1 R2 C2 row2 col2 hid2 ti2 a2 n2 c2 L2 z W f1
end Go.Proofs.Ytfogbokifbjjlaa.Eb
