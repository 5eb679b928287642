/- KeyShort: the walk. -/
import Derived.Test.YtfogbokifbjjlaaLe
import Derived.Deep.CutRange
set_option linter.unusedVariables false
namespace Go.Proofs.Ytfogbokifbjjlaa.Lf
open Go Go.RowKit Kit Gm Gv Crc Var Bytes WireFirst Copy Ap Sa Sb Sd Sf La Lb Lc Fr Ld Le
open Sh (Nw mayY)

theorem one_byte (c : Ce) (k : Nat) : ∀ x ∈ oneP c k, x < 256 := by
  intro x hx
  match k with
  | 0 => exact varL_bytes _ x hx
  | 1 => simp only [oneP, List.mem_append] at hx; rcases hx with h | h <;> exact varL_bytes _ x h
  | 2 => simp only [oneP, List.mem_append] at hx; rcases hx with (h | h) | h <;> exact varL_bytes _ x h
  | 3 => simp only [oneP, List.mem_append] at hx; rcases hx with ((h | h) | h) | h <;> exact varL_bytes _ x h
  | k + 4 => simp only [oneP, List.mem_append] at hx; rcases hx with (((h | h) | h) | h) | h <;> exact varL_bytes _ x h
theorem cells_byte : ∀ (n : Nat) (L : List Ce), L.length ≤ n → ∀ x ∈ cellsB L, x < 256 := by
  intro n
  induction n with
  | zero => intro L h x hx; obtain rfl : L = [] := List.eq_nil_of_length_eq_zero (by omega); rw [cellsB_nil] at hx; simp at hx
  | succ n ih =>
    intro L h x hx
    match L, h with
    | [], _ => rw [cellsB_nil] at hx; simp at hx
    | c :: l, h =>
      rw [cellsB_cons] at hx
      simp only [List.mem_append] at hx
      rcases hx with (h1 | h1) | h1
      · exact varL_bytes _ x h1
      · exact one_byte c 4 x h1
      · have := (run_pos c l).1
        exact ih _ (by rw [List.length_drop]; simp only [List.length_cons] at h ⊢; omega) x h1
theorem head_byte (s : Scr) (k : Nat) : ∀ x ∈ headP s k, x < 256 := by
  induction k with
  | zero => intro x hx; simp [headP] at hx
  | succ k ih =>
    intro x hx
    simp only [headP, List.mem_append] at hx
    rcases hx with h | h
    · exact ih x h
    · exact varL_bytes _ x h
theorem enc_byte (s : Scr) (L : List Ce) : ∀ x ∈ encL s L, x < 256 := by
  intro x hx
  simp only [encL, List.mem_append] at hx
  rcases hx with (h | h) | h
  · exact head_byte s 6 x h
  · exact byL_byte _ x h
  · exact cells_byte _ L (Nat.le_refl _) x h
theorem xor2 (f : Int) (h : 0 ≤ f ∧ f ≤ 255) : (0 ≤ bits .xor .i64 f 2 ∧ bits .xor .i64 f 2 ≤ 255) ∧ bits .xor .i64 f 2 ≠ f := by
  obtain ⟨n, rfl⟩ := Int.eq_ofNat_of_zero_le h.1
  have h2 : n < 256 := by omega
  have : ∀ n, n < 256 → (0 ≤ bits .xor .i64 ((n : Nat) : Int) 2 ∧ bits .xor .i64 ((n : Nat) : Int) 2 ≤ 255) ∧ bits .xor .i64 ((n : Nat) : Int) 2 ≠ ((n : Nat) : Int) := by decide +kernel
  exact this n h2
theorem nw_rep {c : Ce} (h : Cell.mayB c.r c.fl c.fg c.bg c.wd = true) (hw : c.wd = 0) (q : Nat) : Nw (List.replicate q c) := by
  intro d hd
  obtain rfl := List.eq_of_mem_replicate hd
  exact ⟨hw, h⟩
theorem nw_set {L : List Ce} (h : Nw L) (k : Nat) {d : Ce} (hm : Cell.mayB d.r d.fl d.fg d.bg d.wd = true) (hw : d.wd = 0) : Nw (L.set k d) := by
  intro e he
  rcases List.mem_or_eq_of_mem_set he with h1 | rfl
  · exact h e h1
  · exact ⟨hw, hm⟩
theorem may_fl {r f fg bg g : Int} (h : Cell.mayB r f fg bg 0 = true) (hg : 0 ≤ g ∧ g ≤ 255) : Cell.mayB r g fg bg 0 = true := by
  unfold Cell.mayB at h ⊢
  simp only [Cell.attrB, Bool.and_eq_true, decide_eq_true_eq] at h ⊢
  exact ⟨⟨⟨hg, h.1.1.2⟩, h.1.2⟩, h.2⟩
theorem sl_put {w : World} {a : Option Addr} {l : List Nat} {g B : Nat} (h : Sl w a l) (hx : ∀ x, a = some x → B ≤ x.block) (hg : g < B) (L : List Ce) : Sl (putR w g L) a l := by
  rcases h with h | ⟨b, off, rfl, h⟩
  · exact .inl h
  · have hb : b ≠ g := by have := hx _ rfl; simp only at this; omega
    exact .inr ⟨b, off, rfl, fun i hi => (World.cell?_of_block (setRow_other w g b _ hb)).trans (h i hi)⟩
theorem flat_fl : ∀ (L : List Ce) (k : Nat) (c : Ce) (X : Int), L[k]? = some c → (flat L).set (k * 5 + 1) (.int .i64 X) = flat (L.set k ⟨c.r, X, c.fg, c.bg, c.wd⟩)
  | [], k, c, X, h => by simp at h
  | d :: L, 0, c, X, h => by
    obtain rfl : d = c := by simpa using h
    simp [flat_cons, cv]
  | d :: L, k + 1, c, X, h => by
    have h' : L[k]? = some c := by simpa using h
    rw [flat_cons, List.set_cons_succ, flat_cons, ← flat_fl L k c X h', List.set_append_right _ _ (by rw [cv_len]; omega), cv_len]
    congr 2; omega
/-- the flags of a cell are stored. -/
theorem wpList_store_fl {w : World} {ops : Array Oper} {rest : List Oper} {o : Oper} {a : Act} {Q : Exit → Act → World → Prop} (hgd : o.guard = none) (x y : Operand) (ho : o.op = .store 3 x y)
    (g k : Nat) (L : List Ce) (c : Ce) (X : Int) (hx : a.eval x = .pointer (some ⟨g, k * 5 + 1, none⟩)) (hy : a.eval y = .int .i64 X) (h : RB w g L) (hc : L[k]? = some c)
    (hK : ∀ w', w' = putR w g (L.set k ⟨c.r, X, c.fg, c.bg, c.wd⟩) → wpList Try.prog ops Q rest (a.put o.dst undef) w') : wpList Try.prog ops Q (o :: rest) a w := by
  have hk : k < L.length := (List.getElem?_eq_some_iff.1 hc).1
  have hst := run_storeCells_at Try.prog g (k * 5 + 1) 52 [.int .i64 X] 0 (flat L).toArray w h (by simp [flat_len]; omega) (fun u hu => by simp at hu; subst hu; rfl)
  have e : ((flat L).toArray.toList.take (k * 5 + 1 + 0) ++ [Value.int .i64 X] ++ (flat L).toArray.toList.drop (k * 5 + 1 + 0 + [Value.int .i64 X].length)).toArray = (flat (L.set k ⟨c.r, X, c.fg, c.bg, c.wd⟩)).toArray := by
    rw [← flat_fl L k c X hc]
    simp only [Nat.add_zero, List.length_singleton]
    rw [List.set_eq_take_append_cons_drop, if_pos (by rw [flat_len]; omega)]
    simp
  rw [e] at hst
  have hi : (Try.prog.info? 3).map (·.size) = some 1 := by kernel_rfl
  have hrun : (storeVar 3 ⟨g, k * 5 + 1, none⟩ (.int .i64 X)).run Try.prog w = .ok () (putR w g (L.set k ⟨c.r, X, c.fg, c.bg, c.wd⟩)) := by
    cases hq : Try.prog.info? 3 with
    | none => simp [hq] at hi
    | some j =>
      have hs : j.size = 1 := by simpa [hq] using hi
      have hc : (Value.int .i64 X).cells = #[.int .i64 X] := rfl
      simp [storeVar, sizeOf, typeInfo, hq, hc, hs]
      exact hst
  refine wpList_plain hgd fun _ hk => ?_
  unfold Oper.wp execOp
  simp only [ho, hx, hy, Instr.storeAt, Instr.sureAddr, Sem.run_bind, Sem.run_pure, Result.andThen_ok, hrun]
  exact hk _ _ (hK _ rfl)
set_option maxRecDepth 100000 in
set_option maxHeartbeats 8000000 in
theorem mainS (R C : Nat) (r f fg bg : Int) (i : Nat) (W : World) (hR : 1 ≤ R ∧ R ≤ 60) (hC : 1 ≤ C ∧ C ≤ 200) (hmay : Cell.mayB r f fg bg 0 = true) :
    Calls Try.prog 7 #[.int .i64 (R : Int), .int .i64 (C : Int), .agg #[.int .i32 r, .int .i64 f, .int .i64 fg, .int .i64 bg, .int .i64 0], .int .i64 (i : Int)] W fun e w' => e = .returned (.bool true) ∧ Below W.heap.size W w' := by
  have hq2 : R * C ≤ 12000 := Nat.mul_le_mul hR.2 hC.2
  have hq1 : 1 ≤ R * C := Nat.mul_pos hR.1 hC.1
  have H27 := Lib.hid (fun w => blankYes R C w ⟨hR.1, hR.2, hC.1, hC.2⟩)
  obtain ⟨xa, xb⟩ := xor2 f (may_nums hmay rfl).2.1
  have HSH := Lib.hid (fun k hk => short R C hR hC r f fg bg (bits .xor .i64 f 2) hmay xa xb k hk)
  have HMY := Lib.hid (fun w => mayY ⟨r, f, fg, bg, 0⟩ hmay w)
  have HMX := Lib.hid (may_fl hmay xa)
  have HMM := Lib.hid hmay
  have HEN := Lib.hid (fun (g : Nat) (L : List Ce) (w1 : World) (hN : Nw L) (hq : L.length = R * C) (hr : RB w1 g L) => (show Calls Try.prog 14 #[.agg #[.int .i64 R, .int .i64 C, .slice (some ⟨g, 0, none⟩) (R * C) (R * C), .int .i64 0, .int .i64 0, .bool false, .string ⟨#[]⟩]] w1 (EncQ w1 (encL ⟨R, C, 0, 0, false, ⟨#[]⟩⟩ L)) from hq ▸ encN R C g L w1 hR.1 hC.1 hR.2 hC.2 hN hq hr))
  have hx := heap_alloc_last W (cO ⟨r, f, fg, bg, 0⟩)
  have hb := below_one W (cO ⟨r, f, fg, bg, 0⟩)
  obtain ⟨x0, x1, x2, x3, x4⟩ := five hx
  dsimp only [cO] at hx hb x0 x1 x2 x3 x4
  generalize hw0 : W.alloc (.cells #[.int .i32 r, .int .i64 f, .int .i64 fg, .int .i64 bg, .int .i64 0] 52) = w0 at *
  have KX := Lib.hid (fun w' (hb : Below w0.heap.size w0 w') => (show w'.cell? ⟨W.heap.size, 0, none⟩ = some (.int .i32 r) ∧ w'.cell? ⟨W.heap.size, 1, none⟩ = some (.int .i64 f) ∧ w'.cell? ⟨W.heap.size, 2, none⟩ = some (.int .i64 fg) ∧ w'.cell? ⟨W.heap.size, 3, none⟩ = some (.int .i64 bg) ∧ w'.cell? ⟨W.heap.size, 4, none⟩ = some (.int .i64 0) from ⟨cell_then hb (Nat.le_refl _) x0, cell_then hb (Nat.le_refl _) x1, cell_then hb (Nat.le_refl _) x2, cell_then hb (Nat.le_refl _) x3, cell_then hb (Nat.le_refl _) x4⟩))
  have HB := Lib.hid hb
  generalize hX : bits .xor .i64 f 2 = X at *
  obtain ⟨q, hq⟩ : ∃ q, R * C = q := ⟨_, rfl⟩
  have i1 : (R : Int) * (C : Int) = (q : Int) := by rw [← hq]; exact (Int.natCast_mul R C).symm
  rw [hq] at HSH HEN hq1 hq2 H27
  have E1 := Lib.hid (wr_of (x := (R : Int) * (C : Int)) (by rw [i1]; exact Int.natCast_nonneg _) (by rw [i1]; omega) i1)
  have HQ2 := Lib.hid hq2
  have HQ1 := Lib.hid hq1
  clear hq hq1 hq2 xa xb hmay hx hb i1 x0 x1 x2 x3 x4
  have e1 := E1.out.1
  have e2 := E1.out.2
  have hq0 : ((q : Int) == 0) = false := by rw [beq_eq_false_iff_ne]; have := HQ1.out; omega
  go_enter Try.func7, Try.ntmps7
  go_wp2_with (first
    | (go_at_call 12; (with_reducible refine (firstC _).mono ?_); rintro e w1 ⟨rfl, hb⟩; have HB1 := Lib.hid hb; clear hb)
    | (go_at_call 31; (with_reducible refine (H27.out _).mono ?_); rintro e w2 ⟨rfl, hr2, hb2⟩; have HR2 := Lib.hid (hr2.alloc (svO ⟨R, C, 0, 0, false, ⟨#[]⟩⟩ (some ⟨w1.heap.size + 1, 0, none⟩) q q)); have HB2 := Lib.hid (below_then (below_then HB1.out hb2 HB1.out.size) (below_one w2 (svO ⟨R, C, 0, 0, false, ⟨#[]⟩⟩ (some ⟨w1.heap.size + 1, 0, none⟩) q q)) (Nat.le_trans HB1.out.size hb2.size)); have HG := Lib.hid (show w0.heap.size ≤ w1.heap.size + 1 by have := HB1.out.size; omega); have HP := Lib.hid (heap_alloc_last w2 (svO ⟨R, C, 0, 0, false, ⟨#[]⟩⟩ (some ⟨w1.heap.size + 1, 0, none⟩) q q)); have HGP := Lib.hid (show w1.heap.size + 1 ≠ w2.heap.size from Nat.ne_of_lt hr2.lt); obtain ⟨x0, x1, x2, x3, x4⟩ := KX.out _ HB2.out; obtain ⟨d0, d1, d2, d3, d4, d5, d6⟩ := seven HP.out; (dsimp only [svO] at x0 x1 x2 x3 x4 d0 d1 d2 d3 d4 d5 d6); clear hr2 hb2)
    | (go_at_call 32; (with_reducible refine (HMY.out _).mono ?_); rintro e w4 ⟨rfl, hb⟩; have HB4 := Lib.hid (below_then HB2.out hb HB2.out.size); have HR4 := Lib.hid (HR2.out.then_ hb (Nat.le_refl _)); have HP4 := Lib.hid ((hb.block _ (Array.getElem?_eq_some_iff.1 HP.out).1).trans HP.out); replace x4 := cell_then hb (Nat.le_refl _) x4; replace d0 := cell_then hb (Nat.le_refl _) d0; replace d1 := cell_then hb (Nat.le_refl _) d1; replace d2 := cell_then hb (Nat.le_refl _) d2; replace d3 := cell_then hb (Nat.le_refl _) d3; replace d4 := cell_then hb (Nat.le_refl _) d4; replace d5 := cell_then hb (Nat.le_refl _) d5; replace d6 := cell_then hb (Nat.le_refl _) d6; clear hb))
  clear d0 d1 d2 d3 d4 d5 d6 x0 x1 x2 x3 x4
  generalize w1.heap.size + 1 = g at *
  generalize w2.heap.size = p at *
  have hgz := HR4.out.lt
  have HGZ := Lib.hid hgz
  have HE1 := Lib.hid (HEN.out g (List.replicate q blk) w4 (nw_rep (c := blk) (by decide) rfl q) (by simp) HR4.out)
  generalize encL ⟨R, C, 0, 0, false, ⟨#[]⟩⟩ (List.replicate q blk) = E1L at *
  clear hgz
  go_wp2_with (first
    | (go_at_call 14; (with_reducible refine HE1.out.mono ?_); rintro e w5 ⟨a1, c1, rfl, hs1, hb, hx1⟩; have HB5 := Lib.hid (below_then HB4.out hb HB4.out.size); have HR5 := Lib.hid (show RB w5 g (List.replicate 0 (⟨r, f, fg, bg, 0⟩ : Ce) ++ List.replicate (q - 0) blk) from HR4.out.then_ hb (Nat.le_refl _)); have HP5 := Lib.hid ((hb.block _ (Array.getElem?_eq_some_iff.1 HP4.out).1).trans HP4.out); obtain ⟨d0, d1, d2, d3, d4, d5, d6⟩ := seven HP5.out; (dsimp only [svO] at d0 d1 d2 d3 d4 d5 d6); clear hs1 hb hx1))
  clear d0 d1 d2 d3 d4 d5 d6
  go_loopw [13] (fun s13 wr => ∃ k : Nat, k ≤ q ∧ s13 = .int .i64 k ∧ Hid (RB wr g (List.replicate k (⟨r, f, fg, bg, 0⟩ : Ce) ++ List.replicate (q - k) blk)) ∧ Hid (wr.heap[p]? = some (svO ⟨R, C, 0, 0, false, ⟨#[]⟩⟩ (some ⟨g, 0, none⟩) q q)) ∧ Hid (Below w0.heap.size w0 wr)) (fun s13 _ => q - (intOf s13).toNat)
  case atStart => exact ⟨0, Nat.zero_le _, rfl, HR5, HP5, HB5⟩
  case round =>
    obtain ⟨k, hk, rfl, HR, HPr, HBr⟩ := hrel
    obtain ⟨d0, d1, d2, d3, d4, d5, d6⟩ := seven HPr.out
    dsimp only [svO] at d0 d1 d2 d3 d4 d5 d6
    by_cases hlt : k < q
    · obtain ⟨x0, x1, x2, x3, x4⟩ := KX.out _ HBr.out
      have HKk := Lib.hid (show k + 1 ≤ q ∧ q - (k + 1) < q - k by omega)
      have hkI : (k : Int) < (q : Int) := by omega
      have hw1 : IntKind.i64.wrap ((k : Int) + 1) = (k : Int) + 1 := IntWalk.i64_in _ (by have := HQ2.out; omega)
      have HR' := Lib.hid (show RB wr g (List.replicate k (⟨r, f, fg, bg, 0⟩ : Ce) ++ blk :: List.replicate (q - (k + 1)) blk) by have := HR.out; rwa [show q - k = (q - (k + 1)) + 1 by omega, List.replicate_succ] at this)
      have HLn := Lib.hid (show k * 5 = (List.replicate k (⟨r, f, fg, bg, 0⟩ : Ce)).length * 5 by simp)
      clear hk hlt
      go_wp2_with ((with_reducible refine wpList_store_cell rfl _ _ rfl g (k * 5) ⟨r, f, fg, bg, 0⟩ rfl rfl HR'.out HLn.out ?_); intro w6 hw6; have HR6 := Lib.hid (show RB w6 g (List.replicate (k + 1) (⟨r, f, fg, bg, 0⟩ : Ce) ++ List.replicate (q - (k + 1)) blk) by rw [← hw6, List.replicate_succ' (n := k)]; simpa using HR'.out.put (List.replicate k (⟨r, f, fg, bg, 0⟩ : Ce) ++ ⟨r, f, fg, bg, 0⟩ :: List.replicate (q - (k + 1)) blk)); have HP6 := Lib.hid (show w6.heap[p]? = some (svO ⟨R, C, 0, 0, false, ⟨#[]⟩⟩ (some ⟨g, 0, none⟩) q q) by rw [← hw6]; exact (setRow_other _ g p _ (Ne.symm HGP.out)).trans HPr.out); have HB6 := Lib.hid (show Below w0.heap.size w0 w6 by rw [← hw6]; exact ⟨HBr.out.os, HBr.out.tape, HBr.out.output, by unfold putR; simpa using HBr.out.size, fun j hj => (setRow_other wr g j _ (Nat.ne_of_lt (Nat.lt_of_lt_of_le hj HG.out))).trans (HBr.out.block j hj)⟩); clear hw6)
      first
        | exact ⟨⟨k + 1, HKk.out.1, by go_num, HR6, HP6, HB6⟩, by simp only [intOf]; exact HKk.out.2⟩
        | (go_roundw
           · exact ⟨k + 1, HKk.out.1, by go_num, HR6, HP6, HB6⟩
           · simp only [intOf]; exact HKk.out.2)
    · obtain rfl : k = q := by omega
      have HRq := Lib.hid (show RB wr g (List.replicate k (⟨r, f, fg, bg, 0⟩ : Ce)) by have := HR.out; rwa [Nat.sub_self, List.replicate_zero, List.append_nil] at this)
      obtain ⟨x0, x1, x2, x3, x4⟩ := KX.out _ HBr.out
      obtain ⟨j, hj⟩ : ∃ j, j = i % k := ⟨_, rfl⟩
      have hjk : j < k := by rw [hj]; exact Nat.mod_lt _ HQ1.out
      have hmod : Int.tmod (i : Int) (k : Int) = (j : Int) := by rw [hj]; exact (Int.tmod_eq_emod_of_nonneg (Int.natCast_nonneg _)).trans (Int.natCast_emod i k).symm
      have hk0 : ¬ (k : Int) = 0 := by have := HQ1.out; omega
      have hk0' : ¬ k = 0 := by have := HQ1.out; omega
      obtain ⟨h18, h32, h72, hlen, hxy⟩ := HSH.out j hjk
      have HE2 := Lib.hid (HEN.out g (List.replicate k (⟨r, f, fg, bg, 0⟩ : Ce)) wr (nw_rep (c := ⟨r, f, fg, bg, 0⟩) HMM.out rfl k) (by simp) HRq.out)
      have HJ := Lib.hid (show (List.replicate k (⟨r, f, fg, bg, 0⟩ : Ce))[j]? = some ⟨r, f, fg, bg, 0⟩ by rw [List.getElem?_replicate, if_pos hjk])
      have HE3 := Lib.hid (fun w7 hr => HEN.out g ((List.replicate k (⟨r, f, fg, bg, 0⟩ : Ce)).set j ⟨r, X, fg, bg, 0⟩) w7 (nw_set (nw_rep (c := ⟨r, f, fg, bg, 0⟩) HMM.out rfl k) j HMX.out rfl) (by simp) hr)
      have hb1 := enc_byte ⟨R, C, 0, 0, false, ⟨#[]⟩⟩ (List.replicate k (⟨r, f, fg, bg, 0⟩ : Ce))
      have hb2 := enc_byte ⟨R, C, 0, 0, false, ⟨#[]⟩⟩ ((List.replicate k (⟨r, f, fg, bg, 0⟩ : Ce)).set j ⟨r, X, fg, bg, 0⟩)
      generalize encL ⟨R, C, 0, 0, false, ⟨#[]⟩⟩ (List.replicate k (⟨r, f, fg, bg, 0⟩ : Ce)) = XL at *
      generalize encL ⟨R, C, 0, 0, false, ⟨#[]⟩⟩ ((List.replicate k (⟨r, f, fg, bg, 0⟩ : Ce)).set j ⟨r, X, fg, bg, 0⟩) = YL at *
      have HB12 := Lib.hid (fun a1 a2 c1 c2 w1 (h1 : Sl w1 a1 XL) (h2 : Sl w1 a2 YL) => (bytesC a1 a2 c1 c2 XL YL w1 h1 h2 hb1 hb2).mono fun e w' (h : _ ∧ _) => (⟨h.1.trans (by rw [decide_eq_false hxy]), h.2⟩ : e = .returned (.bool false) ∧ w1 = w'))
      have hgw := HRq.out.lt
      have HGW := Lib.hid hgw
      have k18 : (E1L.length : Int) ≤ 18 := by omega
      have k32 : (XL.length : Int) ≤ 32 := by omega
      have k72 : (YL.length : Int) ≤ 72 := by omega
      have hjI : (j : Int) < (k : Int) := by omega
      clear hb1 hb2 hxy hgw hj HR h18 h32 h72 hk hlt HEN HSH
      have hc : ((k : Int) == 1) = true ∨ (((k : Int) == 1) = false ∧ (XL.length : Int) < (YL.length : Int) ∧ XL.length < YL.length) := by
        rcases hlen with h | h
        · exact .inl (by rw [beq_iff_eq]; omega)
        · by_cases h1 : k = 1
          · exact .inl (by rw [beq_iff_eq]; omega)
          · exact .inr ⟨by rw [beq_eq_false_iff_ne]; omega, by omega, h⟩
      clear hlen
      rcases hc with e1 | ⟨e1, e2, e3⟩
      all_goals go_wp2_with (first
        | (go_at_call 14; (with_reducible refine HE2.out.mono ?_); rintro e w6 ⟨a2, c2, rfl, hs, hb, hx2⟩; have HB6 := Lib.hid (below_then HBr.out hb HBr.out.size); have HR6 := Lib.hid (HRq.out.then_ hb (Nat.le_refl _)); have HP6 := Lib.hid ((hb.block _ (Array.getElem?_eq_some_iff.1 HPr.out).1).trans HPr.out); have HS6 := Lib.hid hs; have HX6 := Lib.hid hx2; replace d0 := cell_then hb (Nat.le_refl _) d0; replace d2 := cell_then hb (Nat.le_refl _) d2; obtain ⟨x0, x1, x2, x3, x4⟩ := KX.out _ HB6.out; clear hs hb hx2)
        | ((with_reducible refine wpList_store_fl rfl _ _ rfl g j (List.replicate k (⟨r, f, fg, bg, 0⟩ : Ce)) ⟨r, f, fg, bg, 0⟩ X rfl rfl HR6.out HJ.out ?_); intro w7 hw7; have HR7 := Lib.hid (show RB w7 g ((List.replicate k (⟨r, f, fg, bg, 0⟩ : Ce)).set j ⟨r, X, fg, bg, 0⟩) by rw [hw7]; exact HR6.out.put _); have HP7 := Lib.hid (show w7.heap[p]? = some (svO ⟨R, C, 0, 0, false, ⟨#[]⟩⟩ (some ⟨g, 0, none⟩) k k) by rw [hw7]; exact (setRow_other _ g p _ (Ne.symm HGP.out)).trans HP6.out); have HB7 := Lib.hid (show Below w0.heap.size w0 w7 by rw [hw7]; exact ⟨HB6.out.os, HB6.out.tape, HB6.out.output, by unfold putR; simpa using HB6.out.size, fun j hj => (setRow_other w6 g j _ (Nat.ne_of_lt (Nat.lt_of_lt_of_le hj HG.out))).trans (HB6.out.block j hj)⟩); have HS7 := Lib.hid (show Sl w7 a2 XL by rw [hw7]; exact sl_put HS6.out HX6.out HGW.out _); obtain ⟨d0, d1, d2, d3, d4, d5, d6⟩ := seven HP7.out; (dsimp only [svO] at d0 d1 d2 d3 d4 d5 d6); clear hw7)
        | (go_at_call 14; (with_reducible refine (HE3.out _ HR7.out).mono ?_); rintro e w8 ⟨a3, c3, rfl, hs, hb, hx3⟩; have HB8 := Lib.hid (below_then HB7.out hb HB7.out.size); have HS8 := Lib.hid (sl_then hb (Nat.le_refl _) HS7.out); have HY8 := Lib.hid hs; replace d2 := cell_then hb (Nat.le_refl _) d2; clear hs hb hx3)
        | (go_at_call 12; (with_reducible refine (firstC _).mono ?_); rintro e w9 ⟨rfl, hb⟩; have HB9 := Lib.hid (below_then HB8.out hb HB8.out.size); have HS9 := Lib.hid (sl_then hb (Nat.le_refl _) HS8.out); have HY9 := Lib.hid (sl_then hb (Nat.le_refl _) HY8.out); replace d2 := cell_then hb (Nat.le_refl _) d2; clear hb)
        | (go_at_call 16; (with_reducible refine (HB12.out _ _ _ _ _ HS9.out HY9.out).mono ?_); rintro e w10 ⟨rfl, rfl⟩))
      all_goals go_ret
      all_goals exact ⟨rfl, below_then HB.out HB9.out HB.out.size⟩
end Go.Proofs.Ytfogbokifbjjlaa.Lf
