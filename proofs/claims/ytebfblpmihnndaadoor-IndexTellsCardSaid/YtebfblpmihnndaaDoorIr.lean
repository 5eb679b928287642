/- index.read. -/
import Derived.Test.YtebfblpmihnndaaDoorIc
import Derived.Deep.RegionHeld3
set_option linter.unusedVariables false
namespace Go.Proofs.YtebfblpmihnndaaDoor.Ir
open Go Go.RowKit Kit Crc Var Get Ref3 Copy Bytes Bx Ia Ib Ic

theorem crcN (a : Option Addr) (n cap : Nat) (l : List Nat) (w : World) (hn : n = l.length) (hl : ∀ c ∈ l, c < 256) (hm : n ≤ 1000000) (hc : Sl w a l) (hT : TabC w) :
    Calls Tryd.prog 17 #[.slice a n cap] w fun e w' => e = .returned (.int .u32 ((crc l : Nat) : Int)) ∧ w = w' := by
  subst hn; exact crcC a cap l w hl (by omega) hc hT
theorem equalN (a1 a2 : Option Addr) (n1 n2 c1 c2 : Nat) (l1 l2 : List Nat) (w : World) (e1 : n1 = l1.length) (e2 : n2 = l2.length) (h1 : Sl w a1 l1) (h2 : Sl w a2 l2) (m1 : ∀ c ∈ l1, c < 256) (m2 : ∀ c ∈ l2, c < 256) :
    Calls Tryd.prog 28 #[.slice a1 n1 c1, .slice a2 n2 c2] w fun e w' => e = .returned (.bool (decide (l1 = l2))) ∧ w = w' := by
  subst e1
  subst e2
  have k1 := conv_sl a1 c1 l1 w h1
  have k2 := conv_sl a2 c2 l2 w h2
  have E := Lib.hid (strL_inj m1 m2)
  clear h1 h2 m1 m2
  go_enter Tryd.func28, Tryd.ntmps28
  go_wp2
  go_ret
  exact ⟨ret_bool E.out, rfl⟩
/-- a number at a place: the number, and where it ends. -/
def g1 (l : List Nat) (p : Nat) : Option (Nat × Nat) := if l.length < p then none else if (getF (l.drop p) 0 0).2.2 = 0 then some ((getF (l.drop p) 0 0).1, p + (getF (l.drop p) 0 0).2.1) else none
theorem getNo {l : List Nat} {p : Nat} (h : g1 l p = none) (a : Option Addr) (n cap : Nat) (w : World) (hn : n = l.length) (hl : ∀ c ∈ l, c < 256) (hm : l.length ≤ 9223372036854775000) (hc : Sl w a l) :
    Calls Tryd.prog 27 #[.slice a n cap, .int .i64 (p : Int)] w fun e w' => ∃ v q z : Int, e = .returned (.tuple #[.int .u64 v, .int .i64 q, .int .i64 z]) ∧ (z != 0) = true ∧ w = w' := by
  subst hn
  refine (get36 a cap l p w hl hm hc).mono fun e w' ⟨h1, h2⟩ => ⟨_, _, _, h1, ?_, h2⟩
  unfold g1 at h
  unfold getA
  rw [bne_iff_ne]
  by_cases c1 : l.length < p
  · rw [if_pos (.inr (by omega))]; decide
  · rw [if_neg c1] at h
    rw [if_neg (by omega), Int.toNat_natCast]
    by_cases c2 : (getF (l.drop p) 0 0).2.2 = 0
    · rw [if_pos c2] at h; cases h
    · simp; exact c2
theorem getYes {l : List Nat} {p v q : Nat} (h : g1 l p = some (v, q)) (a : Option Addr) (n cap : Nat) (w : World) (hn : n = l.length) (hl : ∀ c ∈ l, c < 256) (hm : l.length ≤ 9223372036854775000) (hc : Sl w a l) :
    Calls Tryd.prog 27 #[.slice a n cap, .int .i64 (p : Int)] w fun e w' => e = .returned (.tuple #[.int .u64 (v : Int), .int .i64 (q : Int), .int .i64 0]) ∧ w = w' := by
  subst hn
  refine (get36 a cap l p w hl hm hc).mono fun e w' ⟨h1, h2⟩ => ⟨?_, h2⟩
  unfold g1 at h
  unfold getA at h1
  by_cases c1 : l.length < p
  · rw [if_pos c1] at h; cases h
  · rw [if_neg c1] at h
    rw [if_neg (by omega), Int.toNat_natCast] at h1
    by_cases c2 : (getF (l.drop p) 0 0).2.2 = 0
    · rw [if_pos c2] at h
      injection h with h; injection h with h3 h4
      rw [h1, h3, c2]
      unfold end_
      rw [if_pos c2, ← h4]; rfl
    · rw [if_neg c2] at h; cases h
theorem getF_pos : ∀ (l : List Nat) (i acc n k : Nat), getF l i acc = (n, k, 0) → i + 1 ≤ k ∧ k ≤ i + l.length
  | [], i, acc, n, k, h => by simp [getF] at h
  | c :: l, i, acc, n, k, h => by
    unfold getF at h
    split at h
    · simp at h
    · split at h
      · have := getF_pos l _ _ _ _ h; rw [List.length_cons]; omega
      · split at h
        · simp at h
        · simp only [Prod.mk.injEq] at h; rw [List.length_cons]; omega
theorem g1_in {l : List Nat} {p v q : Nat} (h : g1 l p = some (v, q)) : p < q ∧ q ≤ l.length := by
  unfold g1 at h
  by_cases c1 : l.length < p
  · rw [if_pos c1] at h; cases h
  · rw [if_neg c1] at h
    by_cases c2 : (getF (l.drop p) 0 0).2.2 = 0
    · rw [if_pos c2] at h
      injection h with h; injection h with h3 h4
      have := getF_pos (l.drop p) 0 0 (getF (l.drop p) 0 0).1 (getF (l.drop p) 0 0).2.1 (Prod.ext rfl (Prod.ext rfl c2))
      rw [List.length_drop] at this; omega
    · rw [if_neg c2] at h; cases h
/-- the entry at a place, and where it ends. -/
def rdE (l : List Nat) (p : Nat) : Option (En × Nat) :=
  match g1 l (p + 4) with
  | none => none
  | some (a, q1) => match g1 l q1 with
    | none => none
    | some (b, q2) => match g1 l q2 with
      | none => none
      | some (c, q3) => match g1 l q3 with
        | none => none
        | some (d, q4) => if 2147483647 < c ∨ 2147483647 < d ∨ ¬ (l.take (p + 4)).drop p = fourL ((crc ((l.take q4).drop (p + 4)) : Nat) : Int) then none else some (⟨a, b, (c : Int), (d : Int)⟩, q4)
theorem und {B : Nat} {w w1 : World} (h : Below B w.drew w1) : Below B w w1 := ⟨h.os, h.tape, h.output, h.size, h.block⟩
theorem drw {B : Nat} {w w1 : World} (h : Below B w w1) : Below B w w1.drew := ⟨h.os, h.tape, h.output, h.size, h.block⟩
theorem sl_cut {w : World} {b off : Nat} {l : List Nat} (h : Cells w b off l) (j i : Nat) : Sl w (some ⟨b, off + i, none⟩) ((l.take j).drop i) := by
  refine .inr ⟨b, off + i, rfl, fun k hk => ?_⟩
  have hk2 : i + k < l.length := by rw [List.length_drop, List.length_take] at hk; omega
  have := h (i + k) hk2
  rw [List.getElem_drop, List.getElem_take, Nat.add_assoc]; exact this
/-- four numbers in a block of their own. -/
def Fb (w : World) (k : Nat) (x0 x1 x2 x3 : Nat) : Prop := w.heap[k]? = some (.cells #[.int .u64 (x0 : Int), .int .u64 (x1 : Int), .int .u64 (x2 : Int), .int .u64 (x3 : Int)] 55 (0, 0))
theorem Fb.cells {w : World} {k x0 x1 x2 x3 : Nat} (h : Fb w k x0 x1 x2 x3) : w.cell? ⟨k, 0, none⟩ = some (.int .u64 (x0 : Int)) ∧ w.cell? ⟨k, 1, none⟩ = some (.int .u64 (x1 : Int)) ∧ w.cell? ⟨k, 2, none⟩ = some (.int .u64 (x2 : Int)) ∧ w.cell? ⟨k, 3, none⟩ = some (.int .u64 (x3 : Int)) := by
  unfold Fb at h
  refine ⟨?_, ?_, ?_, ?_⟩ <;> simp [World.cell?, h]
def set4 (x0 x1 x2 x3 i v : Nat) (j : Nat) : Nat := if j = i then v else match j with | 0 => x0 | 1 => x1 | 2 => x2 | _ => x3
/-- a number is stored among the four. -/
theorem wpList_store_n {w : World} {ops : Array Oper} {rest : List Oper} {o : Oper} {a : Act} {Q : Exit → Act → World → Prop} (hgd : o.guard = none) (x y : Operand) (ho : o.op = .store 24 x y)
    (k i v x0 x1 x2 x3 : Nat) (hx : a.eval x = .pointer (some ⟨k, i, none⟩)) (hy : a.eval y = .int .u64 (v : Int)) (h : Fb w k x0 x1 x2 x3) (i4 : i < 4) (y0 y1 y2 y3 : Nat)
    (hv : #[Value.int .u64 (x0 : Int), .int .u64 (x1 : Int), .int .u64 (x2 : Int), .int .u64 (x3 : Int)].setIfInBounds i (.int .u64 (v : Int)) = #[.int .u64 (y0 : Int), .int .u64 (y1 : Int), .int .u64 (y2 : Int), .int .u64 (y3 : Int)])
    (hK : ∀ w', Fb w' k y0 y1 y2 y3 → (∀ B W, B ≤ k → Below B W w → Below B W w') → (∀ j, j ≠ k → w'.heap[j]? = w.heap[j]?) → wpList Tryd.prog ops Q rest (a.put o.dst undef) w') : wpList Tryd.prog ops Q (o :: rest) a w := by
  have hst := run_storeCells_at Tryd.prog k i 55 [.int .u64 (v : Int)] 0 _ w h (by simp; omega) (fun u hu => by simp at hu; subst hu; rfl)
  have hi : (Tryd.prog.info? 24).map (·.size) = some 1 := by kernel_rfl
  have hrun : (storeVar 24 ⟨k, i, none⟩ (.int .u64 (v : Int))).run Tryd.prog w = .ok () (w.setRow k #[.int .u64 (y0 : Int), .int .u64 (y1 : Int), .int .u64 (y2 : Int), .int .u64 (y3 : Int)]) := by
    cases hq : Tryd.prog.info? 24 with
    | none => simp [hq] at hi
    | some j =>
      have hs : j.size = 1 := by simpa [hq] using hi
      have e : ((#[Value.int .u64 (x0 : Int), .int .u64 (x1 : Int), .int .u64 (x2 : Int), .int .u64 (x3 : Int)] : Array Value).toList.take (i + 0) ++ [Value.int .u64 (v : Int)] ++ (#[Value.int .u64 (x0 : Int), .int .u64 (x1 : Int), .int .u64 (x2 : Int), .int .u64 (x3 : Int)] : Array Value).toList.drop (i + 0 + [Value.int .u64 (v : Int)].length)).toArray = #[.int .u64 (y0 : Int), .int .u64 (y1 : Int), .int .u64 (y2 : Int), .int .u64 (y3 : Int)] := by
        rw [← hv]
        match i, i4 with
        | 0, _ => rfl
        | 1, _ => rfl
        | 2, _ => rfl
        | 3, _ => rfl
      rw [e] at hst
      have hc : (Value.int .u64 (v : Int)).cells = #[.int .u64 (v : Int)] := rfl
      simp [storeVar, sizeOf, typeInfo, hq, hc, hs]
      exact hst
  refine wpList_plain hgd fun _ hk => ?_
  unfold Oper.wp execOp
  simp only [ho, hx, hy, Instr.storeAt, Instr.sureAddr, Sem.run_bind, Sem.run_pure, Result.andThen_ok, hrun]
  exact hk _ _ (hK _ (setRow_heap _ _ _ _ 55 _ h) (fun B W hB hb => ⟨hb.os, hb.tape, hb.output, by simpa using hb.size, fun j hj => (setRow_other w k j _ (by omega)).trans (hb.block j hj)⟩) fun j hj => setRow_other w k j _ hj)
theorem two_heap (w : World) (o1 o2 : Obj) : ((w.alloc o1).alloc o2).heap[w.heap.size]? = some o1 ∧ ((w.alloc o1).alloc o2).heap[w.heap.size + 1]? = some o2 := by
  constructor
  · have h := heap_alloc_old (w.alloc o1) o2 (show w.heap.size < (w.alloc o1).heap.size by simp)
    rw [h]; exact heap_alloc_last w o1
  · have h := heap_alloc_last (w.alloc o1) o2
    simpa using h
set_option maxRecDepth 100000 in
set_option maxHeartbeats 8000000 in
theorem readC (a : Option Addr) (n cap : Nat) (l : List Nat) (p : Nat) (w : World) (hn : n = l.length) (hl : ∀ c ∈ l, c < 256) (hm : n ≤ 1000000) (hp : p ≤ n) (hcap : n ≤ cap) (hs : Sl w a l) (h0 : a = none → cap = 0) (hT : TabC w) :
    Calls Tryd.prog 21 #[.slice a n cap, .int .i64 (p : Int)] w fun x w' => (match rdE l p with
      | none => x = .returned (.tuple #[.agg #[.int .u64 0, .int .u64 0, .int .i64 0, .int .i64 0], .int .i64 0, .bool false])
      | some (e, q) => x = .returned (.tuple #[evA e, .int .i64 (q : Int), .bool true])) ∧ Below w.heap.size w w' := by
  have HN := Lib.hid hn
  have HL := Lib.hid hl
  have HS := Lib.hid hs
  have HT := Lib.hid hT
  have H0 := Lib.hid h0
  have e1 : IntKind.i64.wrap ((p : Int) + 4) = ((p + 4 : Nat) : Int) := by rw [show (p : Int) + 4 = ((p + 4 : Nat) : Int) by omega]; exact IntWalk.i64_in _ (by omega)
  obtain ⟨bg, hbg⟩ : ∃ bg, bg = p + 4 := ⟨_, rfl⟩
  rw [← hbg] at e1
  have HBG := Lib.hid hbg
  generalize hr : rdE l p = r
  unfold rdE at hr
  rw [← hbg] at hr
  have HRR := Lib.hid hr
  have HM := Lib.hid hm
  have HPn := Lib.hid hp
  have HCap := Lib.hid hcap
  clear hn hl hs hT h0 hbg hr hp hcap
  have HB0 := Lib.hid (show Below w.heap.size w ((w.alloc (evO zeroE)).alloc (.cells #[.int .u64 0, .int .u64 0, .int .u64 0, .int .u64 0] 55)) from ((Below.refl _ w).alloc (Nat.le_refl _) _).alloc (by simp) _)
  obtain ⟨hro, hao⟩ := two_heap w (evO zeroE) (.cells #[.int .u64 0, .int .u64 0, .int .u64 0, .int .u64 0] 55)
  have HO0 := Lib.hid hro
  have HA0 := Lib.hid (show Fb ((w.alloc (evO zeroE)).alloc (.cells #[.int .u64 0, .int .u64 0, .int .u64 0, .int .u64 0] 55)) (w.heap.size + 1) 0 0 0 0 from hao)
  have hw0 : (w.alloc (.cells #[.int .u64 0, .int .u64 0, .int .i64 0, .int .i64 0] 38)).alloc (.cells #[.int .u64 0, .int .u64 0, .int .u64 0, .int .u64 0] 55) = (w.alloc (evO zeroE)).alloc (.cells #[.int .u64 0, .int .u64 0, .int .u64 0, .int .u64 0] 55) := rfl
  clear hro hao
  generalize ((w.alloc (evO zeroE)).alloc (.cells #[.int .u64 0, .int .u64 0, .int .u64 0, .int .u64 0] 55)) = w0 at *
  obtain ⟨nb, hnb⟩ : ∃ nb, nb = w.heap.size + 1 := ⟨_, rfl⟩
  have HNB := Lib.hid (show w.heap.size ≤ nb ∧ w.heap.size ≠ nb by omega)
  rw [← hnb] at HA0
  go_enter Tryd.func21, Tryd.ntmps21
  go_wp2
  rw [← hnb]
  clear hw0 hnb
  refine wp_loop_rounds 5 ?_
  have HS0w := Lib.hid (sl_then HB0.out (Nat.le_refl _) HS.out)
  cases h0 : g1 l bg with
  | none =>
    obtain rfl : none = r := by have := HRR.out; simp only [h0] at this; exact this
    have HG := Lib.hid (getNo h0 a n cap w0 HN.out HL.out (by rw [← HN.out]; omega) HS0w.out)
    rw [rounds_succ]
    go_wp2_with (first
      | (go_at_call 27; (with_reducible refine HG.out.mono ?_); rintro x w' ⟨v, q, z, rfl, hz, rfl⟩)
      | ((with_reducible refine wpList_store_en rfl _ _ rfl w.heap.size zeroE zeroE rfl rfl HO0.out ?_); intro w9 ho9 hb9; have HO9 := Lib.hid ho9; have HB9 := Lib.hid (hb9 _ _ (Nat.le_refl _) HB0.out); clear ho9 hb9))
    obtain ⟨f0, f1, f2, f3⟩ := four_at HO9.out
    dsimp only [zeroE] at f0 f1 f2 f3
    exact bodyPost_ret (v := .tuple #[.agg #[.int .u64 0, .int .u64 0, .int .i64 0, .int .i64 0], .int .i64 0, .bool false]) (by simp [results, Tryd.results21, go_sem, f0, f1, f2, f3]) rfl ⟨rfl, HB9.out⟩
  | some y0 =>
    obtain ⟨n0, q1⟩ := y0
    have hq1 := g1_in h0
    have HG := Lib.hid (getYes h0 a n cap w0 HN.out HL.out (by rw [← HN.out]; omega) HS0w.out)
    rw [rounds_succ]
    go_wp2_with (first
      | (go_at_call 27; (with_reducible refine HG.out.mono ?_); rintro x w' ⟨rfl, rfl⟩)
      | ((with_reducible refine wpList_store_n rfl _ _ rfl nb 0 n0 0 0 0 0 rfl rfl HA0.out (by decide) n0 0 0 0 rfl ?_); intro z1 ha hb hf; have HA1 := Lib.hid ha; have HB1 := Lib.hid (hb _ _ HNB.out.1 HB0.out); have HO1 := Lib.hid ((hf _ HNB.out.2).trans HO0.out); clear ha hb hf))
    clear HG HS0w
    have HS1w := Lib.hid (sl_then HB1.out (Nat.le_refl _) HS.out)
    cases h1 : g1 l q1 with
    | none =>
      obtain rfl : none = r := by have := HRR.out; simp only [h0, h1] at this; exact this
      have HG := Lib.hid (getNo h1 a n cap z1 HN.out HL.out (by rw [← HN.out]; omega) HS1w.out)
      rw [rounds_succ]
      go_wp2_with (first
        | (go_at_call 27; (with_reducible refine HG.out.mono ?_); rintro x w' ⟨v, q, z, rfl, hz, rfl⟩)
        | ((with_reducible refine wpList_store_en rfl _ _ rfl w.heap.size zeroE zeroE rfl rfl HO1.out ?_); intro w9 ho9 hb9; have HO9 := Lib.hid ho9; have HB9 := Lib.hid (hb9 _ _ (Nat.le_refl _) HB1.out); clear ho9 hb9))
      obtain ⟨f0, f1, f2, f3⟩ := four_at HO9.out
      dsimp only [zeroE] at f0 f1 f2 f3
      exact bodyPost_ret (v := .tuple #[.agg #[.int .u64 0, .int .u64 0, .int .i64 0, .int .i64 0], .int .i64 0, .bool false]) (by simp [results, Tryd.results21, go_sem, f0, f1, f2, f3]) rfl ⟨rfl, HB9.out⟩
    | some y1 =>
      obtain ⟨n1, q2⟩ := y1
      have hq2 := g1_in h1
      have HG := Lib.hid (getYes h1 a n cap z1 HN.out HL.out (by rw [← HN.out]; omega) HS1w.out)
      rw [rounds_succ]
      go_wp2_with (first
        | (go_at_call 27; (with_reducible refine HG.out.mono ?_); rintro x w' ⟨rfl, rfl⟩)
        | ((with_reducible refine wpList_store_n rfl _ _ rfl nb 1 n1 n0 0 0 0 rfl rfl HA1.out (by decide) n0 n1 0 0 rfl ?_); intro z2 ha hb hf; have HA2 := Lib.hid ha; have HB2 := Lib.hid (hb _ _ HNB.out.1 HB1.out); have HO2 := Lib.hid ((hf _ HNB.out.2).trans HO1.out); clear ha hb hf))
      clear HG HS1w
      have HS2w := Lib.hid (sl_then HB2.out (Nat.le_refl _) HS.out)
      cases h2 : g1 l q2 with
      | none =>
        obtain rfl : none = r := by have := HRR.out; simp only [h0, h1, h2] at this; exact this
        have HG := Lib.hid (getNo h2 a n cap z2 HN.out HL.out (by rw [← HN.out]; omega) HS2w.out)
        rw [rounds_succ]
        go_wp2_with (first
          | (go_at_call 27; (with_reducible refine HG.out.mono ?_); rintro x w' ⟨v, q, z, rfl, hz, rfl⟩)
          | ((with_reducible refine wpList_store_en rfl _ _ rfl w.heap.size zeroE zeroE rfl rfl HO2.out ?_); intro w9 ho9 hb9; have HO9 := Lib.hid ho9; have HB9 := Lib.hid (hb9 _ _ (Nat.le_refl _) HB2.out); clear ho9 hb9))
        obtain ⟨f0, f1, f2, f3⟩ := four_at HO9.out
        dsimp only [zeroE] at f0 f1 f2 f3
        exact bodyPost_ret (v := .tuple #[.agg #[.int .u64 0, .int .u64 0, .int .i64 0, .int .i64 0], .int .i64 0, .bool false]) (by simp [results, Tryd.results21, go_sem, f0, f1, f2, f3]) rfl ⟨rfl, HB9.out⟩
      | some y2 =>
        obtain ⟨n2, q3⟩ := y2
        have hq3 := g1_in h2
        have HG := Lib.hid (getYes h2 a n cap z2 HN.out HL.out (by rw [← HN.out]; omega) HS2w.out)
        rw [rounds_succ]
        go_wp2_with (first
          | (go_at_call 27; (with_reducible refine HG.out.mono ?_); rintro x w' ⟨rfl, rfl⟩)
          | ((with_reducible refine wpList_store_n rfl _ _ rfl nb 2 n2 n0 n1 0 0 rfl rfl HA2.out (by decide) n0 n1 n2 0 rfl ?_); intro z3 ha hb hf; have HA3 := Lib.hid ha; have HB3 := Lib.hid (hb _ _ HNB.out.1 HB2.out); have HO3 := Lib.hid ((hf _ HNB.out.2).trans HO2.out); clear ha hb hf))
        clear HG HS2w
        have HS3w := Lib.hid (sl_then HB3.out (Nat.le_refl _) HS.out)
        cases h3 : g1 l q3 with
        | none =>
          obtain rfl : none = r := by have := HRR.out; simp only [h0, h1, h2, h3] at this; exact this
          have HG := Lib.hid (getNo h3 a n cap z3 HN.out HL.out (by rw [← HN.out]; omega) HS3w.out)
          rw [rounds_succ]
          go_wp2_with (first
            | (go_at_call 27; (with_reducible refine HG.out.mono ?_); rintro x w' ⟨v, q, z, rfl, hz, rfl⟩)
            | ((with_reducible refine wpList_store_en rfl _ _ rfl w.heap.size zeroE zeroE rfl rfl HO3.out ?_); intro w9 ho9 hb9; have HO9 := Lib.hid ho9; have HB9 := Lib.hid (hb9 _ _ (Nat.le_refl _) HB3.out); clear ho9 hb9))
          obtain ⟨f0, f1, f2, f3⟩ := four_at HO9.out
          dsimp only [zeroE] at f0 f1 f2 f3
          exact bodyPost_ret (v := .tuple #[.agg #[.int .u64 0, .int .u64 0, .int .i64 0, .int .i64 0], .int .i64 0, .bool false]) (by simp [results, Tryd.results21, go_sem, f0, f1, f2, f3]) rfl ⟨rfl, HB9.out⟩
        | some y3 =>
          obtain ⟨n3, q4⟩ := y3
          have hq4 := g1_in h3
          have HG := Lib.hid (getYes h3 a n cap z3 HN.out HL.out (by rw [← HN.out]; omega) HS3w.out)
          rw [rounds_succ]
          go_wp2_with (first
            | (go_at_call 27; (with_reducible refine HG.out.mono ?_); rintro x w' ⟨rfl, rfl⟩)
            | ((with_reducible refine wpList_store_n rfl _ _ rfl nb 3 n3 n0 n1 n2 0 rfl rfl HA3.out (by decide) n0 n1 n2 n3 rfl ?_); intro z4 ha hb hf; have HA4 := Lib.hid ha; have HB4 := Lib.hid (hb _ _ HNB.out.1 HB3.out); have HO4 := Lib.hid ((hf _ HNB.out.2).trans HO3.out); clear ha hb hf))
          clear HG HS3w
          rw [rounds_succ]
          go_wp2
          obtain ⟨d0, d1, d2, d3⟩ := HA4.out.cells
          by_cases c1 : 2147483647 < n2
          · obtain rfl : none = r := by have := HRR.out; simp only [h0, h1, h2, h3] at this; rw [if_pos (.inl c1)] at this; exact this
            have c1I : (2147483647 : Int) < (n2 : Int) := by omega
            refine wp_region_held_drew (S := (fun W => W.cell? ⟨nb, 2, none⟩ = some (.int .u64 (n2 : Int)) ∧ W.cell? ⟨nb, 3, none⟩ = some (.int .u64 (n3 : Int)))) (by kernel_rfl) ?_ (fun hHeld => ?_)
            · ((try dsimp only); exact ⟨d2, d3⟩)
            refine wpAnyH_take (i := 0) (oi := { dst := some 35, op := Op.indexAddr 55 (Operand.tmp 9) (Operand.const (Value.int IntKind.i64 2)), type := 0, pos := _, after := #[], guard := none }) (v := ?_) rfl (by kernel_rfl) (by kernel_rfl) (by kernel_rfl) (fun _ _ _ h => h) (Or.inl ⟨by rfl, ?_⟩) (by assumption) ?_
            rotate_left
            · ((intro w hSw); (try dsimp only at hSw); go_simp; (try with_reducible rfl))
            try simp only [Act.put, List.setIfInBounds_toArray, List.set_cons_zero, List.set_cons_succ]
            refine wpAnyH_take (i := 1) (oi := { dst := some 36, op := Op.load 24 (Operand.tmp 35), type := 24, pos := _, after := #[{ on := 0, ground := Ground.data }], guard := none }) (v := ?_) rfl (by kernel_rfl) (by kernel_rfl) (by kernel_rfl) (fun _ _ _ h => h) (Or.inl ⟨by rfl, ?_⟩) (by assumption) ?_
            rotate_left
            · ((intro w hSw); (try dsimp only at hSw); go_simp; (try with_reducible rfl))
            try simp only [Act.put, List.setIfInBounds_toArray, List.set_cons_zero, List.set_cons_succ]
            refine wpAnyH_take (i := 2) (oi := { dst := some 37, op := Op.binOp BinOp.gtr 24 (Operand.tmp 36) (Operand.const (Value.int IntKind.u64 2147483647)) 24, type := 4, pos := _, after := #[{ on := 1, ground := Ground.data }], guard := none }) (v := ?_) rfl (by kernel_rfl) (by kernel_rfl) (by kernel_rfl) (fun _ _ _ h => h) (Or.inl ⟨by rfl, ?_⟩) (by assumption) ?_
            rotate_left
            · ((intro w hSw); (try dsimp only at hSw); go_simp; (try with_reducible rfl))
            try simp only [Act.put, List.setIfInBounds_toArray, List.set_cons_zero, List.set_cons_succ]
            refine wpAnyH_take (i := 3) (oi := { dst := some 38, op := Op.move (Operand.tmp 37), type := 4, pos := _, after := #[{ on := 2, ground := Ground.data }], guard := none }) (v := ?_) rfl (by kernel_rfl) (by kernel_rfl) (by kernel_rfl) (fun _ _ _ h => h) (Or.inl ⟨by rfl, ?_⟩) (by assumption) ?_
            rotate_left
            · ((intro w hSw); (try dsimp only at hSw); go_simp; (try with_reducible rfl))
            try simp only [Act.put, List.setIfInBounds_toArray, List.set_cons_zero, List.set_cons_succ]
            refine wpAnyH_take (i := 4) (oi := { dst := some 39, op := Op.indexAddr 55 (Operand.tmp 9) (Operand.const (Value.int IntKind.i64 3)), type := 0, pos := _, after := #[{ on := 3, ground := Ground.guard }], guard := some (3, false) }) (v := undef) rfl (by kernel_rfl) (by kernel_rfl) (by kernel_rfl) (fun _ _ _ h => h) (Or.inr ⟨by rfl, rfl⟩) (by assumption) ?_
            try simp only [Act.put, List.setIfInBounds_toArray, List.set_cons_zero, List.set_cons_succ]
            refine wpAnyH_take (i := 5) (oi := { dst := some 40, op := Op.load 24 (Operand.tmp 39), type := 24, pos := _, after := #[{ on := 4, ground := Ground.data }, { on := 3, ground := Ground.guard }], guard := some (3, false) }) (v := undef) rfl (by kernel_rfl) (by kernel_rfl) (by kernel_rfl) (fun _ _ _ h => h) (Or.inr ⟨by rfl, rfl⟩) (by assumption) ?_
            try simp only [Act.put, List.setIfInBounds_toArray, List.set_cons_zero, List.set_cons_succ]
            refine wpAnyH_take (i := 6) (oi := { dst := some 41, op := Op.binOp BinOp.gtr 24 (Operand.tmp 40) (Operand.const (Value.int IntKind.u64 2147483647)) 24, type := 4, pos := _, after := #[{ on := 5, ground := Ground.data }, { on := 3, ground := Ground.guard }], guard := some (3, false) }) (v := undef) rfl (by kernel_rfl) (by kernel_rfl) (by kernel_rfl) (fun _ _ _ h => h) (Or.inr ⟨by rfl, rfl⟩) (by assumption) ?_
            try simp only [Act.put, List.setIfInBounds_toArray, List.set_cons_zero, List.set_cons_succ]
            refine wpAnyH_take (i := 7) (oi := { dst := some 42, op := Op.pick (Operand.tmp 38) (Operand.const (Value.bool true)) (Operand.tmp 41), type := 4, pos := _, after := #[{ on := 3, ground := Ground.data }, { on := 6, ground := Ground.data }], guard := none }) (v := ?_) rfl (by kernel_rfl) (by kernel_rfl) (by kernel_rfl) (fun _ _ _ h => h) (Or.inl ⟨by rfl, ?_⟩) (by assumption) ?_
            rotate_left
            · ((intro w hSw); (try dsimp only at hSw); go_simp; (try with_reducible rfl))
            try simp only [Act.put, List.setIfInBounds_toArray, List.set_cons_zero, List.set_cons_succ]
            refine wpAnyH_take (i := 8) (oi := { dst := some 43, op := Op.move (Operand.tmp 42), type := 4, pos := _, after := #[{ on := 7, ground := Ground.data }, { on := 3, ground := Ground.chain }], guard := none }) (v := ?_) rfl (by kernel_rfl) (by kernel_rfl) (by kernel_rfl) (fun _ _ _ h => h) (Or.inl ⟨by rfl, ?_⟩) (by assumption) ?_
            rotate_left
            · ((intro w hSw); (try dsimp only at hSw); go_simp; (try with_reducible rfl))
            try simp only [Act.put, List.setIfInBounds_toArray, List.set_cons_zero, List.set_cons_succ]
            refine wpAnyH_take (i := 9) (oi := { dst := some 44, op := Op.move (Operand.tmp 0), type := 23, pos := _, after := #[{ on := 8, ground := Ground.guard }], guard := some (8, false) }) (v := undef) rfl (by kernel_rfl) (by kernel_rfl) (by kernel_rfl) (fun _ _ _ h => h) (Or.inr ⟨by rfl, rfl⟩) (by assumption) ?_
            try simp only [Act.put, List.setIfInBounds_toArray, List.set_cons_zero, List.set_cons_succ]
            refine wpAnyH_take (i := 10) (oi := { dst := some 45, op := Op.move (Operand.tmp 1), type := 3, pos := _, after := #[{ on := 8, ground := Ground.guard }], guard := some (8, false) }) (v := undef) rfl (by kernel_rfl) (by kernel_rfl) (by kernel_rfl) (fun _ _ _ h => h) (Or.inr ⟨by rfl, rfl⟩) (by assumption) ?_
            try simp only [Act.put, List.setIfInBounds_toArray, List.set_cons_zero, List.set_cons_succ]
            refine wpAnyH_take (i := 11) (oi := { dst := some 46, op := Op.move (Operand.tmp 7), type := 3, pos := _, after := #[{ on := 8, ground := Ground.guard }], guard := some (8, false) }) (v := undef) rfl (by kernel_rfl) (by kernel_rfl) (by kernel_rfl) (fun _ _ _ h => h) (Or.inr ⟨by rfl, rfl⟩) (by assumption) ?_
            try simp only [Act.put, List.setIfInBounds_toArray, List.set_cons_zero, List.set_cons_succ]
            refine wpAnyH_take (i := 12) (oi := { dst := some 47, op := Op.slice 23 (Operand.tmp 44) (some (Operand.tmp 45)) (some (Operand.tmp 46)) none, type := 23, pos := _, after := #[{ on := 9, ground := Ground.data }, { on := 10, ground := Ground.data }, { on := 11, ground := Ground.data }, { on := 8, ground := Ground.guard }], guard := some (8, false) }) (v := undef) rfl (by kernel_rfl) (by kernel_rfl) (by kernel_rfl) (fun _ _ _ h => h) (Or.inr ⟨by rfl, rfl⟩) (by assumption) ?_
            try simp only [Act.put, List.setIfInBounds_toArray, List.set_cons_zero, List.set_cons_succ]
            refine wpAnyH_take (i := 13) (oi := { dst := some 48, op := Op.move (Operand.tmp 0), type := 23, pos := _, after := #[{ on := 8, ground := Ground.guard }], guard := some (8, false) }) (v := undef) rfl (by kernel_rfl) (by kernel_rfl) (by kernel_rfl) (fun _ _ _ h => h) (Or.inr ⟨by rfl, rfl⟩) (by assumption) ?_
            try simp only [Act.put, List.setIfInBounds_toArray, List.set_cons_zero, List.set_cons_succ]
            refine wpAnyH_take (i := 14) (oi := { dst := some 49, op := Op.move (Operand.tmp 7), type := 3, pos := _, after := #[{ on := 8, ground := Ground.guard }], guard := some (8, false) }) (v := undef) rfl (by kernel_rfl) (by kernel_rfl) (by kernel_rfl) (fun _ _ _ h => h) (Or.inr ⟨by rfl, rfl⟩) (by assumption) ?_
            try simp only [Act.put, List.setIfInBounds_toArray, List.set_cons_zero, List.set_cons_succ]
            refine wpAnyH_take (i := 15) (oi := { dst := some 50, op := Op.move (Operand.tmp 8), type := 3, pos := _, after := #[{ on := 8, ground := Ground.guard }], guard := some (8, false) }) (v := undef) rfl (by kernel_rfl) (by kernel_rfl) (by kernel_rfl) (fun _ _ _ h => h) (Or.inr ⟨by rfl, rfl⟩) (by assumption) ?_
            try simp only [Act.put, List.setIfInBounds_toArray, List.set_cons_zero, List.set_cons_succ]
            refine wpAnyH_take (i := 16) (oi := { dst := some 51, op := Op.slice 23 (Operand.tmp 48) (some (Operand.tmp 49)) (some (Operand.tmp 50)) none, type := 23, pos := _, after := #[{ on := 13, ground := Ground.data }, { on := 14, ground := Ground.data }, { on := 15, ground := Ground.data }, { on := 8, ground := Ground.guard }], guard := some (8, false) }) (v := undef) rfl (by kernel_rfl) (by kernel_rfl) (by kernel_rfl) (fun _ _ _ h => h) (Or.inr ⟨by rfl, rfl⟩) (by assumption) ?_
            try simp only [Act.put, List.setIfInBounds_toArray, List.set_cons_zero, List.set_cons_succ]
            refine wpAnyH_take (i := 17) (oi := { dst := some 52, op := Op.call { callee := Callee.value (Operand.func 17), args := #[Operand.tmp 51], argTypes := #[23] }, type := 42, pos := _, after := #[{ on := 16, ground := Ground.data }, { on := 8, ground := Ground.chain }, { on := 8, ground := Ground.guard }], guard := some (8, false) }) (v := undef) rfl (by kernel_rfl) (by kernel_rfl) (by kernel_rfl) (fun _ _ _ h => h) (Or.inr ⟨by rfl, rfl⟩) (by assumption) ?_
            try simp only [Act.put, List.setIfInBounds_toArray, List.set_cons_zero, List.set_cons_succ]
            refine wpAnyH_take (i := 18) (oi := { dst := some 53, op := Op.call { callee := Callee.value (Operand.func 16), args := #[Operand.tmp 52], argTypes := #[42] }, type := 23, pos := _, after := #[{ on := 17, ground := Ground.data }, { on := 17, ground := Ground.chain }, { on := 8, ground := Ground.guard }], guard := some (8, false) }) (v := undef) rfl (by kernel_rfl) (by kernel_rfl) (by kernel_rfl) (fun _ _ _ h => h) (Or.inr ⟨by rfl, rfl⟩) (by assumption) ?_
            try simp only [Act.put, List.setIfInBounds_toArray, List.set_cons_zero, List.set_cons_succ]
            refine wpAnyH_take (i := 19) (oi := { dst := some 54, op := Op.call { callee := Callee.value (Operand.func 28), args := #[Operand.tmp 47, Operand.tmp 53], argTypes := #[23, 23] }, type := 4, pos := _, after := #[{ on := 12, ground := Ground.data }, { on := 18, ground := Ground.data }, { on := 18, ground := Ground.chain }, { on := 8, ground := Ground.guard }], guard := some (8, false) }) (v := undef) rfl (by kernel_rfl) (by kernel_rfl) (by kernel_rfl) (fun _ _ _ h => h) (Or.inr ⟨by rfl, rfl⟩) (by assumption) ?_
            try simp only [Act.put, List.setIfInBounds_toArray, List.set_cons_zero, List.set_cons_succ]
            refine wpAnyH_take (i := 20) (oi := { dst := some 55, op := Op.unOp UnOp.not 4 (Operand.tmp 54), type := 4, pos := _, after := #[{ on := 19, ground := Ground.data }, { on := 8, ground := Ground.guard }], guard := some (8, false) }) (v := undef) rfl (by kernel_rfl) (by kernel_rfl) (by kernel_rfl) (fun _ _ _ h => h) (Or.inr ⟨by rfl, rfl⟩) (by assumption) ?_
            try simp only [Act.put, List.setIfInBounds_toArray, List.set_cons_zero, List.set_cons_succ]
            refine wpAnyH_take (i := 21) (oi := { dst := some 56, op := Op.pick (Operand.tmp 43) (Operand.const (Value.bool true)) (Operand.tmp 55), type := 4, pos := _, after := #[{ on := 8, ground := Ground.data }, { on := 20, ground := Ground.data }], guard := none }) (v := ?_) rfl (by kernel_rfl) (by kernel_rfl) (by kernel_rfl) (fun _ _ _ h => h) (Or.inl ⟨by rfl, ?_⟩) (by assumption) ?_
            rotate_left
            · ((intro w hSw); (try dsimp only at hSw); go_simp; (try with_reducible rfl))
            try simp only [Act.put, List.setIfInBounds_toArray, List.set_cons_zero, List.set_cons_succ]
            refine wpAnyH_done (by kernel_rfl) ?_ _
            have HOz := Lib.hid (show z4.drew.heap[w.heap.size]? = some (evO zeroE) from HO4.out)
            have HBz := Lib.hid (show Below w.heap.size w z4.drew from drw HB4.out)
            go_wp2_with ((with_reducible refine wpList_store_en rfl _ _ rfl w.heap.size zeroE zeroE rfl rfl HOz.out ?_); intro w9 ho9 hb9; have HO9 := Lib.hid ho9; have HB9 := Lib.hid (hb9 _ _ (Nat.le_refl _) HBz.out); clear ho9 hb9)
            obtain ⟨f0, f1, f2, f3⟩ := four_at HO9.out
            dsimp only [zeroE] at f0 f1 f2 f3
            exact bodyPost_ret (v := .tuple #[.agg #[.int .u64 0, .int .u64 0, .int .i64 0, .int .i64 0], .int .i64 0, .bool false]) (by simp [results, Tryd.results21, go_sem, f0, f1, f2, f3]) rfl ⟨rfl, HB9.out⟩
          · have c1I : ¬ (2147483647 : Int) < (n2 : Int) := by omega
            by_cases c2 : 2147483647 < n3
            · obtain rfl : none = r := by have := HRR.out; simp only [h0, h1, h2, h3] at this; rw [if_pos (.inr (.inl c2))] at this; exact this
              have c2I : (2147483647 : Int) < (n3 : Int) := by omega
              refine wp_region_held_drew (S := (fun W => W.cell? ⟨nb, 2, none⟩ = some (.int .u64 (n2 : Int)) ∧ W.cell? ⟨nb, 3, none⟩ = some (.int .u64 (n3 : Int)))) (by kernel_rfl) ?_ (fun hHeld => ?_)
              · ((try dsimp only); exact ⟨d2, d3⟩)
              refine wpAnyH_take (i := 0) (oi := { dst := some 35, op := Op.indexAddr 55 (Operand.tmp 9) (Operand.const (Value.int IntKind.i64 2)), type := 0, pos := _, after := #[], guard := none }) (v := ?_) rfl (by kernel_rfl) (by kernel_rfl) (by kernel_rfl) (fun _ _ _ h => h) (Or.inl ⟨by rfl, ?_⟩) (by assumption) ?_
              rotate_left
              · ((intro w hSw); (try dsimp only at hSw); go_simp; (try with_reducible rfl))
              try simp only [Act.put, List.setIfInBounds_toArray, List.set_cons_zero, List.set_cons_succ]
              refine wpAnyH_take (i := 1) (oi := { dst := some 36, op := Op.load 24 (Operand.tmp 35), type := 24, pos := _, after := #[{ on := 0, ground := Ground.data }], guard := none }) (v := ?_) rfl (by kernel_rfl) (by kernel_rfl) (by kernel_rfl) (fun _ _ _ h => h) (Or.inl ⟨by rfl, ?_⟩) (by assumption) ?_
              rotate_left
              · ((intro w hSw); (try dsimp only at hSw); go_simp; (try with_reducible rfl))
              try simp only [Act.put, List.setIfInBounds_toArray, List.set_cons_zero, List.set_cons_succ]
              refine wpAnyH_take (i := 2) (oi := { dst := some 37, op := Op.binOp BinOp.gtr 24 (Operand.tmp 36) (Operand.const (Value.int IntKind.u64 2147483647)) 24, type := 4, pos := _, after := #[{ on := 1, ground := Ground.data }], guard := none }) (v := ?_) rfl (by kernel_rfl) (by kernel_rfl) (by kernel_rfl) (fun _ _ _ h => h) (Or.inl ⟨by rfl, ?_⟩) (by assumption) ?_
              rotate_left
              · ((intro w hSw); (try dsimp only at hSw); go_simp; (try with_reducible rfl))
              try simp only [Act.put, List.setIfInBounds_toArray, List.set_cons_zero, List.set_cons_succ]
              refine wpAnyH_take (i := 3) (oi := { dst := some 38, op := Op.move (Operand.tmp 37), type := 4, pos := _, after := #[{ on := 2, ground := Ground.data }], guard := none }) (v := ?_) rfl (by kernel_rfl) (by kernel_rfl) (by kernel_rfl) (fun _ _ _ h => h) (Or.inl ⟨by rfl, ?_⟩) (by assumption) ?_
              rotate_left
              · ((intro w hSw); (try dsimp only at hSw); go_simp; (try with_reducible rfl))
              try simp only [Act.put, List.setIfInBounds_toArray, List.set_cons_zero, List.set_cons_succ]
              refine wpAnyH_take (i := 4) (oi := { dst := some 39, op := Op.indexAddr 55 (Operand.tmp 9) (Operand.const (Value.int IntKind.i64 3)), type := 0, pos := _, after := #[{ on := 3, ground := Ground.guard }], guard := some (3, false) }) (v := ?_) rfl (by kernel_rfl) (by kernel_rfl) (by kernel_rfl) (fun _ _ _ h => h) (Or.inl ⟨by rfl, ?_⟩) (by assumption) ?_
              rotate_left
              · ((intro w hSw); (try dsimp only at hSw); go_simp; (try with_reducible rfl))
              try simp only [Act.put, List.setIfInBounds_toArray, List.set_cons_zero, List.set_cons_succ]
              refine wpAnyH_take (i := 5) (oi := { dst := some 40, op := Op.load 24 (Operand.tmp 39), type := 24, pos := _, after := #[{ on := 4, ground := Ground.data }, { on := 3, ground := Ground.guard }], guard := some (3, false) }) (v := ?_) rfl (by kernel_rfl) (by kernel_rfl) (by kernel_rfl) (fun _ _ _ h => h) (Or.inl ⟨by rfl, ?_⟩) (by assumption) ?_
              rotate_left
              · ((intro w hSw); (try dsimp only at hSw); go_simp; (try with_reducible rfl))
              try simp only [Act.put, List.setIfInBounds_toArray, List.set_cons_zero, List.set_cons_succ]
              refine wpAnyH_take (i := 6) (oi := { dst := some 41, op := Op.binOp BinOp.gtr 24 (Operand.tmp 40) (Operand.const (Value.int IntKind.u64 2147483647)) 24, type := 4, pos := _, after := #[{ on := 5, ground := Ground.data }, { on := 3, ground := Ground.guard }], guard := some (3, false) }) (v := ?_) rfl (by kernel_rfl) (by kernel_rfl) (by kernel_rfl) (fun _ _ _ h => h) (Or.inl ⟨by rfl, ?_⟩) (by assumption) ?_
              rotate_left
              · ((intro w hSw); (try dsimp only at hSw); go_simp; (try with_reducible rfl))
              try simp only [Act.put, List.setIfInBounds_toArray, List.set_cons_zero, List.set_cons_succ]
              refine wpAnyH_take (i := 7) (oi := { dst := some 42, op := Op.pick (Operand.tmp 38) (Operand.const (Value.bool true)) (Operand.tmp 41), type := 4, pos := _, after := #[{ on := 3, ground := Ground.data }, { on := 6, ground := Ground.data }], guard := none }) (v := ?_) rfl (by kernel_rfl) (by kernel_rfl) (by kernel_rfl) (fun _ _ _ h => h) (Or.inl ⟨by rfl, ?_⟩) (by assumption) ?_
              rotate_left
              · ((intro w hSw); (try dsimp only at hSw); go_simp; (try with_reducible rfl))
              try simp only [Act.put, List.setIfInBounds_toArray, List.set_cons_zero, List.set_cons_succ]
              refine wpAnyH_take (i := 8) (oi := { dst := some 43, op := Op.move (Operand.tmp 42), type := 4, pos := _, after := #[{ on := 7, ground := Ground.data }, { on := 3, ground := Ground.chain }], guard := none }) (v := ?_) rfl (by kernel_rfl) (by kernel_rfl) (by kernel_rfl) (fun _ _ _ h => h) (Or.inl ⟨by rfl, ?_⟩) (by assumption) ?_
              rotate_left
              · ((intro w hSw); (try dsimp only at hSw); go_simp; (try with_reducible rfl))
              try simp only [Act.put, List.setIfInBounds_toArray, List.set_cons_zero, List.set_cons_succ]
              refine wpAnyH_take (i := 9) (oi := { dst := some 44, op := Op.move (Operand.tmp 0), type := 23, pos := _, after := #[{ on := 8, ground := Ground.guard }], guard := some (8, false) }) (v := undef) rfl (by kernel_rfl) (by kernel_rfl) (by kernel_rfl) (fun _ _ _ h => h) (Or.inr ⟨by rfl, rfl⟩) (by assumption) ?_
              try simp only [Act.put, List.setIfInBounds_toArray, List.set_cons_zero, List.set_cons_succ]
              refine wpAnyH_take (i := 10) (oi := { dst := some 45, op := Op.move (Operand.tmp 1), type := 3, pos := _, after := #[{ on := 8, ground := Ground.guard }], guard := some (8, false) }) (v := undef) rfl (by kernel_rfl) (by kernel_rfl) (by kernel_rfl) (fun _ _ _ h => h) (Or.inr ⟨by rfl, rfl⟩) (by assumption) ?_
              try simp only [Act.put, List.setIfInBounds_toArray, List.set_cons_zero, List.set_cons_succ]
              refine wpAnyH_take (i := 11) (oi := { dst := some 46, op := Op.move (Operand.tmp 7), type := 3, pos := _, after := #[{ on := 8, ground := Ground.guard }], guard := some (8, false) }) (v := undef) rfl (by kernel_rfl) (by kernel_rfl) (by kernel_rfl) (fun _ _ _ h => h) (Or.inr ⟨by rfl, rfl⟩) (by assumption) ?_
              try simp only [Act.put, List.setIfInBounds_toArray, List.set_cons_zero, List.set_cons_succ]
              refine wpAnyH_take (i := 12) (oi := { dst := some 47, op := Op.slice 23 (Operand.tmp 44) (some (Operand.tmp 45)) (some (Operand.tmp 46)) none, type := 23, pos := _, after := #[{ on := 9, ground := Ground.data }, { on := 10, ground := Ground.data }, { on := 11, ground := Ground.data }, { on := 8, ground := Ground.guard }], guard := some (8, false) }) (v := undef) rfl (by kernel_rfl) (by kernel_rfl) (by kernel_rfl) (fun _ _ _ h => h) (Or.inr ⟨by rfl, rfl⟩) (by assumption) ?_
              try simp only [Act.put, List.setIfInBounds_toArray, List.set_cons_zero, List.set_cons_succ]
              refine wpAnyH_take (i := 13) (oi := { dst := some 48, op := Op.move (Operand.tmp 0), type := 23, pos := _, after := #[{ on := 8, ground := Ground.guard }], guard := some (8, false) }) (v := undef) rfl (by kernel_rfl) (by kernel_rfl) (by kernel_rfl) (fun _ _ _ h => h) (Or.inr ⟨by rfl, rfl⟩) (by assumption) ?_
              try simp only [Act.put, List.setIfInBounds_toArray, List.set_cons_zero, List.set_cons_succ]
              refine wpAnyH_take (i := 14) (oi := { dst := some 49, op := Op.move (Operand.tmp 7), type := 3, pos := _, after := #[{ on := 8, ground := Ground.guard }], guard := some (8, false) }) (v := undef) rfl (by kernel_rfl) (by kernel_rfl) (by kernel_rfl) (fun _ _ _ h => h) (Or.inr ⟨by rfl, rfl⟩) (by assumption) ?_
              try simp only [Act.put, List.setIfInBounds_toArray, List.set_cons_zero, List.set_cons_succ]
              refine wpAnyH_take (i := 15) (oi := { dst := some 50, op := Op.move (Operand.tmp 8), type := 3, pos := _, after := #[{ on := 8, ground := Ground.guard }], guard := some (8, false) }) (v := undef) rfl (by kernel_rfl) (by kernel_rfl) (by kernel_rfl) (fun _ _ _ h => h) (Or.inr ⟨by rfl, rfl⟩) (by assumption) ?_
              try simp only [Act.put, List.setIfInBounds_toArray, List.set_cons_zero, List.set_cons_succ]
              refine wpAnyH_take (i := 16) (oi := { dst := some 51, op := Op.slice 23 (Operand.tmp 48) (some (Operand.tmp 49)) (some (Operand.tmp 50)) none, type := 23, pos := _, after := #[{ on := 13, ground := Ground.data }, { on := 14, ground := Ground.data }, { on := 15, ground := Ground.data }, { on := 8, ground := Ground.guard }], guard := some (8, false) }) (v := undef) rfl (by kernel_rfl) (by kernel_rfl) (by kernel_rfl) (fun _ _ _ h => h) (Or.inr ⟨by rfl, rfl⟩) (by assumption) ?_
              try simp only [Act.put, List.setIfInBounds_toArray, List.set_cons_zero, List.set_cons_succ]
              refine wpAnyH_take (i := 17) (oi := { dst := some 52, op := Op.call { callee := Callee.value (Operand.func 17), args := #[Operand.tmp 51], argTypes := #[23] }, type := 42, pos := _, after := #[{ on := 16, ground := Ground.data }, { on := 8, ground := Ground.chain }, { on := 8, ground := Ground.guard }], guard := some (8, false) }) (v := undef) rfl (by kernel_rfl) (by kernel_rfl) (by kernel_rfl) (fun _ _ _ h => h) (Or.inr ⟨by rfl, rfl⟩) (by assumption) ?_
              try simp only [Act.put, List.setIfInBounds_toArray, List.set_cons_zero, List.set_cons_succ]
              refine wpAnyH_take (i := 18) (oi := { dst := some 53, op := Op.call { callee := Callee.value (Operand.func 16), args := #[Operand.tmp 52], argTypes := #[42] }, type := 23, pos := _, after := #[{ on := 17, ground := Ground.data }, { on := 17, ground := Ground.chain }, { on := 8, ground := Ground.guard }], guard := some (8, false) }) (v := undef) rfl (by kernel_rfl) (by kernel_rfl) (by kernel_rfl) (fun _ _ _ h => h) (Or.inr ⟨by rfl, rfl⟩) (by assumption) ?_
              try simp only [Act.put, List.setIfInBounds_toArray, List.set_cons_zero, List.set_cons_succ]
              refine wpAnyH_take (i := 19) (oi := { dst := some 54, op := Op.call { callee := Callee.value (Operand.func 28), args := #[Operand.tmp 47, Operand.tmp 53], argTypes := #[23, 23] }, type := 4, pos := _, after := #[{ on := 12, ground := Ground.data }, { on := 18, ground := Ground.data }, { on := 18, ground := Ground.chain }, { on := 8, ground := Ground.guard }], guard := some (8, false) }) (v := undef) rfl (by kernel_rfl) (by kernel_rfl) (by kernel_rfl) (fun _ _ _ h => h) (Or.inr ⟨by rfl, rfl⟩) (by assumption) ?_
              try simp only [Act.put, List.setIfInBounds_toArray, List.set_cons_zero, List.set_cons_succ]
              refine wpAnyH_take (i := 20) (oi := { dst := some 55, op := Op.unOp UnOp.not 4 (Operand.tmp 54), type := 4, pos := _, after := #[{ on := 19, ground := Ground.data }, { on := 8, ground := Ground.guard }], guard := some (8, false) }) (v := undef) rfl (by kernel_rfl) (by kernel_rfl) (by kernel_rfl) (fun _ _ _ h => h) (Or.inr ⟨by rfl, rfl⟩) (by assumption) ?_
              try simp only [Act.put, List.setIfInBounds_toArray, List.set_cons_zero, List.set_cons_succ]
              refine wpAnyH_take (i := 21) (oi := { dst := some 56, op := Op.pick (Operand.tmp 43) (Operand.const (Value.bool true)) (Operand.tmp 55), type := 4, pos := _, after := #[{ on := 8, ground := Ground.data }, { on := 20, ground := Ground.data }], guard := none }) (v := ?_) rfl (by kernel_rfl) (by kernel_rfl) (by kernel_rfl) (fun _ _ _ h => h) (Or.inl ⟨by rfl, ?_⟩) (by assumption) ?_
              rotate_left
              · ((intro w hSw); (try dsimp only at hSw); go_simp; (try with_reducible rfl))
              try simp only [Act.put, List.setIfInBounds_toArray, List.set_cons_zero, List.set_cons_succ]
              refine wpAnyH_done (by kernel_rfl) ?_ _
              have HOz := Lib.hid (show z4.drew.heap[w.heap.size]? = some (evO zeroE) from HO4.out)
              have HBz := Lib.hid (show Below w.heap.size w z4.drew from drw HB4.out)
              go_wp2_with ((with_reducible refine wpList_store_en rfl _ _ rfl w.heap.size zeroE zeroE rfl rfl HOz.out ?_); intro w9 ho9 hb9; have HO9 := Lib.hid ho9; have HB9 := Lib.hid (hb9 _ _ (Nat.le_refl _) HBz.out); clear ho9 hb9)
              obtain ⟨f0, f1, f2, f3⟩ := four_at HO9.out
              dsimp only [zeroE] at f0 f1 f2 f3
              exact bodyPost_ret (v := .tuple #[.agg #[.int .u64 0, .int .u64 0, .int .i64 0, .int .i64 0], .int .i64 0, .bool false]) (by simp [results, Tryd.results21, go_sem, f0, f1, f2, f3]) rfl ⟨rfl, HB9.out⟩
            · have c2I : ¬ (2147483647 : Int) < (n3 : Int) := by omega
              obtain ⟨b, off, rfl, hcl⟩ : ∃ b off, a = some ⟨b, off, none⟩ ∧ Cells w b off l := by
                rcases HS.out with h | h
                · rw [h] at hq4; simp only [List.length_nil] at hq4; omega
                · exact h
              obtain ⟨m, hm'⟩ : ∃ m, m = q4 - bg := ⟨_, rfl⟩
              have hbgp := HBG.out
              have hnl := HN.out
              have hcp := HCap.out
              have s1 : ¬ cap = p := by omega
              have s2 : p ≤ bg := by omega
              have s3 : bg ≤ cap := by omega
              have s4 : bg - p = 4 := by omega
              have s5 : ¬ cap = bg := by omega
              have s6 : bg ≤ q4 := by omega
              have s7 : q4 ≤ cap := by omega
              have s8 : q4 - bg = m := hm'.symm
              obtain ⟨X, hX⟩ : ∃ X, X = (l.take q4).drop bg := ⟨_, rfl⟩
              obtain ⟨FR, hFR⟩ : ∃ FR, FR = (l.take bg).drop p := ⟨_, rfl⟩
              have hXN : m = X.length := by rw [hX, List.length_drop, List.length_take]; omega
              have hFN : 4 = FR.length := by rw [hFR, List.length_drop, List.length_take]; omega
              have hXL : ∀ c ∈ X, c < 256 := fun c hc => HL.out c (List.mem_of_mem_take (List.mem_of_mem_drop (hX ▸ hc)))
              have hFL : ∀ c ∈ FR, c < 256 := fun c hc => HL.out c (List.mem_of_mem_take (List.mem_of_mem_drop (hFR ▸ hc)))
              have hcl4 : Cells z4 b off l := cells_then HB4.out (Nat.le_refl _) hcl
              have HXS := Lib.hid (show Sl z4 (some ⟨b, off + bg, none⟩) X from hX ▸ sl_cut hcl4 q4 bg)
              have HFS := Lib.hid (show Sl z4 (some ⟨b, off + p, none⟩) FR from hFR ▸ sl_cut hcl4 bg p)
              have HTz := Lib.hid (tab_then HT.out HB4.out (Nat.le_refl _))
              have HCRC := Lib.hid (crcN (some ⟨b, off + bg, none⟩) m (cap - bg) X z4.drew hXN hXL (by omega) HXS.out HTz.out)
              have HFOUR := Lib.hid (show Calls Tryd.prog 16 #[.int .u32 ((crc X : Nat) : Int)] z4.drew fun e w' => e = .returned (.slice (some ⟨z4.heap.size, 0, none⟩) 4 4) ∧ Below z4.heap.size z4 w' ∧ Sl w' (some ⟨z4.heap.size, 0, none⟩) (fourL ((crc X : Nat) : Int)) from
                (four43 ((crc X : Nat) : Int) z4.drew (Int.natCast_nonneg _) (by have := crc_lt hXL; omega)).mono fun e w' ⟨g1, g2⟩ => ⟨g1, by rw [← g2]; exact und ((Below.refl _ z4.drew).alloc (Nat.le_refl _) _), by rw [← g2]; exact sl_new z4.drew _ 5⟩)
              have hif := HRR.out
              simp only [h0, h1, h2, h3] at hif
              rw [← hX, ← hFR] at hif
              have w2' : IntKind.i64.wrap (n2 : Int) = (n2 : Int) := IntWalk.i64_in _ (by omega)
              have w3' : IntKind.i64.wrap (n3 : Int) = (n3 : Int) := IntWalk.i64_in _ (by omega)
              by_cases c3 : FR = fourL ((crc X : Nat) : Int)
              · obtain rfl : some ((⟨n0, n1, (n2 : Int), (n3 : Int)⟩ : En), q4) = r := by rw [if_neg (by simp only [c1, c2, c3]; simp)] at hif; exact hif
                have HEQ := Lib.hid (fun (w3 : World) (hb : Below z4.heap.size z4 w3) (hs : Sl w3 (some ⟨z4.heap.size, 0, none⟩) (fourL ((crc X : Nat) : Int))) => ((equalN (some ⟨b, off + p, none⟩) (some ⟨z4.heap.size, 0, none⟩) 4 4 (cap - p) 4 FR (fourL ((crc X : Nat) : Int)) w3 hFN rfl (sl_then hb (Nat.le_refl _) HFS.out) hs hFL (four_bytes _)).mono (fun e w' h => (⟨by rw [h.1, decide_eq_true c3], h.2⟩ : e = .returned (.bool true) ∧ w3 = w'))))
                clear hX hFR hXN hFN hXL hFL hcl hcl4 hif c3 hm' hbgp hnl hcp h0 h1 h2 h3 hq1 hq2 hq3 hq4
                refine wp_region_held_drew (S := (fun W => W.cell? ⟨nb, 2, none⟩ = some (.int .u64 (n2 : Int)) ∧ W.cell? ⟨nb, 3, none⟩ = some (.int .u64 (n3 : Int)))) (by kernel_rfl) ?_ (fun hHeld => ?_)
                · ((try dsimp only); exact ⟨d2, d3⟩)
                refine wpAnyH_take (i := 0) (oi := { dst := some 35, op := Op.indexAddr 55 (Operand.tmp 9) (Operand.const (Value.int IntKind.i64 2)), type := 0, pos := _, after := #[], guard := none }) (v := ?_) rfl (by kernel_rfl) (by kernel_rfl) (by kernel_rfl) (fun _ _ _ h => h) (Or.inl ⟨by rfl, ?_⟩) (by assumption) ?_
                rotate_left
                · ((intro w hSw); (try dsimp only at hSw); go_simp; (try with_reducible rfl))
                try simp only [Act.put, List.setIfInBounds_toArray, List.set_cons_zero, List.set_cons_succ]
                refine wpAnyH_take (i := 1) (oi := { dst := some 36, op := Op.load 24 (Operand.tmp 35), type := 24, pos := _, after := #[{ on := 0, ground := Ground.data }], guard := none }) (v := ?_) rfl (by kernel_rfl) (by kernel_rfl) (by kernel_rfl) (fun _ _ _ h => h) (Or.inl ⟨by rfl, ?_⟩) (by assumption) ?_
                rotate_left
                · ((intro w hSw); (try dsimp only at hSw); go_simp; (try with_reducible rfl))
                try simp only [Act.put, List.setIfInBounds_toArray, List.set_cons_zero, List.set_cons_succ]
                refine wpAnyH_take (i := 2) (oi := { dst := some 37, op := Op.binOp BinOp.gtr 24 (Operand.tmp 36) (Operand.const (Value.int IntKind.u64 2147483647)) 24, type := 4, pos := _, after := #[{ on := 1, ground := Ground.data }], guard := none }) (v := ?_) rfl (by kernel_rfl) (by kernel_rfl) (by kernel_rfl) (fun _ _ _ h => h) (Or.inl ⟨by rfl, ?_⟩) (by assumption) ?_
                rotate_left
                · ((intro w hSw); (try dsimp only at hSw); go_simp; (try with_reducible rfl))
                try simp only [Act.put, List.setIfInBounds_toArray, List.set_cons_zero, List.set_cons_succ]
                refine wpAnyH_take (i := 3) (oi := { dst := some 38, op := Op.move (Operand.tmp 37), type := 4, pos := _, after := #[{ on := 2, ground := Ground.data }], guard := none }) (v := ?_) rfl (by kernel_rfl) (by kernel_rfl) (by kernel_rfl) (fun _ _ _ h => h) (Or.inl ⟨by rfl, ?_⟩) (by assumption) ?_
                rotate_left
                · ((intro w hSw); (try dsimp only at hSw); go_simp; (try with_reducible rfl))
                try simp only [Act.put, List.setIfInBounds_toArray, List.set_cons_zero, List.set_cons_succ]
                refine wpAnyH_take (i := 4) (oi := { dst := some 39, op := Op.indexAddr 55 (Operand.tmp 9) (Operand.const (Value.int IntKind.i64 3)), type := 0, pos := _, after := #[{ on := 3, ground := Ground.guard }], guard := some (3, false) }) (v := ?_) rfl (by kernel_rfl) (by kernel_rfl) (by kernel_rfl) (fun _ _ _ h => h) (Or.inl ⟨by rfl, ?_⟩) (by assumption) ?_
                rotate_left
                · ((intro w hSw); (try dsimp only at hSw); go_simp; (try with_reducible rfl))
                try simp only [Act.put, List.setIfInBounds_toArray, List.set_cons_zero, List.set_cons_succ]
                refine wpAnyH_take (i := 5) (oi := { dst := some 40, op := Op.load 24 (Operand.tmp 39), type := 24, pos := _, after := #[{ on := 4, ground := Ground.data }, { on := 3, ground := Ground.guard }], guard := some (3, false) }) (v := ?_) rfl (by kernel_rfl) (by kernel_rfl) (by kernel_rfl) (fun _ _ _ h => h) (Or.inl ⟨by rfl, ?_⟩) (by assumption) ?_
                rotate_left
                · ((intro w hSw); (try dsimp only at hSw); go_simp; (try with_reducible rfl))
                try simp only [Act.put, List.setIfInBounds_toArray, List.set_cons_zero, List.set_cons_succ]
                refine wpAnyH_take (i := 6) (oi := { dst := some 41, op := Op.binOp BinOp.gtr 24 (Operand.tmp 40) (Operand.const (Value.int IntKind.u64 2147483647)) 24, type := 4, pos := _, after := #[{ on := 5, ground := Ground.data }, { on := 3, ground := Ground.guard }], guard := some (3, false) }) (v := ?_) rfl (by kernel_rfl) (by kernel_rfl) (by kernel_rfl) (fun _ _ _ h => h) (Or.inl ⟨by rfl, ?_⟩) (by assumption) ?_
                rotate_left
                · ((intro w hSw); (try dsimp only at hSw); go_simp; (try with_reducible rfl))
                try simp only [Act.put, List.setIfInBounds_toArray, List.set_cons_zero, List.set_cons_succ]
                refine wpAnyH_take (i := 7) (oi := { dst := some 42, op := Op.pick (Operand.tmp 38) (Operand.const (Value.bool true)) (Operand.tmp 41), type := 4, pos := _, after := #[{ on := 3, ground := Ground.data }, { on := 6, ground := Ground.data }], guard := none }) (v := ?_) rfl (by kernel_rfl) (by kernel_rfl) (by kernel_rfl) (fun _ _ _ h => h) (Or.inl ⟨by rfl, ?_⟩) (by assumption) ?_
                rotate_left
                · ((intro w hSw); (try dsimp only at hSw); go_simp; (try with_reducible rfl))
                try simp only [Act.put, List.setIfInBounds_toArray, List.set_cons_zero, List.set_cons_succ]
                refine wpAnyH_take (i := 8) (oi := { dst := some 43, op := Op.move (Operand.tmp 42), type := 4, pos := _, after := #[{ on := 7, ground := Ground.data }, { on := 3, ground := Ground.chain }], guard := none }) (v := ?_) rfl (by kernel_rfl) (by kernel_rfl) (by kernel_rfl) (fun _ _ _ h => h) (Or.inl ⟨by rfl, ?_⟩) (by assumption) ?_
                rotate_left
                · ((intro w hSw); (try dsimp only at hSw); go_simp; (try with_reducible rfl))
                try simp only [Act.put, List.setIfInBounds_toArray, List.set_cons_zero, List.set_cons_succ]
                refine wpAnyH_take (i := 9) (oi := { dst := some 44, op := Op.move (Operand.tmp 0), type := 23, pos := _, after := #[{ on := 8, ground := Ground.guard }], guard := some (8, false) }) (v := ?_) rfl (by kernel_rfl) (by kernel_rfl) (by kernel_rfl) (fun _ _ _ h => h) (Or.inl ⟨by rfl, ?_⟩) (by assumption) ?_
                rotate_left
                · ((intro w hSw); (try dsimp only at hSw); go_simp; (try with_reducible rfl))
                try simp only [Act.put, List.setIfInBounds_toArray, List.set_cons_zero, List.set_cons_succ]
                refine wpAnyH_take (i := 10) (oi := { dst := some 45, op := Op.move (Operand.tmp 1), type := 3, pos := _, after := #[{ on := 8, ground := Ground.guard }], guard := some (8, false) }) (v := ?_) rfl (by kernel_rfl) (by kernel_rfl) (by kernel_rfl) (fun _ _ _ h => h) (Or.inl ⟨by rfl, ?_⟩) (by assumption) ?_
                rotate_left
                · ((intro w hSw); (try dsimp only at hSw); go_simp; (try with_reducible rfl))
                try simp only [Act.put, List.setIfInBounds_toArray, List.set_cons_zero, List.set_cons_succ]
                refine wpAnyH_take (i := 11) (oi := { dst := some 46, op := Op.move (Operand.tmp 7), type := 3, pos := _, after := #[{ on := 8, ground := Ground.guard }], guard := some (8, false) }) (v := ?_) rfl (by kernel_rfl) (by kernel_rfl) (by kernel_rfl) (fun _ _ _ h => h) (Or.inl ⟨by rfl, ?_⟩) (by assumption) ?_
                rotate_left
                · ((intro w hSw); (try dsimp only at hSw); go_simp; (try with_reducible rfl))
                try simp only [Act.put, List.setIfInBounds_toArray, List.set_cons_zero, List.set_cons_succ]
                refine wpAnyH_take (i := 12) (oi := { dst := some 47, op := Op.slice 23 (Operand.tmp 44) (some (Operand.tmp 45)) (some (Operand.tmp 46)) none, type := 23, pos := _, after := #[{ on := 9, ground := Ground.data }, { on := 10, ground := Ground.data }, { on := 11, ground := Ground.data }, { on := 8, ground := Ground.guard }], guard := some (8, false) }) (v := ?_) rfl (by kernel_rfl) (by kernel_rfl) (by kernel_rfl) (fun _ _ _ h => h) (Or.inl ⟨by rfl, ?_⟩) (by assumption) ?_
                rotate_left
                · ((intro w hSw); (try dsimp only at hSw); go_simp; (try with_reducible rfl))
                try simp only [Act.put, List.setIfInBounds_toArray, List.set_cons_zero, List.set_cons_succ]
                refine wpAnyH_take (i := 13) (oi := { dst := some 48, op := Op.move (Operand.tmp 0), type := 23, pos := _, after := #[{ on := 8, ground := Ground.guard }], guard := some (8, false) }) (v := ?_) rfl (by kernel_rfl) (by kernel_rfl) (by kernel_rfl) (fun _ _ _ h => h) (Or.inl ⟨by rfl, ?_⟩) (by assumption) ?_
                rotate_left
                · ((intro w hSw); (try dsimp only at hSw); go_simp; (try with_reducible rfl))
                try simp only [Act.put, List.setIfInBounds_toArray, List.set_cons_zero, List.set_cons_succ]
                refine wpAnyH_take (i := 14) (oi := { dst := some 49, op := Op.move (Operand.tmp 7), type := 3, pos := _, after := #[{ on := 8, ground := Ground.guard }], guard := some (8, false) }) (v := ?_) rfl (by kernel_rfl) (by kernel_rfl) (by kernel_rfl) (fun _ _ _ h => h) (Or.inl ⟨by rfl, ?_⟩) (by assumption) ?_
                rotate_left
                · ((intro w hSw); (try dsimp only at hSw); go_simp; (try with_reducible rfl))
                try simp only [Act.put, List.setIfInBounds_toArray, List.set_cons_zero, List.set_cons_succ]
                refine wpAnyH_take (i := 15) (oi := { dst := some 50, op := Op.move (Operand.tmp 8), type := 3, pos := _, after := #[{ on := 8, ground := Ground.guard }], guard := some (8, false) }) (v := ?_) rfl (by kernel_rfl) (by kernel_rfl) (by kernel_rfl) (fun _ _ _ h => h) (Or.inl ⟨by rfl, ?_⟩) (by assumption) ?_
                rotate_left
                · ((intro w hSw); (try dsimp only at hSw); go_simp; (try with_reducible rfl))
                try simp only [Act.put, List.setIfInBounds_toArray, List.set_cons_zero, List.set_cons_succ]
                refine wpAnyH_take (i := 16) (oi := { dst := some 51, op := Op.slice 23 (Operand.tmp 48) (some (Operand.tmp 49)) (some (Operand.tmp 50)) none, type := 23, pos := _, after := #[{ on := 13, ground := Ground.data }, { on := 14, ground := Ground.data }, { on := 15, ground := Ground.data }, { on := 8, ground := Ground.guard }], guard := some (8, false) }) (v := ?_) rfl (by kernel_rfl) (by kernel_rfl) (by kernel_rfl) (fun _ _ _ h => h) (Or.inl ⟨by rfl, ?_⟩) (by assumption) ?_
                rotate_left
                · ((intro w hSw); (try dsimp only at hSw); go_simp; (try with_reducible rfl))
                try simp only [Act.put, List.setIfInBounds_toArray, List.set_cons_zero, List.set_cons_succ]
                refine wpAnyH_ready (rs := [17]) (by kernel_rfl) (by simp) ?_
                refine (AllReadyH.cons (o := { dst := some 52, op := Op.call { callee := Callee.value (Operand.func 17), args := #[Operand.tmp 51], argTypes := #[23] }, type := 42, pos := _, after := #[{ on := 16, ground := Ground.data }, { on := 8, ground := Ground.chain }, { on := 8, ground := Ground.guard }], guard := some (8, false) }) rfl (fun K hK => ?_) AllReadyH.nil)
                go_simp
                refine (HCRC.out).mono ?_
                rintro x w' ⟨rfl, rfl⟩
                go_wp2_with fail
                refine hK.out _ _ ?_ (fun hHeld => ?_)
                · ((try dsimp only); exact ⟨d2, d3⟩)
                clear hK K
                try simp only [Act.put, List.setIfInBounds_toArray, List.set_cons_zero, List.set_cons_succ]
                refine wpAnyH_ready (rs := [18]) (by kernel_rfl) (by simp) ?_
                refine (AllReadyH.cons (o := { dst := some 53, op := Op.call { callee := Callee.value (Operand.func 16), args := #[Operand.tmp 52], argTypes := #[42] }, type := 23, pos := _, after := #[{ on := 17, ground := Ground.data }, { on := 17, ground := Ground.chain }, { on := 8, ground := Ground.guard }], guard := some (8, false) }) rfl (fun K hK => ?_) AllReadyH.nil)
                go_simp
                refine (HFOUR.out).mono ?_
                rintro x w3 ⟨rfl, hb3, hs3⟩
                have HB3 := Lib.hid hb3
                have HS3 := Lib.hid hs3
                clear hb3 hs3
                go_wp2_with fail
                refine hK.out _ _ ?_ (fun hHeld => ?_)
                · ((try dsimp only); exact ⟨cell_then HB3.out (Nat.le_refl _) d2, cell_then HB3.out (Nat.le_refl _) d3⟩)
                clear hK K
                try simp only [Act.put, List.setIfInBounds_toArray, List.set_cons_zero, List.set_cons_succ]
                refine wpAnyH_ready (rs := [19]) (by kernel_rfl) (by simp) ?_
                refine (AllReadyH.cons (o := { dst := some 54, op := Op.call { callee := Callee.value (Operand.func 28), args := #[Operand.tmp 47, Operand.tmp 53], argTypes := #[23, 23] }, type := 4, pos := _, after := #[{ on := 12, ground := Ground.data }, { on := 18, ground := Ground.data }, { on := 18, ground := Ground.chain }, { on := 8, ground := Ground.guard }], guard := some (8, false) }) rfl (fun K hK => ?_) AllReadyH.nil)
                go_simp
                refine (HEQ.out w3 HB3.out HS3.out).mono ?_
                rintro x w' ⟨rfl, rfl⟩
                go_wp2_with fail
                refine hK.out _ _ ?_ (fun hHeld => ?_)
                · ((try dsimp only); exact ⟨cell_then HB3.out (Nat.le_refl _) d2, cell_then HB3.out (Nat.le_refl _) d3⟩)
                clear hK K
                try simp only [Act.put, List.setIfInBounds_toArray, List.set_cons_zero, List.set_cons_succ]
                refine wpAnyH_take (i := 20) (oi := { dst := some 55, op := Op.unOp UnOp.not 4 (Operand.tmp 54), type := 4, pos := _, after := #[{ on := 19, ground := Ground.data }, { on := 8, ground := Ground.guard }], guard := some (8, false) }) (v := ?_) rfl (by kernel_rfl) (by kernel_rfl) (by kernel_rfl) (fun _ _ _ h => h) (Or.inl ⟨by rfl, ?_⟩) (by assumption) ?_
                rotate_left
                · ((intro w hSw); (try dsimp only at hSw); go_simp; (try with_reducible rfl))
                try simp only [Act.put, List.setIfInBounds_toArray, List.set_cons_zero, List.set_cons_succ]
                refine wpAnyH_take (i := 21) (oi := { dst := some 56, op := Op.pick (Operand.tmp 43) (Operand.const (Value.bool true)) (Operand.tmp 55), type := 4, pos := _, after := #[{ on := 8, ground := Ground.data }, { on := 20, ground := Ground.data }], guard := none }) (v := ?_) rfl (by kernel_rfl) (by kernel_rfl) (by kernel_rfl) (fun _ _ _ h => h) (Or.inl ⟨by rfl, ?_⟩) (by assumption) ?_
                rotate_left
                · ((intro w hSw); (try dsimp only at hSw); go_simp; (try with_reducible rfl))
                try simp only [Act.put, List.setIfInBounds_toArray, List.set_cons_zero, List.set_cons_succ]
                refine wpAnyH_done (by kernel_rfl) ?_ _
                have d0' := cell_then HB3.out (Nat.le_refl _) d0
                have d1' := cell_then HB3.out (Nat.le_refl _) d1
                have d2' := cell_then HB3.out (Nat.le_refl _) d2
                have d3' := cell_then HB3.out (Nat.le_refl _) d3
                have HOz := Lib.hid (show w3.heap[w.heap.size]? = some (evO zeroE) from (HB3.out.block _ (Array.getElem?_eq_some_iff.1 HO4.out).1).trans HO4.out)
                have HBz := Lib.hid (below_then HB4.out HB3.out HB4.out.size)
                go_wp2_with ((with_reducible refine wpList_store_en rfl _ _ rfl w.heap.size ⟨n0, n1, (n2 : Int), (n3 : Int)⟩ zeroE rfl rfl HOz.out ?_); intro w9 ho9 hb9; have HO9 := Lib.hid ho9; have HB9 := Lib.hid (hb9 _ _ (Nat.le_refl _) HBz.out); clear ho9 hb9)
                obtain ⟨f0, f1, f2, f3⟩ := four_at HO9.out
                dsimp only at f0 f1 f2 f3
                exact bodyPost_ret (v := .tuple #[.agg #[.int .u64 (n0 : Int), .int .u64 (n1 : Int), .int .i64 (n2 : Int), .int .i64 (n3 : Int)], .int .i64 (q4 : Int), .bool true]) (by simp [results, Tryd.results21, go_sem, f0, f1, f2, f3]) rfl ⟨rfl, HB9.out⟩
              · obtain rfl : none = r := by rw [if_pos (.inr (.inr c3))] at hif; exact hif
                have HEQ := Lib.hid (fun (w3 : World) (hb : Below z4.heap.size z4 w3) (hs : Sl w3 (some ⟨z4.heap.size, 0, none⟩) (fourL ((crc X : Nat) : Int))) => ((equalN (some ⟨b, off + p, none⟩) (some ⟨z4.heap.size, 0, none⟩) 4 4 (cap - p) 4 FR (fourL ((crc X : Nat) : Int)) w3 hFN rfl (sl_then hb (Nat.le_refl _) HFS.out) hs hFL (four_bytes _)).mono (fun e w' h => (⟨by rw [h.1, decide_eq_false c3], h.2⟩ : e = .returned (.bool false) ∧ w3 = w'))))
                clear hX hFR hXN hFN hXL hFL hcl hcl4 hif c3 hm' hbgp hnl hcp h0 h1 h2 h3 hq1 hq2 hq3 hq4
                refine wp_region_held_drew (S := (fun W => W.cell? ⟨nb, 2, none⟩ = some (.int .u64 (n2 : Int)) ∧ W.cell? ⟨nb, 3, none⟩ = some (.int .u64 (n3 : Int)))) (by kernel_rfl) ?_ (fun hHeld => ?_)
                · ((try dsimp only); exact ⟨d2, d3⟩)
                refine wpAnyH_take (i := 0) (oi := { dst := some 35, op := Op.indexAddr 55 (Operand.tmp 9) (Operand.const (Value.int IntKind.i64 2)), type := 0, pos := _, after := #[], guard := none }) (v := ?_) rfl (by kernel_rfl) (by kernel_rfl) (by kernel_rfl) (fun _ _ _ h => h) (Or.inl ⟨by rfl, ?_⟩) (by assumption) ?_
                rotate_left
                · ((intro w hSw); (try dsimp only at hSw); go_simp; (try with_reducible rfl))
                try simp only [Act.put, List.setIfInBounds_toArray, List.set_cons_zero, List.set_cons_succ]
                refine wpAnyH_take (i := 1) (oi := { dst := some 36, op := Op.load 24 (Operand.tmp 35), type := 24, pos := _, after := #[{ on := 0, ground := Ground.data }], guard := none }) (v := ?_) rfl (by kernel_rfl) (by kernel_rfl) (by kernel_rfl) (fun _ _ _ h => h) (Or.inl ⟨by rfl, ?_⟩) (by assumption) ?_
                rotate_left
                · ((intro w hSw); (try dsimp only at hSw); go_simp; (try with_reducible rfl))
                try simp only [Act.put, List.setIfInBounds_toArray, List.set_cons_zero, List.set_cons_succ]
                refine wpAnyH_take (i := 2) (oi := { dst := some 37, op := Op.binOp BinOp.gtr 24 (Operand.tmp 36) (Operand.const (Value.int IntKind.u64 2147483647)) 24, type := 4, pos := _, after := #[{ on := 1, ground := Ground.data }], guard := none }) (v := ?_) rfl (by kernel_rfl) (by kernel_rfl) (by kernel_rfl) (fun _ _ _ h => h) (Or.inl ⟨by rfl, ?_⟩) (by assumption) ?_
                rotate_left
                · ((intro w hSw); (try dsimp only at hSw); go_simp; (try with_reducible rfl))
                try simp only [Act.put, List.setIfInBounds_toArray, List.set_cons_zero, List.set_cons_succ]
                refine wpAnyH_take (i := 3) (oi := { dst := some 38, op := Op.move (Operand.tmp 37), type := 4, pos := _, after := #[{ on := 2, ground := Ground.data }], guard := none }) (v := ?_) rfl (by kernel_rfl) (by kernel_rfl) (by kernel_rfl) (fun _ _ _ h => h) (Or.inl ⟨by rfl, ?_⟩) (by assumption) ?_
                rotate_left
                · ((intro w hSw); (try dsimp only at hSw); go_simp; (try with_reducible rfl))
                try simp only [Act.put, List.setIfInBounds_toArray, List.set_cons_zero, List.set_cons_succ]
                refine wpAnyH_take (i := 4) (oi := { dst := some 39, op := Op.indexAddr 55 (Operand.tmp 9) (Operand.const (Value.int IntKind.i64 3)), type := 0, pos := _, after := #[{ on := 3, ground := Ground.guard }], guard := some (3, false) }) (v := ?_) rfl (by kernel_rfl) (by kernel_rfl) (by kernel_rfl) (fun _ _ _ h => h) (Or.inl ⟨by rfl, ?_⟩) (by assumption) ?_
                rotate_left
                · ((intro w hSw); (try dsimp only at hSw); go_simp; (try with_reducible rfl))
                try simp only [Act.put, List.setIfInBounds_toArray, List.set_cons_zero, List.set_cons_succ]
                refine wpAnyH_take (i := 5) (oi := { dst := some 40, op := Op.load 24 (Operand.tmp 39), type := 24, pos := _, after := #[{ on := 4, ground := Ground.data }, { on := 3, ground := Ground.guard }], guard := some (3, false) }) (v := ?_) rfl (by kernel_rfl) (by kernel_rfl) (by kernel_rfl) (fun _ _ _ h => h) (Or.inl ⟨by rfl, ?_⟩) (by assumption) ?_
                rotate_left
                · ((intro w hSw); (try dsimp only at hSw); go_simp; (try with_reducible rfl))
                try simp only [Act.put, List.setIfInBounds_toArray, List.set_cons_zero, List.set_cons_succ]
                refine wpAnyH_take (i := 6) (oi := { dst := some 41, op := Op.binOp BinOp.gtr 24 (Operand.tmp 40) (Operand.const (Value.int IntKind.u64 2147483647)) 24, type := 4, pos := _, after := #[{ on := 5, ground := Ground.data }, { on := 3, ground := Ground.guard }], guard := some (3, false) }) (v := ?_) rfl (by kernel_rfl) (by kernel_rfl) (by kernel_rfl) (fun _ _ _ h => h) (Or.inl ⟨by rfl, ?_⟩) (by assumption) ?_
                rotate_left
                · ((intro w hSw); (try dsimp only at hSw); go_simp; (try with_reducible rfl))
                try simp only [Act.put, List.setIfInBounds_toArray, List.set_cons_zero, List.set_cons_succ]
                refine wpAnyH_take (i := 7) (oi := { dst := some 42, op := Op.pick (Operand.tmp 38) (Operand.const (Value.bool true)) (Operand.tmp 41), type := 4, pos := _, after := #[{ on := 3, ground := Ground.data }, { on := 6, ground := Ground.data }], guard := none }) (v := ?_) rfl (by kernel_rfl) (by kernel_rfl) (by kernel_rfl) (fun _ _ _ h => h) (Or.inl ⟨by rfl, ?_⟩) (by assumption) ?_
                rotate_left
                · ((intro w hSw); (try dsimp only at hSw); go_simp; (try with_reducible rfl))
                try simp only [Act.put, List.setIfInBounds_toArray, List.set_cons_zero, List.set_cons_succ]
                refine wpAnyH_take (i := 8) (oi := { dst := some 43, op := Op.move (Operand.tmp 42), type := 4, pos := _, after := #[{ on := 7, ground := Ground.data }, { on := 3, ground := Ground.chain }], guard := none }) (v := ?_) rfl (by kernel_rfl) (by kernel_rfl) (by kernel_rfl) (fun _ _ _ h => h) (Or.inl ⟨by rfl, ?_⟩) (by assumption) ?_
                rotate_left
                · ((intro w hSw); (try dsimp only at hSw); go_simp; (try with_reducible rfl))
                try simp only [Act.put, List.setIfInBounds_toArray, List.set_cons_zero, List.set_cons_succ]
                refine wpAnyH_take (i := 9) (oi := { dst := some 44, op := Op.move (Operand.tmp 0), type := 23, pos := _, after := #[{ on := 8, ground := Ground.guard }], guard := some (8, false) }) (v := ?_) rfl (by kernel_rfl) (by kernel_rfl) (by kernel_rfl) (fun _ _ _ h => h) (Or.inl ⟨by rfl, ?_⟩) (by assumption) ?_
                rotate_left
                · ((intro w hSw); (try dsimp only at hSw); go_simp; (try with_reducible rfl))
                try simp only [Act.put, List.setIfInBounds_toArray, List.set_cons_zero, List.set_cons_succ]
                refine wpAnyH_take (i := 10) (oi := { dst := some 45, op := Op.move (Operand.tmp 1), type := 3, pos := _, after := #[{ on := 8, ground := Ground.guard }], guard := some (8, false) }) (v := ?_) rfl (by kernel_rfl) (by kernel_rfl) (by kernel_rfl) (fun _ _ _ h => h) (Or.inl ⟨by rfl, ?_⟩) (by assumption) ?_
                rotate_left
                · ((intro w hSw); (try dsimp only at hSw); go_simp; (try with_reducible rfl))
                try simp only [Act.put, List.setIfInBounds_toArray, List.set_cons_zero, List.set_cons_succ]
                refine wpAnyH_take (i := 11) (oi := { dst := some 46, op := Op.move (Operand.tmp 7), type := 3, pos := _, after := #[{ on := 8, ground := Ground.guard }], guard := some (8, false) }) (v := ?_) rfl (by kernel_rfl) (by kernel_rfl) (by kernel_rfl) (fun _ _ _ h => h) (Or.inl ⟨by rfl, ?_⟩) (by assumption) ?_
                rotate_left
                · ((intro w hSw); (try dsimp only at hSw); go_simp; (try with_reducible rfl))
                try simp only [Act.put, List.setIfInBounds_toArray, List.set_cons_zero, List.set_cons_succ]
                refine wpAnyH_take (i := 12) (oi := { dst := some 47, op := Op.slice 23 (Operand.tmp 44) (some (Operand.tmp 45)) (some (Operand.tmp 46)) none, type := 23, pos := _, after := #[{ on := 9, ground := Ground.data }, { on := 10, ground := Ground.data }, { on := 11, ground := Ground.data }, { on := 8, ground := Ground.guard }], guard := some (8, false) }) (v := ?_) rfl (by kernel_rfl) (by kernel_rfl) (by kernel_rfl) (fun _ _ _ h => h) (Or.inl ⟨by rfl, ?_⟩) (by assumption) ?_
                rotate_left
                · ((intro w hSw); (try dsimp only at hSw); go_simp; (try with_reducible rfl))
                try simp only [Act.put, List.setIfInBounds_toArray, List.set_cons_zero, List.set_cons_succ]
                refine wpAnyH_take (i := 13) (oi := { dst := some 48, op := Op.move (Operand.tmp 0), type := 23, pos := _, after := #[{ on := 8, ground := Ground.guard }], guard := some (8, false) }) (v := ?_) rfl (by kernel_rfl) (by kernel_rfl) (by kernel_rfl) (fun _ _ _ h => h) (Or.inl ⟨by rfl, ?_⟩) (by assumption) ?_
                rotate_left
                · ((intro w hSw); (try dsimp only at hSw); go_simp; (try with_reducible rfl))
                try simp only [Act.put, List.setIfInBounds_toArray, List.set_cons_zero, List.set_cons_succ]
                refine wpAnyH_take (i := 14) (oi := { dst := some 49, op := Op.move (Operand.tmp 7), type := 3, pos := _, after := #[{ on := 8, ground := Ground.guard }], guard := some (8, false) }) (v := ?_) rfl (by kernel_rfl) (by kernel_rfl) (by kernel_rfl) (fun _ _ _ h => h) (Or.inl ⟨by rfl, ?_⟩) (by assumption) ?_
                rotate_left
                · ((intro w hSw); (try dsimp only at hSw); go_simp; (try with_reducible rfl))
                try simp only [Act.put, List.setIfInBounds_toArray, List.set_cons_zero, List.set_cons_succ]
                refine wpAnyH_take (i := 15) (oi := { dst := some 50, op := Op.move (Operand.tmp 8), type := 3, pos := _, after := #[{ on := 8, ground := Ground.guard }], guard := some (8, false) }) (v := ?_) rfl (by kernel_rfl) (by kernel_rfl) (by kernel_rfl) (fun _ _ _ h => h) (Or.inl ⟨by rfl, ?_⟩) (by assumption) ?_
                rotate_left
                · ((intro w hSw); (try dsimp only at hSw); go_simp; (try with_reducible rfl))
                try simp only [Act.put, List.setIfInBounds_toArray, List.set_cons_zero, List.set_cons_succ]
                refine wpAnyH_take (i := 16) (oi := { dst := some 51, op := Op.slice 23 (Operand.tmp 48) (some (Operand.tmp 49)) (some (Operand.tmp 50)) none, type := 23, pos := _, after := #[{ on := 13, ground := Ground.data }, { on := 14, ground := Ground.data }, { on := 15, ground := Ground.data }, { on := 8, ground := Ground.guard }], guard := some (8, false) }) (v := ?_) rfl (by kernel_rfl) (by kernel_rfl) (by kernel_rfl) (fun _ _ _ h => h) (Or.inl ⟨by rfl, ?_⟩) (by assumption) ?_
                rotate_left
                · ((intro w hSw); (try dsimp only at hSw); go_simp; (try with_reducible rfl))
                try simp only [Act.put, List.setIfInBounds_toArray, List.set_cons_zero, List.set_cons_succ]
                refine wpAnyH_ready (rs := [17]) (by kernel_rfl) (by simp) ?_
                refine (AllReadyH.cons (o := { dst := some 52, op := Op.call { callee := Callee.value (Operand.func 17), args := #[Operand.tmp 51], argTypes := #[23] }, type := 42, pos := _, after := #[{ on := 16, ground := Ground.data }, { on := 8, ground := Ground.chain }, { on := 8, ground := Ground.guard }], guard := some (8, false) }) rfl (fun K hK => ?_) AllReadyH.nil)
                go_simp
                refine (HCRC.out).mono ?_
                rintro x w' ⟨rfl, rfl⟩
                go_wp2_with fail
                refine hK.out _ _ ?_ (fun hHeld => ?_)
                · ((try dsimp only); exact ⟨d2, d3⟩)
                clear hK K
                try simp only [Act.put, List.setIfInBounds_toArray, List.set_cons_zero, List.set_cons_succ]
                refine wpAnyH_ready (rs := [18]) (by kernel_rfl) (by simp) ?_
                refine (AllReadyH.cons (o := { dst := some 53, op := Op.call { callee := Callee.value (Operand.func 16), args := #[Operand.tmp 52], argTypes := #[42] }, type := 23, pos := _, after := #[{ on := 17, ground := Ground.data }, { on := 17, ground := Ground.chain }, { on := 8, ground := Ground.guard }], guard := some (8, false) }) rfl (fun K hK => ?_) AllReadyH.nil)
                go_simp
                refine (HFOUR.out).mono ?_
                rintro x w3 ⟨rfl, hb3, hs3⟩
                have HB3 := Lib.hid hb3
                have HS3 := Lib.hid hs3
                clear hb3 hs3
                go_wp2_with fail
                refine hK.out _ _ ?_ (fun hHeld => ?_)
                · ((try dsimp only); exact ⟨cell_then HB3.out (Nat.le_refl _) d2, cell_then HB3.out (Nat.le_refl _) d3⟩)
                clear hK K
                try simp only [Act.put, List.setIfInBounds_toArray, List.set_cons_zero, List.set_cons_succ]
                refine wpAnyH_ready (rs := [19]) (by kernel_rfl) (by simp) ?_
                refine (AllReadyH.cons (o := { dst := some 54, op := Op.call { callee := Callee.value (Operand.func 28), args := #[Operand.tmp 47, Operand.tmp 53], argTypes := #[23, 23] }, type := 4, pos := _, after := #[{ on := 12, ground := Ground.data }, { on := 18, ground := Ground.data }, { on := 18, ground := Ground.chain }, { on := 8, ground := Ground.guard }], guard := some (8, false) }) rfl (fun K hK => ?_) AllReadyH.nil)
                go_simp
                refine (HEQ.out w3 HB3.out HS3.out).mono ?_
                rintro x w' ⟨rfl, rfl⟩
                go_wp2_with fail
                refine hK.out _ _ ?_ (fun hHeld => ?_)
                · ((try dsimp only); exact ⟨cell_then HB3.out (Nat.le_refl _) d2, cell_then HB3.out (Nat.le_refl _) d3⟩)
                clear hK K
                try simp only [Act.put, List.setIfInBounds_toArray, List.set_cons_zero, List.set_cons_succ]
                refine wpAnyH_take (i := 20) (oi := { dst := some 55, op := Op.unOp UnOp.not 4 (Operand.tmp 54), type := 4, pos := _, after := #[{ on := 19, ground := Ground.data }, { on := 8, ground := Ground.guard }], guard := some (8, false) }) (v := ?_) rfl (by kernel_rfl) (by kernel_rfl) (by kernel_rfl) (fun _ _ _ h => h) (Or.inl ⟨by rfl, ?_⟩) (by assumption) ?_
                rotate_left
                · ((intro w hSw); (try dsimp only at hSw); go_simp; (try with_reducible rfl))
                try simp only [Act.put, List.setIfInBounds_toArray, List.set_cons_zero, List.set_cons_succ]
                refine wpAnyH_take (i := 21) (oi := { dst := some 56, op := Op.pick (Operand.tmp 43) (Operand.const (Value.bool true)) (Operand.tmp 55), type := 4, pos := _, after := #[{ on := 8, ground := Ground.data }, { on := 20, ground := Ground.data }], guard := none }) (v := ?_) rfl (by kernel_rfl) (by kernel_rfl) (by kernel_rfl) (fun _ _ _ h => h) (Or.inl ⟨by rfl, ?_⟩) (by assumption) ?_
                rotate_left
                · ((intro w hSw); (try dsimp only at hSw); go_simp; (try with_reducible rfl))
                try simp only [Act.put, List.setIfInBounds_toArray, List.set_cons_zero, List.set_cons_succ]
                refine wpAnyH_done (by kernel_rfl) ?_ _
                have HOz := Lib.hid (show w3.heap[w.heap.size]? = some (evO zeroE) from (HB3.out.block _ (Array.getElem?_eq_some_iff.1 HO4.out).1).trans HO4.out)
                have HBz := Lib.hid (below_then HB4.out HB3.out HB4.out.size)
                go_wp2_with ((with_reducible refine wpList_store_en rfl _ _ rfl w.heap.size zeroE zeroE rfl rfl HOz.out ?_); intro w9 ho9 hb9; have HO9 := Lib.hid ho9; have HB9 := Lib.hid (hb9 _ _ (Nat.le_refl _) HBz.out); clear ho9 hb9)
                obtain ⟨f0, f1, f2, f3⟩ := four_at HO9.out
                dsimp only [zeroE] at f0 f1 f2 f3
                exact bodyPost_ret (v := .tuple #[.agg #[.int .u64 0, .int .u64 0, .int .i64 0, .int .i64 0], .int .i64 0, .bool false]) (by simp [results, Tryd.results21, go_sem, f0, f1, f2, f3]) rfl ⟨rfl, HB9.out⟩
end Go.Proofs.YtebfblpmihnndaaDoor.Ir
