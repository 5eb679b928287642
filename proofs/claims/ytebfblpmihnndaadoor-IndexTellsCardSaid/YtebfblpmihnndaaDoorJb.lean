/- The document's Reader: Raw. -/
import Derived.Test.YtebfblpmihnndaaDoorJa
import Derived.Deep.RegionHeld3
set_option linter.unusedVariables false
namespace Go.Proofs.YtebfblpmihnndaaDoor.Jb
open Go Go.RowKit Kit Crc Var Get Ref3 Copy Bytes Bx Ia Ib Ic Ja

variable {w w' w2 : World} {p : Nat} {r : Rdr}
def RawR (w : World) (p : Nat) (r : Rdr) (m : List Nat) (e : Ending) (w' : World) : Prop :=
  ∃ a cap, e = .returned (.slice a m.length cap) ∧ m.length ≤ cap ∧ Sl w' a m ∧ (∀ x, a = some x → w.heap.size ≤ x.block ∧ x.block ≠ p) ∧ Rq w' p r ∧ w.grownBy w' (some p)
theorem grown_drew1 {x : Option Nat} (h : w.grownBy w' x) : w.grownBy w'.drew x := ⟨h.os, h.tape, h.output, h.size, h.block⟩
def partA (a : Option Addr) (cap at_ : Nat) : Option Addr := match a with | none => none | some x => if cap = at_ then some x else some (x.add at_)
/-- a copy of a part. -/
theorem copyPart (a : Option Addr) (cap at_ n : Nat) (l : List Nat) (W : World) (h1 : at_ + n ≤ l.length) (hcap : l.length ≤ cap) (hs : Sl W a l) (h0 : a = none → cap = 0) (hm : l.length ≤ 1000000) :
    Calls Tryd.prog 29 #[.slice (partA a cap at_) n (cap - at_)] W (Cp ((l.drop at_).take n) W) := by
  have hml : ((l.drop at_).take n).length = n := by rw [List.length_take, List.length_drop]; omega
  by_cases hn : n = 0
  · subst hn
    rw [List.take_zero]
    cases a with
    | none =>
      have := h0 rfl
      subst this
      rw [Nat.zero_sub]
      exact copyNil W
    | some x =>
      unfold partA
      simp only
      split
      · exact copyEmpty x _ W
      · exact copyEmpty _ _ W
  · rcases hs with h | ⟨b, off, rfl, hc⟩
    · rw [h] at h1; simp at h1; omega
    · unfold partA
      simp only
      rw [if_neg (by omega)]
      have hadd : (⟨b, off, none⟩ : Addr).add at_ = ⟨b, off + at_, none⟩ := by unfold Addr.add; split <;> simp_all
      rw [hadd]
      have hcm : Cells W b (off + at_) ((l.drop at_).take n) := fun i hi => by
        rw [hml] at hi
        have h := hc (at_ + i) (by omega)
        rw [List.getElem_take, List.getElem_drop, Nat.add_assoc]; exact h
      have := copyRow b (off + at_) (cap - at_) ((l.drop at_).take n) W (by omega) hcm
      rw [hml] at this
      exact this
set_option maxRecDepth 100000 in
set_option maxHeartbeats 4000000 in
theorem rawFit (n : Nat) (l : List Nat) (hp : Rq w p r) (hl : By w r l) (he : r.err = 0) (h1 : r.at_ + n ≤ l.length) (hs : l.length ≤ 1000000) (h0 : r.a = none → r.cap = 0) (hne : 0 < l.length → ∀ x, r.a = some x → x.block ≠ p) :
    Calls Tryd.prog 23 #[.pointer (some ⟨p, 0, none⟩), .int .i64 (n : Int)] w (RawR w p { r with at_ := r.at_ + n } ((l.drop r.at_).take n)) := by
  have hlen := hl.len
  have hcap := hl.cap
  have b1 : decide ((n : Int) < 0) = false := decide_eq_false (by omega)
  have b2 : decide ((r.len : Int) - (r.at_ : Int) < (n : Int)) = false := decide_eq_false (by omega)
  have hw : IntKind.i64.wrap ((r.len : Int) - (r.at_ : Int)) = (r.len : Int) - (r.at_ : Int) := IntWalk.i64_in _ (by omega)
  have hml : ((l.drop r.at_).take n).length = n := by rw [List.length_take, List.length_drop]; omega
  have c0 := hp.c0
  have c1 := hp.c1
  have c2 := hp.c2
  rw [he] at c2
  have f1 := hp.fz 1
  have HCP : Hid (∀ W, Sl W r.a l → Calls Tryd.prog 29 #[.slice (partA r.a r.cap r.at_) n (r.cap - r.at_)] W (Cp ((l.drop r.at_).take n) W)) := Lib.hid (fun W h => copyPart r.a r.cap r.at_ n l W h1 (by omega) h h0 hs)
  have HSL : Hid (∀ W, (∀ k, k < w.heap.size → k ≠ p → W.heap[k]? = w.heap[k]?) → Sl W r.a l) := Lib.hid (fun W h => by
    rcases hl.sl with h2 | ⟨b, off, ha, hc⟩
    · exact .inl h2
    · refine .inr ⟨b, off, ha, fun i hi => ?_⟩
      have hbp := hne (by omega) _ ha
      have hc' := hc i hi
      exact (World.cell?_of_block (h b (World.block_lt_of_cell? w _ hc') hbp)).trans hc')
  obtain ⟨m, hm⟩ : ∃ m, m = (l.drop r.at_).take n := ⟨_, rfl⟩
  rw [← hm] at hml HCP ⊢
  have HP := Lib.hid hp
  have HH := Lib.hid (hp.set1 (r.at_ + n))
  obtain ⟨ra, rl, rcap, at_, re⟩ := r
  simp only at *
  subst hlen
  have s1 : IntKind.i64.wrap ((at_ : Int) + (n : Int)) = ((at_ + n : Nat) : Int) := by have := IntWalk.i64_in ((at_ : Int) + (n : Int)) (by omega); rw [this]; omega
  have s4 : IntKind.i64.wrap (at_ : Int) = (at_ : Int) := IntWalk.i64_in _ (by omega)
  have t6 : (at_ : Int) ≤ (at_ : Int) + (n : Int) := by omega
  have t0 : (0 : Int) ≤ (at_ : Int) + (n : Int) := by omega
  have t1 : (at_ : Int) + (n : Int) ≤ (rcap : Int) := by omega
  have t2 : ((at_ : Int) + (n : Int)).toNat = at_ + n := by omega
  have t4 : at_ + n - at_ = n := by omega
  clear hl hp hm he hne h0
  go_enter Tryd.func23, Tryd.ntmps23
  go_wp2
  go_quiet (fail)
  go_wp2
  have d0 : ((w.drewN nq).setCell ⟨p, 1, none⟩ (.int .i64 ((at_ : Int) + (n : Int)))).cell? ⟨p, 0, none⟩ = some (.slice ra l.length rcap) := by
    rw [show (at_ : Int) + (n : Int) = ((at_ + n : Nat) : Int) from (Int.natCast_add _ _).symm]
    exact Rq.c0 (show Rq ((w.drewN nq).setCell ⟨p, 1, none⟩ (.int .i64 ((at_ + n : Nat) : Int))) p _ from HH.out)
  have d1 : ((w.drewN nq).setCell ⟨p, 1, none⟩ (.int .i64 ((at_ : Int) + (n : Int)))).cell? ⟨p, 1, none⟩ = some (.int .i64 ((at_ : Int) + (n : Int))) := by
    rw [show (at_ : Int) + (n : Int) = ((at_ + n : Nat) : Int) from (Int.natCast_add _ _).symm]
    exact Rq.c1 (show Rq ((w.drewN nq).setCell ⟨p, 1, none⟩ (.int .i64 ((at_ + n : Nat) : Int))) p _ from HH.out)
  have HR9 : Hid (Rq ((w.drewN nq).setCell ⟨p, 1, none⟩ (.int .i64 ((at_ : Int) + (n : Int)))) p ⟨ra, l.length, rcap, at_ + n, re⟩) := Lib.hid (by
    rw [show (at_ : Int) + (n : Int) = ((at_ + n : Nat) : Int) from (Int.natCast_add _ _).symm]; exact HH.out)
  have HG9 : Hid (w.grownBy ((w.drewN nq).setCell ⟨p, 1, none⟩ (.int .i64 ((at_ : Int) + (n : Int)))) (some p)) := Lib.hid (grown_set (grown_draw nq (grown_refl w (some p))))
  generalize (w.drewN nq).setCell ⟨p, 1, none⟩ (.int .i64 ((at_ : Int) + (n : Int))) = w9 at *
  have HCC := Lib.hid (HCP.out w9.drew (HSL.out w9.drew (fun k h1 h2 => HG9.out.block k h1 (fun e => h2 (by injection e)))))
  clear c0 c1 c2 f1 HCP HSL HP HH
  cases ra with
  | none =>
    unfold partA at HCC
    simp only at HCC
    refine wp_region_held_drew (S := (fun W => W.cell? ⟨p, 0, none⟩ = some (.slice (none) l.length rcap) ∧ W.cell? ⟨p, 1, none⟩ = some (.int .i64 ((at_ : Int) + (n : Int))))) (by kernel_rfl) ?_ (fun hHeld => ?_)
    · ((try dsimp only); exact ⟨past_drew d0, past_drew d1⟩)
    refine wpAnyH_take (i := 0) (oi := { dst := some 41, op := Op.move (Operand.tmp 0), type := 48, pos := _, after := #[], guard := none }) (v := ?_) rfl (by kernel_rfl) (by kernel_rfl) (by kernel_rfl) (fun _ _ _ h => h) (Or.inl ⟨by rfl, ?_⟩) (by assumption) ?_
    rotate_left
    · ((intro w hSw); (try dsimp only at hSw); go_simp; (try with_reducible rfl))
    try simp only [Act.put, List.setIfInBounds_toArray, List.set_cons_zero, List.set_cons_succ]
    refine wpAnyH_take (i := 1) (oi := { dst := some 42, op := Op.nilCheck (Operand.tmp 41), type := 0, pos := _, after := #[{ on := 0, ground := Ground.data }], guard := none }) (v := ?_) rfl (by kernel_rfl) (by kernel_rfl) (by kernel_rfl) (fun _ _ _ h => h) (Or.inl ⟨by rfl, ?_⟩) (by assumption) ?_
    rotate_left
    · ((intro w hSw); (try dsimp only at hSw); go_simp; (try with_reducible rfl))
    try simp only [Act.put, List.setIfInBounds_toArray, List.set_cons_zero, List.set_cons_succ]
    refine wpAnyH_take (i := 2) (oi := { dst := some 43, op := Op.fieldAddr 51 (Operand.tmp 42) 0, type := 0, pos := _, after := #[{ on := 1, ground := Ground.data }], guard := none }) (v := ?_) rfl (by kernel_rfl) (by kernel_rfl) (by kernel_rfl) (fun _ _ _ h => h) (Or.inl ⟨by rfl, ?_⟩) (by assumption) ?_
    rotate_left
    · ((intro w hSw); (try dsimp only at hSw); go_simp; (try with_reducible rfl))
    try simp only [Act.put, List.setIfInBounds_toArray, List.set_cons_zero, List.set_cons_succ]
    refine wpAnyH_take (i := 3) (oi := { dst := some 44, op := Op.load 23 (Operand.tmp 43), type := 23, pos := _, after := #[{ on := 2, ground := Ground.data }], guard := none }) (v := ?_) rfl (by kernel_rfl) (by kernel_rfl) (by kernel_rfl) (fun _ _ _ h => h) (Or.inl ⟨by rfl, ?_⟩) (by assumption) ?_
    rotate_left
    · ((intro w hSw); (try dsimp only at hSw); go_simp; (try with_reducible rfl))
    try simp only [Act.put, List.setIfInBounds_toArray, List.set_cons_zero, List.set_cons_succ]
    refine wpAnyH_take (i := 4) (oi := { dst := some 45, op := Op.move (Operand.tmp 0), type := 48, pos := _, after := #[], guard := none }) (v := ?_) rfl (by kernel_rfl) (by kernel_rfl) (by kernel_rfl) (fun _ _ _ h => h) (Or.inl ⟨by rfl, ?_⟩) (by assumption) ?_
    rotate_left
    · ((intro w hSw); (try dsimp only at hSw); go_simp; (try with_reducible rfl))
    try simp only [Act.put, List.setIfInBounds_toArray, List.set_cons_zero, List.set_cons_succ]
    refine wpAnyH_take (i := 5) (oi := { dst := some 46, op := Op.nilCheck (Operand.tmp 45), type := 0, pos := _, after := #[{ on := 4, ground := Ground.data }], guard := none }) (v := ?_) rfl (by kernel_rfl) (by kernel_rfl) (by kernel_rfl) (fun _ _ _ h => h) (Or.inl ⟨by rfl, ?_⟩) (by assumption) ?_
    rotate_left
    · ((intro w hSw); (try dsimp only at hSw); go_simp; (try with_reducible rfl))
    try simp only [Act.put, List.setIfInBounds_toArray, List.set_cons_zero, List.set_cons_succ]
    refine wpAnyH_take (i := 6) (oi := { dst := some 47, op := Op.fieldAddr 51 (Operand.tmp 46) 1, type := 0, pos := _, after := #[{ on := 5, ground := Ground.data }], guard := none }) (v := ?_) rfl (by kernel_rfl) (by kernel_rfl) (by kernel_rfl) (fun _ _ _ h => h) (Or.inl ⟨by rfl, ?_⟩) (by assumption) ?_
    rotate_left
    · ((intro w hSw); (try dsimp only at hSw); go_simp; (try with_reducible rfl))
    try simp only [Act.put, List.setIfInBounds_toArray, List.set_cons_zero, List.set_cons_succ]
    refine wpAnyH_take (i := 7) (oi := { dst := some 48, op := Op.load 3 (Operand.tmp 47), type := 3, pos := _, after := #[{ on := 6, ground := Ground.data }], guard := none }) (v := ?_) rfl (by kernel_rfl) (by kernel_rfl) (by kernel_rfl) (fun _ _ _ h => h) (Or.inl ⟨by rfl, ?_⟩) (by assumption) ?_
    rotate_left
    · ((intro w hSw); (try dsimp only at hSw); go_simp; (try with_reducible rfl))
    try simp only [Act.put, List.setIfInBounds_toArray, List.set_cons_zero, List.set_cons_succ]
    refine wpAnyH_take (i := 8) (oi := { dst := some 49, op := Op.move (Operand.tmp 1), type := 3, pos := _, after := #[], guard := none }) (v := ?_) rfl (by kernel_rfl) (by kernel_rfl) (by kernel_rfl) (fun _ _ _ h => h) (Or.inl ⟨by rfl, ?_⟩) (by assumption) ?_
    rotate_left
    · ((intro w hSw); (try dsimp only at hSw); go_simp; (try with_reducible rfl))
    try simp only [Act.put, List.setIfInBounds_toArray, List.set_cons_zero, List.set_cons_succ]
    refine wpAnyH_take (i := 9) (oi := { dst := some 50, op := Op.binOp BinOp.sub 3 (Operand.tmp 48) (Operand.tmp 49) 3, type := 3, pos := _, after := #[{ on := 7, ground := Ground.data }, { on := 8, ground := Ground.data }], guard := none }) (v := ?_) rfl (by kernel_rfl) (by kernel_rfl) (by kernel_rfl) (fun _ _ _ h => h) (Or.inl ⟨by rfl, ?_⟩) (by assumption) ?_
    rotate_left
    · ((intro w hSw); (try dsimp only at hSw); go_simp; (try with_reducible rfl))
    try simp only [Act.put, List.setIfInBounds_toArray, List.set_cons_zero, List.set_cons_succ]
    refine wpAnyH_take (i := 10) (oi := { dst := some 51, op := Op.move (Operand.tmp 0), type := 48, pos := _, after := #[], guard := none }) (v := ?_) rfl (by kernel_rfl) (by kernel_rfl) (by kernel_rfl) (fun _ _ _ h => h) (Or.inl ⟨by rfl, ?_⟩) (by assumption) ?_
    rotate_left
    · ((intro w hSw); (try dsimp only at hSw); go_simp; (try with_reducible rfl))
    try simp only [Act.put, List.setIfInBounds_toArray, List.set_cons_zero, List.set_cons_succ]
    refine wpAnyH_take (i := 11) (oi := { dst := some 52, op := Op.nilCheck (Operand.tmp 51), type := 0, pos := _, after := #[{ on := 10, ground := Ground.data }], guard := none }) (v := ?_) rfl (by kernel_rfl) (by kernel_rfl) (by kernel_rfl) (fun _ _ _ h => h) (Or.inl ⟨by rfl, ?_⟩) (by assumption) ?_
    rotate_left
    · ((intro w hSw); (try dsimp only at hSw); go_simp; (try with_reducible rfl))
    try simp only [Act.put, List.setIfInBounds_toArray, List.set_cons_zero, List.set_cons_succ]
    refine wpAnyH_take (i := 12) (oi := { dst := some 53, op := Op.fieldAddr 51 (Operand.tmp 52) 1, type := 0, pos := _, after := #[{ on := 11, ground := Ground.data }], guard := none }) (v := ?_) rfl (by kernel_rfl) (by kernel_rfl) (by kernel_rfl) (fun _ _ _ h => h) (Or.inl ⟨by rfl, ?_⟩) (by assumption) ?_
    rotate_left
    · ((intro w hSw); (try dsimp only at hSw); go_simp; (try with_reducible rfl))
    try simp only [Act.put, List.setIfInBounds_toArray, List.set_cons_zero, List.set_cons_succ]
    refine wpAnyH_take (i := 13) (oi := { dst := some 54, op := Op.load 3 (Operand.tmp 53), type := 3, pos := _, after := #[{ on := 12, ground := Ground.data }], guard := none }) (v := ?_) rfl (by kernel_rfl) (by kernel_rfl) (by kernel_rfl) (fun _ _ _ h => h) (Or.inl ⟨by rfl, ?_⟩) (by assumption) ?_
    rotate_left
    · ((intro w hSw); (try dsimp only at hSw); go_simp; (try with_reducible rfl))
    try simp only [Act.put, List.setIfInBounds_toArray, List.set_cons_zero, List.set_cons_succ]
    refine wpAnyH_take (i := 14) (oi := { dst := some 55, op := Op.slice 23 (Operand.tmp 44) (some (Operand.tmp 50)) (some (Operand.tmp 54)) none, type := 23, pos := _, after := #[{ on := 3, ground := Ground.data }, { on := 9, ground := Ground.data }, { on := 13, ground := Ground.data }], guard := none }) (v := ?_) rfl (by kernel_rfl) (by kernel_rfl) (by kernel_rfl) (fun _ _ _ h => h) (Or.inl ⟨by rfl, ?_⟩) (by assumption) ?_
    rotate_left
    · ((intro w hSw); (try dsimp only at hSw); go_simp; (try with_reducible rfl))
    try simp only [Act.put, List.setIfInBounds_toArray, List.set_cons_zero, List.set_cons_succ]
    refine wpAnyH_ready (rs := [15]) (by kernel_rfl) (by simp) ?_
    refine (AllReadyH.cons (o := { dst := some 56, op := Op.call { callee := Callee.value (Operand.func 29), args := #[Operand.tmp 55], argTypes := #[23] }, type := 23, pos := _, after := #[{ on := 14, ground := Ground.data }], guard := none }) rfl (fun K hK => ?_) AllReadyH.nil)
    go_simp
    (refine HCC.out.mono ?_; rintro e w10 ⟨v, rfl, hown, hb10⟩; obtain ⟨a3, cap3, rfl, hcap3, hs3, hin3⟩ := row_sl hown; have k0 := cell_then hb10 (Nat.le_refl _) (past_drew d0); have k1 := cell_then hb10 (Nat.le_refl _) (past_drew d1))
    go_wp2_with fail
    refine hK.out _ _ ?_ (fun hHeld => ?_)
    · ((try dsimp only); exact ⟨k0, k1⟩)
    clear hK K
    try simp only [Act.put, List.setIfInBounds_toArray, List.set_cons_zero, List.set_cons_succ]
    refine wpAnyH_take (i := 16) (oi := { dst := some 4, op := Op.assign (Operand.tmp 56), type := 23, pos := _, after := #[{ on := 15, ground := Ground.data }, { on := 15, ground := Ground.chain }, { on := 0, ground := Ground.phase }, { on := 1, ground := Ground.phase }, { on := 2, ground := Ground.phase }, { on := 3, ground := Ground.phase }, { on := 4, ground := Ground.phase }, { on := 5, ground := Ground.phase }, { on := 6, ground := Ground.phase }, { on := 7, ground := Ground.phase }, { on := 8, ground := Ground.phase }, { on := 9, ground := Ground.phase }, { on := 10, ground := Ground.phase }, { on := 11, ground := Ground.phase }, { on := 12, ground := Ground.phase }, { on := 13, ground := Ground.phase }, { on := 14, ground := Ground.phase }, { on := 15, ground := Ground.phase }], guard := none }) (v := ?_) rfl (by kernel_rfl) (by kernel_rfl) (by kernel_rfl) (fun _ _ _ h => h) (Or.inl ⟨by rfl, ?_⟩) (by assumption) ?_
    rotate_left
    · ((intro w hSw); (try dsimp only at hSw); go_simp; (try with_reducible rfl))
    try simp only [Act.put, List.setIfInBounds_toArray, List.set_cons_zero, List.set_cons_succ]
    refine wpAnyH_done (by kernel_rfl) ?_ _
    have HQ := Lib.hid (Rq.then_ (show Rq w9.drew p _ from HR9.out) hb10)
    have HG10 := Lib.hid (grown_trans (grown_drew1 HG9.out) (grown_below hb10 (some p)))
    have HIN : Hid (∀ x, a3 = some x → w.heap.size ≤ x.block ∧ x.block ≠ p) := Lib.hid (fun x hx => by have h1 := (hin3 x hx).1; have h2 : w.heap.size ≤ w9.heap.size := HG9.out.size; have h3 : p < w9.heap.size := HR9.out.lt; have h4 : w9.drew.heap.size = w9.heap.size := rfl; omega)
    have HS3 := Lib.hid hs3
    clear hown hb10 hs3 hin3 k0 k1 d0 d1
    go_wp2
    go_ret
    exact ⟨a3, cap3, by rw [hml]; rfl, hcap3, HS3.out, HIN.out, HQ.out, HG10.out⟩
  | some x =>
    unfold partA at HCC
    simp only at HCC
    by_cases t3 : rcap = at_
    · have t3' := t3.symm
      subst t3'
      rw [if_pos rfl, Nat.sub_self] at HCC
      refine wp_region_held_drew (S := (fun W => W.cell? ⟨p, 0, none⟩ = some (.slice (some x) l.length at_) ∧ W.cell? ⟨p, 1, none⟩ = some (.int .i64 ((at_ : Int) + (n : Int))))) (by kernel_rfl) ?_ (fun hHeld => ?_)
      · ((try dsimp only); exact ⟨past_drew d0, past_drew d1⟩)
      refine wpAnyH_take (i := 0) (oi := { dst := some 41, op := Op.move (Operand.tmp 0), type := 48, pos := _, after := #[], guard := none }) (v := ?_) rfl (by kernel_rfl) (by kernel_rfl) (by kernel_rfl) (fun _ _ _ h => h) (Or.inl ⟨by rfl, ?_⟩) (by assumption) ?_
      rotate_left
      · ((intro w hSw); (try dsimp only at hSw); go_simp; (try with_reducible rfl))
      try simp only [Act.put, List.setIfInBounds_toArray, List.set_cons_zero, List.set_cons_succ]
      refine wpAnyH_take (i := 1) (oi := { dst := some 42, op := Op.nilCheck (Operand.tmp 41), type := 0, pos := _, after := #[{ on := 0, ground := Ground.data }], guard := none }) (v := ?_) rfl (by kernel_rfl) (by kernel_rfl) (by kernel_rfl) (fun _ _ _ h => h) (Or.inl ⟨by rfl, ?_⟩) (by assumption) ?_
      rotate_left
      · ((intro w hSw); (try dsimp only at hSw); go_simp; (try with_reducible rfl))
      try simp only [Act.put, List.setIfInBounds_toArray, List.set_cons_zero, List.set_cons_succ]
      refine wpAnyH_take (i := 2) (oi := { dst := some 43, op := Op.fieldAddr 51 (Operand.tmp 42) 0, type := 0, pos := _, after := #[{ on := 1, ground := Ground.data }], guard := none }) (v := ?_) rfl (by kernel_rfl) (by kernel_rfl) (by kernel_rfl) (fun _ _ _ h => h) (Or.inl ⟨by rfl, ?_⟩) (by assumption) ?_
      rotate_left
      · ((intro w hSw); (try dsimp only at hSw); go_simp; (try with_reducible rfl))
      try simp only [Act.put, List.setIfInBounds_toArray, List.set_cons_zero, List.set_cons_succ]
      refine wpAnyH_take (i := 3) (oi := { dst := some 44, op := Op.load 23 (Operand.tmp 43), type := 23, pos := _, after := #[{ on := 2, ground := Ground.data }], guard := none }) (v := ?_) rfl (by kernel_rfl) (by kernel_rfl) (by kernel_rfl) (fun _ _ _ h => h) (Or.inl ⟨by rfl, ?_⟩) (by assumption) ?_
      rotate_left
      · ((intro w hSw); (try dsimp only at hSw); go_simp; (try with_reducible rfl))
      try simp only [Act.put, List.setIfInBounds_toArray, List.set_cons_zero, List.set_cons_succ]
      refine wpAnyH_take (i := 4) (oi := { dst := some 45, op := Op.move (Operand.tmp 0), type := 48, pos := _, after := #[], guard := none }) (v := ?_) rfl (by kernel_rfl) (by kernel_rfl) (by kernel_rfl) (fun _ _ _ h => h) (Or.inl ⟨by rfl, ?_⟩) (by assumption) ?_
      rotate_left
      · ((intro w hSw); (try dsimp only at hSw); go_simp; (try with_reducible rfl))
      try simp only [Act.put, List.setIfInBounds_toArray, List.set_cons_zero, List.set_cons_succ]
      refine wpAnyH_take (i := 5) (oi := { dst := some 46, op := Op.nilCheck (Operand.tmp 45), type := 0, pos := _, after := #[{ on := 4, ground := Ground.data }], guard := none }) (v := ?_) rfl (by kernel_rfl) (by kernel_rfl) (by kernel_rfl) (fun _ _ _ h => h) (Or.inl ⟨by rfl, ?_⟩) (by assumption) ?_
      rotate_left
      · ((intro w hSw); (try dsimp only at hSw); go_simp; (try with_reducible rfl))
      try simp only [Act.put, List.setIfInBounds_toArray, List.set_cons_zero, List.set_cons_succ]
      refine wpAnyH_take (i := 6) (oi := { dst := some 47, op := Op.fieldAddr 51 (Operand.tmp 46) 1, type := 0, pos := _, after := #[{ on := 5, ground := Ground.data }], guard := none }) (v := ?_) rfl (by kernel_rfl) (by kernel_rfl) (by kernel_rfl) (fun _ _ _ h => h) (Or.inl ⟨by rfl, ?_⟩) (by assumption) ?_
      rotate_left
      · ((intro w hSw); (try dsimp only at hSw); go_simp; (try with_reducible rfl))
      try simp only [Act.put, List.setIfInBounds_toArray, List.set_cons_zero, List.set_cons_succ]
      refine wpAnyH_take (i := 7) (oi := { dst := some 48, op := Op.load 3 (Operand.tmp 47), type := 3, pos := _, after := #[{ on := 6, ground := Ground.data }], guard := none }) (v := ?_) rfl (by kernel_rfl) (by kernel_rfl) (by kernel_rfl) (fun _ _ _ h => h) (Or.inl ⟨by rfl, ?_⟩) (by assumption) ?_
      rotate_left
      · ((intro w hSw); (try dsimp only at hSw); go_simp; (try with_reducible rfl))
      try simp only [Act.put, List.setIfInBounds_toArray, List.set_cons_zero, List.set_cons_succ]
      refine wpAnyH_take (i := 8) (oi := { dst := some 49, op := Op.move (Operand.tmp 1), type := 3, pos := _, after := #[], guard := none }) (v := ?_) rfl (by kernel_rfl) (by kernel_rfl) (by kernel_rfl) (fun _ _ _ h => h) (Or.inl ⟨by rfl, ?_⟩) (by assumption) ?_
      rotate_left
      · ((intro w hSw); (try dsimp only at hSw); go_simp; (try with_reducible rfl))
      try simp only [Act.put, List.setIfInBounds_toArray, List.set_cons_zero, List.set_cons_succ]
      refine wpAnyH_take (i := 9) (oi := { dst := some 50, op := Op.binOp BinOp.sub 3 (Operand.tmp 48) (Operand.tmp 49) 3, type := 3, pos := _, after := #[{ on := 7, ground := Ground.data }, { on := 8, ground := Ground.data }], guard := none }) (v := ?_) rfl (by kernel_rfl) (by kernel_rfl) (by kernel_rfl) (fun _ _ _ h => h) (Or.inl ⟨by rfl, ?_⟩) (by assumption) ?_
      rotate_left
      · ((intro w hSw); (try dsimp only at hSw); go_simp; (try with_reducible rfl))
      try simp only [Act.put, List.setIfInBounds_toArray, List.set_cons_zero, List.set_cons_succ]
      refine wpAnyH_take (i := 10) (oi := { dst := some 51, op := Op.move (Operand.tmp 0), type := 48, pos := _, after := #[], guard := none }) (v := ?_) rfl (by kernel_rfl) (by kernel_rfl) (by kernel_rfl) (fun _ _ _ h => h) (Or.inl ⟨by rfl, ?_⟩) (by assumption) ?_
      rotate_left
      · ((intro w hSw); (try dsimp only at hSw); go_simp; (try with_reducible rfl))
      try simp only [Act.put, List.setIfInBounds_toArray, List.set_cons_zero, List.set_cons_succ]
      refine wpAnyH_take (i := 11) (oi := { dst := some 52, op := Op.nilCheck (Operand.tmp 51), type := 0, pos := _, after := #[{ on := 10, ground := Ground.data }], guard := none }) (v := ?_) rfl (by kernel_rfl) (by kernel_rfl) (by kernel_rfl) (fun _ _ _ h => h) (Or.inl ⟨by rfl, ?_⟩) (by assumption) ?_
      rotate_left
      · ((intro w hSw); (try dsimp only at hSw); go_simp; (try with_reducible rfl))
      try simp only [Act.put, List.setIfInBounds_toArray, List.set_cons_zero, List.set_cons_succ]
      refine wpAnyH_take (i := 12) (oi := { dst := some 53, op := Op.fieldAddr 51 (Operand.tmp 52) 1, type := 0, pos := _, after := #[{ on := 11, ground := Ground.data }], guard := none }) (v := ?_) rfl (by kernel_rfl) (by kernel_rfl) (by kernel_rfl) (fun _ _ _ h => h) (Or.inl ⟨by rfl, ?_⟩) (by assumption) ?_
      rotate_left
      · ((intro w hSw); (try dsimp only at hSw); go_simp; (try with_reducible rfl))
      try simp only [Act.put, List.setIfInBounds_toArray, List.set_cons_zero, List.set_cons_succ]
      refine wpAnyH_take (i := 13) (oi := { dst := some 54, op := Op.load 3 (Operand.tmp 53), type := 3, pos := _, after := #[{ on := 12, ground := Ground.data }], guard := none }) (v := ?_) rfl (by kernel_rfl) (by kernel_rfl) (by kernel_rfl) (fun _ _ _ h => h) (Or.inl ⟨by rfl, ?_⟩) (by assumption) ?_
      rotate_left
      · ((intro w hSw); (try dsimp only at hSw); go_simp; (try with_reducible rfl))
      try simp only [Act.put, List.setIfInBounds_toArray, List.set_cons_zero, List.set_cons_succ]
      refine wpAnyH_take (i := 14) (oi := { dst := some 55, op := Op.slice 23 (Operand.tmp 44) (some (Operand.tmp 50)) (some (Operand.tmp 54)) none, type := 23, pos := _, after := #[{ on := 3, ground := Ground.data }, { on := 9, ground := Ground.data }, { on := 13, ground := Ground.data }], guard := none }) (v := ?_) rfl (by kernel_rfl) (by kernel_rfl) (by kernel_rfl) (fun _ _ _ h => h) (Or.inl ⟨by rfl, ?_⟩) (by assumption) ?_
      rotate_left
      · ((intro w hSw); (try dsimp only at hSw); go_simp; (try with_reducible rfl))
      try simp only [Act.put, List.setIfInBounds_toArray, List.set_cons_zero, List.set_cons_succ]
      refine wpAnyH_ready (rs := [15]) (by kernel_rfl) (by simp) ?_
      refine (AllReadyH.cons (o := { dst := some 56, op := Op.call { callee := Callee.value (Operand.func 29), args := #[Operand.tmp 55], argTypes := #[23] }, type := 23, pos := _, after := #[{ on := 14, ground := Ground.data }], guard := none }) rfl (fun K hK => ?_) AllReadyH.nil)
      go_simp
      (refine HCC.out.mono ?_; rintro e w10 ⟨v, rfl, hown, hb10⟩; obtain ⟨a3, cap3, rfl, hcap3, hs3, hin3⟩ := row_sl hown; have k0 := cell_then hb10 (Nat.le_refl _) (past_drew d0); have k1 := cell_then hb10 (Nat.le_refl _) (past_drew d1))
      go_wp2_with fail
      refine hK.out _ _ ?_ (fun hHeld => ?_)
      · ((try dsimp only); exact ⟨k0, k1⟩)
      clear hK K
      try simp only [Act.put, List.setIfInBounds_toArray, List.set_cons_zero, List.set_cons_succ]
      refine wpAnyH_take (i := 16) (oi := { dst := some 4, op := Op.assign (Operand.tmp 56), type := 23, pos := _, after := #[{ on := 15, ground := Ground.data }, { on := 15, ground := Ground.chain }, { on := 0, ground := Ground.phase }, { on := 1, ground := Ground.phase }, { on := 2, ground := Ground.phase }, { on := 3, ground := Ground.phase }, { on := 4, ground := Ground.phase }, { on := 5, ground := Ground.phase }, { on := 6, ground := Ground.phase }, { on := 7, ground := Ground.phase }, { on := 8, ground := Ground.phase }, { on := 9, ground := Ground.phase }, { on := 10, ground := Ground.phase }, { on := 11, ground := Ground.phase }, { on := 12, ground := Ground.phase }, { on := 13, ground := Ground.phase }, { on := 14, ground := Ground.phase }, { on := 15, ground := Ground.phase }], guard := none }) (v := ?_) rfl (by kernel_rfl) (by kernel_rfl) (by kernel_rfl) (fun _ _ _ h => h) (Or.inl ⟨by rfl, ?_⟩) (by assumption) ?_
      rotate_left
      · ((intro w hSw); (try dsimp only at hSw); go_simp; (try with_reducible rfl))
      try simp only [Act.put, List.setIfInBounds_toArray, List.set_cons_zero, List.set_cons_succ]
      refine wpAnyH_done (by kernel_rfl) ?_ _
      have HQ := Lib.hid (Rq.then_ (show Rq w9.drew p _ from HR9.out) hb10)
      have HG10 := Lib.hid (grown_trans (grown_drew1 HG9.out) (grown_below hb10 (some p)))
      have HIN : Hid (∀ x, a3 = some x → w.heap.size ≤ x.block ∧ x.block ≠ p) := Lib.hid (fun x hx => by have h1 := (hin3 x hx).1; have h2 : w.heap.size ≤ w9.heap.size := HG9.out.size; have h3 : p < w9.heap.size := HR9.out.lt; have h4 : w9.drew.heap.size = w9.heap.size := rfl; omega)
      have HS3 := Lib.hid hs3
      clear hown hb10 hs3 hin3 k0 k1 d0 d1
      go_wp2
      go_ret
      exact ⟨a3, cap3, by rw [hml]; rfl, hcap3, HS3.out, HIN.out, HQ.out, HG10.out⟩
    · rw [if_neg t3] at HCC
      refine wp_region_held_drew (S := (fun W => W.cell? ⟨p, 0, none⟩ = some (.slice (some x) l.length rcap) ∧ W.cell? ⟨p, 1, none⟩ = some (.int .i64 ((at_ : Int) + (n : Int))))) (by kernel_rfl) ?_ (fun hHeld => ?_)
      · ((try dsimp only); exact ⟨past_drew d0, past_drew d1⟩)
      refine wpAnyH_take (i := 0) (oi := { dst := some 41, op := Op.move (Operand.tmp 0), type := 48, pos := _, after := #[], guard := none }) (v := ?_) rfl (by kernel_rfl) (by kernel_rfl) (by kernel_rfl) (fun _ _ _ h => h) (Or.inl ⟨by rfl, ?_⟩) (by assumption) ?_
      rotate_left
      · ((intro w hSw); (try dsimp only at hSw); go_simp; (try with_reducible rfl))
      try simp only [Act.put, List.setIfInBounds_toArray, List.set_cons_zero, List.set_cons_succ]
      refine wpAnyH_take (i := 1) (oi := { dst := some 42, op := Op.nilCheck (Operand.tmp 41), type := 0, pos := _, after := #[{ on := 0, ground := Ground.data }], guard := none }) (v := ?_) rfl (by kernel_rfl) (by kernel_rfl) (by kernel_rfl) (fun _ _ _ h => h) (Or.inl ⟨by rfl, ?_⟩) (by assumption) ?_
      rotate_left
      · ((intro w hSw); (try dsimp only at hSw); go_simp; (try with_reducible rfl))
      try simp only [Act.put, List.setIfInBounds_toArray, List.set_cons_zero, List.set_cons_succ]
      refine wpAnyH_take (i := 2) (oi := { dst := some 43, op := Op.fieldAddr 51 (Operand.tmp 42) 0, type := 0, pos := _, after := #[{ on := 1, ground := Ground.data }], guard := none }) (v := ?_) rfl (by kernel_rfl) (by kernel_rfl) (by kernel_rfl) (fun _ _ _ h => h) (Or.inl ⟨by rfl, ?_⟩) (by assumption) ?_
      rotate_left
      · ((intro w hSw); (try dsimp only at hSw); go_simp; (try with_reducible rfl))
      try simp only [Act.put, List.setIfInBounds_toArray, List.set_cons_zero, List.set_cons_succ]
      refine wpAnyH_take (i := 3) (oi := { dst := some 44, op := Op.load 23 (Operand.tmp 43), type := 23, pos := _, after := #[{ on := 2, ground := Ground.data }], guard := none }) (v := ?_) rfl (by kernel_rfl) (by kernel_rfl) (by kernel_rfl) (fun _ _ _ h => h) (Or.inl ⟨by rfl, ?_⟩) (by assumption) ?_
      rotate_left
      · ((intro w hSw); (try dsimp only at hSw); go_simp; (try with_reducible rfl))
      try simp only [Act.put, List.setIfInBounds_toArray, List.set_cons_zero, List.set_cons_succ]
      refine wpAnyH_take (i := 4) (oi := { dst := some 45, op := Op.move (Operand.tmp 0), type := 48, pos := _, after := #[], guard := none }) (v := ?_) rfl (by kernel_rfl) (by kernel_rfl) (by kernel_rfl) (fun _ _ _ h => h) (Or.inl ⟨by rfl, ?_⟩) (by assumption) ?_
      rotate_left
      · ((intro w hSw); (try dsimp only at hSw); go_simp; (try with_reducible rfl))
      try simp only [Act.put, List.setIfInBounds_toArray, List.set_cons_zero, List.set_cons_succ]
      refine wpAnyH_take (i := 5) (oi := { dst := some 46, op := Op.nilCheck (Operand.tmp 45), type := 0, pos := _, after := #[{ on := 4, ground := Ground.data }], guard := none }) (v := ?_) rfl (by kernel_rfl) (by kernel_rfl) (by kernel_rfl) (fun _ _ _ h => h) (Or.inl ⟨by rfl, ?_⟩) (by assumption) ?_
      rotate_left
      · ((intro w hSw); (try dsimp only at hSw); go_simp; (try with_reducible rfl))
      try simp only [Act.put, List.setIfInBounds_toArray, List.set_cons_zero, List.set_cons_succ]
      refine wpAnyH_take (i := 6) (oi := { dst := some 47, op := Op.fieldAddr 51 (Operand.tmp 46) 1, type := 0, pos := _, after := #[{ on := 5, ground := Ground.data }], guard := none }) (v := ?_) rfl (by kernel_rfl) (by kernel_rfl) (by kernel_rfl) (fun _ _ _ h => h) (Or.inl ⟨by rfl, ?_⟩) (by assumption) ?_
      rotate_left
      · ((intro w hSw); (try dsimp only at hSw); go_simp; (try with_reducible rfl))
      try simp only [Act.put, List.setIfInBounds_toArray, List.set_cons_zero, List.set_cons_succ]
      refine wpAnyH_take (i := 7) (oi := { dst := some 48, op := Op.load 3 (Operand.tmp 47), type := 3, pos := _, after := #[{ on := 6, ground := Ground.data }], guard := none }) (v := ?_) rfl (by kernel_rfl) (by kernel_rfl) (by kernel_rfl) (fun _ _ _ h => h) (Or.inl ⟨by rfl, ?_⟩) (by assumption) ?_
      rotate_left
      · ((intro w hSw); (try dsimp only at hSw); go_simp; (try with_reducible rfl))
      try simp only [Act.put, List.setIfInBounds_toArray, List.set_cons_zero, List.set_cons_succ]
      refine wpAnyH_take (i := 8) (oi := { dst := some 49, op := Op.move (Operand.tmp 1), type := 3, pos := _, after := #[], guard := none }) (v := ?_) rfl (by kernel_rfl) (by kernel_rfl) (by kernel_rfl) (fun _ _ _ h => h) (Or.inl ⟨by rfl, ?_⟩) (by assumption) ?_
      rotate_left
      · ((intro w hSw); (try dsimp only at hSw); go_simp; (try with_reducible rfl))
      try simp only [Act.put, List.setIfInBounds_toArray, List.set_cons_zero, List.set_cons_succ]
      refine wpAnyH_take (i := 9) (oi := { dst := some 50, op := Op.binOp BinOp.sub 3 (Operand.tmp 48) (Operand.tmp 49) 3, type := 3, pos := _, after := #[{ on := 7, ground := Ground.data }, { on := 8, ground := Ground.data }], guard := none }) (v := ?_) rfl (by kernel_rfl) (by kernel_rfl) (by kernel_rfl) (fun _ _ _ h => h) (Or.inl ⟨by rfl, ?_⟩) (by assumption) ?_
      rotate_left
      · ((intro w hSw); (try dsimp only at hSw); go_simp; (try with_reducible rfl))
      try simp only [Act.put, List.setIfInBounds_toArray, List.set_cons_zero, List.set_cons_succ]
      refine wpAnyH_take (i := 10) (oi := { dst := some 51, op := Op.move (Operand.tmp 0), type := 48, pos := _, after := #[], guard := none }) (v := ?_) rfl (by kernel_rfl) (by kernel_rfl) (by kernel_rfl) (fun _ _ _ h => h) (Or.inl ⟨by rfl, ?_⟩) (by assumption) ?_
      rotate_left
      · ((intro w hSw); (try dsimp only at hSw); go_simp; (try with_reducible rfl))
      try simp only [Act.put, List.setIfInBounds_toArray, List.set_cons_zero, List.set_cons_succ]
      refine wpAnyH_take (i := 11) (oi := { dst := some 52, op := Op.nilCheck (Operand.tmp 51), type := 0, pos := _, after := #[{ on := 10, ground := Ground.data }], guard := none }) (v := ?_) rfl (by kernel_rfl) (by kernel_rfl) (by kernel_rfl) (fun _ _ _ h => h) (Or.inl ⟨by rfl, ?_⟩) (by assumption) ?_
      rotate_left
      · ((intro w hSw); (try dsimp only at hSw); go_simp; (try with_reducible rfl))
      try simp only [Act.put, List.setIfInBounds_toArray, List.set_cons_zero, List.set_cons_succ]
      refine wpAnyH_take (i := 12) (oi := { dst := some 53, op := Op.fieldAddr 51 (Operand.tmp 52) 1, type := 0, pos := _, after := #[{ on := 11, ground := Ground.data }], guard := none }) (v := ?_) rfl (by kernel_rfl) (by kernel_rfl) (by kernel_rfl) (fun _ _ _ h => h) (Or.inl ⟨by rfl, ?_⟩) (by assumption) ?_
      rotate_left
      · ((intro w hSw); (try dsimp only at hSw); go_simp; (try with_reducible rfl))
      try simp only [Act.put, List.setIfInBounds_toArray, List.set_cons_zero, List.set_cons_succ]
      refine wpAnyH_take (i := 13) (oi := { dst := some 54, op := Op.load 3 (Operand.tmp 53), type := 3, pos := _, after := #[{ on := 12, ground := Ground.data }], guard := none }) (v := ?_) rfl (by kernel_rfl) (by kernel_rfl) (by kernel_rfl) (fun _ _ _ h => h) (Or.inl ⟨by rfl, ?_⟩) (by assumption) ?_
      rotate_left
      · ((intro w hSw); (try dsimp only at hSw); go_simp; (try with_reducible rfl))
      try simp only [Act.put, List.setIfInBounds_toArray, List.set_cons_zero, List.set_cons_succ]
      refine wpAnyH_take (i := 14) (oi := { dst := some 55, op := Op.slice 23 (Operand.tmp 44) (some (Operand.tmp 50)) (some (Operand.tmp 54)) none, type := 23, pos := _, after := #[{ on := 3, ground := Ground.data }, { on := 9, ground := Ground.data }, { on := 13, ground := Ground.data }], guard := none }) (v := ?_) rfl (by kernel_rfl) (by kernel_rfl) (by kernel_rfl) (fun _ _ _ h => h) (Or.inl ⟨by rfl, ?_⟩) (by assumption) ?_
      rotate_left
      · ((intro w hSw); (try dsimp only at hSw); go_simp; (try with_reducible rfl))
      try simp only [Act.put, List.setIfInBounds_toArray, List.set_cons_zero, List.set_cons_succ]
      refine wpAnyH_ready (rs := [15]) (by kernel_rfl) (by simp) ?_
      refine (AllReadyH.cons (o := { dst := some 56, op := Op.call { callee := Callee.value (Operand.func 29), args := #[Operand.tmp 55], argTypes := #[23] }, type := 23, pos := _, after := #[{ on := 14, ground := Ground.data }], guard := none }) rfl (fun K hK => ?_) AllReadyH.nil)
      go_simp
      (refine HCC.out.mono ?_; rintro e w10 ⟨v, rfl, hown, hb10⟩; obtain ⟨a3, cap3, rfl, hcap3, hs3, hin3⟩ := row_sl hown; have k0 := cell_then hb10 (Nat.le_refl _) (past_drew d0); have k1 := cell_then hb10 (Nat.le_refl _) (past_drew d1))
      go_wp2_with fail
      refine hK.out _ _ ?_ (fun hHeld => ?_)
      · ((try dsimp only); exact ⟨k0, k1⟩)
      clear hK K
      try simp only [Act.put, List.setIfInBounds_toArray, List.set_cons_zero, List.set_cons_succ]
      refine wpAnyH_take (i := 16) (oi := { dst := some 4, op := Op.assign (Operand.tmp 56), type := 23, pos := _, after := #[{ on := 15, ground := Ground.data }, { on := 15, ground := Ground.chain }, { on := 0, ground := Ground.phase }, { on := 1, ground := Ground.phase }, { on := 2, ground := Ground.phase }, { on := 3, ground := Ground.phase }, { on := 4, ground := Ground.phase }, { on := 5, ground := Ground.phase }, { on := 6, ground := Ground.phase }, { on := 7, ground := Ground.phase }, { on := 8, ground := Ground.phase }, { on := 9, ground := Ground.phase }, { on := 10, ground := Ground.phase }, { on := 11, ground := Ground.phase }, { on := 12, ground := Ground.phase }, { on := 13, ground := Ground.phase }, { on := 14, ground := Ground.phase }, { on := 15, ground := Ground.phase }], guard := none }) (v := ?_) rfl (by kernel_rfl) (by kernel_rfl) (by kernel_rfl) (fun _ _ _ h => h) (Or.inl ⟨by rfl, ?_⟩) (by assumption) ?_
      rotate_left
      · ((intro w hSw); (try dsimp only at hSw); go_simp; (try with_reducible rfl))
      try simp only [Act.put, List.setIfInBounds_toArray, List.set_cons_zero, List.set_cons_succ]
      refine wpAnyH_done (by kernel_rfl) ?_ _
      have HQ := Lib.hid (Rq.then_ (show Rq w9.drew p _ from HR9.out) hb10)
      have HG10 := Lib.hid (grown_trans (grown_drew1 HG9.out) (grown_below hb10 (some p)))
      have HIN : Hid (∀ x, a3 = some x → w.heap.size ≤ x.block ∧ x.block ≠ p) := Lib.hid (fun x hx => by have h1 := (hin3 x hx).1; have h2 : w.heap.size ≤ w9.heap.size := HG9.out.size; have h3 : p < w9.heap.size := HR9.out.lt; have h4 : w9.drew.heap.size = w9.heap.size := rfl; omega)
      have HS3 := Lib.hid hs3
      clear hown hb10 hs3 hin3 k0 k1 d0 d1
      go_wp2
      go_ret
      exact ⟨a3, cap3, by rw [hml]; rfl, hcap3, HS3.out, HIN.out, HQ.out, HG10.out⟩
theorem raw_nil (r2 : Rdr) (hp : Rq w' p r2) (hg : w.grownBy w' (some p)) : RawR w p r2 [] (.returned (.slice none 0 0)) w' := ⟨none, 0, rfl, Nat.le_refl _, .inl rfl, (fun x hx => by cases hx), hp, hg⟩
set_option maxRecDepth 100000 in
theorem rawLongR (n : Nat) (hp : Rq w p r) (he : r.err = 0) (h1 : r.at_ ≤ r.len) (h2 : r.len ≤ 9223372036854775807) (h : r.len < r.at_ + n) : Calls Tryd.prog 23 #[.pointer (some ⟨p, 0, none⟩), .int .i64 (n : Int)] w (RawR w p { r with err := 3 } []) := by
  have HN := Lib.hid (fun w' h1 h2 => @raw_nil w w' p { r with err := 3 } h1 h2)
  have HP := Lib.hid (hp.set2 3)
  have HG := Lib.hid (grown_set (i := 2) (u := .int .i64 3) (grown_refl w (some p)))
  have c0 := hp.c0
  have c1 := hp.c1
  have c2 := hp.c2
  rw [he] at c2
  have f2 := hp.fz 2
  have b1 : decide ((n : Int) < 0) = false := decide_eq_false (by omega)
  have b2 : decide ((r.len : Int) - (r.at_ : Int) < (n : Int)) = true := decide_eq_true (by omega)
  have hw : IntKind.i64.wrap ((r.len : Int) - (r.at_ : Int)) = (r.len : Int) - (r.at_ : Int) := IntWalk.i64_in _ (by omega)
  clear hp he h h1 h2
  go_enter Tryd.func23, Tryd.ntmps23
  go_wp2
  go_quiet (fail)
  go_wp2
  go_ret
  exact HN.out _ (by exact HP.out) (grown_draw _ HG.out)
theorem sl_moved {l : List Nat} (h : By w r l) (hne : 0 < l.length → ∀ x, r.a = some x → x.block ≠ p) (hg : w.grownBy w' (some p)) : By w' r l := by
  refine ⟨h.len, ?_, h.cap, h.small, h.byte⟩
  rcases h.sl with h0 | ⟨b, off, ha, hc⟩
  · exact .inl h0
  · exact .inr ⟨b, off, ha, fun i hi => cell_grown hg (hne (by omega) _ ha) (hc i hi)⟩
end Go.Proofs.YtebfblpmihnndaaDoor.Jb
