/- WireReads: the walk. -/
import Derived.Test.YtlhapnnepcnfbaaDoorStOps
import Derived.Test.YtlhapnnepcnfbaaDoorArgB
import Derived.LoopTactic
set_option linter.unusedVariables false
namespace Go.Proofs.YtlhapnnepcnfbaaDoor.RdsW
open Go Go.RowKit Kit Crc Var Get Bytes WireFirst Ref3 Copy Rd RdA RdB RdC RdD RdE RqA RqB RqC StOps
open RdF (textN textC TextQ)

theorem below_next {w W W1 : World} (h : Below w.heap.size w W) (k : Below W.heap.size W W1) : Below w.heap.size w W1 := below_then h k h.size
variable {w w' w2 : World} {p q : Nat} {r : Rdr}
theorem rc_other (h : Rc w p r) (hg : w.grownBy w' (some q)) (hne : p ≠ q) : Rc w' p r := (hg.block p h.lt (fun e => hne (by injection e))).trans h
theorem rq_other (h : Rq w q r) (hg : w.grownBy w' (some p)) (hne : p ≠ q) : Rq w' q r := (hg.block q (Rq.lt h) (fun e => hne (by injection e with e; exact e.symm))).trans h
theorem by_q {r0 : Rdr} {l : List Nat} (hp : Rq w q r0) (h : By w r l) (hg : w.grownBy w' (some q)) : By w' r l := by
  refine ⟨h.len, ?_, h.cap, h.small, h.byte⟩
  rcases h.sl with h0 | ⟨b, off, ha, hc⟩
  · exact .inl h0
  · by_cases hl : l.length = 0
    · exact .inl (List.eq_nil_of_length_eq_zero hl)
    · right
      have hne : b ≠ q := by
        rintro rfl
        have h1 := hc 0 (by omega)
        have h' : w.heap[b]? = _ := hp
        simp [World.cell?, h'] at h1
        match off, h1 with
        | 0, h1 => simp at h1
        | 1, h1 => simp at h1
        | 2, h1 => simp at h1
        | n + 3, h1 => simp at h1
      exact ⟨b, off, ha, fun i hi => cell_grown hg hne (hc i hi)⟩
theorem sl_q {B p' : Nat} {a : Option Addr} {m : List Nat} (hs : Sl w a m) (hx : ∀ x, a = some x → B ≤ x.block ∧ x.block ≠ p') (hg : w.grownBy w' (some q)) (hq : q < B) : Sl w' a m := by
  rcases hs with h | ⟨b, off, h, hc⟩
  · exact .inl h
  · have h1 := (hx _ h).1
    exact .inr ⟨b, off, h, fun i hi => cell_grown hg (by simp only at h1; omega) (hc i hi)⟩
theorem by_to {r2 : Rdr} {l : List Nat} (h : By w r l) (h1 : r2.a = r.a) (h2 : r2.len = r.len) (h3 : r2.cap = r.cap) : By w r2 l := ⟨h2.trans h.len, by rw [h1]; exact h.sl, by rw [h2, h3]; exact h.cap, h.small, h.byte⟩
set_option maxRecDepth 100000 in
theorem walkOut (a : Option Addr) (len cap : Nat) (a2 : Option Addr) (len2 cap2 : Nat) (w : World) (hT : TabC w) (b1 b2 : Bool) (h1 : decide ((2000 : Int) < (len : Int)) = b1) (h2 : decide ((200 : Int) < (len2 : Int)) = b2) (hc : (b1 || b2) = true) :
    Calls Tryd.prog 12 #[.slice a len cap, .slice a2 len2 cap2] w fun e w' => e = .returned (.bool true) ∧ Below w.heap.size w w' := by
  have HF := Lib.hid (fun w h => first w h)
  have HT := Lib.hid hT
  clear hT
  have hcs : b1 = true ∨ (b1 = false ∧ b2 = true) := by revert hc; cases b1 <;> cases b2 <;> decide
  clear hc
  rcases hcs with rfl | ⟨rfl, rfl⟩
  all_goals
    go_enter Tryd.func12, Tryd.ntmps12
    go_wp2_with fail
    refine (HF.out _ HT.out).mono ?_
    rintro e w1 ⟨rfl, hb1⟩
    have HT1 := Lib.hid (tab_then hb1 (Nat.le_refl _) HT.out)
    go_wp2_with fail
    refine (HF.out _ HT1.out).mono ?_
    rintro e w2 ⟨rfl, hb2⟩
    go_wp2
    go_ret
    exact ⟨rfl, below_next hb1 hb2⟩
set_option maxRecDepth 100000 in
set_option maxHeartbeats 16000000 in
theorem main (a : Option Addr) (cap : Nat) (l : List Nat) (a2 : Option Addr) (N cap2 : Nat) (F : Nat → Int × Int) (w : World) (hT : TabC w) (hl : l.length ≤ 2000) (h8 : ∀ c ∈ l, c < 256) (hs : Sl w a l) (h0 : a = none → cap = 0) (hcap : l.length ≤ cap) (hblk : 0 < l.length → ∀ x, a = some x → x.block < w.heap.size)
    (hN : N ≤ 200) (hF : IsSteps w a2 N cap2 F) :
    Calls Tryd.prog 12 #[.slice a l.length cap, .slice a2 N cap2] w fun e w' => e = .returned (.bool true) ∧ Below w.heap.size w w' := by
  have b1 : decide ((2000 : Int) < (l.length : Int)) = false := decide_eq_false (by omega)
  have b2 : decide ((200 : Int) < (N : Int)) = false := decide_eq_false (by omega)
  have HF := Lib.hid (fun w h => first w h)
  have HT := Lib.hid hT
  have HST : Hid (∀ i, i < N → ∃ b off, a2 = some ⟨b, off, none⟩ ∧ b < w.heap.size ∧ w.cell? ⟨b, off + i * 2, none⟩ = some (.int .i64 (F i).1) ∧ w.cell? ⟨b, off + i * 2 + 1, none⟩ = some (.int .i64 (F i).2) ∧ -9223372036854775808 ≤ (F i).2 ∧ (F i).2 < 9223372036854775808) := Lib.hid (by
    intro i hi
    rcases hF.2.2 with h | ⟨b, off, rfl, h⟩
    · omega
    · obtain ⟨e0, e1, e2, e3⟩ := h i hi
      exact ⟨b, off, rfl, World.block_lt_of_cell? w _ e0, e0, e1, e2, e3⟩)
  have HNEW := Lib.hid (fun W (h : Sl W a l) => newC a cap l W (by omega) h8 h h0)
  have HBYB : Hid (∀ W, Below w.heap.size w W → ∀ at_ err, By W ⟨a, l.length, cap, at_, err⟩ l) := Lib.hid (fun W hW at_ err => ⟨rfl, sl_then hW (Nat.le_refl _) hs, hcap, by omega, h8⟩)
  have HS := Lib.hid hs
  have H0 := Lib.hid h0
  have H8 := Lib.hid h8
  have HBL := Lib.hid hblk
  have hl2 : l.length ≤ 9223372036854775807 := by omega
  have hl6 : l.length ≤ 1000000 := by omega
  clear hT hs h0 h8 hF hblk
  go_enter Tryd.func12, Tryd.ntmps12
  go_wp2_with fail
  refine (HF.out _ HT.out).mono ?_
  rintro e w1 ⟨rfl, hb1⟩
  have HNW := Lib.hid (HNEW.out w1 (sl_then hb1 (Nat.le_refl _) HS.out))
  go_wp2_with fail
  refine HNW.out.mono ?_
  rintro e w2 ⟨p, r, hpge, rfl, hRc, hat, herr, hBy, hb2⟩
  obtain ⟨ra, rl, rcap, rat, rerr⟩ := r
  simp only at hat herr
  subst hat
  subst herr
  obtain rfl : rl = l.length := hBy.len
  have hz1 := hb1.size
  have hz2 := hb2.size
  have hpl := hRc.lt
  have hpw : w.heap.size ≤ p := by omega
  have hal := (Below.refl w2.heap.size w2).alloc (Nat.le_refl _) (.cells #[.slice a l.length cap, .int .i64 0, .int .i64 0] 68)
  have hB3 := below_next (below_next hb1 hb2) hal
  have hRq : Rq (w2.alloc (.cells #[.slice a l.length cap, .int .i64 0, .int .i64 0] 68)) w2.heap.size ⟨a, l.length, cap, 0, 0⟩ := heap_alloc_new w2 _
  have hRc3 := hRc.then_ hal
  have hBy3 := hBy.then_ hal
  have hqw : w.heap.size ≤ w2.heap.size := by omega
  have hpq : p ≠ w2.heap.size := by omega
  generalize hw3 : w2.alloc (.cells #[.slice a l.length cap, .int .i64 0, .int .i64 0] 68) = w3 at *
  generalize hq : w2.heap.size = q at *
  have HS0 := Lib.hid (show ∃ (i at_ : Nat) (err : Int), i ≤ N ∧ Value.int .i64 0 = .int .i64 (i : Int) ∧ at_ ≤ l.length ∧ Rc w3 p ⟨ra, l.length, rcap, at_, err⟩ ∧ Rq w3 q ⟨a, l.length, cap, at_, err⟩ ∧ By w3 ⟨ra, l.length, rcap, 0, 0⟩ l ∧ Below w.heap.size w w3 from ⟨0, 0, 0, Nat.zero_le _, rfl, Nat.zero_le _, hRc3, hRq, hBy3, hB3⟩)
  have HQNE : Hid (0 < l.length → ∀ x, a = some x → x.block ≠ q) := Lib.hid (fun hlp x hx => by have := HBL.out hlp x hx; omega)
  clear hb1 hb2 hz1 hz2 hpl hal hB3 hRq hRc hRc3 hBy hBy3 hpge HNW HNEW
  go_wp2_with fail
  clear hw3 hq
  go_loopw [7] (fun s7 wr => ∃ (i at_ : Nat) (err : Int), i ≤ N ∧ s7 = .int .i64 (i : Int) ∧ at_ ≤ l.length ∧ Rc wr p ⟨ra, l.length, rcap, at_, err⟩ ∧ Rq wr q ⟨a, l.length, cap, at_, err⟩ ∧ By wr ⟨ra, l.length, rcap, 0, 0⟩ l ∧ Below w.heap.size w wr) (fun s7 _ => N - (intOf s7).toNat)
  case atStart => exact HS0.out
  case round =>
    clear HS0
    obtain ⟨i, at_, err, hi', rfl, hle, hRc, hRq, hBy, hW⟩ := hrel
    by_cases hlt : i < N
    · obtain ⟨sb, so, rfl, hsb, hc0, hc1, hn1, hn2⟩ := HST.out i hlt
      have k0 : wr.cell? ⟨sb, so + i * 2, none⟩ = some (.int .i64 (F i).1) := cell_then hW (Nat.le_refl _) hc0
      have k1 : wr.cell? ⟨sb, so + i * 2 + 1, none⟩ = some (.int .i64 (F i).2) := cell_then hW (Nat.le_refl _) hc1
      have hsp : sb ≠ p := by omega
      have hsq : sb ≠ q := by omega
      clear hc0 hc1
      generalize (F i).1 = kd at *
      generalize (F i).2 = nn at *
      have HRC := Lib.hid hRc
      have HRQ := Lib.hid hRq
      have HBY := Lib.hid hBy
      have HW := Lib.hid hW
      obtain ⟨M, hM⟩ : ∃ M : Nat, (M : Int) = nn % 18446744073709551616 := ⟨(nn % 18446744073709551616).toNat, by omega⟩
      have s1 : IntKind.u64.wrap nn = (M : Int) := by rw [IntKind.wrap_u64]; omega
      by_cases e0 : kd = 0
      · have d0 : (kd == 0) = true := by rw [e0]; rfl
        obtain ⟨V, at2, err2, hN1, hN2⟩ := num_eq l at_ err M
        have hat2 := hN2 hle
        have HP := Lib.hid (show ∀ W, Rc W p ⟨ra, l.length, rcap, at_, err⟩ → By W ⟨ra, l.length, rcap, 0, 0⟩ l → Calls Tryd.prog 46 #[.pointer (some ⟨p, 0, none⟩), .int .u64 (M : Int)] W (RdQ W p (V, ⟨ra, l.length, rcap, at2, err2⟩)) from fun W h1 h2 => by rw [← hN1]; exact numC M l h1 (by_to h2 rfl rfl rfl))
        have HQ := Lib.hid (show ∀ W, Rq W q ⟨a, l.length, cap, at_, err⟩ → By W ⟨a, l.length, cap, at_, err⟩ l → Calls Tryd.prog 47 #[.pointer (some ⟨q, 0, none⟩), .int .u64 (M : Int)] W (NumR W q (V, ⟨a, l.length, cap, at2, err2⟩)) from fun W h1 h2 => by rw [← hN1]; exact numR M l h1 h2)
        have u1 : ((V : Int) == V) = true := by simp
        clear e0 hN1 hN2 hM hRc hRq hBy hW hle hn1 hn2
        go_wp2_with fail
        refine wp_region_held_drew (S := (fun W => W.cell? ⟨sb, so + i * 2, none⟩ = some (.int .i64 kd) ∧ W.cell? ⟨sb, so + i * 2 + 1, none⟩ = some (.int .i64 nn))) (by kernel_rfl) ?_ (fun hHeld => ?_)
        · ((try dsimp only); exact ⟨past_drew k0, past_drew k1⟩)
        refine wpAnyH_take (i := 0) (oi := { dst := some 63, op := Op.move (Operand.tmp 5), type := 64, pos := _, after := #[], guard := none }) (v := ?_) rfl (by kernel_rfl) (by kernel_rfl) (by kernel_rfl) (fun _ _ _ h => h) (Or.inl ⟨by rfl, ?_⟩) (by assumption) ?_
        rotate_left
        · ((intro w hSw); (try dsimp only at hSw); go_simp; (try with_reducible rfl))
        try simp only [Act.put, List.setIfInBounds_toArray, List.set_cons_zero, List.set_cons_succ]
        refine wpAnyH_take (i := 1) (oi := { dst := some 64, op := Op.move (Operand.tmp 1), type := 63, pos := _, after := #[], guard := none }) (v := ?_) rfl (by kernel_rfl) (by kernel_rfl) (by kernel_rfl) (fun _ _ _ h => h) (Or.inl ⟨by rfl, ?_⟩) (by assumption) ?_
        rotate_left
        · ((intro w hSw); (try dsimp only at hSw); go_simp; (try with_reducible rfl))
        try simp only [Act.put, List.setIfInBounds_toArray, List.set_cons_zero, List.set_cons_succ]
        refine wpAnyH_take (i := 2) (oi := { dst := some 65, op := Op.move (Operand.tmp 7), type := 3, pos := _, after := #[], guard := none }) (v := ?_) rfl (by kernel_rfl) (by kernel_rfl) (by kernel_rfl) (fun _ _ _ h => h) (Or.inl ⟨by rfl, ?_⟩) (by assumption) ?_
        rotate_left
        · ((intro w hSw); (try dsimp only at hSw); go_simp; (try with_reducible rfl))
        try simp only [Act.put, List.setIfInBounds_toArray, List.set_cons_zero, List.set_cons_succ]
        refine wpAnyH_take (i := 3) (oi := { dst := some 66, op := Op.indexAddr 63 (Operand.tmp 64) (Operand.tmp 65), type := 0, pos := _, after := #[{ on := 1, ground := Ground.data }, { on := 2, ground := Ground.data }], guard := none }) (v := ?_) rfl (by kernel_rfl) (by kernel_rfl) (by kernel_rfl) (fun _ _ _ h => h) (Or.inl ⟨by rfl, ?_⟩) (by assumption) ?_
        rotate_left
        · ((intro w hSw); (try dsimp only at hSw); go_simp; (try with_reducible rfl))
        try simp only [Act.put, List.setIfInBounds_toArray, List.set_cons_zero, List.set_cons_succ]
        refine wpAnyH_take (i := 4) (oi := { dst := some 67, op := Op.fieldAddr 70 (Operand.tmp 66) 1, type := 0, pos := _, after := #[{ on := 3, ground := Ground.data }], guard := none }) (v := ?_) rfl (by kernel_rfl) (by kernel_rfl) (by kernel_rfl) (fun _ _ _ h => h) (Or.inl ⟨by rfl, ?_⟩) (by assumption) ?_
        rotate_left
        · ((intro w hSw); (try dsimp only at hSw); go_simp; (try with_reducible rfl))
        try simp only [Act.put, List.setIfInBounds_toArray, List.set_cons_zero, List.set_cons_succ]
        refine wpAnyH_take (i := 5) (oi := { dst := some 68, op := Op.load 3 (Operand.tmp 67), type := 3, pos := _, after := #[{ on := 4, ground := Ground.data }], guard := none }) (v := ?_) rfl (by kernel_rfl) (by kernel_rfl) (by kernel_rfl) (fun _ _ _ h => h) (Or.inl ⟨by rfl, ?_⟩) (by assumption) ?_
        rotate_left
        · ((intro w hSw); (try dsimp only at hSw); go_simp; (try with_reducible rfl))
        try simp only [Act.put, List.setIfInBounds_toArray, List.set_cons_zero, List.set_cons_succ]
        refine wpAnyH_take (i := 6) (oi := { dst := some 69, op := Op.convert 3 22 (Operand.tmp 68), type := 22, pos := _, after := #[{ on := 5, ground := Ground.data }], guard := none }) (v := ?_) rfl (by kernel_rfl) (by kernel_rfl) (by kernel_rfl) (fun _ _ _ h => h) (Or.inl ⟨by rfl, ?_⟩) (by assumption) ?_
        rotate_left
        · ((intro w hSw); (try dsimp only at hSw); go_simp; (try with_reducible rfl))
        try simp only [Act.put, List.setIfInBounds_toArray, List.set_cons_zero, List.set_cons_succ]
        refine wpAnyH_take (i := 8) (oi := { dst := some 71, op := Op.move (Operand.tmp 6), type := 66, pos := _, after := #[], guard := none }) (v := ?_) rfl (by kernel_rfl) (by kernel_rfl) (by kernel_rfl) (fun _ _ _ h => h) (Or.inl ⟨by rfl, ?_⟩) (by assumption) ?_
        rotate_left
        · ((intro w hSw); (try dsimp only at hSw); go_simp; (try with_reducible rfl))
        try simp only [Act.put, List.setIfInBounds_toArray, List.set_cons_zero, List.set_cons_succ]
        refine wpAnyH_take (i := 9) (oi := { dst := some 72, op := Op.move (Operand.tmp 1), type := 63, pos := _, after := #[], guard := none }) (v := ?_) rfl (by kernel_rfl) (by kernel_rfl) (by kernel_rfl) (fun _ _ _ h => h) (Or.inl ⟨by rfl, ?_⟩) (by assumption) ?_
        rotate_left
        · ((intro w hSw); (try dsimp only at hSw); go_simp; (try with_reducible rfl))
        try simp only [Act.put, List.setIfInBounds_toArray, List.set_cons_zero, List.set_cons_succ]
        refine wpAnyH_take (i := 10) (oi := { dst := some 73, op := Op.move (Operand.tmp 7), type := 3, pos := _, after := #[], guard := none }) (v := ?_) rfl (by kernel_rfl) (by kernel_rfl) (by kernel_rfl) (fun _ _ _ h => h) (Or.inl ⟨by rfl, ?_⟩) (by assumption) ?_
        rotate_left
        · ((intro w hSw); (try dsimp only at hSw); go_simp; (try with_reducible rfl))
        try simp only [Act.put, List.setIfInBounds_toArray, List.set_cons_zero, List.set_cons_succ]
        refine wpAnyH_take (i := 11) (oi := { dst := some 74, op := Op.indexAddr 63 (Operand.tmp 72) (Operand.tmp 73), type := 0, pos := _, after := #[{ on := 9, ground := Ground.data }, { on := 10, ground := Ground.data }], guard := none }) (v := ?_) rfl (by kernel_rfl) (by kernel_rfl) (by kernel_rfl) (fun _ _ _ h => h) (Or.inl ⟨by rfl, ?_⟩) (by assumption) ?_
        rotate_left
        · ((intro w hSw); (try dsimp only at hSw); go_simp; (try with_reducible rfl))
        try simp only [Act.put, List.setIfInBounds_toArray, List.set_cons_zero, List.set_cons_succ]
        refine wpAnyH_take (i := 12) (oi := { dst := some 75, op := Op.fieldAddr 70 (Operand.tmp 74) 1, type := 0, pos := _, after := #[{ on := 11, ground := Ground.data }], guard := none }) (v := ?_) rfl (by kernel_rfl) (by kernel_rfl) (by kernel_rfl) (fun _ _ _ h => h) (Or.inl ⟨by rfl, ?_⟩) (by assumption) ?_
        rotate_left
        · ((intro w hSw); (try dsimp only at hSw); go_simp; (try with_reducible rfl))
        try simp only [Act.put, List.setIfInBounds_toArray, List.set_cons_zero, List.set_cons_succ]
        refine wpAnyH_take (i := 13) (oi := { dst := some 76, op := Op.load 3 (Operand.tmp 75), type := 3, pos := _, after := #[{ on := 12, ground := Ground.data }], guard := none }) (v := ?_) rfl (by kernel_rfl) (by kernel_rfl) (by kernel_rfl) (fun _ _ _ h => h) (Or.inl ⟨by rfl, ?_⟩) (by assumption) ?_
        rotate_left
        · ((intro w hSw); (try dsimp only at hSw); go_simp; (try with_reducible rfl))
        try simp only [Act.put, List.setIfInBounds_toArray, List.set_cons_zero, List.set_cons_succ]
        refine wpAnyH_take (i := 14) (oi := { dst := some 77, op := Op.convert 3 22 (Operand.tmp 76), type := 22, pos := _, after := #[{ on := 13, ground := Ground.data }], guard := none }) (v := ?_) rfl (by kernel_rfl) (by kernel_rfl) (by kernel_rfl) (fun _ _ _ h => h) (Or.inl ⟨by rfl, ?_⟩) (by assumption) ?_
        rotate_left
        · ((intro w hSw); (try dsimp only at hSw); go_simp; (try with_reducible rfl))
        try simp only [Act.put, List.setIfInBounds_toArray, List.set_cons_zero, List.set_cons_succ]
        refine wpAnyH_ready (rs := [7]) (by kernel_rfl) (by simp) ?_
        refine (AllReadyH.cons (o := { dst := some 70, op := Op.call { callee := Callee.value (Operand.func 46), args := #[Operand.tmp 63, Operand.tmp 69], argTypes := #[64, 22] }, type := 22, pos := _, after := #[{ on := 0, ground := Ground.data }, { on := 6, ground := Ground.data }], guard := none }) rfl (fun K hK => ?_) AllReadyH.nil)
        go_simp
        (refine (HP.out _ (show Rc wr.drew p _ from HRC.out) ⟨HBY.out.len, HBY.out.sl, HBY.out.cap, HBY.out.small, HBY.out.byte⟩).mono ?_; rintro e w6 ⟨rfl, hc6, hg6⟩; have hq6 := rq_other (show Rq wr.drew q _ from HRQ.out) hg6 hpq; have hby6 := RdF.By.grown (show Rc wr.drew p _ from HRC.out) (show By wr.drew _ l from ⟨HBY.out.len, HBY.out.sl, HBY.out.cap, HBY.out.small, HBY.out.byte⟩) hg6; have hW6 := (show Below w.heap.size w wr.drew from HW.out.drew).grown hg6 HW.out.size (fun k hk => by cases hk; exact hpw))
        go_wp2_with fail
        refine hK.out _ _ ?_ (fun hHeld => ?_)
        · ((try dsimp only); exact ⟨cell_grown hg6 hsp (past_drew k0), cell_grown hg6 hsp (past_drew k1)⟩)
        clear hK K
        try simp only [Act.put, List.setIfInBounds_toArray, List.set_cons_zero, List.set_cons_succ]
        refine wpAnyH_ready (rs := [15]) (by kernel_rfl) (by simp) ?_
        refine (AllReadyH.cons (o := { dst := some 78, op := Op.call { callee := Callee.value (Operand.func 47), args := #[Operand.tmp 71, Operand.tmp 77], argTypes := #[66, 22] }, type := 22, pos := _, after := #[{ on := 8, ground := Ground.data }, { on := 14, ground := Ground.data }, { on := 7, ground := Ground.chain }], guard := none }) rfl (fun K hK => ?_) AllReadyH.nil)
        go_simp
        (refine (HQ.out _ hq6 (HBYB.out _ hW6 _ _)).mono ?_; rintro e w7 ⟨rfl, hq7, hg7⟩; have hc7 := rc_other hc6 hg7 hpq; have hby7 := by_q hq6 hby6 hg7; have hW7 := hW6.grown hg7 hW6.size (fun k hk => by cases hk; exact hqw))
        go_wp2_with fail
        refine hK.out _ _ ?_ (fun hHeld => ?_)
        · ((try dsimp only); exact ⟨cell_grown hg7 hsq (cell_grown hg6 hsp (past_drew k0)), cell_grown hg7 hsq (cell_grown hg6 hsp (past_drew k1))⟩)
        clear hK K
        try simp only [Act.put, List.setIfInBounds_toArray, List.set_cons_zero, List.set_cons_succ]
        refine wpAnyH_take (i := 16) (oi := { dst := some 79, op := Op.binOp BinOp.eql 22 (Operand.tmp 70) (Operand.tmp 78) 22, type := 4, pos := _, after := #[{ on := 7, ground := Ground.data }, { on := 15, ground := Ground.data }], guard := none }) (v := ?_) rfl (by kernel_rfl) (by kernel_rfl) (by kernel_rfl) (fun _ _ _ h => h) (Or.inl ⟨by rfl, ?_⟩) (by assumption) ?_
        rotate_left
        · ((intro w hSw); (try dsimp only at hSw); go_simp; (try with_reducible rfl))
        try simp only [Act.put, List.setIfInBounds_toArray, List.set_cons_zero, List.set_cons_succ]
        refine wpAnyH_take (i := 17) (oi := { dst := some 8, op := Op.assign (Operand.tmp 79), type := 4, pos := _, after := #[{ on := 16, ground := Ground.data }, { on := 15, ground := Ground.chain }, { on := 0, ground := Ground.phase }, { on := 1, ground := Ground.phase }, { on := 2, ground := Ground.phase }, { on := 3, ground := Ground.phase }, { on := 4, ground := Ground.phase }, { on := 5, ground := Ground.phase }, { on := 6, ground := Ground.phase }, { on := 7, ground := Ground.phase }, { on := 8, ground := Ground.phase }, { on := 9, ground := Ground.phase }, { on := 10, ground := Ground.phase }, { on := 11, ground := Ground.phase }, { on := 12, ground := Ground.phase }, { on := 13, ground := Ground.phase }, { on := 14, ground := Ground.phase }, { on := 15, ground := Ground.phase }, { on := 16, ground := Ground.phase }], guard := none }) (v := ?_) rfl (by kernel_rfl) (by kernel_rfl) (by kernel_rfl) (fun _ _ _ h => h) (Or.inl ⟨by rfl, ?_⟩) (by assumption) ?_
        rotate_left
        · ((intro w hSw); (try dsimp only at hSw); go_simp; (try with_reducible rfl))
        try simp only [Act.put, List.setIfInBounds_toArray, List.set_cons_zero, List.set_cons_succ]
        refine wpAnyH_done (by kernel_rfl) ?_ _
        have HC7 := Lib.hid hc7
        have HQ7 := Lib.hid hq7
        have HB7 := Lib.hid hby7
        have HW7 := Lib.hid hW7
        clear hc6 hq6 hby6 hW6 hg6 hc7 hq7 hby7 hW7 hg7 k0 k1
        have kq2 := Rq.c2 HQ7.out
        simp only at kq2
        have v1 : ((err2 : Int) != err2) = false := by simp
        have v2 : (((l.length : Int) - (at2 : Int)) != ((l.length : Int) - (at2 : Int))) = false := by simp
        go_wp2_with fail
        refine wp_region_held_drew (S := (fun W => W.cell? ⟨q, 2, none⟩ = some (.int .i64 err2))) (by kernel_rfl) ?_ (fun hHeld => ?_)
        · ((try dsimp only); exact kq2)
        refine wpAnyH_take (i := 0) (oi := { dst := some 97, op := Op.move (Operand.tmp 8), type := 4, pos := _, after := #[], guard := none }) (v := ?_) rfl (by kernel_rfl) (by kernel_rfl) (by kernel_rfl) (fun _ _ _ h => h) (Or.inl ⟨by rfl, ?_⟩) (by assumption) ?_
        rotate_left
        · ((intro w hSw); (try dsimp only at hSw); go_simp; (try with_reducible rfl))
        try simp only [Act.put, List.setIfInBounds_toArray, List.set_cons_zero, List.set_cons_succ]
        refine wpAnyH_take (i := 1) (oi := { dst := some 98, op := Op.unOp UnOp.not 4 (Operand.tmp 97), type := 4, pos := _, after := #[{ on := 0, ground := Ground.data }], guard := none }) (v := ?_) rfl (by kernel_rfl) (by kernel_rfl) (by kernel_rfl) (fun _ _ _ h => h) (Or.inl ⟨by rfl, ?_⟩) (by assumption) ?_
        rotate_left
        · ((intro w hSw); (try dsimp only at hSw); go_simp; (try with_reducible rfl))
        try simp only [Act.put, List.setIfInBounds_toArray, List.set_cons_zero, List.set_cons_succ]
        refine wpAnyH_take (i := 2) (oi := { dst := some 99, op := Op.move (Operand.tmp 98), type := 4, pos := _, after := #[{ on := 1, ground := Ground.data }], guard := none }) (v := ?_) rfl (by kernel_rfl) (by kernel_rfl) (by kernel_rfl) (fun _ _ _ h => h) (Or.inl ⟨by rfl, ?_⟩) (by assumption) ?_
        rotate_left
        · ((intro w hSw); (try dsimp only at hSw); go_simp; (try with_reducible rfl))
        try simp only [Act.put, List.setIfInBounds_toArray, List.set_cons_zero, List.set_cons_succ]
        refine wpAnyH_take (i := 3) (oi := { dst := some 100, op := Op.move (Operand.tmp 5), type := 64, pos := _, after := #[{ on := 2, ground := Ground.guard }], guard := some (2, false) }) (v := ?_) rfl (by kernel_rfl) (by kernel_rfl) (by kernel_rfl) (fun _ _ _ h => h) (Or.inl ⟨by rfl, ?_⟩) (by assumption) ?_
        rotate_left
        · ((intro w hSw); (try dsimp only at hSw); go_simp; (try with_reducible rfl))
        try simp only [Act.put, List.setIfInBounds_toArray, List.set_cons_zero, List.set_cons_succ]
        refine wpAnyH_take (i := 5) (oi := { dst := some 102, op := Op.move (Operand.tmp 6), type := 66, pos := _, after := #[{ on := 2, ground := Ground.guard }], guard := some (2, false) }) (v := ?_) rfl (by kernel_rfl) (by kernel_rfl) (by kernel_rfl) (fun _ _ _ h => h) (Or.inl ⟨by rfl, ?_⟩) (by assumption) ?_
        rotate_left
        · ((intro w hSw); (try dsimp only at hSw); go_simp; (try with_reducible rfl))
        try simp only [Act.put, List.setIfInBounds_toArray, List.set_cons_zero, List.set_cons_succ]
        refine wpAnyH_take (i := 6) (oi := { dst := some 103, op := Op.nilCheck (Operand.tmp 102), type := 0, pos := _, after := #[{ on := 5, ground := Ground.data }, { on := 2, ground := Ground.guard }], guard := some (2, false) }) (v := ?_) rfl (by kernel_rfl) (by kernel_rfl) (by kernel_rfl) (fun _ _ _ h => h) (Or.inl ⟨by rfl, ?_⟩) (by assumption) ?_
        rotate_left
        · ((intro w hSw); (try dsimp only at hSw); go_simp; (try with_reducible rfl))
        try simp only [Act.put, List.setIfInBounds_toArray, List.set_cons_zero, List.set_cons_succ]
        refine wpAnyH_take (i := 7) (oi := { dst := some 104, op := Op.fieldAddr 68 (Operand.tmp 103) 2, type := 0, pos := _, after := #[{ on := 6, ground := Ground.data }, { on := 2, ground := Ground.guard }], guard := some (2, false) }) (v := ?_) rfl (by kernel_rfl) (by kernel_rfl) (by kernel_rfl) (fun _ _ _ h => h) (Or.inl ⟨by rfl, ?_⟩) (by assumption) ?_
        rotate_left
        · ((intro w hSw); (try dsimp only at hSw); go_simp; (try with_reducible rfl))
        try simp only [Act.put, List.setIfInBounds_toArray, List.set_cons_zero, List.set_cons_succ]
        refine wpAnyH_take (i := 8) (oi := { dst := some 105, op := Op.load 27 (Operand.tmp 104), type := 27, pos := _, after := #[{ on := 7, ground := Ground.data }, { on := 2, ground := Ground.guard }], guard := some (2, false) }) (v := ?_) rfl (by kernel_rfl) (by kernel_rfl) (by kernel_rfl) (fun _ _ _ h => h) (Or.inl ⟨by rfl, ?_⟩) (by assumption) ?_
        rotate_left
        · ((intro w hSw); (try dsimp only at hSw); go_simp; (try with_reducible rfl))
        try simp only [Act.put, List.setIfInBounds_toArray, List.set_cons_zero, List.set_cons_succ]
        refine wpAnyH_ready (rs := [4]) (by kernel_rfl) (by simp) ?_
        refine (AllReadyH.cons (o := { dst := some 101, op := Op.call { callee := Callee.value (Operand.func 52), args := #[Operand.tmp 100], argTypes := #[64] }, type := 27, pos := _, after := #[{ on := 3, ground := Ground.data }, { on := 2, ground := Ground.chain }, { on := 2, ground := Ground.guard }], guard := some (2, false) }) rfl (fun K hK => ?_) AllReadyH.nil)
        go_simp
        (refine (errC (show Rc w7.drew p _ from HC7.out)).mono ?_; rintro e x1 ⟨rfl, rfl⟩)
        go_wp2_with fail
        refine hK.out _ _ ?_ (fun hHeld => ?_)
        · ((try dsimp only); exact kq2)
        clear hK K
        try simp only [Act.put, List.setIfInBounds_toArray, List.set_cons_zero, List.set_cons_succ]
        refine wpAnyH_take (i := 9) (oi := { dst := some 106, op := Op.binOp BinOp.neq 27 (Operand.tmp 101) (Operand.tmp 105) 27, type := 4, pos := _, after := #[{ on := 4, ground := Ground.data }, { on := 8, ground := Ground.data }, { on := 2, ground := Ground.guard }], guard := some (2, false) }) (v := ?_) rfl (by kernel_rfl) (by kernel_rfl) (by kernel_rfl) (fun _ _ _ h => h) (Or.inl ⟨by rfl, ?_⟩) (by assumption) ?_
        rotate_left
        · ((intro w hSw); (try dsimp only at hSw); go_simp; (try with_reducible rfl))
        try simp only [Act.put, List.setIfInBounds_toArray, List.set_cons_zero, List.set_cons_succ]
        refine wpAnyH_take (i := 10) (oi := { dst := some 107, op := Op.pick (Operand.tmp 99) (Operand.const (Value.bool true)) (Operand.tmp 106), type := 4, pos := _, after := #[{ on := 2, ground := Ground.data }, { on := 9, ground := Ground.data }], guard := none }) (v := ?_) rfl (by kernel_rfl) (by kernel_rfl) (by kernel_rfl) (fun _ _ _ h => h) (Or.inl ⟨by rfl, ?_⟩) (by assumption) ?_
        rotate_left
        · ((intro w hSw); (try dsimp only at hSw); go_simp; (try with_reducible rfl))
        try simp only [Act.put, List.setIfInBounds_toArray, List.set_cons_zero, List.set_cons_succ]
        refine wpAnyH_take (i := 11) (oi := { dst := some 108, op := Op.move (Operand.tmp 107), type := 4, pos := _, after := #[{ on := 10, ground := Ground.data }, { on := 4, ground := Ground.chain }], guard := none }) (v := ?_) rfl (by kernel_rfl) (by kernel_rfl) (by kernel_rfl) (fun _ _ _ h => h) (Or.inl ⟨by rfl, ?_⟩) (by assumption) ?_
        rotate_left
        · ((intro w hSw); (try dsimp only at hSw); go_simp; (try with_reducible rfl))
        try simp only [Act.put, List.setIfInBounds_toArray, List.set_cons_zero, List.set_cons_succ]
        refine wpAnyH_take (i := 12) (oi := { dst := some 109, op := Op.move (Operand.tmp 5), type := 64, pos := _, after := #[{ on := 11, ground := Ground.guard }], guard := some (11, false) }) (v := ?_) rfl (by kernel_rfl) (by kernel_rfl) (by kernel_rfl) (fun _ _ _ h => h) (Or.inl ⟨by rfl, ?_⟩) (by assumption) ?_
        rotate_left
        · ((intro w hSw); (try dsimp only at hSw); go_simp; (try with_reducible rfl))
        try simp only [Act.put, List.setIfInBounds_toArray, List.set_cons_zero, List.set_cons_succ]
        refine wpAnyH_take (i := 14) (oi := { dst := some 111, op := Op.move (Operand.tmp 6), type := 66, pos := _, after := #[{ on := 11, ground := Ground.guard }], guard := some (11, false) }) (v := ?_) rfl (by kernel_rfl) (by kernel_rfl) (by kernel_rfl) (fun _ _ _ h => h) (Or.inl ⟨by rfl, ?_⟩) (by assumption) ?_
        rotate_left
        · ((intro w hSw); (try dsimp only at hSw); go_simp; (try with_reducible rfl))
        try simp only [Act.put, List.setIfInBounds_toArray, List.set_cons_zero, List.set_cons_succ]
        refine wpAnyH_ready (rs := [13]) (by kernel_rfl) (by simp) ?_
        refine (AllReadyH.cons (o := { dst := some 110, op := Op.call { callee := Callee.value (Operand.func 53), args := #[Operand.tmp 109], argTypes := #[64] }, type := 3, pos := _, after := #[{ on := 12, ground := Ground.data }, { on := 11, ground := Ground.chain }, { on := 11, ground := Ground.guard }], guard := some (11, false) }) rfl (fun K hK => ?_) AllReadyH.nil)
        go_simp
        (refine (leftC (show Rc w7.drew p _ from HC7.out) hat2 hl2).mono ?_; rintro e x2 ⟨rfl, n1, rfl⟩)
        go_wp2_with fail
        refine hK.out _ _ ?_ (fun hHeld => ?_)
        · ((try dsimp only); exact kq2)
        clear hK K
        try simp only [Act.put, List.setIfInBounds_toArray, List.set_cons_zero, List.set_cons_succ]
        refine wpAnyH_ready (rs := [15]) (by kernel_rfl) (by simp) ?_
        refine (AllReadyH.cons (o := { dst := some 112, op := Op.call { callee := Callee.value (Operand.func 54), args := #[Operand.tmp 111], argTypes := #[66] }, type := 3, pos := _, after := #[{ on := 14, ground := Ground.data }, { on := 13, ground := Ground.chain }, { on := 11, ground := Ground.guard }], guard := some (11, false) }) rfl (fun K hK => ?_) AllReadyH.nil)
        go_simp
        (refine (leftR (show Rq (w7.drewN (1 + n1)) q _ from HQ7.out) hat2 hl2).mono ?_; rintro e x3 ⟨rfl, n2, rfl⟩)
        go_wp2_with fail
        refine hK.out _ _ ?_ (fun hHeld => ?_)
        · ((try dsimp only); exact kq2)
        clear hK K
        try simp only [Act.put, List.setIfInBounds_toArray, List.set_cons_zero, List.set_cons_succ]
        refine wpAnyH_take (i := 16) (oi := { dst := some 113, op := Op.binOp BinOp.neq 3 (Operand.tmp 110) (Operand.tmp 112) 3, type := 4, pos := _, after := #[{ on := 13, ground := Ground.data }, { on := 15, ground := Ground.data }, { on := 11, ground := Ground.guard }], guard := some (11, false) }) (v := ?_) rfl (by kernel_rfl) (by kernel_rfl) (by kernel_rfl) (fun _ _ _ h => h) (Or.inl ⟨by rfl, ?_⟩) (by assumption) ?_
        rotate_left
        · ((intro w hSw); (try dsimp only at hSw); go_simp; (try with_reducible rfl))
        try simp only [Act.put, List.setIfInBounds_toArray, List.set_cons_zero, List.set_cons_succ]
        refine wpAnyH_take (i := 17) (oi := { dst := some 114, op := Op.pick (Operand.tmp 108) (Operand.const (Value.bool true)) (Operand.tmp 113), type := 4, pos := _, after := #[{ on := 11, ground := Ground.data }, { on := 16, ground := Ground.data }], guard := none }) (v := ?_) rfl (by kernel_rfl) (by kernel_rfl) (by kernel_rfl) (fun _ _ _ h => h) (Or.inl ⟨by rfl, ?_⟩) (by assumption) ?_
        rotate_left
        · ((intro w hSw); (try dsimp only at hSw); go_simp; (try with_reducible rfl))
        try simp only [Act.put, List.setIfInBounds_toArray, List.set_cons_zero, List.set_cons_succ]
        refine wpAnyH_done (by kernel_rfl) ?_ _
        go_wp2
        go_roundw
        case rel => exact ⟨i + 1, at2, err2, by omega, by go_num, hat2, HC7.out, HQ7.out, ⟨HB7.out.len, HB7.out.sl, HB7.out.cap, HB7.out.small, HB7.out.byte⟩, ⟨HW7.out.os, HW7.out.tape, HW7.out.output, HW7.out.size, HW7.out.block⟩⟩
        case measure => simp [intOf]; omega
      · have d0 : (kd == 0) = false := by simpa using e0
        by_cases e1 : kd = 1
        · have d1 : (kd == 1) = true := by rw [e1]; rfl
          obtain ⟨m, at2, err2, hN1, hN2, hN3⟩ := raw_eq l at_ err nn
          have hat2 := hN2 hle
          have HM8 : Hid (∀ c ∈ m, c < 256) := Lib.hid (fun c hc => H8.out c (hN3 c hc))
          have HP := Lib.hid (show ∀ W, Rc W p ⟨ra, l.length, rcap, at_, err⟩ → By W ⟨ra, l.length, rcap, 0, 0⟩ l → Calls Tryd.prog 48 #[.pointer (some ⟨p, 0, none⟩), .int .i64 nn] W (RawQ W p ⟨ra, l.length, rcap, at2, err2⟩ m) from fun W h1 h2 => by
            have h := rawC nn l h1 (by_to h2 rfl rfl rfl) hle hl6
            rw [hN1] at h; exact h)
          have HQ := Lib.hid (show ∀ W, Rq W q ⟨a, l.length, cap, at_, err⟩ → By W ⟨a, l.length, cap, at_, err⟩ l → Calls Tryd.prog 49 #[.pointer (some ⟨q, 0, none⟩), .int .i64 nn] W (RawR W q ⟨a, l.length, cap, at2, err2⟩ m) from fun W h1 h2 => by
            have h := rawR nn l h1 h2 hle hl6 H0.out HQNE.out
            rw [hN1] at h; exact h)
          clear e0 e1 hN1 hN2 hN3 hM hRc hRq hBy hW hle hn1 hn2 s1
          go_wp2_with fail
          refine wp_region_held_drew (S := (fun W => W.cell? ⟨sb, so + i * 2, none⟩ = some (.int .i64 kd) ∧ W.cell? ⟨sb, so + i * 2 + 1, none⟩ = some (.int .i64 nn))) (by kernel_rfl) ?_ (fun hHeld => ?_)
          · ((try dsimp only); exact ⟨past_drew k0, past_drew k1⟩)
          refine wpAnyH_take (i := 0) (oi := { dst := some 82, op := Op.move (Operand.tmp 5), type := 64, pos := _, after := #[], guard := none }) (v := ?_) rfl (by kernel_rfl) (by kernel_rfl) (by kernel_rfl) (fun _ _ _ h => h) (Or.inl ⟨by rfl, ?_⟩) (by assumption) ?_
          rotate_left
          · ((intro w hSw); (try dsimp only at hSw); go_simp; (try with_reducible rfl))
          try simp only [Act.put, List.setIfInBounds_toArray, List.set_cons_zero, List.set_cons_succ]
          refine wpAnyH_take (i := 1) (oi := { dst := some 83, op := Op.move (Operand.tmp 1), type := 63, pos := _, after := #[], guard := none }) (v := ?_) rfl (by kernel_rfl) (by kernel_rfl) (by kernel_rfl) (fun _ _ _ h => h) (Or.inl ⟨by rfl, ?_⟩) (by assumption) ?_
          rotate_left
          · ((intro w hSw); (try dsimp only at hSw); go_simp; (try with_reducible rfl))
          try simp only [Act.put, List.setIfInBounds_toArray, List.set_cons_zero, List.set_cons_succ]
          refine wpAnyH_take (i := 2) (oi := { dst := some 84, op := Op.move (Operand.tmp 7), type := 3, pos := _, after := #[], guard := none }) (v := ?_) rfl (by kernel_rfl) (by kernel_rfl) (by kernel_rfl) (fun _ _ _ h => h) (Or.inl ⟨by rfl, ?_⟩) (by assumption) ?_
          rotate_left
          · ((intro w hSw); (try dsimp only at hSw); go_simp; (try with_reducible rfl))
          try simp only [Act.put, List.setIfInBounds_toArray, List.set_cons_zero, List.set_cons_succ]
          refine wpAnyH_take (i := 3) (oi := { dst := some 85, op := Op.indexAddr 63 (Operand.tmp 83) (Operand.tmp 84), type := 0, pos := _, after := #[{ on := 1, ground := Ground.data }, { on := 2, ground := Ground.data }], guard := none }) (v := ?_) rfl (by kernel_rfl) (by kernel_rfl) (by kernel_rfl) (fun _ _ _ h => h) (Or.inl ⟨by rfl, ?_⟩) (by assumption) ?_
          rotate_left
          · ((intro w hSw); (try dsimp only at hSw); go_simp; (try with_reducible rfl))
          try simp only [Act.put, List.setIfInBounds_toArray, List.set_cons_zero, List.set_cons_succ]
          refine wpAnyH_take (i := 4) (oi := { dst := some 86, op := Op.fieldAddr 70 (Operand.tmp 85) 1, type := 0, pos := _, after := #[{ on := 3, ground := Ground.data }], guard := none }) (v := ?_) rfl (by kernel_rfl) (by kernel_rfl) (by kernel_rfl) (fun _ _ _ h => h) (Or.inl ⟨by rfl, ?_⟩) (by assumption) ?_
          rotate_left
          · ((intro w hSw); (try dsimp only at hSw); go_simp; (try with_reducible rfl))
          try simp only [Act.put, List.setIfInBounds_toArray, List.set_cons_zero, List.set_cons_succ]
          refine wpAnyH_take (i := 5) (oi := { dst := some 87, op := Op.load 3 (Operand.tmp 86), type := 3, pos := _, after := #[{ on := 4, ground := Ground.data }], guard := none }) (v := ?_) rfl (by kernel_rfl) (by kernel_rfl) (by kernel_rfl) (fun _ _ _ h => h) (Or.inl ⟨by rfl, ?_⟩) (by assumption) ?_
          rotate_left
          · ((intro w hSw); (try dsimp only at hSw); go_simp; (try with_reducible rfl))
          try simp only [Act.put, List.setIfInBounds_toArray, List.set_cons_zero, List.set_cons_succ]
          refine wpAnyH_take (i := 7) (oi := { dst := some 89, op := Op.move (Operand.tmp 6), type := 66, pos := _, after := #[], guard := none }) (v := ?_) rfl (by kernel_rfl) (by kernel_rfl) (by kernel_rfl) (fun _ _ _ h => h) (Or.inl ⟨by rfl, ?_⟩) (by assumption) ?_
          rotate_left
          · ((intro w hSw); (try dsimp only at hSw); go_simp; (try with_reducible rfl))
          try simp only [Act.put, List.setIfInBounds_toArray, List.set_cons_zero, List.set_cons_succ]
          refine wpAnyH_take (i := 8) (oi := { dst := some 90, op := Op.move (Operand.tmp 1), type := 63, pos := _, after := #[], guard := none }) (v := ?_) rfl (by kernel_rfl) (by kernel_rfl) (by kernel_rfl) (fun _ _ _ h => h) (Or.inl ⟨by rfl, ?_⟩) (by assumption) ?_
          rotate_left
          · ((intro w hSw); (try dsimp only at hSw); go_simp; (try with_reducible rfl))
          try simp only [Act.put, List.setIfInBounds_toArray, List.set_cons_zero, List.set_cons_succ]
          refine wpAnyH_take (i := 9) (oi := { dst := some 91, op := Op.move (Operand.tmp 7), type := 3, pos := _, after := #[], guard := none }) (v := ?_) rfl (by kernel_rfl) (by kernel_rfl) (by kernel_rfl) (fun _ _ _ h => h) (Or.inl ⟨by rfl, ?_⟩) (by assumption) ?_
          rotate_left
          · ((intro w hSw); (try dsimp only at hSw); go_simp; (try with_reducible rfl))
          try simp only [Act.put, List.setIfInBounds_toArray, List.set_cons_zero, List.set_cons_succ]
          refine wpAnyH_take (i := 10) (oi := { dst := some 92, op := Op.indexAddr 63 (Operand.tmp 90) (Operand.tmp 91), type := 0, pos := _, after := #[{ on := 8, ground := Ground.data }, { on := 9, ground := Ground.data }], guard := none }) (v := ?_) rfl (by kernel_rfl) (by kernel_rfl) (by kernel_rfl) (fun _ _ _ h => h) (Or.inl ⟨by rfl, ?_⟩) (by assumption) ?_
          rotate_left
          · ((intro w hSw); (try dsimp only at hSw); go_simp; (try with_reducible rfl))
          try simp only [Act.put, List.setIfInBounds_toArray, List.set_cons_zero, List.set_cons_succ]
          refine wpAnyH_take (i := 11) (oi := { dst := some 93, op := Op.fieldAddr 70 (Operand.tmp 92) 1, type := 0, pos := _, after := #[{ on := 10, ground := Ground.data }], guard := none }) (v := ?_) rfl (by kernel_rfl) (by kernel_rfl) (by kernel_rfl) (fun _ _ _ h => h) (Or.inl ⟨by rfl, ?_⟩) (by assumption) ?_
          rotate_left
          · ((intro w hSw); (try dsimp only at hSw); go_simp; (try with_reducible rfl))
          try simp only [Act.put, List.setIfInBounds_toArray, List.set_cons_zero, List.set_cons_succ]
          refine wpAnyH_take (i := 12) (oi := { dst := some 94, op := Op.load 3 (Operand.tmp 93), type := 3, pos := _, after := #[{ on := 11, ground := Ground.data }], guard := none }) (v := ?_) rfl (by kernel_rfl) (by kernel_rfl) (by kernel_rfl) (fun _ _ _ h => h) (Or.inl ⟨by rfl, ?_⟩) (by assumption) ?_
          rotate_left
          · ((intro w hSw); (try dsimp only at hSw); go_simp; (try with_reducible rfl))
          try simp only [Act.put, List.setIfInBounds_toArray, List.set_cons_zero, List.set_cons_succ]
          refine wpAnyH_ready (rs := [6]) (by kernel_rfl) (by simp) ?_
          refine (AllReadyH.cons (o := { dst := some 88, op := Op.call { callee := Callee.value (Operand.func 48), args := #[Operand.tmp 82, Operand.tmp 87], argTypes := #[64, 3] }, type := 54, pos := _, after := #[{ on := 0, ground := Ground.data }, { on := 5, ground := Ground.data }], guard := none }) rfl (fun K hK => ?_) AllReadyH.nil)
          go_simp
          (refine (HP.out _ (show Rc wr.drew p _ from HRC.out) ⟨HBY.out.len, HBY.out.sl, HBY.out.cap, HBY.out.small, HBY.out.byte⟩).mono ?_; rintro e w6 ⟨a6, cap6, rfl, hl6_, hs6, hx6, hc6, hg6⟩; have hq6 := rq_other (show Rq wr.drew q _ from HRQ.out) hg6 hpq; have hby6 := RdF.By.grown (show Rc wr.drew p _ from HRC.out) (show By wr.drew _ l from ⟨HBY.out.len, HBY.out.sl, HBY.out.cap, HBY.out.small, HBY.out.byte⟩) hg6; have hW6 := (show Below w.heap.size w wr.drew from HW.out.drew).grown hg6 HW.out.size (fun k hk => by cases hk; exact hpw))
          go_wp2_with fail
          refine hK.out _ _ ?_ (fun hHeld => ?_)
          · ((try dsimp only); exact ⟨cell_grown hg6 hsp (past_drew k0), cell_grown hg6 hsp (past_drew k1)⟩)
          clear hK K
          try simp only [Act.put, List.setIfInBounds_toArray, List.set_cons_zero, List.set_cons_succ]
          refine wpAnyH_ready (rs := [13]) (by kernel_rfl) (by simp) ?_
          refine (AllReadyH.cons (o := { dst := some 95, op := Op.call { callee := Callee.value (Operand.func 49), args := #[Operand.tmp 89, Operand.tmp 94], argTypes := #[66, 3] }, type := 54, pos := _, after := #[{ on := 7, ground := Ground.data }, { on := 12, ground := Ground.data }, { on := 6, ground := Ground.chain }], guard := none }) rfl (fun K hK => ?_) AllReadyH.nil)
          go_simp
          (refine (HQ.out _ hq6 (HBYB.out _ hW6 _ _)).mono ?_; rintro e w7 ⟨a7, cap7, rfl, hl7_, hs7, hx7, hq7, hg7⟩; replace hs6 := sl_q hs6 hx6 hg7 (show q < wr.drew.heap.size from Rq.lt HRQ.out); have hc7 := rc_other hc6 hg7 hpq; have hby7 := by_q hq6 hby6 hg7; have hW7 := hW6.grown hg7 hW6.size (fun k hk => by cases hk; exact hqw))
          go_wp2_with fail
          refine hK.out _ _ ?_ (fun hHeld => ?_)
          · ((try dsimp only); exact ⟨cell_grown hg7 hsq (cell_grown hg6 hsp (past_drew k0)), cell_grown hg7 hsq (cell_grown hg6 hsp (past_drew k1))⟩)
          clear hK K
          try simp only [Act.put, List.setIfInBounds_toArray, List.set_cons_zero, List.set_cons_succ]
          refine wpAnyH_ready (rs := [14]) (by kernel_rfl) (by simp) ?_
          refine (AllReadyH.cons (o := { dst := some 96, op := Op.call { callee := Callee.value (Operand.func 38), args := #[Operand.tmp 88, Operand.tmp 95], argTypes := #[54, 54] }, type := 4, pos := _, after := #[{ on := 6, ground := Ground.data }, { on := 13, ground := Ground.data }, { on := 13, ground := Ground.chain }], guard := none }) rfl (fun K hK => ?_) AllReadyH.nil)
          go_simp
          (refine (bytesC _ _ _ _ m m w7 hs6 hs7 HM8.out HM8.out).mono ?_; rintro e w8 ⟨rfl, rfl⟩)
          go_wp2_with fail
          refine hK.out _ _ ?_ (fun hHeld => ?_)
          · ((try dsimp only); exact ⟨cell_grown hg7 hsq (cell_grown hg6 hsp (past_drew k0)), cell_grown hg7 hsq (cell_grown hg6 hsp (past_drew k1))⟩)
          clear hK K
          try simp only [Act.put, List.setIfInBounds_toArray, List.set_cons_zero, List.set_cons_succ]
          refine wpAnyH_take (i := 15) (oi := { dst := some 8, op := Op.assign (Operand.tmp 96), type := 4, pos := _, after := #[{ on := 14, ground := Ground.data }, { on := 14, ground := Ground.chain }, { on := 0, ground := Ground.phase }, { on := 1, ground := Ground.phase }, { on := 2, ground := Ground.phase }, { on := 3, ground := Ground.phase }, { on := 4, ground := Ground.phase }, { on := 5, ground := Ground.phase }, { on := 6, ground := Ground.phase }, { on := 7, ground := Ground.phase }, { on := 8, ground := Ground.phase }, { on := 9, ground := Ground.phase }, { on := 10, ground := Ground.phase }, { on := 11, ground := Ground.phase }, { on := 12, ground := Ground.phase }, { on := 13, ground := Ground.phase }, { on := 14, ground := Ground.phase }], guard := none }) (v := ?_) rfl (by kernel_rfl) (by kernel_rfl) (by kernel_rfl) (fun _ _ _ h => h) (Or.inl ⟨by rfl, ?_⟩) (by assumption) ?_
          rotate_left
          · ((intro w hSw); (try dsimp only at hSw); go_simp; (try with_reducible rfl))
          try simp only [Act.put, List.setIfInBounds_toArray, List.set_cons_zero, List.set_cons_succ]
          refine wpAnyH_done (by kernel_rfl) ?_ _
          have HC7 := Lib.hid hc7
          have HQ7 := Lib.hid hq7
          have HB7 := Lib.hid hby7
          have HW7 := Lib.hid hW7
          clear hc6 hq6 hby6 hW6 hg6 hc7 hq7 hby7 hW7 hg7 k0 k1 hs6 hs7
          have kq2 := Rq.c2 HQ7.out
          simp only at kq2
          have v1 : ((err2 : Int) != err2) = false := by simp
          have v2 : (((l.length : Int) - (at2 : Int)) != ((l.length : Int) - (at2 : Int))) = false := by simp
          go_wp2_with fail
          refine wp_region_held_drew (S := (fun W => W.cell? ⟨q, 2, none⟩ = some (.int .i64 err2))) (by kernel_rfl) ?_ (fun hHeld => ?_)
          · ((try dsimp only); exact kq2)
          refine wpAnyH_take (i := 0) (oi := { dst := some 97, op := Op.move (Operand.tmp 8), type := 4, pos := _, after := #[], guard := none }) (v := ?_) rfl (by kernel_rfl) (by kernel_rfl) (by kernel_rfl) (fun _ _ _ h => h) (Or.inl ⟨by rfl, ?_⟩) (by assumption) ?_
          rotate_left
          · ((intro w hSw); (try dsimp only at hSw); go_simp; (try with_reducible rfl))
          try simp only [Act.put, List.setIfInBounds_toArray, List.set_cons_zero, List.set_cons_succ]
          refine wpAnyH_take (i := 1) (oi := { dst := some 98, op := Op.unOp UnOp.not 4 (Operand.tmp 97), type := 4, pos := _, after := #[{ on := 0, ground := Ground.data }], guard := none }) (v := ?_) rfl (by kernel_rfl) (by kernel_rfl) (by kernel_rfl) (fun _ _ _ h => h) (Or.inl ⟨by rfl, ?_⟩) (by assumption) ?_
          rotate_left
          · ((intro w hSw); (try dsimp only at hSw); go_simp; (try with_reducible rfl))
          try simp only [Act.put, List.setIfInBounds_toArray, List.set_cons_zero, List.set_cons_succ]
          refine wpAnyH_take (i := 2) (oi := { dst := some 99, op := Op.move (Operand.tmp 98), type := 4, pos := _, after := #[{ on := 1, ground := Ground.data }], guard := none }) (v := ?_) rfl (by kernel_rfl) (by kernel_rfl) (by kernel_rfl) (fun _ _ _ h => h) (Or.inl ⟨by rfl, ?_⟩) (by assumption) ?_
          rotate_left
          · ((intro w hSw); (try dsimp only at hSw); go_simp; (try with_reducible rfl))
          try simp only [Act.put, List.setIfInBounds_toArray, List.set_cons_zero, List.set_cons_succ]
          refine wpAnyH_take (i := 3) (oi := { dst := some 100, op := Op.move (Operand.tmp 5), type := 64, pos := _, after := #[{ on := 2, ground := Ground.guard }], guard := some (2, false) }) (v := ?_) rfl (by kernel_rfl) (by kernel_rfl) (by kernel_rfl) (fun _ _ _ h => h) (Or.inl ⟨by rfl, ?_⟩) (by assumption) ?_
          rotate_left
          · ((intro w hSw); (try dsimp only at hSw); go_simp; (try with_reducible rfl))
          try simp only [Act.put, List.setIfInBounds_toArray, List.set_cons_zero, List.set_cons_succ]
          refine wpAnyH_take (i := 5) (oi := { dst := some 102, op := Op.move (Operand.tmp 6), type := 66, pos := _, after := #[{ on := 2, ground := Ground.guard }], guard := some (2, false) }) (v := ?_) rfl (by kernel_rfl) (by kernel_rfl) (by kernel_rfl) (fun _ _ _ h => h) (Or.inl ⟨by rfl, ?_⟩) (by assumption) ?_
          rotate_left
          · ((intro w hSw); (try dsimp only at hSw); go_simp; (try with_reducible rfl))
          try simp only [Act.put, List.setIfInBounds_toArray, List.set_cons_zero, List.set_cons_succ]
          refine wpAnyH_take (i := 6) (oi := { dst := some 103, op := Op.nilCheck (Operand.tmp 102), type := 0, pos := _, after := #[{ on := 5, ground := Ground.data }, { on := 2, ground := Ground.guard }], guard := some (2, false) }) (v := ?_) rfl (by kernel_rfl) (by kernel_rfl) (by kernel_rfl) (fun _ _ _ h => h) (Or.inl ⟨by rfl, ?_⟩) (by assumption) ?_
          rotate_left
          · ((intro w hSw); (try dsimp only at hSw); go_simp; (try with_reducible rfl))
          try simp only [Act.put, List.setIfInBounds_toArray, List.set_cons_zero, List.set_cons_succ]
          refine wpAnyH_take (i := 7) (oi := { dst := some 104, op := Op.fieldAddr 68 (Operand.tmp 103) 2, type := 0, pos := _, after := #[{ on := 6, ground := Ground.data }, { on := 2, ground := Ground.guard }], guard := some (2, false) }) (v := ?_) rfl (by kernel_rfl) (by kernel_rfl) (by kernel_rfl) (fun _ _ _ h => h) (Or.inl ⟨by rfl, ?_⟩) (by assumption) ?_
          rotate_left
          · ((intro w hSw); (try dsimp only at hSw); go_simp; (try with_reducible rfl))
          try simp only [Act.put, List.setIfInBounds_toArray, List.set_cons_zero, List.set_cons_succ]
          refine wpAnyH_take (i := 8) (oi := { dst := some 105, op := Op.load 27 (Operand.tmp 104), type := 27, pos := _, after := #[{ on := 7, ground := Ground.data }, { on := 2, ground := Ground.guard }], guard := some (2, false) }) (v := ?_) rfl (by kernel_rfl) (by kernel_rfl) (by kernel_rfl) (fun _ _ _ h => h) (Or.inl ⟨by rfl, ?_⟩) (by assumption) ?_
          rotate_left
          · ((intro w hSw); (try dsimp only at hSw); go_simp; (try with_reducible rfl))
          try simp only [Act.put, List.setIfInBounds_toArray, List.set_cons_zero, List.set_cons_succ]
          refine wpAnyH_ready (rs := [4]) (by kernel_rfl) (by simp) ?_
          refine (AllReadyH.cons (o := { dst := some 101, op := Op.call { callee := Callee.value (Operand.func 52), args := #[Operand.tmp 100], argTypes := #[64] }, type := 27, pos := _, after := #[{ on := 3, ground := Ground.data }, { on := 2, ground := Ground.chain }, { on := 2, ground := Ground.guard }], guard := some (2, false) }) rfl (fun K hK => ?_) AllReadyH.nil)
          go_simp
          (refine (errC (show Rc w7.drew p _ from HC7.out)).mono ?_; rintro e x1 ⟨rfl, rfl⟩)
          go_wp2_with fail
          refine hK.out _ _ ?_ (fun hHeld => ?_)
          · ((try dsimp only); exact kq2)
          clear hK K
          try simp only [Act.put, List.setIfInBounds_toArray, List.set_cons_zero, List.set_cons_succ]
          refine wpAnyH_take (i := 9) (oi := { dst := some 106, op := Op.binOp BinOp.neq 27 (Operand.tmp 101) (Operand.tmp 105) 27, type := 4, pos := _, after := #[{ on := 4, ground := Ground.data }, { on := 8, ground := Ground.data }, { on := 2, ground := Ground.guard }], guard := some (2, false) }) (v := ?_) rfl (by kernel_rfl) (by kernel_rfl) (by kernel_rfl) (fun _ _ _ h => h) (Or.inl ⟨by rfl, ?_⟩) (by assumption) ?_
          rotate_left
          · ((intro w hSw); (try dsimp only at hSw); go_simp; (try with_reducible rfl))
          try simp only [Act.put, List.setIfInBounds_toArray, List.set_cons_zero, List.set_cons_succ]
          refine wpAnyH_take (i := 10) (oi := { dst := some 107, op := Op.pick (Operand.tmp 99) (Operand.const (Value.bool true)) (Operand.tmp 106), type := 4, pos := _, after := #[{ on := 2, ground := Ground.data }, { on := 9, ground := Ground.data }], guard := none }) (v := ?_) rfl (by kernel_rfl) (by kernel_rfl) (by kernel_rfl) (fun _ _ _ h => h) (Or.inl ⟨by rfl, ?_⟩) (by assumption) ?_
          rotate_left
          · ((intro w hSw); (try dsimp only at hSw); go_simp; (try with_reducible rfl))
          try simp only [Act.put, List.setIfInBounds_toArray, List.set_cons_zero, List.set_cons_succ]
          refine wpAnyH_take (i := 11) (oi := { dst := some 108, op := Op.move (Operand.tmp 107), type := 4, pos := _, after := #[{ on := 10, ground := Ground.data }, { on := 4, ground := Ground.chain }], guard := none }) (v := ?_) rfl (by kernel_rfl) (by kernel_rfl) (by kernel_rfl) (fun _ _ _ h => h) (Or.inl ⟨by rfl, ?_⟩) (by assumption) ?_
          rotate_left
          · ((intro w hSw); (try dsimp only at hSw); go_simp; (try with_reducible rfl))
          try simp only [Act.put, List.setIfInBounds_toArray, List.set_cons_zero, List.set_cons_succ]
          refine wpAnyH_take (i := 12) (oi := { dst := some 109, op := Op.move (Operand.tmp 5), type := 64, pos := _, after := #[{ on := 11, ground := Ground.guard }], guard := some (11, false) }) (v := ?_) rfl (by kernel_rfl) (by kernel_rfl) (by kernel_rfl) (fun _ _ _ h => h) (Or.inl ⟨by rfl, ?_⟩) (by assumption) ?_
          rotate_left
          · ((intro w hSw); (try dsimp only at hSw); go_simp; (try with_reducible rfl))
          try simp only [Act.put, List.setIfInBounds_toArray, List.set_cons_zero, List.set_cons_succ]
          refine wpAnyH_take (i := 14) (oi := { dst := some 111, op := Op.move (Operand.tmp 6), type := 66, pos := _, after := #[{ on := 11, ground := Ground.guard }], guard := some (11, false) }) (v := ?_) rfl (by kernel_rfl) (by kernel_rfl) (by kernel_rfl) (fun _ _ _ h => h) (Or.inl ⟨by rfl, ?_⟩) (by assumption) ?_
          rotate_left
          · ((intro w hSw); (try dsimp only at hSw); go_simp; (try with_reducible rfl))
          try simp only [Act.put, List.setIfInBounds_toArray, List.set_cons_zero, List.set_cons_succ]
          refine wpAnyH_ready (rs := [13]) (by kernel_rfl) (by simp) ?_
          refine (AllReadyH.cons (o := { dst := some 110, op := Op.call { callee := Callee.value (Operand.func 53), args := #[Operand.tmp 109], argTypes := #[64] }, type := 3, pos := _, after := #[{ on := 12, ground := Ground.data }, { on := 11, ground := Ground.chain }, { on := 11, ground := Ground.guard }], guard := some (11, false) }) rfl (fun K hK => ?_) AllReadyH.nil)
          go_simp
          (refine (leftC (show Rc w7.drew p _ from HC7.out) hat2 hl2).mono ?_; rintro e x2 ⟨rfl, n1, rfl⟩)
          go_wp2_with fail
          refine hK.out _ _ ?_ (fun hHeld => ?_)
          · ((try dsimp only); exact kq2)
          clear hK K
          try simp only [Act.put, List.setIfInBounds_toArray, List.set_cons_zero, List.set_cons_succ]
          refine wpAnyH_ready (rs := [15]) (by kernel_rfl) (by simp) ?_
          refine (AllReadyH.cons (o := { dst := some 112, op := Op.call { callee := Callee.value (Operand.func 54), args := #[Operand.tmp 111], argTypes := #[66] }, type := 3, pos := _, after := #[{ on := 14, ground := Ground.data }, { on := 13, ground := Ground.chain }, { on := 11, ground := Ground.guard }], guard := some (11, false) }) rfl (fun K hK => ?_) AllReadyH.nil)
          go_simp
          (refine (leftR (show Rq (w7.drewN (1 + n1)) q _ from HQ7.out) hat2 hl2).mono ?_; rintro e x3 ⟨rfl, n2, rfl⟩)
          go_wp2_with fail
          refine hK.out _ _ ?_ (fun hHeld => ?_)
          · ((try dsimp only); exact kq2)
          clear hK K
          try simp only [Act.put, List.setIfInBounds_toArray, List.set_cons_zero, List.set_cons_succ]
          refine wpAnyH_take (i := 16) (oi := { dst := some 113, op := Op.binOp BinOp.neq 3 (Operand.tmp 110) (Operand.tmp 112) 3, type := 4, pos := _, after := #[{ on := 13, ground := Ground.data }, { on := 15, ground := Ground.data }, { on := 11, ground := Ground.guard }], guard := some (11, false) }) (v := ?_) rfl (by kernel_rfl) (by kernel_rfl) (by kernel_rfl) (fun _ _ _ h => h) (Or.inl ⟨by rfl, ?_⟩) (by assumption) ?_
          rotate_left
          · ((intro w hSw); (try dsimp only at hSw); go_simp; (try with_reducible rfl))
          try simp only [Act.put, List.setIfInBounds_toArray, List.set_cons_zero, List.set_cons_succ]
          refine wpAnyH_take (i := 17) (oi := { dst := some 114, op := Op.pick (Operand.tmp 108) (Operand.const (Value.bool true)) (Operand.tmp 113), type := 4, pos := _, after := #[{ on := 11, ground := Ground.data }, { on := 16, ground := Ground.data }], guard := none }) (v := ?_) rfl (by kernel_rfl) (by kernel_rfl) (by kernel_rfl) (fun _ _ _ h => h) (Or.inl ⟨by rfl, ?_⟩) (by assumption) ?_
          rotate_left
          · ((intro w hSw); (try dsimp only at hSw); go_simp; (try with_reducible rfl))
          try simp only [Act.put, List.setIfInBounds_toArray, List.set_cons_zero, List.set_cons_succ]
          refine wpAnyH_done (by kernel_rfl) ?_ _
          go_wp2
          go_roundw
          case rel => exact ⟨i + 1, at2, err2, by omega, by go_num, hat2, HC7.out, HQ7.out, ⟨HB7.out.len, HB7.out.sl, HB7.out.cap, HB7.out.small, HB7.out.byte⟩, ⟨HW7.out.os, HW7.out.tape, HW7.out.output, HW7.out.size, HW7.out.block⟩⟩
          case measure => simp [intOf]; omega
        · have d1 : (kd == 1) = false := by simpa using e1
          by_cases e2 : nn < 0
          · have d2 : decide (nn < 0) = true := decide_eq_true e2
            have hT4 := Lib.hid (tab_then hW (Nat.le_refl _) HT.out)
            clear e0 e1 e2 hM hRc hRq hBy hW hle hn1 hn2 s1
            go_wp2_with fail
            refine (HF.out _ hT4.out).mono ?_
            rintro e w9 ⟨rfl, hb9⟩
            go_wp2
            go_ret
            exact ⟨rfl, below_next HW.out hb9⟩
          · have d2 : decide (nn < 0) = false := decide_eq_false e2
            have hMn : nn = (M : Int) := by omega
            subst hMn
            obtain ⟨V, at2, err2, hN1, hN2⟩ := text_eq l at_ err (M : Int)
            have hat2 := hN2 hle
            have HP := Lib.hid (show ∀ W, Rc W p ⟨ra, l.length, rcap, at_, err⟩ → By W ⟨ra, l.length, rcap, 0, 0⟩ l → Calls Tryd.prog 50 #[.pointer (some ⟨p, 0, none⟩), .int .i64 (M : Int)] W (TextQ W p ⟨ra, l.length, rcap, at2, err2⟩ V) from fun W h1 h2 => by
              have h := textC (M : Int) l h1 (by_to h2 rfl rfl rfl) hle hl6 hn2
              rw [hN1] at h; exact h)
            have HQ := Lib.hid (show ∀ W, Rq W q ⟨a, l.length, cap, at_, err⟩ → By W ⟨a, l.length, cap, at_, err⟩ l → Calls Tryd.prog 51 #[.pointer (some ⟨q, 0, none⟩), .int .u64 (M : Int)] W (TextR W q ⟨a, l.length, cap, at2, err2⟩ V) from fun W h1 h2 => by
              have h := textR M (by omega) l h1 h2 hle hl6 H0.out HQNE.out
              rw [hN1] at h; exact h)
            have u1 : (V.toList == V.toList) = true := by simp
            clear e0 e1 e2 hN1 hN2 hM hRc hRq hBy hW hle hn1 hn2
            go_wp2_with fail
            refine wp_region_held_drew (S := (fun W => W.cell? ⟨sb, so + i * 2, none⟩ = some (.int .i64 kd) ∧ W.cell? ⟨sb, so + i * 2 + 1, none⟩ = some (.int .i64 (M : Int)))) (by kernel_rfl) ?_ (fun hHeld => ?_)
            · ((try dsimp only); exact ⟨past_drew k0, past_drew k1⟩)
            refine wpAnyH_take (i := 0) (oi := { dst := some 45, op := Op.move (Operand.tmp 5), type := 64, pos := _, after := #[], guard := none }) (v := ?_) rfl (by kernel_rfl) (by kernel_rfl) (by kernel_rfl) (fun _ _ _ h => h) (Or.inl ⟨by rfl, ?_⟩) (by assumption) ?_
            rotate_left
            · ((intro w hSw); (try dsimp only at hSw); go_simp; (try with_reducible rfl))
            try simp only [Act.put, List.setIfInBounds_toArray, List.set_cons_zero, List.set_cons_succ]
            refine wpAnyH_take (i := 1) (oi := { dst := some 46, op := Op.move (Operand.tmp 1), type := 63, pos := _, after := #[], guard := none }) (v := ?_) rfl (by kernel_rfl) (by kernel_rfl) (by kernel_rfl) (fun _ _ _ h => h) (Or.inl ⟨by rfl, ?_⟩) (by assumption) ?_
            rotate_left
            · ((intro w hSw); (try dsimp only at hSw); go_simp; (try with_reducible rfl))
            try simp only [Act.put, List.setIfInBounds_toArray, List.set_cons_zero, List.set_cons_succ]
            refine wpAnyH_take (i := 2) (oi := { dst := some 47, op := Op.move (Operand.tmp 7), type := 3, pos := _, after := #[], guard := none }) (v := ?_) rfl (by kernel_rfl) (by kernel_rfl) (by kernel_rfl) (fun _ _ _ h => h) (Or.inl ⟨by rfl, ?_⟩) (by assumption) ?_
            rotate_left
            · ((intro w hSw); (try dsimp only at hSw); go_simp; (try with_reducible rfl))
            try simp only [Act.put, List.setIfInBounds_toArray, List.set_cons_zero, List.set_cons_succ]
            refine wpAnyH_take (i := 3) (oi := { dst := some 48, op := Op.indexAddr 63 (Operand.tmp 46) (Operand.tmp 47), type := 0, pos := _, after := #[{ on := 1, ground := Ground.data }, { on := 2, ground := Ground.data }], guard := none }) (v := ?_) rfl (by kernel_rfl) (by kernel_rfl) (by kernel_rfl) (fun _ _ _ h => h) (Or.inl ⟨by rfl, ?_⟩) (by assumption) ?_
            rotate_left
            · ((intro w hSw); (try dsimp only at hSw); go_simp; (try with_reducible rfl))
            try simp only [Act.put, List.setIfInBounds_toArray, List.set_cons_zero, List.set_cons_succ]
            refine wpAnyH_take (i := 4) (oi := { dst := some 49, op := Op.fieldAddr 70 (Operand.tmp 48) 1, type := 0, pos := _, after := #[{ on := 3, ground := Ground.data }], guard := none }) (v := ?_) rfl (by kernel_rfl) (by kernel_rfl) (by kernel_rfl) (fun _ _ _ h => h) (Or.inl ⟨by rfl, ?_⟩) (by assumption) ?_
            rotate_left
            · ((intro w hSw); (try dsimp only at hSw); go_simp; (try with_reducible rfl))
            try simp only [Act.put, List.setIfInBounds_toArray, List.set_cons_zero, List.set_cons_succ]
            refine wpAnyH_take (i := 5) (oi := { dst := some 50, op := Op.load 3 (Operand.tmp 49), type := 3, pos := _, after := #[{ on := 4, ground := Ground.data }], guard := none }) (v := ?_) rfl (by kernel_rfl) (by kernel_rfl) (by kernel_rfl) (fun _ _ _ h => h) (Or.inl ⟨by rfl, ?_⟩) (by assumption) ?_
            rotate_left
            · ((intro w hSw); (try dsimp only at hSw); go_simp; (try with_reducible rfl))
            try simp only [Act.put, List.setIfInBounds_toArray, List.set_cons_zero, List.set_cons_succ]
            refine wpAnyH_take (i := 7) (oi := { dst := some 52, op := Op.move (Operand.tmp 6), type := 66, pos := _, after := #[], guard := none }) (v := ?_) rfl (by kernel_rfl) (by kernel_rfl) (by kernel_rfl) (fun _ _ _ h => h) (Or.inl ⟨by rfl, ?_⟩) (by assumption) ?_
            rotate_left
            · ((intro w hSw); (try dsimp only at hSw); go_simp; (try with_reducible rfl))
            try simp only [Act.put, List.setIfInBounds_toArray, List.set_cons_zero, List.set_cons_succ]
            refine wpAnyH_take (i := 8) (oi := { dst := some 53, op := Op.move (Operand.tmp 1), type := 63, pos := _, after := #[], guard := none }) (v := ?_) rfl (by kernel_rfl) (by kernel_rfl) (by kernel_rfl) (fun _ _ _ h => h) (Or.inl ⟨by rfl, ?_⟩) (by assumption) ?_
            rotate_left
            · ((intro w hSw); (try dsimp only at hSw); go_simp; (try with_reducible rfl))
            try simp only [Act.put, List.setIfInBounds_toArray, List.set_cons_zero, List.set_cons_succ]
            refine wpAnyH_take (i := 9) (oi := { dst := some 54, op := Op.move (Operand.tmp 7), type := 3, pos := _, after := #[], guard := none }) (v := ?_) rfl (by kernel_rfl) (by kernel_rfl) (by kernel_rfl) (fun _ _ _ h => h) (Or.inl ⟨by rfl, ?_⟩) (by assumption) ?_
            rotate_left
            · ((intro w hSw); (try dsimp only at hSw); go_simp; (try with_reducible rfl))
            try simp only [Act.put, List.setIfInBounds_toArray, List.set_cons_zero, List.set_cons_succ]
            refine wpAnyH_take (i := 10) (oi := { dst := some 55, op := Op.indexAddr 63 (Operand.tmp 53) (Operand.tmp 54), type := 0, pos := _, after := #[{ on := 8, ground := Ground.data }, { on := 9, ground := Ground.data }], guard := none }) (v := ?_) rfl (by kernel_rfl) (by kernel_rfl) (by kernel_rfl) (fun _ _ _ h => h) (Or.inl ⟨by rfl, ?_⟩) (by assumption) ?_
            rotate_left
            · ((intro w hSw); (try dsimp only at hSw); go_simp; (try with_reducible rfl))
            try simp only [Act.put, List.setIfInBounds_toArray, List.set_cons_zero, List.set_cons_succ]
            refine wpAnyH_take (i := 11) (oi := { dst := some 56, op := Op.fieldAddr 70 (Operand.tmp 55) 1, type := 0, pos := _, after := #[{ on := 10, ground := Ground.data }], guard := none }) (v := ?_) rfl (by kernel_rfl) (by kernel_rfl) (by kernel_rfl) (fun _ _ _ h => h) (Or.inl ⟨by rfl, ?_⟩) (by assumption) ?_
            rotate_left
            · ((intro w hSw); (try dsimp only at hSw); go_simp; (try with_reducible rfl))
            try simp only [Act.put, List.setIfInBounds_toArray, List.set_cons_zero, List.set_cons_succ]
            refine wpAnyH_take (i := 12) (oi := { dst := some 57, op := Op.load 3 (Operand.tmp 56), type := 3, pos := _, after := #[{ on := 11, ground := Ground.data }], guard := none }) (v := ?_) rfl (by kernel_rfl) (by kernel_rfl) (by kernel_rfl) (fun _ _ _ h => h) (Or.inl ⟨by rfl, ?_⟩) (by assumption) ?_
            rotate_left
            · ((intro w hSw); (try dsimp only at hSw); go_simp; (try with_reducible rfl))
            try simp only [Act.put, List.setIfInBounds_toArray, List.set_cons_zero, List.set_cons_succ]
            refine wpAnyH_take (i := 13) (oi := { dst := some 58, op := Op.convert 3 22 (Operand.tmp 57), type := 22, pos := _, after := #[{ on := 12, ground := Ground.data }], guard := none }) (v := ?_) rfl (by kernel_rfl) (by kernel_rfl) (by kernel_rfl) (fun _ _ _ h => h) (Or.inl ⟨by rfl, ?_⟩) (by assumption) ?_
            rotate_left
            · ((intro w hSw); (try dsimp only at hSw); go_simp; (try with_reducible rfl))
            try simp only [Act.put, List.setIfInBounds_toArray, List.set_cons_zero, List.set_cons_succ]
            refine wpAnyH_ready (rs := [6]) (by kernel_rfl) (by simp) ?_
            refine (AllReadyH.cons (o := { dst := some 51, op := Op.call { callee := Callee.value (Operand.func 50), args := #[Operand.tmp 45, Operand.tmp 50], argTypes := #[64, 3] }, type := 9, pos := _, after := #[{ on := 0, ground := Ground.data }, { on := 5, ground := Ground.data }], guard := none }) rfl (fun K hK => ?_) AllReadyH.nil)
            go_simp
            (refine (HP.out _ (show Rc wr.drew p _ from HRC.out) ⟨HBY.out.len, HBY.out.sl, HBY.out.cap, HBY.out.small, HBY.out.byte⟩).mono ?_; rintro e w6 ⟨rfl, hc6, hg6⟩; have hq6 := rq_other (show Rq wr.drew q _ from HRQ.out) hg6 hpq; have hby6 := RdF.By.grown (show Rc wr.drew p _ from HRC.out) (show By wr.drew _ l from ⟨HBY.out.len, HBY.out.sl, HBY.out.cap, HBY.out.small, HBY.out.byte⟩) hg6; have hW6 := (show Below w.heap.size w wr.drew from HW.out.drew).grown hg6 HW.out.size (fun k hk => by cases hk; exact hpw))
            go_wp2_with fail
            refine hK.out _ _ ?_ (fun hHeld => ?_)
            · ((try dsimp only); exact ⟨cell_grown hg6 hsp (past_drew k0), cell_grown hg6 hsp (past_drew k1)⟩)
            clear hK K
            try simp only [Act.put, List.setIfInBounds_toArray, List.set_cons_zero, List.set_cons_succ]
            refine wpAnyH_ready (rs := [14]) (by kernel_rfl) (by simp) ?_
            refine (AllReadyH.cons (o := { dst := some 59, op := Op.call { callee := Callee.value (Operand.func 51), args := #[Operand.tmp 52, Operand.tmp 58], argTypes := #[66, 22] }, type := 9, pos := _, after := #[{ on := 7, ground := Ground.data }, { on := 13, ground := Ground.data }, { on := 6, ground := Ground.chain }], guard := none }) rfl (fun K hK => ?_) AllReadyH.nil)
            go_simp
            (refine (HQ.out _ hq6 (HBYB.out _ hW6 _ _)).mono ?_; rintro e w7 ⟨rfl, hq7, hg7⟩; have hc7 := rc_other hc6 hg7 hpq; have hby7 := by_q hq6 hby6 hg7; have hW7 := hW6.grown hg7 hW6.size (fun k hk => by cases hk; exact hqw))
            go_wp2_with fail
            refine hK.out _ _ ?_ (fun hHeld => ?_)
            · ((try dsimp only); exact ⟨cell_grown hg7 hsq (cell_grown hg6 hsp (past_drew k0)), cell_grown hg7 hsq (cell_grown hg6 hsp (past_drew k1))⟩)
            clear hK K
            try simp only [Act.put, List.setIfInBounds_toArray, List.set_cons_zero, List.set_cons_succ]
            refine wpAnyH_take (i := 15) (oi := { dst := some 60, op := Op.binOp BinOp.eql 9 (Operand.tmp 51) (Operand.tmp 59) 9, type := 4, pos := _, after := #[{ on := 6, ground := Ground.data }, { on := 14, ground := Ground.data }], guard := none }) (v := ?_) rfl (by kernel_rfl) (by kernel_rfl) (by kernel_rfl) (fun _ _ _ h => h) (Or.inl ⟨by rfl, ?_⟩) (by assumption) ?_
            rotate_left
            · ((intro w hSw); (try dsimp only at hSw); go_simp; (try with_reducible rfl))
            try simp only [Act.put, List.setIfInBounds_toArray, List.set_cons_zero, List.set_cons_succ]
            refine wpAnyH_take (i := 16) (oi := { dst := some 8, op := Op.assign (Operand.tmp 60), type := 4, pos := _, after := #[{ on := 15, ground := Ground.data }, { on := 14, ground := Ground.chain }, { on := 0, ground := Ground.phase }, { on := 1, ground := Ground.phase }, { on := 2, ground := Ground.phase }, { on := 3, ground := Ground.phase }, { on := 4, ground := Ground.phase }, { on := 5, ground := Ground.phase }, { on := 6, ground := Ground.phase }, { on := 7, ground := Ground.phase }, { on := 8, ground := Ground.phase }, { on := 9, ground := Ground.phase }, { on := 10, ground := Ground.phase }, { on := 11, ground := Ground.phase }, { on := 12, ground := Ground.phase }, { on := 13, ground := Ground.phase }, { on := 14, ground := Ground.phase }, { on := 15, ground := Ground.phase }], guard := none }) (v := ?_) rfl (by kernel_rfl) (by kernel_rfl) (by kernel_rfl) (fun _ _ _ h => h) (Or.inl ⟨by rfl, ?_⟩) (by assumption) ?_
            rotate_left
            · ((intro w hSw); (try dsimp only at hSw); go_simp; (try with_reducible rfl))
            try simp only [Act.put, List.setIfInBounds_toArray, List.set_cons_zero, List.set_cons_succ]
            refine wpAnyH_done (by kernel_rfl) ?_ _
            have HC7 := Lib.hid hc7
            have HQ7 := Lib.hid hq7
            have HB7 := Lib.hid hby7
            have HW7 := Lib.hid hW7
            clear hc6 hq6 hby6 hW6 hg6 hc7 hq7 hby7 hW7 hg7 k0 k1
            have kq2 := Rq.c2 HQ7.out
            simp only at kq2
            have v1 : ((err2 : Int) != err2) = false := by simp
            have v2 : (((l.length : Int) - (at2 : Int)) != ((l.length : Int) - (at2 : Int))) = false := by simp
            go_wp2_with fail
            refine wp_region_held_drew (S := (fun W => W.cell? ⟨q, 2, none⟩ = some (.int .i64 err2))) (by kernel_rfl) ?_ (fun hHeld => ?_)
            · ((try dsimp only); exact kq2)
            refine wpAnyH_take (i := 0) (oi := { dst := some 97, op := Op.move (Operand.tmp 8), type := 4, pos := _, after := #[], guard := none }) (v := ?_) rfl (by kernel_rfl) (by kernel_rfl) (by kernel_rfl) (fun _ _ _ h => h) (Or.inl ⟨by rfl, ?_⟩) (by assumption) ?_
            rotate_left
            · ((intro w hSw); (try dsimp only at hSw); go_simp; (try with_reducible rfl))
            try simp only [Act.put, List.setIfInBounds_toArray, List.set_cons_zero, List.set_cons_succ]
            refine wpAnyH_take (i := 1) (oi := { dst := some 98, op := Op.unOp UnOp.not 4 (Operand.tmp 97), type := 4, pos := _, after := #[{ on := 0, ground := Ground.data }], guard := none }) (v := ?_) rfl (by kernel_rfl) (by kernel_rfl) (by kernel_rfl) (fun _ _ _ h => h) (Or.inl ⟨by rfl, ?_⟩) (by assumption) ?_
            rotate_left
            · ((intro w hSw); (try dsimp only at hSw); go_simp; (try with_reducible rfl))
            try simp only [Act.put, List.setIfInBounds_toArray, List.set_cons_zero, List.set_cons_succ]
            refine wpAnyH_take (i := 2) (oi := { dst := some 99, op := Op.move (Operand.tmp 98), type := 4, pos := _, after := #[{ on := 1, ground := Ground.data }], guard := none }) (v := ?_) rfl (by kernel_rfl) (by kernel_rfl) (by kernel_rfl) (fun _ _ _ h => h) (Or.inl ⟨by rfl, ?_⟩) (by assumption) ?_
            rotate_left
            · ((intro w hSw); (try dsimp only at hSw); go_simp; (try with_reducible rfl))
            try simp only [Act.put, List.setIfInBounds_toArray, List.set_cons_zero, List.set_cons_succ]
            refine wpAnyH_take (i := 3) (oi := { dst := some 100, op := Op.move (Operand.tmp 5), type := 64, pos := _, after := #[{ on := 2, ground := Ground.guard }], guard := some (2, false) }) (v := ?_) rfl (by kernel_rfl) (by kernel_rfl) (by kernel_rfl) (fun _ _ _ h => h) (Or.inl ⟨by rfl, ?_⟩) (by assumption) ?_
            rotate_left
            · ((intro w hSw); (try dsimp only at hSw); go_simp; (try with_reducible rfl))
            try simp only [Act.put, List.setIfInBounds_toArray, List.set_cons_zero, List.set_cons_succ]
            refine wpAnyH_take (i := 5) (oi := { dst := some 102, op := Op.move (Operand.tmp 6), type := 66, pos := _, after := #[{ on := 2, ground := Ground.guard }], guard := some (2, false) }) (v := ?_) rfl (by kernel_rfl) (by kernel_rfl) (by kernel_rfl) (fun _ _ _ h => h) (Or.inl ⟨by rfl, ?_⟩) (by assumption) ?_
            rotate_left
            · ((intro w hSw); (try dsimp only at hSw); go_simp; (try with_reducible rfl))
            try simp only [Act.put, List.setIfInBounds_toArray, List.set_cons_zero, List.set_cons_succ]
            refine wpAnyH_take (i := 6) (oi := { dst := some 103, op := Op.nilCheck (Operand.tmp 102), type := 0, pos := _, after := #[{ on := 5, ground := Ground.data }, { on := 2, ground := Ground.guard }], guard := some (2, false) }) (v := ?_) rfl (by kernel_rfl) (by kernel_rfl) (by kernel_rfl) (fun _ _ _ h => h) (Or.inl ⟨by rfl, ?_⟩) (by assumption) ?_
            rotate_left
            · ((intro w hSw); (try dsimp only at hSw); go_simp; (try with_reducible rfl))
            try simp only [Act.put, List.setIfInBounds_toArray, List.set_cons_zero, List.set_cons_succ]
            refine wpAnyH_take (i := 7) (oi := { dst := some 104, op := Op.fieldAddr 68 (Operand.tmp 103) 2, type := 0, pos := _, after := #[{ on := 6, ground := Ground.data }, { on := 2, ground := Ground.guard }], guard := some (2, false) }) (v := ?_) rfl (by kernel_rfl) (by kernel_rfl) (by kernel_rfl) (fun _ _ _ h => h) (Or.inl ⟨by rfl, ?_⟩) (by assumption) ?_
            rotate_left
            · ((intro w hSw); (try dsimp only at hSw); go_simp; (try with_reducible rfl))
            try simp only [Act.put, List.setIfInBounds_toArray, List.set_cons_zero, List.set_cons_succ]
            refine wpAnyH_take (i := 8) (oi := { dst := some 105, op := Op.load 27 (Operand.tmp 104), type := 27, pos := _, after := #[{ on := 7, ground := Ground.data }, { on := 2, ground := Ground.guard }], guard := some (2, false) }) (v := ?_) rfl (by kernel_rfl) (by kernel_rfl) (by kernel_rfl) (fun _ _ _ h => h) (Or.inl ⟨by rfl, ?_⟩) (by assumption) ?_
            rotate_left
            · ((intro w hSw); (try dsimp only at hSw); go_simp; (try with_reducible rfl))
            try simp only [Act.put, List.setIfInBounds_toArray, List.set_cons_zero, List.set_cons_succ]
            refine wpAnyH_ready (rs := [4]) (by kernel_rfl) (by simp) ?_
            refine (AllReadyH.cons (o := { dst := some 101, op := Op.call { callee := Callee.value (Operand.func 52), args := #[Operand.tmp 100], argTypes := #[64] }, type := 27, pos := _, after := #[{ on := 3, ground := Ground.data }, { on := 2, ground := Ground.chain }, { on := 2, ground := Ground.guard }], guard := some (2, false) }) rfl (fun K hK => ?_) AllReadyH.nil)
            go_simp
            (refine (errC (show Rc w7.drew p _ from HC7.out)).mono ?_; rintro e x1 ⟨rfl, rfl⟩)
            go_wp2_with fail
            refine hK.out _ _ ?_ (fun hHeld => ?_)
            · ((try dsimp only); exact kq2)
            clear hK K
            try simp only [Act.put, List.setIfInBounds_toArray, List.set_cons_zero, List.set_cons_succ]
            refine wpAnyH_take (i := 9) (oi := { dst := some 106, op := Op.binOp BinOp.neq 27 (Operand.tmp 101) (Operand.tmp 105) 27, type := 4, pos := _, after := #[{ on := 4, ground := Ground.data }, { on := 8, ground := Ground.data }, { on := 2, ground := Ground.guard }], guard := some (2, false) }) (v := ?_) rfl (by kernel_rfl) (by kernel_rfl) (by kernel_rfl) (fun _ _ _ h => h) (Or.inl ⟨by rfl, ?_⟩) (by assumption) ?_
            rotate_left
            · ((intro w hSw); (try dsimp only at hSw); go_simp; (try with_reducible rfl))
            try simp only [Act.put, List.setIfInBounds_toArray, List.set_cons_zero, List.set_cons_succ]
            refine wpAnyH_take (i := 10) (oi := { dst := some 107, op := Op.pick (Operand.tmp 99) (Operand.const (Value.bool true)) (Operand.tmp 106), type := 4, pos := _, after := #[{ on := 2, ground := Ground.data }, { on := 9, ground := Ground.data }], guard := none }) (v := ?_) rfl (by kernel_rfl) (by kernel_rfl) (by kernel_rfl) (fun _ _ _ h => h) (Or.inl ⟨by rfl, ?_⟩) (by assumption) ?_
            rotate_left
            · ((intro w hSw); (try dsimp only at hSw); go_simp; (try with_reducible rfl))
            try simp only [Act.put, List.setIfInBounds_toArray, List.set_cons_zero, List.set_cons_succ]
            refine wpAnyH_take (i := 11) (oi := { dst := some 108, op := Op.move (Operand.tmp 107), type := 4, pos := _, after := #[{ on := 10, ground := Ground.data }, { on := 4, ground := Ground.chain }], guard := none }) (v := ?_) rfl (by kernel_rfl) (by kernel_rfl) (by kernel_rfl) (fun _ _ _ h => h) (Or.inl ⟨by rfl, ?_⟩) (by assumption) ?_
            rotate_left
            · ((intro w hSw); (try dsimp only at hSw); go_simp; (try with_reducible rfl))
            try simp only [Act.put, List.setIfInBounds_toArray, List.set_cons_zero, List.set_cons_succ]
            refine wpAnyH_take (i := 12) (oi := { dst := some 109, op := Op.move (Operand.tmp 5), type := 64, pos := _, after := #[{ on := 11, ground := Ground.guard }], guard := some (11, false) }) (v := ?_) rfl (by kernel_rfl) (by kernel_rfl) (by kernel_rfl) (fun _ _ _ h => h) (Or.inl ⟨by rfl, ?_⟩) (by assumption) ?_
            rotate_left
            · ((intro w hSw); (try dsimp only at hSw); go_simp; (try with_reducible rfl))
            try simp only [Act.put, List.setIfInBounds_toArray, List.set_cons_zero, List.set_cons_succ]
            refine wpAnyH_take (i := 14) (oi := { dst := some 111, op := Op.move (Operand.tmp 6), type := 66, pos := _, after := #[{ on := 11, ground := Ground.guard }], guard := some (11, false) }) (v := ?_) rfl (by kernel_rfl) (by kernel_rfl) (by kernel_rfl) (fun _ _ _ h => h) (Or.inl ⟨by rfl, ?_⟩) (by assumption) ?_
            rotate_left
            · ((intro w hSw); (try dsimp only at hSw); go_simp; (try with_reducible rfl))
            try simp only [Act.put, List.setIfInBounds_toArray, List.set_cons_zero, List.set_cons_succ]
            refine wpAnyH_ready (rs := [13]) (by kernel_rfl) (by simp) ?_
            refine (AllReadyH.cons (o := { dst := some 110, op := Op.call { callee := Callee.value (Operand.func 53), args := #[Operand.tmp 109], argTypes := #[64] }, type := 3, pos := _, after := #[{ on := 12, ground := Ground.data }, { on := 11, ground := Ground.chain }, { on := 11, ground := Ground.guard }], guard := some (11, false) }) rfl (fun K hK => ?_) AllReadyH.nil)
            go_simp
            (refine (leftC (show Rc w7.drew p _ from HC7.out) hat2 hl2).mono ?_; rintro e x2 ⟨rfl, n1, rfl⟩)
            go_wp2_with fail
            refine hK.out _ _ ?_ (fun hHeld => ?_)
            · ((try dsimp only); exact kq2)
            clear hK K
            try simp only [Act.put, List.setIfInBounds_toArray, List.set_cons_zero, List.set_cons_succ]
            refine wpAnyH_ready (rs := [15]) (by kernel_rfl) (by simp) ?_
            refine (AllReadyH.cons (o := { dst := some 112, op := Op.call { callee := Callee.value (Operand.func 54), args := #[Operand.tmp 111], argTypes := #[66] }, type := 3, pos := _, after := #[{ on := 14, ground := Ground.data }, { on := 13, ground := Ground.chain }, { on := 11, ground := Ground.guard }], guard := some (11, false) }) rfl (fun K hK => ?_) AllReadyH.nil)
            go_simp
            (refine (leftR (show Rq (w7.drewN (1 + n1)) q _ from HQ7.out) hat2 hl2).mono ?_; rintro e x3 ⟨rfl, n2, rfl⟩)
            go_wp2_with fail
            refine hK.out _ _ ?_ (fun hHeld => ?_)
            · ((try dsimp only); exact kq2)
            clear hK K
            try simp only [Act.put, List.setIfInBounds_toArray, List.set_cons_zero, List.set_cons_succ]
            refine wpAnyH_take (i := 16) (oi := { dst := some 113, op := Op.binOp BinOp.neq 3 (Operand.tmp 110) (Operand.tmp 112) 3, type := 4, pos := _, after := #[{ on := 13, ground := Ground.data }, { on := 15, ground := Ground.data }, { on := 11, ground := Ground.guard }], guard := some (11, false) }) (v := ?_) rfl (by kernel_rfl) (by kernel_rfl) (by kernel_rfl) (fun _ _ _ h => h) (Or.inl ⟨by rfl, ?_⟩) (by assumption) ?_
            rotate_left
            · ((intro w hSw); (try dsimp only at hSw); go_simp; (try with_reducible rfl))
            try simp only [Act.put, List.setIfInBounds_toArray, List.set_cons_zero, List.set_cons_succ]
            refine wpAnyH_take (i := 17) (oi := { dst := some 114, op := Op.pick (Operand.tmp 108) (Operand.const (Value.bool true)) (Operand.tmp 113), type := 4, pos := _, after := #[{ on := 11, ground := Ground.data }, { on := 16, ground := Ground.data }], guard := none }) (v := ?_) rfl (by kernel_rfl) (by kernel_rfl) (by kernel_rfl) (fun _ _ _ h => h) (Or.inl ⟨by rfl, ?_⟩) (by assumption) ?_
            rotate_left
            · ((intro w hSw); (try dsimp only at hSw); go_simp; (try with_reducible rfl))
            try simp only [Act.put, List.setIfInBounds_toArray, List.set_cons_zero, List.set_cons_succ]
            refine wpAnyH_done (by kernel_rfl) ?_ _
            go_wp2
            go_roundw
            case rel => exact ⟨i + 1, at2, err2, by omega, by go_num, hat2, HC7.out, HQ7.out, ⟨HB7.out.len, HB7.out.sl, HB7.out.cap, HB7.out.small, HB7.out.byte⟩, ⟨HW7.out.os, HW7.out.tape, HW7.out.output, HW7.out.size, HW7.out.block⟩⟩
            case measure => simp [intOf]; omega
    · obtain rfl : i = N := by omega
      have hT4 := Lib.hid (tab_then hW (Nat.le_refl _) HT.out)
      have HRC := Lib.hid hRc
      have HRQ := Lib.hid hRq
      have HW := Lib.hid hW
      have HLE := Lib.hid hle
      have hEE : endN ⟨ra, l.length, rcap, at_, err⟩ = endN ⟨a, l.length, cap, at_, err⟩ := rfl
      have HEE := Lib.hid hEE
      clear hRc hRq hBy hW hEE hle
      go_wp2_with fail
      refine (HF.out _ hT4.out).mono ?_
      rintro e w9 ⟨rfl, hb9⟩
      have hRc9 := HRC.out.then_ hb9
      have hRq9 := Rq.then_ HRQ.out hb9
      have HW9 := Lib.hid (below_next HW.out hb9)
      clear hb9
      have HE1 := Lib.hid (endC hRc9 HLE.out hl2)
      go_wp2_with fail
      refine HE1.out.mono ?_
      rintro e w10 ⟨rfl, hb10⟩
      have HE2 := Lib.hid (endR (Rq.then_ hRq9 hb10) HLE.out hl2)
      have HW10 := Lib.hid (below_next HW9.out hb10)
      clear hb10 hRc9 hRq9 HE1
      rw [HEE.out]
      go_wp2_with fail
      refine HE2.out.mono ?_
      rintro e w11 ⟨rfl, hb11⟩
      generalize endN ⟨a, l.length, cap, at_, err⟩ = EE at *
      have u1 : ((EE : Int) == EE) = true := by simp
      go_wp2
      go_ret
      exact ⟨rfl, below_next HW10.out hb11⟩
theorem in8 {n : Int} (h : (Lit.int .u8 n).wf = true) : 0 ≤ n ∧ n < 256 := ArgB.in8 h
theorem row_any {w : World} {a : Option Addr} {len cap : Nat} {zs : List Int} (h : IsRow .u8 w a len cap zs) : ∃ l : List Nat, l.length = len ∧ (∀ c ∈ l, c < 256) ∧ Sl w a l ∧ (a = none → cap = 0) ∧ len ≤ cap ∧ (0 < l.length → ∀ x, a = some x → x.block < w.heap.size) := by
  by_cases h1 : 1 ≤ len
  · obtain ⟨b, o, l, rfl, rfl, hl, hc⟩ := ArgB.row_cells h h1
    refine ⟨l, rfl, hl, .inr ⟨b, o, rfl, hc⟩, (fun h => by cases h), ?_, fun _ x hx => ?_⟩
    · rcases h with ⟨h2, _⟩ | ⟨_, _, hlc, _⟩
      · cases h2
      · exact hlc
    · cases hx
      have := World.block_lt_of_cell? w _ (hc 0 (by omega))
      exact this
  · obtain rfl : len = 0 := by omega
    refine ⟨[], rfl, by simp, .inl rfl, (fun ha => ?_), Nat.zero_le _, (fun h => by simp at h)⟩
    rcases h with ⟨_, _, h3, _⟩ | ⟨x, hx, _⟩
    · exact h3
    · rw [ha] at hx; cases hx
theorem walk (a : Option Addr) (len cap : Nat) (zs : List Int) (a2 : Option Addr) (len2 cap2 : Nat) (F : Nat → Int × Int) (W : World) (w0 : IsRow .u8 W a len cap zs) (w1 : IsSteps W a2 len2 cap2 F)
    (hL : Lib.TabIs Tryd.prog W "tickertape/wire.crcSteps" .u32 [0, 498536548, 997073096, 651767980, 1994146192, 1802195444, 1303535960, 1342533948, 3988292384, 4027552580, 3604390888, 3412177804, 2607071920, 2262029012, 2685067896, 3183342108]) :
    Calls Tryd.prog 12 #[.slice a len cap, .slice a2 len2 cap2] W fun e w' => e = .returned (.bool true) ∧ Below W.heap.size W w' := by
  have hT := ArgB.tab hL (by kernel_rfl)
  by_cases h : len ≤ 2000 ∧ len2 ≤ 200
  · obtain ⟨l, rfl, h8, hs, h0, hcap, hblk⟩ := row_any w0
    exact main a cap l a2 len2 cap2 F W hT h.1 h8 hs h0 hcap hblk h.2 w1
  · refine walkOut a len cap a2 len2 cap2 W hT _ _ rfl rfl ?_
    simp only [Bool.or_eq_true, decide_eq_true_eq]
    omega
end Go.Proofs.YtlhapnnepcnfbaaDoor.RdsW
