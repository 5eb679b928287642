/- tiklaw3.UtfWrites: the walk. -/
import Derived.Test.YtlhapnnepcnfbabURef5
set_option linter.unusedVariables false
namespace Go.Proofs.Ytlhapnnepcnfbab.UtfWritesW
open Go Go.RowKit Words UMath UDec URef2

def OutP (w : World) (e : Ending) (w' : World) : Prop := e = .returned (.bool true) ∧ Below w.heap.size w w'
set_option maxRecDepth 100000 in
theorem out (a : Option Addr) (len cap : Nat) (a2 : Option Addr) (len2 cap2 : Nat) (w : World) (h : 2000 < len ∨ 200 < len2) (hm : len ≤ 9223372036854775807) (hm2 : len2 ≤ 9223372036854775807) : Calls Try.prog 3 #[.slice a len cap, .slice a2 len2 cap2] w (OutP w) := by
  rcases h with h | h
  all_goals
    go_enter Try.func3, Try.ntmps3
    go_wp2_with fail
    refine (first _).mono ?_
    rintro e w1 ⟨rfl, hb1⟩
    go_wp2_with fail
  all_goals
    refine (first _).mono ?_
    rintro e w2 ⟨rfl, hb2⟩
    go_wp2
    go_ret
    exact ⟨rfl, below_next hb1 hb2⟩
theorem rd_kept {w w' : World} {p base q : Nat} {d d' : Dec} (h : RdW w p base d) (hd : Dw w q d') (hg : w.grownBy w' (some q)) : RdW w' p base d := by
  obtain ⟨v, B, hB, ho, h1, h2, h3⟩ := h
  exact ⟨v, B, Blk.grown hB hg (fun e => Blk.ne_ hB hd (by decide) (by injection e)), ho.kept hg (.inr (own_blk_ne ho hd (by decide))), h1, h2, h3⟩
theorem rd_then {w w' : World} {p base : Nat} {d : Dec} (h : RdW w p base d) (hb : Below w.heap.size w w') : RdW w' p base d := by
  obtain ⟨v, B, hB, ho, h1, h2, h3⟩ := h
  exact ⟨v, B, hB.then_ hb, own_then hb ho, h1, h2, h3⟩
theorem own_kept29 {w w' : World} {p base base' : Nat} {d : Dec} {v : Value} {n : Nat} {xs : List Value} (h : w.ownsRow base' 21 1 v n xs) (hx : RdW w p base d) (hg : w.grownBy w' (some p)) : w'.ownsRow base' 21 1 v n xs := by
  obtain ⟨v8, B, hB, _⟩ := hx
  exact h.kept hg (.inr (own_blk_ne h hB (by decide)))
theorem dw_kept {w w' : World} {p base q : Nat} {d d' : Dec} (hd : Dw w q d') (hx : RdW w p base d) (hg : w.grownBy w' (some p)) : Dw w' q d' := by
  obtain ⟨v8, B, hB, _⟩ := hx
  exact Blk.grown hd hg (fun e => Blk.ne_ hd hB (by decide) (by injection e))
theorem row_own_at {k : IntKind} {w w' : World} {p base base' : Nat} {d : Dec} {a : Option Addr} {cap e n : Nat} {l : List Int} (h : w'.ownsRow base' e 1 (.slice a l.length cap) n (cellsK k l)) (_ : Row k w a l) (_ : w.grownBy w' (some p)) (_ : RdW w p base d) : Row k w' a l := by
  obtain ⟨a', cap', he, _, hr, _⟩ := row_own h
  injection he with h1
  subst h1
  exact hr
set_option maxRecDepth 100000 in
set_option maxHeartbeats 8000000 in
theorem main (a : Option Addr) (l : List Int) (cap : Nat) (a2 : Option Addr) (q : List Int) (cap2 : Nat) (w : World) (hl : l.length ≤ 2000) (hq : q.length ≤ 200) (hcap : l.length ≤ cap) (hcm : cap ≤ 9223372036854775807) (hr : Row .u8 w a l) (hr2 : Row .i64 w a2 q) (hby : ∀ c ∈ l, 0 ≤ c ∧ c ≤ 255) (h0 : a = none → cap = 0) :
    Calls Try.prog 3 #[.slice a l.length cap, .slice a2 q.length cap2] w (OutP w) := by
  have HR := Lib.hid hr
  have HQ := Lib.hid hr2
  have HB := Lib.hid hby
  clear hr hr2 hby
  go_enter Try.func3, Try.ntmps3
  go_wp2_with fail
  refine (first _).mono ?_
  rintro e w1 ⟨rfl, hb1⟩
  have hwP := hb1.size
  go_wp2_with fail
  refine (newC w1).mono ?_
  rintro e w2 ⟨rfl, rfl⟩
  have hd0 : Dw (w1.alloc (.cells #[.int .i32 0, .int .i64 0, .int .i64 0, .int .u8 0, .int .u8 0] 43)) w1.heap.size d0 := Blk.new _ _ _
  have hb2 : Below w.heap.size w (w1.alloc (.cells #[.int .i32 0, .int .i64 0, .int .i64 0, .int .u8 0, .int .u8 0] 43)) := below_al hb1
  generalize w1.alloc (.cells #[.int .i32 0, .int .i64 0, .int .i64 0, .int .u8 0, .int .u8 0] 43) = w2 at *
  generalize w1.heap.size = P at *
  clear hb1
  have hwX := hb2.size
  have hx3 : RdW (w2.alloc (.cells #[.slice none 0 0] 29)) w2.heap.size w.heap.size d0 := rd0 (Blk.new _ _ _)
  have hd3 : Dw (w2.alloc (.cells #[.slice none 0 0] 29)) P d0 := Blk.alloc hd0 _
  have hb3 : Below w.heap.size w (w2.alloc (.cells #[.slice none 0 0] 29)) := below_al hb2
  have HX3 := Lib.hid hx3
  have HD3 := Lib.hid hd3
  have HB3 := Lib.hid hb3
  clear hx3 hd3 hb3 hd0 hb2
  go_wp2
  generalize w2.alloc (.cells #[.slice none 0 0] 29) = w3 at *
  generalize w2.heap.size = X at *
  go_loopw [7, 8, 9] (fun s7 s8 s9 wr => ∃ k c : Nat, k ≤ q.length + 1 ∧ c ≤ l.length ∧ (k = q.length + 1 → c = l.length) ∧ s8 = .int .i64 (k : Int) ∧ URef2.Left w s7 (l.drop c) ∧ Dw wr P (writeD d0 (l.take c)).2 ∧ RdW wr X w.heap.size (writeD d0 (l.take c)).2 ∧ Below w.heap.size w wr) (fun _ s8 _ _ => q.length + 1 - (intOf s8).toNat)
  case atStart => exact ⟨0, 0, by omega, by omega, by omega, rfl, ⟨a, cap, rfl, hcap, hcm, HR.out, h0⟩, HD3.out, HX3.out, HB3.out⟩
  case round =>
    obtain ⟨k, c, hk, hc, hkc, rfl, hrest, hd, hx, hb⟩ := hrel
    obtain ⟨ar, capr, rfl, hc1, hc2, hrr, hr0⟩ := hrest
    have HRR := Lib.hid hrr
    have HR0 := Lib.hid hr0
    have HKC := Lib.hid hkc
    clear hrr hr0 hkc
    have hML : (l.drop c).length ≤ 2000 := by simp; omega
    have hMc : (l.drop c).length + c = l.length := by simp; omega
    by_cases hlt : k ≤ q.length
    · have HW1 := Lib.hid (fun n => write_app d0 (l.take c) ((l.drop c).take n))
      have HT := Lib.hid (fun n => (List.take_add (l := l) (i := c) (j := n)))
      have HDD := Lib.hid (fun n => (List.drop_drop (l := l) (i := n) (j := c)))
      have hok : OkD (writeD d0 (l.take c)).2 := ok_write ok0 (fun x hx => HB.out x (List.mem_of_mem_take hx))
      have hbM : ∀ x ∈ l.drop c, 0 ≤ x ∧ x ≤ 255 := fun x hx => HB.out x (List.mem_of_mem_drop hx)
      have HBM := Lib.hid hbM
      clear hbM
      generalize hM : l.drop c = M at *
      have HM := Lib.hid hM
      clear hM
      go_upto_if 38 with fail
      go_cut [9] from 27 to 71 (fun s9 wx => ∃ n : Nat, n ≤ M.length ∧ s9 = .int .i64 (n : Int) ∧ (k = q.length → n = M.length) ∧ wx = wr)
      case first =>
        by_cases hk2 : k < q.length
        · obtain ⟨b2, o2, rfl⟩ := HQ.out.addr (by omega)
          have hcell : wr.cell? ⟨b2, o2 + k, none⟩ = some (.int .i64 q[k]) := Row.at_ (HQ.out.then_ hb (Nat.le_refl _)) k hk2
          generalize q[k] = x at hcell
          by_cases hx0 : x ≤ 0
          · go_wp2
            all_goals
              go_meet
              exact ⟨0, Nat.zero_le _, by first | rfl | (congr 1; omega), by omega, rfl⟩
          · obtain ⟨x, rfl⟩ := Int.eq_ofNat_of_zero_le (show 0 ≤ x by omega)
            by_cases hxl : x ≤ M.length
            · go_wp2
              all_goals
                go_meet
                exact ⟨x, hxl, by first | rfl | (congr 1; omega), by omega, rfl⟩
            · go_wp2
              all_goals
                go_meet
                exact ⟨M.length, Nat.le_refl _, by first | rfl | (congr 1; omega), by omega, rfl⟩
        · go_wp2
          go_meet
          exact ⟨M.length, Nat.le_refl _, rfl, fun _ => rfl, rfl⟩
      case rest =>
        obtain ⟨n, hn, rfl, hkn, rfl⟩ := hcut
        have hnl : (M.take n).length = n := by simp; omega
        have hbMn : ∀ x ∈ M.take n, 0 ≤ x ∧ x ≤ 255 := fun x hx => HBM.out x (List.mem_of_mem_take hx)
        have hW4 := writeC P (writeD d0 (l.take c)).2 ar (M.take n) capr wc.drew hd hok (by omega) (((HRR.out.then_ hb (Nat.le_refl _)).take_ n)) hbMn (fun h1 b off e => by have := HRR.out.lt' (by omega) b off e; omega)
        have hW9 : ∀ W, RdW W X w.heap.size (writeD d0 (l.take c)).2 → w.heap.size ≤ W.heap.size → Below w.heap.size w W → Calls Try.prog 13 #[.pointer (some ⟨X, 0, none⟩), .slice ar (M.take n).length capr] W (WrR W X w.heap.size (writeD d0 (l.take c)).2 (M.take n)) := fun W hx hs hB => writeRC X w.heap.size (writeD d0 (l.take c)).2 ar (M.take n) capr W hx hs hok (by omega) ((HRR.out.then_ hB (Nat.le_refl _)).take_ n) HR0.out (by omega) hbMn
        rw [hnl] at hW4 hW9
        have HW4 := Lib.hid hW4
        have HW9 := Lib.hid hW9
        have hwn := write_len (writeD d0 (l.take c)).2 (M.take n)
        have HX := Lib.hid (HW1.out n)
        have HT2 := Lib.hid (HT.out n)
        have HD2 := Lib.hid (HDD.out n)
        have HKN := Lib.hid hkn
        clear hW4 hW9 hkn hbMn
        generalize writeD d0 (l.take c) = r at *
        generalize M.take n = Mn at *
        generalize hr2 : writeD r.2 Mn = r2 at *
        have HR2 := Lib.hid hr2
        clear hr2
        rw [hnl] at hwn
        clear hnl
        have hnc : n ≤ capr := by omega
        go_upto_region 15 with fail
        refine wp_region_held_drew (S := (fun _ => True)) (by kernel_rfl) ?_ (fun hHeld => ?_)
        · ((try dsimp only); (try trivial))
        refine wpAnyH_take (i := 0) (oi := { dst := some 47, op := Op.move (Operand.tmp 5), type := 25, pos := _, after := #[], guard := none }) (v := ?_) rfl (by kernel_rfl) (by kernel_rfl) (by kernel_rfl) (fun _ _ _ h => h) (Or.inl ⟨by rfl, ?_⟩) (by assumption) ?_
        rotate_left
        · ((intro w hSw); (try dsimp only at hSw); go_simp; (try with_reducible rfl))
        try simp only [Act.put, List.setIfInBounds_toArray, List.set_cons_zero, List.set_cons_succ]
        refine wpAnyH_take (i := 1) (oi := { dst := some 48, op := Op.move (Operand.tmp 7), type := 22, pos := _, after := #[], guard := none }) (v := ?_) rfl (by kernel_rfl) (by kernel_rfl) (by kernel_rfl) (fun _ _ _ h => h) (Or.inl ⟨by rfl, ?_⟩) (by assumption) ?_
        rotate_left
        · ((intro w hSw); (try dsimp only at hSw); go_simp; (try with_reducible rfl))
        try simp only [Act.put, List.setIfInBounds_toArray, List.set_cons_zero, List.set_cons_succ]
        refine wpAnyH_take (i := 2) (oi := { dst := some 49, op := Op.move (Operand.tmp 9), type := 3, pos := _, after := #[], guard := none }) (v := ?_) rfl (by kernel_rfl) (by kernel_rfl) (by kernel_rfl) (fun _ _ _ h => h) (Or.inl ⟨by rfl, ?_⟩) (by assumption) ?_
        rotate_left
        · ((intro w hSw); (try dsimp only at hSw); go_simp; (try with_reducible rfl))
        try simp only [Act.put, List.setIfInBounds_toArray, List.set_cons_zero, List.set_cons_succ]
        refine wpAnyH_take (i := 3) (oi := { dst := some 50, op := Op.slice 22 (Operand.tmp 48) none (some (Operand.tmp 49)) none, type := 22, pos := _, after := #[{ on := 1, ground := Ground.data }, { on := 2, ground := Ground.data }], guard := none }) (v := ?_) rfl (by kernel_rfl) (by kernel_rfl) (by kernel_rfl) (fun _ _ _ h => h) (Or.inl ⟨by rfl, ?_⟩) (by assumption) ?_
        rotate_left
        · ((intro w hSw); (try dsimp only at hSw); go_simp; (try with_reducible rfl))
        try simp only [Act.put, List.setIfInBounds_toArray, List.set_cons_zero, List.set_cons_succ]
        refine wpAnyH_take (i := 5) (oi := { dst := some 52, op := Op.move (Operand.tmp 6), type := 27, pos := _, after := #[], guard := none }) (v := ?_) rfl (by kernel_rfl) (by kernel_rfl) (by kernel_rfl) (fun _ _ _ h => h) (Or.inl ⟨by rfl, ?_⟩) (by assumption) ?_
        rotate_left
        · ((intro w hSw); (try dsimp only at hSw); go_simp; (try with_reducible rfl))
        try simp only [Act.put, List.setIfInBounds_toArray, List.set_cons_zero, List.set_cons_succ]
        refine wpAnyH_take (i := 6) (oi := { dst := some 53, op := Op.move (Operand.tmp 7), type := 22, pos := _, after := #[], guard := none }) (v := ?_) rfl (by kernel_rfl) (by kernel_rfl) (by kernel_rfl) (fun _ _ _ h => h) (Or.inl ⟨by rfl, ?_⟩) (by assumption) ?_
        rotate_left
        · ((intro w hSw); (try dsimp only at hSw); go_simp; (try with_reducible rfl))
        try simp only [Act.put, List.setIfInBounds_toArray, List.set_cons_zero, List.set_cons_succ]
        refine wpAnyH_take (i := 7) (oi := { dst := some 54, op := Op.move (Operand.tmp 9), type := 3, pos := _, after := #[], guard := none }) (v := ?_) rfl (by kernel_rfl) (by kernel_rfl) (by kernel_rfl) (fun _ _ _ h => h) (Or.inl ⟨by rfl, ?_⟩) (by assumption) ?_
        rotate_left
        · ((intro w hSw); (try dsimp only at hSw); go_simp; (try with_reducible rfl))
        try simp only [Act.put, List.setIfInBounds_toArray, List.set_cons_zero, List.set_cons_succ]
        refine wpAnyH_take (i := 8) (oi := { dst := some 55, op := Op.slice 22 (Operand.tmp 53) none (some (Operand.tmp 54)) none, type := 22, pos := _, after := #[{ on := 6, ground := Ground.data }, { on := 7, ground := Ground.data }], guard := none }) (v := ?_) rfl (by kernel_rfl) (by kernel_rfl) (by kernel_rfl) (fun _ _ _ h => h) (Or.inl ⟨by rfl, ?_⟩) (by assumption) ?_
        rotate_left
        · ((intro w hSw); (try dsimp only at hSw); go_simp; (try with_reducible rfl))
        try simp only [Act.put, List.setIfInBounds_toArray, List.set_cons_zero, List.set_cons_succ]
        refine wpAnyH_ready (rs := [4]) (by kernel_rfl) (by simp) ?_
        refine (AllReadyH.cons (o := { dst := some 51, op := Op.call { callee := Callee.value (Operand.func 12), args := #[Operand.tmp 47, Operand.tmp 50], argTypes := #[25, 22] }, type := 31, pos := _, after := #[{ on := 0, ground := Ground.data }, { on := 3, ground := Ground.data }], guard := none }) rfl (fun K hK => ?_) AllReadyH.nil)
        go_simp
        refine HW4.out.mono ?_
        rintro e w5 ⟨v5, rfl, ho5, hd5, hg5⟩
        rw [HR2.out] at ho5 hd5
        replace hg5 : wc.grownBy w5 (some P) := ⟨hg5.os, hg5.tape, hg5.output, hg5.size, hg5.block⟩
        obtain ⟨a5, cap5, rfl, hcap5, hr5, _, _⟩ := row_own ho5
        have HX5 := Lib.hid (rd_kept hx hd hg5)
        have HB5 := Lib.hid (below_put hb hg5 hwP)
        have HO5 := Lib.hid ho5
        have hs5 := hg5.size
        clear ho5 hg5
        go_wp2_with fail
        refine hK.out _ _ ?_ (fun hHeld => ?_)
        · ((try dsimp only); (try trivial))
        clear hK K
        try simp only [Act.put, List.setIfInBounds_toArray, List.set_cons_zero, List.set_cons_succ]
        refine wpAnyH_ready (rs := [9]) (by kernel_rfl) (by simp) ?_
        refine (AllReadyH.cons (o := { dst := some 56, op := Op.call { callee := Callee.value (Operand.func 13), args := #[Operand.tmp 52, Operand.tmp 55], argTypes := #[27, 22] }, type := 31, pos := _, after := #[{ on := 5, ground := Ground.data }, { on := 8, ground := Ground.data }, { on := 4, ground := Ground.chain }], guard := none }) rfl (fun K hK => ?_) AllReadyH.nil)
        go_simp
        refine (HW9.out w5 HX5.out (by have := HB5.out.size; omega) HB5.out).mono ?_
        rintro e w6 ⟨v6, rfl, hx6, ho6, hg6⟩
        rw [HR2.out] at ho6 hx6
        obtain ⟨a6, cap6, rfl, hcap6, hr6, _, _⟩ := row_own ho6
        have hr5b := (row_own_at (own_kept29 HO5.out HX5.out hg6) hr5 hg6 HX5.out)
        have hd6 := dw_kept hd5 HX5.out hg6
        have hb6 := below_put HB5.out hg6 hwX
        clear ho6 hg6 hr5 hd5 HX5 HB5 HO5 hs5
        go_wp2_with fail
        refine hK.out _ _ ?_ (fun hHeld => ?_)
        · ((try dsimp only); (try trivial))
        clear hK K
        try simp only [Act.put, List.setIfInBounds_toArray, List.set_cons_zero, List.set_cons_succ]
        refine wpAnyH_ready (rs := [10]) (by kernel_rfl) (by simp) ?_
        refine (AllReadyH.cons (o := { dst := some 57, op := Op.call { callee := Callee.value (Operand.func 11), args := #[Operand.tmp 51, Operand.tmp 56], argTypes := #[31, 31] }, type := 4, pos := _, after := #[{ on := 4, ground := Ground.data }, { on := 9, ground := Ground.data }, { on := 9, ground := Ground.chain }], guard := none }) rfl (fun K hK => ?_) AllReadyH.nil)
        go_simp
        refine (runesC a5 a6 cap5 cap6 r2.1 r2.1 w6 (by omega) hr5b hr6).mono ?_
        rw [show decide (r2.1 = r2.1) = true from by simp]
        rintro e w7 ⟨rfl, k7, rfl⟩
        have hd7 : Dw (w6.drewN k7) P r2.2 := Blk.drewN hd6 k7
        have HD7 := Lib.hid hd7
        have HX7 : Hid (RdW (w6.drewN k7) X w.heap.size r2.2) := Lib.hid hx6
        have hb7 := below_drewN hb6 k7
        have HB7 := Lib.hid hb7
        obtain ⟨v8, B8, hB8, ho8, _, _, hh8⟩ := hx6
        obtain ⟨a8, cap8, rfl, hcap8, _, _, _⟩ := row_own ho8
        have hc8 : (w6.drewN k7).cell? ⟨X, 0, none⟩ = some (.slice a8 B8.length cap8) := Blk.cell hB8 0
        have hpd := pendC P r2.2 (w6.drewN k7) hd7
        rw [hh8] at hpd
        have HPD := Lib.hid hpd
        clear hd7 hd6 hb6 hb7 hB8 ho8 hh8 hr5b hr6 hpd
        generalize w6.drewN k7 = w7 at *
        generalize B8.length = n8 at *
        go_wp2_with fail
        refine hK.out _ _ ?_ (fun hHeld => ?_)
        · ((try dsimp only); (try trivial))
        clear hK K
        try simp only [Act.put, List.setIfInBounds_toArray, List.set_cons_zero, List.set_cons_succ]
        refine wpAnyH_take (i := 11) (oi := { dst := some 58, op := Op.unOp UnOp.not 4 (Operand.tmp 57), type := 4, pos := _, after := #[{ on := 10, ground := Ground.data }], guard := none }) (v := ?_) rfl (by kernel_rfl) (by kernel_rfl) (by kernel_rfl) (fun _ _ _ h => h) (Or.inl ⟨by rfl, ?_⟩) (by assumption) ?_
        rotate_left
        · ((intro w hSw); (try dsimp only at hSw); go_simp; (try with_reducible rfl))
        try simp only [Act.put, List.setIfInBounds_toArray, List.set_cons_zero, List.set_cons_succ]
        refine wpAnyH_take (i := 12) (oi := { dst := some 59, op := Op.move (Operand.tmp 58), type := 4, pos := _, after := #[{ on := 11, ground := Ground.data }, { on := 10, ground := Ground.chain }], guard := none }) (v := ?_) rfl (by kernel_rfl) (by kernel_rfl) (by kernel_rfl) (fun _ _ _ h => h) (Or.inl ⟨by rfl, ?_⟩) (by assumption) ?_
        rotate_left
        · ((intro w hSw); (try dsimp only at hSw); go_simp; (try with_reducible rfl))
        try simp only [Act.put, List.setIfInBounds_toArray, List.set_cons_zero, List.set_cons_succ]
        refine wpAnyH_take (i := 13) (oi := { dst := some 60, op := Op.move (Operand.tmp 5), type := 25, pos := _, after := #[{ on := 12, ground := Ground.guard }], guard := some (12, false) }) (v := ?_) rfl (by kernel_rfl) (by kernel_rfl) (by kernel_rfl) (fun _ _ _ h => h) (Or.inl ⟨by rfl, ?_⟩) (by assumption) ?_
        rotate_left
        · ((intro w hSw); (try dsimp only at hSw); go_simp; (try with_reducible rfl))
        try simp only [Act.put, List.setIfInBounds_toArray, List.set_cons_zero, List.set_cons_succ]
        refine wpAnyH_take (i := 15) (oi := { dst := some 62, op := Op.move (Operand.tmp 6), type := 27, pos := _, after := #[{ on := 12, ground := Ground.guard }], guard := some (12, false) }) (v := ?_) rfl (by kernel_rfl) (by kernel_rfl) (by kernel_rfl) (fun _ _ _ h => h) (Or.inl ⟨by rfl, ?_⟩) (by assumption) ?_
        rotate_left
        · ((intro w hSw); (try dsimp only at hSw); go_simp; (try with_reducible rfl))
        try simp only [Act.put, List.setIfInBounds_toArray, List.set_cons_zero, List.set_cons_succ]
        refine wpAnyH_take (i := 16) (oi := { dst := some 63, op := Op.nilCheck (Operand.tmp 62), type := 0, pos := _, after := #[{ on := 15, ground := Ground.data }, { on := 12, ground := Ground.guard }], guard := some (12, false) }) (v := ?_) rfl (by kernel_rfl) (by kernel_rfl) (by kernel_rfl) (fun _ _ _ h => h) (Or.inl ⟨by rfl, ?_⟩) (by assumption) ?_
        rotate_left
        · ((intro w hSw); (try dsimp only at hSw); go_simp; (try with_reducible rfl))
        try simp only [Act.put, List.setIfInBounds_toArray, List.set_cons_zero, List.set_cons_succ]
        refine wpAnyH_take (i := 17) (oi := { dst := some 64, op := Op.fieldAddr 29 (Operand.tmp 63) 0, type := 0, pos := _, after := #[{ on := 16, ground := Ground.data }, { on := 12, ground := Ground.guard }], guard := some (12, false) }) (v := ?_) rfl (by kernel_rfl) (by kernel_rfl) (by kernel_rfl) (fun _ _ _ h => h) (Or.inl ⟨by rfl, ?_⟩) (by assumption) ?_
        rotate_left
        · ((intro w hSw); (try dsimp only at hSw); go_simp; (try with_reducible rfl))
        try simp only [Act.put, List.setIfInBounds_toArray, List.set_cons_zero, List.set_cons_succ]
        refine wpAnyH_ready (rs := [14, 18]) (by kernel_rfl) (by simp) ?_
        refine (AllReadyH.cons (o := { dst := some 61, op := Op.call { callee := Callee.value (Operand.func 14), args := #[Operand.tmp 60], argTypes := #[25] }, type := 3, pos := _, after := #[{ on := 13, ground := Ground.data }, { on := 12, ground := Ground.chain }, { on := 12, ground := Ground.guard }], guard := some (12, false) }) rfl (fun K hK => ?_) (AllReadyH.cons (o := { dst := some 65, op := Op.load 22 (Operand.tmp 64), type := 22, pos := _, after := #[{ on := 17, ground := Ground.data }, { on := 12, ground := Ground.guard }], guard := some (12, false) }) rfl (fun K hK => ?_) AllReadyH.nil))
        · skip
          go_simp
          refine HPD.out.mono ?_
          rintro e w8 ⟨rfl, rfl⟩
          go_wp2_with fail
          refine hK.out _ _ ?_ (fun hHeld => ?_)
          · ((try dsimp only); (try trivial))
          clear hK K
          try simp only [Act.put, List.setIfInBounds_toArray, List.set_cons_zero, List.set_cons_succ]
          refine wpAnyH_ready (rs := [18]) (by kernel_rfl) (by simp) ?_
          refine (AllReadyH.cons (o := { dst := some 65, op := Op.load 22 (Operand.tmp 64), type := 22, pos := _, after := #[{ on := 17, ground := Ground.data }, { on := 12, ground := Ground.guard }], guard := some (12, false) }) rfl (fun K hK => ?_) AllReadyH.nil)
          go_simp
          refine hK.out _ _ ?_ (fun hHeld => ?_)
          · ((try dsimp only); (try trivial))
          clear hK K
          try simp only [Act.put, List.setIfInBounds_toArray, List.set_cons_zero, List.set_cons_succ]
          refine wpAnyH_take (i := 19) (oi := { dst := some 66, op := Op.call { callee := Callee.builtin Builtin.len, args := #[Operand.tmp 65], argTypes := #[22] }, type := 3, pos := _, after := #[{ on := 18, ground := Ground.data }, { on := 12, ground := Ground.guard }], guard := some (12, false) }) (v := ?_) rfl (by kernel_rfl) (by kernel_rfl) (by kernel_rfl) (fun _ _ _ h => h) (Or.inl ⟨by rfl, ?_⟩) (by assumption) ?_
          rotate_left
          · ((intro w hSw); (try dsimp only at hSw); go_simp; (try with_reducible rfl))
          try simp only [Act.put, List.setIfInBounds_toArray, List.set_cons_zero, List.set_cons_succ]
          refine wpAnyH_take (i := 20) (oi := { dst := some 67, op := Op.binOp BinOp.neq 3 (Operand.tmp 61) (Operand.tmp 66) 3, type := 4, pos := _, after := #[{ on := 14, ground := Ground.data }, { on := 19, ground := Ground.data }, { on := 12, ground := Ground.guard }], guard := some (12, false) }) (v := ?_) rfl (by kernel_rfl) (by kernel_rfl) (by kernel_rfl) (fun _ _ _ h => h) (Or.inl ⟨by rfl, ?_⟩) (by assumption) ?_
          rotate_left
          · ((intro w hSw); (try dsimp only at hSw); go_simp; (try with_reducible rfl))
          try simp only [Act.put, List.setIfInBounds_toArray, List.set_cons_zero, List.set_cons_succ]
          refine wpAnyH_take (i := 21) (oi := { dst := some 68, op := Op.pick (Operand.tmp 59) (Operand.const (Value.bool true)) (Operand.tmp 67), type := 4, pos := _, after := #[{ on := 12, ground := Ground.data }, { on := 20, ground := Ground.data }], guard := none }) (v := ?_) rfl (by kernel_rfl) (by kernel_rfl) (by kernel_rfl) (fun _ _ _ h => h) (Or.inl ⟨by rfl, ?_⟩) (by assumption) ?_
          rotate_left
          · ((intro w hSw); (try dsimp only at hSw); go_simp; (try with_reducible rfl))
          try simp only [Act.put, List.setIfInBounds_toArray, List.set_cons_zero, List.set_cons_succ]
          refine wpAnyH_done (by kernel_rfl) ?_ _
          go_wp2
          go_roundw
          case rel => exact ⟨k + 1, c + n, by omega, by omega, (by have := HKN.out; omega), by go_num, by rw [← HD2.out]; exact left_cut rfl HRR.out hc1 hc2 hn HR0.out, by rw [HT2.out, HX.out]; exact HD7.out, by rw [HT2.out, HX.out]; exact HX7.out, HB7.out⟩
          case measure => simp [intOf]; omega
        · skip
          go_simp
          refine hK.out _ _ ?_ (fun hHeld => ?_)
          · ((try dsimp only); (try trivial))
          clear hK K
          try simp only [Act.put, List.setIfInBounds_toArray, List.set_cons_zero, List.set_cons_succ]
          refine wpAnyH_take (i := 19) (oi := { dst := some 66, op := Op.call { callee := Callee.builtin Builtin.len, args := #[Operand.tmp 65], argTypes := #[22] }, type := 3, pos := _, after := #[{ on := 18, ground := Ground.data }, { on := 12, ground := Ground.guard }], guard := some (12, false) }) (v := ?_) rfl (by kernel_rfl) (by kernel_rfl) (by kernel_rfl) (fun _ _ _ h => h) (Or.inl ⟨by rfl, ?_⟩) (by assumption) ?_
          rotate_left
          · ((intro w hSw); (try dsimp only at hSw); go_simp; (try with_reducible rfl))
          try simp only [Act.put, List.setIfInBounds_toArray, List.set_cons_zero, List.set_cons_succ]
          refine wpAnyH_ready (rs := [14]) (by kernel_rfl) (by simp) ?_
          refine (AllReadyH.cons (o := { dst := some 61, op := Op.call { callee := Callee.value (Operand.func 14), args := #[Operand.tmp 60], argTypes := #[25] }, type := 3, pos := _, after := #[{ on := 13, ground := Ground.data }, { on := 12, ground := Ground.chain }, { on := 12, ground := Ground.guard }], guard := some (12, false) }) rfl (fun K hK => ?_) AllReadyH.nil)
          go_simp
          refine HPD.out.mono ?_
          rintro e w8 ⟨rfl, rfl⟩
          go_wp2_with fail
          refine hK.out _ _ ?_ (fun hHeld => ?_)
          · ((try dsimp only); (try trivial))
          clear hK K
          try simp only [Act.put, List.setIfInBounds_toArray, List.set_cons_zero, List.set_cons_succ]
          refine wpAnyH_take (i := 20) (oi := { dst := some 67, op := Op.binOp BinOp.neq 3 (Operand.tmp 61) (Operand.tmp 66) 3, type := 4, pos := _, after := #[{ on := 14, ground := Ground.data }, { on := 19, ground := Ground.data }, { on := 12, ground := Ground.guard }], guard := some (12, false) }) (v := ?_) rfl (by kernel_rfl) (by kernel_rfl) (by kernel_rfl) (fun _ _ _ h => h) (Or.inl ⟨by rfl, ?_⟩) (by assumption) ?_
          rotate_left
          · ((intro w hSw); (try dsimp only at hSw); go_simp; (try with_reducible rfl))
          try simp only [Act.put, List.setIfInBounds_toArray, List.set_cons_zero, List.set_cons_succ]
          refine wpAnyH_take (i := 21) (oi := { dst := some 68, op := Op.pick (Operand.tmp 59) (Operand.const (Value.bool true)) (Operand.tmp 67), type := 4, pos := _, after := #[{ on := 12, ground := Ground.data }, { on := 20, ground := Ground.data }], guard := none }) (v := ?_) rfl (by kernel_rfl) (by kernel_rfl) (by kernel_rfl) (fun _ _ _ h => h) (Or.inl ⟨by rfl, ?_⟩) (by assumption) ?_
          rotate_left
          · ((intro w hSw); (try dsimp only at hSw); go_simp; (try with_reducible rfl))
          try simp only [Act.put, List.setIfInBounds_toArray, List.set_cons_zero, List.set_cons_succ]
          refine wpAnyH_done (by kernel_rfl) ?_ _
          go_wp2
          go_roundw
          case rel => exact ⟨k + 1, c + n, by omega, by omega, (by have := HKN.out; omega), by go_num, by rw [← HD2.out]; exact left_cut rfl HRR.out hc1 hc2 hn HR0.out, by rw [HT2.out, HX.out]; exact HD7.out, by rw [HT2.out, HX.out]; exact HX7.out, HB7.out⟩
          case measure => simp [intOf]; omega
    · obtain rfl : k = q.length + 1 := by omega
      obtain rfl : c = l.length := HKC.out rfl
      rw [List.take_of_length_le (Nat.le_refl _)] at hd hx
      have hok : OkD (writeD d0 l).2 := ok_write ok0 HB.out
      generalize writeD d0 l = r at *
      go_wp2_with fail
      refine (first _).mono ?_
      rintro e w6 ⟨rfl, hb6⟩
      have hB6 := below_next hb hb6
      have hd6 : Dw w6 P r.2 := Blk.then_ hd hb6
      have hx6 : RdW w6 X w.heap.size r.2 := rd_then hx hb6
      clear hb6 hb hd hx
      go_wp2_with fail
      refine (flushC P r.2 w6 hd6 hok).mono ?_
      rintro e w7 ⟨v7, rfl, hd7, hg7, ho7⟩
      obtain ⟨a7, cap7, rfl, hcap7, hr7, _, _⟩ := row_own ho7
      have hx7 := rd_kept hx6 hd6 hg7
      have hB7 := below_put hB6 hg7 hwP
      clear hx6 hd6 hg7 hB6
      go_wp2_with fail
      refine (flushRC X w.heap.size r.2 w7 hx7).mono ?_
      rintro e w8 ⟨v8, rfl, hx8, hg8, ho8⟩
      obtain ⟨a8, cap8, rfl, hcap8, hr8, _, _⟩ := row_own ho8
      have hr7b := row_own_at (own_kept29 ho7 hx7 hg8) hr7 hg8 hx7
      have hd8 := dw_kept hd7 hx7 hg8
      have hB8 := below_put hB7 hg8 hwX
      have hfl : (flushL r.2).length ≤ 1 := by unfold flushL; split <;> simp
      generalize flushL r.2 = fl at *
      clear hx8 hg8 ho8 ho7 hr7 hd7 hx7 hB7
      go_wp2_with fail
      refine (runesC a7 a8 cap7 cap8 fl fl w8 (by omega) hr7b hr8).mono ?_
      rw [show decide (fl = fl) = true from by simp]
      rintro e w9 ⟨rfl, k9, rfl⟩
      go_wp2_with fail
      refine (pendC P d0 _ (Blk.drewN hd8 k9)).mono ?_
      rintro e w9 ⟨rfl, rfl⟩
      go_wp2_with fail
      refine (flushC P d0 _ (Blk.drewN hd8 k9) ok0).mono ?_
      rintro e w9 ⟨v9, rfl, hd9, hg9, ho9⟩
      obtain ⟨a9, cap9, rfl, hcap9, _, _, _⟩ := row_own ho9
      have hB9 := below_put (below_drewN hB8 k9) hg9 hwP
      go_wp2
      go_ret
      exact ⟨rfl, hB9⟩
theorem walk (a : Option Addr) (len cap : Nat) (zs : List Int) (a2 : Option Addr) (len2 cap2 : Nat) (zs2 : List Int) (W : World) (w0 : IsRow .u8 W a len cap zs) (w1 : IsRow .i64 W a2 len2 cap2 zs2) :
    Calls Try.prog 3 #[.slice a len cap, .slice a2 len2 cap2] W fun e w' => e = .returned (.bool true) ∧ Below W.heap.size W w' := by
  obtain ⟨l, rfl, hcap, hcm, h0, hi, hwf⟩ := row_in w0
  obtain ⟨q, rfl, hcap2, hcm2, h02, hi2, _⟩ := row_in w1
  by_cases h : 2000 < l.length ∨ 200 < q.length
  · exact out a _ cap a2 _ cap2 W h (by omega) (by omega)
  · exact main a l cap a2 q cap2 W (by omega) (by omega) hcap hcm hi hi2 (fun c hc => wf_u8 (hwf c hc)) h0
end Go.Proofs.Ytlhapnnepcnfbab.UtfWritesW
