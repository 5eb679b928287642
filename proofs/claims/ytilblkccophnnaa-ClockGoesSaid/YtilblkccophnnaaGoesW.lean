/- tiklaw22.ClockGoes: the walk. -/
import Derived.Test.YtilblkccophnnaaCkPl
import Derived.Deep.CutRange
import Derived.Deep.CutBlock
import Derived.LoopTactic
set_option linter.unusedVariables false
namespace Go.Proofs.Ytilblkccophnnaa.GoesW
open Go Go.RowKit Kit Nums Scale Scale2 Scales CkMath CkC CkD CkE CkN CkF CkTwo StepsW CkPl

def OutP (w : World) (e : Ending) (w' : World) : Prop := e = .returned (.bool true) ∧ Below w.heap.size w w'
set_option maxRecDepth 100000 in
theorem out (T X n d : Nat) (a : Option Addr) (len cap : Nat) (w : World) (h : 200 < len) (hm : len ≤ 9223372036854775807) : Calls Try.prog 3 #[.int .u64 (T : Int), .int .u64 (X : Int), .agg #[.int .u64 (n : Int), .int .u64 (d : Int)], .slice a len cap] w (OutP w) := by
  go_enter Try.func3, Try.ntmps3
  go_wp2_with fail
  refine (first _).mono ?_
  rintro e w1 ⟨rfl, hb1⟩
  go_wp2_with fail
  refine (first _).mono ?_
  rintro e w2 ⟨rfl, hb2⟩
  go_wp2
  go_ret
  exact ⟨rfl, below_next (below_next ((Below.refl _ _).alloc (Nat.le_refl _) _) hb1) hb2⟩
theorem newRNo (t x n y : Nat) (w : World) (hn : n < 18446744073709551616) (hy : y < 18446744073709551616) (hno : ¬ (mayN n y = true ∧ t ≤ mx ∧ x ≤ mx)) :
    Calls Try.prog 9 #[.int .u64 (t : Int), .int .u64 (x : Int), .agg #[.int .u64 (n : Int), .int .u64 (y : Int)]] w fun e w' => e = .returned (.tuple #[.pointer none, .int .i64 1]) ∧ Below w.heap.size w w' := by
  refine (newR t x n y w hn hy).mono ?_
  rintro e w' (⟨h1, h2, h3, _⟩ | ⟨_, rfl, hb⟩)
  · exact absurd ⟨h1, h2, h3⟩ hno
  · exact ⟨rfl, hb⟩
theorem newR1 (t x n y : Nat) (w : World) (hn : n < 18446744073709551616) (hy : y < 18446744073709551616) (hm : mayN n y = true) (ht : t ≤ mx) (hx : x ≤ mx) :
    Calls Try.prog 9 #[.int .u64 (t : Int), .int .u64 (x : Int), .agg #[.int .u64 (n : Int), .int .u64 (y : Int)]] w fun e w' => ∃ p, w.heap.size ≤ p ∧ e = .returned (.tuple #[.pointer (some ⟨p, 0, none⟩), .int .i64 0]) ∧ Cl 44 w' p ⟨t, x, 0, n, y⟩ ∧ Below w.heap.size w w' := by
  refine (newR t x n y w hn hy).mono ?_
  rintro e w' (⟨_, _, _, ⟨p, hp, rfl, hc⟩, hb⟩ | ⟨hno, _, _⟩)
  · exact ⟨p, hp, rfl, hc, hb⟩
  · exact absurd ⟨hm, ht, hx⟩ hno
set_option maxRecDepth 100000 in
set_option maxHeartbeats 4000000 in
theorem outNo (T X n d : Nat) (a : Option Addr) (len cap : Nat) (w : World) (h : len ≤ 200) (hn : n < 18446744073709551616) (hd : d < 18446744073709551616) (hno : ¬ (mayN n d = true ∧ T ≤ mx ∧ X ≤ mx)) :
    Calls Try.prog 3 #[.int .u64 (T : Int), .int .u64 (X : Int), .agg #[.int .u64 (n : Int), .int .u64 (d : Int)], .slice a len cap] w (OutP w) := by
  have HN := Lib.hid (fun w => newNo T X n d w hn hd hno)
  have HR := Lib.hid (fun w => newRNo T X n d w hn hd hno)
  clear hn hd hno
  go_enter Try.func3, Try.ntmps3
  go_wp2_with fail
  obtain ⟨x0, x1, hb0⟩ := box w n d
  generalize w.alloc (.cells #[.int .u64 (n : Int), .int .u64 (d : Int)] 24) = W0 at *
  refine (first _).mono ?_
  rintro e w1 ⟨rfl, hb1⟩
  have y0 := cell_then hb1 (Nat.le_refl _) x0
  have y1 := cell_then hb1 (Nat.le_refl _) x1
  clear x0 x1
  go_wp2_with fail
  refine (HN.out _).mono ?_
  rintro e w2 ⟨rfl, hb2⟩
  have z0 := cell_then hb2 (Nat.le_refl _) y0
  have z1 := cell_then hb2 (Nat.le_refl _) y1
  clear y0 y1
  go_wp2_with fail
  refine (plainC (n : Int) (d : Int) _).mono ?_
  rintro e w3 ⟨rfl, hb3⟩
  clear z0 z1
  go_wp2_with fail
  refine (HR.out _).mono ?_
  rintro e w4 ⟨rfl, hb4⟩
  go_wp2
  refine wp_loop_rounds 1 ?_
  rw [rounds_succ]
  go_wp2_with fail
  refine (first _).mono ?_
  rintro e w5 ⟨rfl, hb5⟩
  go_wp2
  go_ret
  exact ⟨rfl, below_next (below_next (below_next (below_next (below_next hb0 hb1) hb2) hb3) hb4) hb5⟩
set_option maxRecDepth 100000 in
set_option maxHeartbeats 8000000 in
theorem main (T X m d : Nat) (a : Option Addr) (len cap : Nat) (F : Nat → Op5) (w : World) (hm : m < 18446744073709551616) (hd : d < 18446744073709551616) (hmay : mayN m d = true) (hT : T ≤ mx) (hX0 : X ≤ mx) (hl : len ≤ 200) (ho : IsOps w a len cap F) :
    Calls Try.prog 3 #[.int .u64 (T : Int), .int .u64 (X : Int), .agg #[.int .u64 (m : Int), .int .u64 (d : Int)], .slice a len cap] w (OutP w) := by
  have HO := Lib.hid ho
  have HN := Lib.hid (fun w => new1 T X m d w hm hd hmay hT hX0)
  have HR := Lib.hid (fun w => newR1 T X m d w hm hd hmay hT hX0)
  have HK0 : Hid (Ckk ⟨T, X, 0, m, d⟩) := Lib.hid (new_ckk (by rw [mx_eq] at hT; omega) hX0 hmay)
  clear ho hm hd hmay hT hX0
  go_enter Try.func3, Try.ntmps3
  go_wp2_with fail
  obtain ⟨x0, x1, hb0⟩ := box w m d
  generalize w.alloc (.cells #[.int .u64 (m : Int), .int .u64 (d : Int)] 24) = W0 at *
  refine (first _).mono ?_
  rintro e w1 ⟨rfl, hb1⟩
  have y0 := cell_then hb1 (Nat.le_refl _) x0
  have y1 := cell_then hb1 (Nat.le_refl _) x1
  clear x0 x1
  go_wp2_with fail
  refine (HN.out _).mono ?_
  rintro e w2 ⟨p, hp, rfl, hc, hb2⟩
  have z0 := cell_then hb2 (Nat.le_refl _) y0
  have z1 := cell_then hb2 (Nat.le_refl _) y1
  clear y0 y1
  go_wp2_with fail
  refine (plainC (m : Int) (d : Int) _).mono ?_
  rintro e w3 ⟨rfl, hb3⟩
  clear z0 z1
  go_wp2_with fail
  refine (HR.out _).mono ?_
  rintro e w4 ⟨q, hq, rfl, hc2, hb4⟩
  have hB0 : Mx w p q ⟨T, X, 0, m, d⟩ ⟨T, X, 0, m, d⟩ w4 := by
    have z1 := hb0.size
    have z2 := hb1.size
    have z3 := hb2.size
    have z4 := hb3.size
    exact ⟨(hc.then_ hb3).then_ hb4, hc2, by omega, by omega, below_next (below_next (below_next (below_next hb0 hb1) hb2) hb3) hb4⟩
  clear hc hc2 hb0 hb1 hb2 hb3 hb4 hp hq
  generalize (⟨T, X, 0, m, d⟩ : Ck) = c0 at *
  have HB0 := Lib.hid hB0
  clear hB0
  go_wp2
  go_loopw [13] (fun s13 wr => ∃ (i : Nat) (c : Ck), i ≤ len ∧ s13 = .int .i64 (i : Int) ∧ Ckk c ∧ Mx w p q c c wr) (fun s13 _ => len - (intOf s13).toNat)
  case atStart => exact ⟨0, c0, Nat.zero_le _, rfl, HK0.out, HB0.out⟩
  case round =>
    clear HB0 HK0
    obtain ⟨i, c, hi, rfl, hCk, hB⟩ := hrel
    by_cases hlt : i < len
    · obtain ⟨sb, so, rfl, hc⟩ : ∃ sb so, a = some ⟨sb, so, none⟩ ∧ (w.cell? ⟨sb, so + i * 5, none⟩ = some (.int .i64 (F i).kind) ∧ w.cell? ⟨sb, so + i * 5 + 1, none⟩ = some (.int .u64 ((F i).now : Int)) ∧ w.cell? ⟨sb, so + i * 5 + 2, none⟩ = some (.int .u64 ((F i).pos : Int)) ∧
          w.cell? ⟨sb, so + i * 5 + 3, none⟩ = some (.int .u64 ((F i).num : Int)) ∧ w.cell? ⟨sb, so + i * 5 + 4, none⟩ = some (.int .u64 ((F i).den : Int)) ∧ (F i).ok) := by
        rcases HO.out with ⟨_, _, h | ⟨sb, so, h, hh⟩⟩
        · omega
        · exact ⟨sb, so, h, hh i hlt⟩
      obtain ⟨c0, c1, c2, c3, c4, ⟨ht, hx, hn, hy⟩⟩ := hc
      replace c0 := cell_then hB.bel (Nat.le_refl _) c0
      replace c1 := cell_then hB.bel (Nat.le_refl _) c1
      replace c2 := cell_then hB.bel (Nat.le_refl _) c2
      replace c3 := cell_then hB.bel (Nat.le_refl _) c3
      replace c4 := cell_then hB.bel (Nat.le_refl _) c4
      generalize (F i).kind = kind at *
      generalize (F i).now = t at *
      generalize (F i).pos = x at *
      generalize (F i).num = n at *
      generalize (F i).den = y at *
      have HBw := Lib.hid hB
      clear hB
      go_upto_block 2 with fail
      go_cut [13, 14, 15] from 47 to 147 (fun s13 s14 s15 wx => ∃ (o : Nat) (c' : Ck), s13 = .int .i64 (i : Int) ∧ s14 = .pointer (some ⟨o, 0, none⟩) ∧ s15 = .bool true ∧ Ckk c' ∧ Mx w p q c' c' wx ∧ Pl wx o kind t x n y)
      case first =>
        have hB2 := HBw.out.then_ ((Below.refl _ _).alloc (Nat.le_refl _) (.cells #[.int .i64 kind, .int .u64 (t : Int), .int .u64 (x : Int), .int .u64 (n : Int), .int .u64 (y : Int)] 37))
        have hP2 : Pl (wr.alloc (.cells #[.int .i64 kind, .int .u64 (t : Int), .int .u64 (x : Int), .int .u64 (n : Int), .int .u64 (y : Int)] 37)) wr.heap.size kind t x n y := heap_alloc_new _ _
        have hB3 := hB2.then_ (Below.refl _ _).drew
        have hP3 := hP2.then_ (Below.refl _ _).drew
        have k0 := hP2.c0
        clear c0 c1 c2 c3 c4
        generalize wr.alloc (.cells #[.int .i64 kind, .int .u64 (t : Int), .int .u64 (x : Int), .int .u64 (n : Int), .int .u64 (y : Int)] 37) = W2 at *
        generalize wr.heap.size = o at *
        by_cases e0 : kind = 0
        · subst e0
          obtain ⟨v, hv⟩ : ∃ v, (go c t).pos = v := ⟨_, rfl⟩
          have hvv : ((v : Int) == (v : Int)) = true := by simp
          go_wp2_with fail
          refine wp_region_held_drew (S := (fun W => W.cell? ⟨o, 1, none⟩ = some (.int .u64 (t : Int)))) (by kernel_rfl) ?_ (fun hHeld => ?_)
          · ((try dsimp only); exact hP3.c1)
          refine wpAnyH_take (i := 0) (oi := { dst := some 65, op := Op.move (Operand.tmp 9), type := 27, pos := _, after := #[], guard := none }) (v := ?_) rfl (by kernel_rfl) (by kernel_rfl) (by kernel_rfl) (fun _ _ _ h => h) (Or.inl ⟨by rfl, ?_⟩) (by assumption) ?_
          rotate_left
          · ((intro w hSw); (try dsimp only at hSw); go_simp; (try with_reducible rfl))
          try simp only [Act.put, List.setIfInBounds_toArray, List.set_cons_zero, List.set_cons_succ]
          refine wpAnyH_take (i := 1) (oi := { dst := some 66, op := Op.fieldAddr 37 (Operand.tmp 14) 1, type := 0, pos := _, after := #[], guard := none }) (v := ?_) rfl (by kernel_rfl) (by kernel_rfl) (by kernel_rfl) (fun _ _ _ h => h) (Or.inl ⟨by rfl, ?_⟩) (by assumption) ?_
          rotate_left
          · ((intro w hSw); (try dsimp only at hSw); go_simp; (try with_reducible rfl))
          try simp only [Act.put, List.setIfInBounds_toArray, List.set_cons_zero, List.set_cons_succ]
          refine wpAnyH_take (i := 2) (oi := { dst := some 67, op := Op.load 22 (Operand.tmp 66), type := 22, pos := _, after := #[{ on := 1, ground := Ground.data }], guard := none }) (v := ?_) rfl (by kernel_rfl) (by kernel_rfl) (by kernel_rfl) (fun _ _ _ h => h) (Or.inl ⟨by rfl, ?_⟩) (by assumption) ?_
          rotate_left
          · ((intro w hSw); (try dsimp only at hSw); go_simp; (try with_reducible rfl))
          try simp only [Act.put, List.setIfInBounds_toArray, List.set_cons_zero, List.set_cons_succ]
          refine wpAnyH_take (i := 4) (oi := { dst := some 69, op := Op.move (Operand.tmp 11), type := 31, pos := _, after := #[], guard := none }) (v := ?_) rfl (by kernel_rfl) (by kernel_rfl) (by kernel_rfl) (fun _ _ _ h => h) (Or.inl ⟨by rfl, ?_⟩) (by assumption) ?_
          rotate_left
          · ((intro w hSw); (try dsimp only at hSw); go_simp; (try with_reducible rfl))
          try simp only [Act.put, List.setIfInBounds_toArray, List.set_cons_zero, List.set_cons_succ]
          refine wpAnyH_take (i := 5) (oi := { dst := some 70, op := Op.fieldAddr 37 (Operand.tmp 14) 1, type := 0, pos := _, after := #[], guard := none }) (v := ?_) rfl (by kernel_rfl) (by kernel_rfl) (by kernel_rfl) (fun _ _ _ h => h) (Or.inl ⟨by rfl, ?_⟩) (by assumption) ?_
          rotate_left
          · ((intro w hSw); (try dsimp only at hSw); go_simp; (try with_reducible rfl))
          try simp only [Act.put, List.setIfInBounds_toArray, List.set_cons_zero, List.set_cons_succ]
          refine wpAnyH_take (i := 6) (oi := { dst := some 71, op := Op.load 22 (Operand.tmp 70), type := 22, pos := _, after := #[{ on := 5, ground := Ground.data }], guard := none }) (v := ?_) rfl (by kernel_rfl) (by kernel_rfl) (by kernel_rfl) (fun _ _ _ h => h) (Or.inl ⟨by rfl, ?_⟩) (by assumption) ?_
          rotate_left
          · ((intro w hSw); (try dsimp only at hSw); go_simp; (try with_reducible rfl))
          try simp only [Act.put, List.setIfInBounds_toArray, List.set_cons_zero, List.set_cons_succ]
          refine wpAnyH_ready (rs := [3]) (by kernel_rfl) (by simp) ?_
          refine (AllReadyH.cons (o := { dst := some 68, op := Op.call { callee := Callee.value (Operand.func 11), args := #[Operand.tmp 65, Operand.tmp 67], argTypes := #[27, 22] }, type := 22, pos := _, after := #[{ on := 0, ground := Ground.data }, { on := 2, ground := Ground.data }], guard := none }) rfl (fun K hK => ?_) AllReadyH.nil)
          go_simp
          (refine (goM t hB3 hP3 hCk ht).mono ?_; rw [hv]; rintro e w4 ⟨rfl, hB4, hP4⟩)
          go_wp2_with fail
          refine hK.out _ _ ?_ (fun hHeld => ?_)
          · ((try dsimp only); exact hP4.c1)
          clear hK K
          try simp only [Act.put, List.setIfInBounds_toArray, List.set_cons_zero, List.set_cons_succ]
          refine wpAnyH_ready (rs := [7]) (by kernel_rfl) (by simp) ?_
          refine (AllReadyH.cons (o := { dst := some 72, op := Op.call { callee := Callee.value (Operand.func 12), args := #[Operand.tmp 69, Operand.tmp 71], argTypes := #[31, 22] }, type := 22, pos := _, after := #[{ on := 4, ground := Ground.data }, { on := 6, ground := Ground.data }, { on := 3, ground := Ground.chain }], guard := none }) rfl (fun K hK => ?_) AllReadyH.nil)
          go_simp
          (refine (goN t hB4 hP4 hCk ht).mono ?_; rw [hv]; rintro e w5 ⟨rfl, hB5, hP5⟩)
          go_wp2_with fail
          refine hK.out _ _ ?_ (fun hHeld => ?_)
          · ((try dsimp only); exact hP5.c1)
          clear hK K
          try simp only [Act.put, List.setIfInBounds_toArray, List.set_cons_zero, List.set_cons_succ]
          refine wpAnyH_take (i := 8) (oi := { dst := some 73, op := Op.binOp BinOp.eql 22 (Operand.tmp 68) (Operand.tmp 72) 22, type := 4, pos := _, after := #[{ on := 3, ground := Ground.data }, { on := 7, ground := Ground.data }], guard := none }) (v := ?_) rfl (by kernel_rfl) (by kernel_rfl) (by kernel_rfl) (fun _ _ _ h => h) (Or.inl ⟨by rfl, ?_⟩) (by assumption) ?_
          rotate_left
          · ((intro w hSw); (try dsimp only at hSw); go_simp; (try with_reducible rfl))
          try simp only [Act.put, List.setIfInBounds_toArray, List.set_cons_zero, List.set_cons_succ]
          refine wpAnyH_take (i := 9) (oi := { dst := some 15, op := Op.assign (Operand.tmp 73), type := 4, pos := _, after := #[{ on := 8, ground := Ground.data }, { on := 7, ground := Ground.chain }, { on := 0, ground := Ground.phase }, { on := 1, ground := Ground.phase }, { on := 2, ground := Ground.phase }, { on := 3, ground := Ground.phase }, { on := 4, ground := Ground.phase }, { on := 5, ground := Ground.phase }, { on := 6, ground := Ground.phase }, { on := 7, ground := Ground.phase }, { on := 8, ground := Ground.phase }], guard := none }) (v := ?_) rfl (by kernel_rfl) (by kernel_rfl) (by kernel_rfl) (fun _ _ _ h => h) (Or.inl ⟨by rfl, ?_⟩) (by assumption) ?_
          rotate_left
          · ((intro w hSw); (try dsimp only at hSw); go_simp; (try with_reducible rfl))
          try simp only [Act.put, List.setIfInBounds_toArray, List.set_cons_zero, List.set_cons_succ]
          refine wpAnyH_done (by kernel_rfl) ?_ _
          go_wp2
          go_meet
          exact ⟨o, _, rfl, rfl, rfl, go_ckk hCk ht, hB5, hP5⟩
        · have b0 : (kind == 0) = false := by simpa using e0
          by_cases e1 : kind = 1
          · subst e1
            obtain ⟨v, hv⟩ : ∃ v, setE t x = v := ⟨_, rfl⟩
            have hvv : (v == v) = true := by simp
            go_wp2_with fail
            refine wp_region_held_drew (S := (fun W => W.cell? ⟨o, 1, none⟩ = some (.int .u64 (t : Int)) ∧ W.cell? ⟨o, 2, none⟩ = some (.int .u64 (x : Int)))) (by kernel_rfl) ?_ (fun hHeld => ?_)
            · ((try dsimp only); exact ⟨hP3.c1, hP3.c2⟩)
            refine wpAnyH_take (i := 0) (oi := { dst := some 76, op := Op.move (Operand.tmp 9), type := 27, pos := _, after := #[], guard := none }) (v := ?_) rfl (by kernel_rfl) (by kernel_rfl) (by kernel_rfl) (fun _ _ _ h => h) (Or.inl ⟨by rfl, ?_⟩) (by assumption) ?_
            rotate_left
            · ((intro w hSw); (try dsimp only at hSw); go_simp; (try with_reducible rfl))
            try simp only [Act.put, List.setIfInBounds_toArray, List.set_cons_zero, List.set_cons_succ]
            refine wpAnyH_take (i := 1) (oi := { dst := some 77, op := Op.fieldAddr 37 (Operand.tmp 14) 1, type := 0, pos := _, after := #[], guard := none }) (v := ?_) rfl (by kernel_rfl) (by kernel_rfl) (by kernel_rfl) (fun _ _ _ h => h) (Or.inl ⟨by rfl, ?_⟩) (by assumption) ?_
            rotate_left
            · ((intro w hSw); (try dsimp only at hSw); go_simp; (try with_reducible rfl))
            try simp only [Act.put, List.setIfInBounds_toArray, List.set_cons_zero, List.set_cons_succ]
            refine wpAnyH_take (i := 2) (oi := { dst := some 78, op := Op.load 22 (Operand.tmp 77), type := 22, pos := _, after := #[{ on := 1, ground := Ground.data }], guard := none }) (v := ?_) rfl (by kernel_rfl) (by kernel_rfl) (by kernel_rfl) (fun _ _ _ h => h) (Or.inl ⟨by rfl, ?_⟩) (by assumption) ?_
            rotate_left
            · ((intro w hSw); (try dsimp only at hSw); go_simp; (try with_reducible rfl))
            try simp only [Act.put, List.setIfInBounds_toArray, List.set_cons_zero, List.set_cons_succ]
            refine wpAnyH_take (i := 3) (oi := { dst := some 79, op := Op.fieldAddr 37 (Operand.tmp 14) 2, type := 0, pos := _, after := #[], guard := none }) (v := ?_) rfl (by kernel_rfl) (by kernel_rfl) (by kernel_rfl) (fun _ _ _ h => h) (Or.inl ⟨by rfl, ?_⟩) (by assumption) ?_
            rotate_left
            · ((intro w hSw); (try dsimp only at hSw); go_simp; (try with_reducible rfl))
            try simp only [Act.put, List.setIfInBounds_toArray, List.set_cons_zero, List.set_cons_succ]
            refine wpAnyH_take (i := 4) (oi := { dst := some 80, op := Op.load 22 (Operand.tmp 79), type := 22, pos := _, after := #[{ on := 3, ground := Ground.data }], guard := none }) (v := ?_) rfl (by kernel_rfl) (by kernel_rfl) (by kernel_rfl) (fun _ _ _ h => h) (Or.inl ⟨by rfl, ?_⟩) (by assumption) ?_
            rotate_left
            · ((intro w hSw); (try dsimp only at hSw); go_simp; (try with_reducible rfl))
            try simp only [Act.put, List.setIfInBounds_toArray, List.set_cons_zero, List.set_cons_succ]
            refine wpAnyH_take (i := 6) (oi := { dst := some 82, op := Op.move (Operand.tmp 11), type := 31, pos := _, after := #[], guard := none }) (v := ?_) rfl (by kernel_rfl) (by kernel_rfl) (by kernel_rfl) (fun _ _ _ h => h) (Or.inl ⟨by rfl, ?_⟩) (by assumption) ?_
            rotate_left
            · ((intro w hSw); (try dsimp only at hSw); go_simp; (try with_reducible rfl))
            try simp only [Act.put, List.setIfInBounds_toArray, List.set_cons_zero, List.set_cons_succ]
            refine wpAnyH_take (i := 7) (oi := { dst := some 83, op := Op.fieldAddr 37 (Operand.tmp 14) 1, type := 0, pos := _, after := #[], guard := none }) (v := ?_) rfl (by kernel_rfl) (by kernel_rfl) (by kernel_rfl) (fun _ _ _ h => h) (Or.inl ⟨by rfl, ?_⟩) (by assumption) ?_
            rotate_left
            · ((intro w hSw); (try dsimp only at hSw); go_simp; (try with_reducible rfl))
            try simp only [Act.put, List.setIfInBounds_toArray, List.set_cons_zero, List.set_cons_succ]
            refine wpAnyH_take (i := 8) (oi := { dst := some 84, op := Op.load 22 (Operand.tmp 83), type := 22, pos := _, after := #[{ on := 7, ground := Ground.data }], guard := none }) (v := ?_) rfl (by kernel_rfl) (by kernel_rfl) (by kernel_rfl) (fun _ _ _ h => h) (Or.inl ⟨by rfl, ?_⟩) (by assumption) ?_
            rotate_left
            · ((intro w hSw); (try dsimp only at hSw); go_simp; (try with_reducible rfl))
            try simp only [Act.put, List.setIfInBounds_toArray, List.set_cons_zero, List.set_cons_succ]
            refine wpAnyH_take (i := 9) (oi := { dst := some 85, op := Op.fieldAddr 37 (Operand.tmp 14) 2, type := 0, pos := _, after := #[], guard := none }) (v := ?_) rfl (by kernel_rfl) (by kernel_rfl) (by kernel_rfl) (fun _ _ _ h => h) (Or.inl ⟨by rfl, ?_⟩) (by assumption) ?_
            rotate_left
            · ((intro w hSw); (try dsimp only at hSw); go_simp; (try with_reducible rfl))
            try simp only [Act.put, List.setIfInBounds_toArray, List.set_cons_zero, List.set_cons_succ]
            refine wpAnyH_take (i := 10) (oi := { dst := some 86, op := Op.load 22 (Operand.tmp 85), type := 22, pos := _, after := #[{ on := 9, ground := Ground.data }], guard := none }) (v := ?_) rfl (by kernel_rfl) (by kernel_rfl) (by kernel_rfl) (fun _ _ _ h => h) (Or.inl ⟨by rfl, ?_⟩) (by assumption) ?_
            rotate_left
            · ((intro w hSw); (try dsimp only at hSw); go_simp; (try with_reducible rfl))
            try simp only [Act.put, List.setIfInBounds_toArray, List.set_cons_zero, List.set_cons_succ]
            refine wpAnyH_ready (rs := [5]) (by kernel_rfl) (by simp) ?_
            refine (AllReadyH.cons (o := { dst := some 81, op := Op.call { callee := Callee.value (Operand.func 13), args := #[Operand.tmp 76, Operand.tmp 78, Operand.tmp 80], argTypes := #[27, 22, 22] }, type := 28, pos := _, after := #[{ on := 0, ground := Ground.data }, { on := 2, ground := Ground.data }, { on := 4, ground := Ground.data }], guard := none }) rfl (fun K hK => ?_) AllReadyH.nil)
            go_simp
            (refine (setM t x hB3 hP3).mono ?_; rw [hv]; rintro e w4 ⟨rfl, hB4, hP4⟩)
            go_wp2_with fail
            refine hK.out _ _ ?_ (fun hHeld => ?_)
            · ((try dsimp only); exact ⟨hP4.c1, hP4.c2⟩)
            clear hK K
            try simp only [Act.put, List.setIfInBounds_toArray, List.set_cons_zero, List.set_cons_succ]
            refine wpAnyH_ready (rs := [11]) (by kernel_rfl) (by simp) ?_
            refine (AllReadyH.cons (o := { dst := some 87, op := Op.call { callee := Callee.value (Operand.func 14), args := #[Operand.tmp 82, Operand.tmp 84, Operand.tmp 86], argTypes := #[31, 22, 22] }, type := 28, pos := _, after := #[{ on := 6, ground := Ground.data }, { on := 8, ground := Ground.data }, { on := 10, ground := Ground.data }, { on := 5, ground := Ground.chain }], guard := none }) rfl (fun K hK => ?_) AllReadyH.nil)
            go_simp
            (refine (setN t x hB4 hP4).mono ?_; rw [hv]; rintro e w5 ⟨rfl, hB5, hP5⟩)
            go_wp2_with fail
            refine hK.out _ _ ?_ (fun hHeld => ?_)
            · ((try dsimp only); exact ⟨hP5.c1, hP5.c2⟩)
            clear hK K
            try simp only [Act.put, List.setIfInBounds_toArray, List.set_cons_zero, List.set_cons_succ]
            refine wpAnyH_take (i := 12) (oi := { dst := some 88, op := Op.binOp BinOp.eql 28 (Operand.tmp 81) (Operand.tmp 87) 28, type := 4, pos := _, after := #[{ on := 5, ground := Ground.data }, { on := 11, ground := Ground.data }], guard := none }) (v := ?_) rfl (by kernel_rfl) (by kernel_rfl) (by kernel_rfl) (fun _ _ _ h => h) (Or.inl ⟨by rfl, ?_⟩) (by assumption) ?_
            rotate_left
            · ((intro w hSw); (try dsimp only at hSw); go_simp; (try with_reducible rfl))
            try simp only [Act.put, List.setIfInBounds_toArray, List.set_cons_zero, List.set_cons_succ]
            refine wpAnyH_take (i := 13) (oi := { dst := some 15, op := Op.assign (Operand.tmp 88), type := 4, pos := _, after := #[{ on := 12, ground := Ground.data }, { on := 11, ground := Ground.chain }, { on := 0, ground := Ground.phase }, { on := 1, ground := Ground.phase }, { on := 2, ground := Ground.phase }, { on := 3, ground := Ground.phase }, { on := 4, ground := Ground.phase }, { on := 5, ground := Ground.phase }, { on := 6, ground := Ground.phase }, { on := 7, ground := Ground.phase }, { on := 8, ground := Ground.phase }, { on := 9, ground := Ground.phase }, { on := 10, ground := Ground.phase }, { on := 11, ground := Ground.phase }, { on := 12, ground := Ground.phase }], guard := none }) (v := ?_) rfl (by kernel_rfl) (by kernel_rfl) (by kernel_rfl) (fun _ _ _ h => h) (Or.inl ⟨by rfl, ?_⟩) (by assumption) ?_
            rotate_left
            · ((intro w hSw); (try dsimp only at hSw); go_simp; (try with_reducible rfl))
            try simp only [Act.put, List.setIfInBounds_toArray, List.set_cons_zero, List.set_cons_succ]
            refine wpAnyH_done (by kernel_rfl) ?_ _
            go_wp2
            go_meet
            exact ⟨o, _, rfl, rfl, rfl, setK_ok hCk t x, hB5, hP5⟩
          · have b1 : (kind == 1) = false := by simpa using e1
            by_cases e2 : kind = 2
            · subst e2
              obtain ⟨v, hv⟩ : ∃ v, turnE t n y = v := ⟨_, rfl⟩
              have hvv : (v == v) = true := by simp
              go_wp2_with fail
              refine wp_region_held_drew (S := (fun W => W.cell? ⟨o, 1, none⟩ = some (.int .u64 (t : Int)) ∧ W.cell? ⟨o, 3, none⟩ = some (.int .u64 (n : Int)) ∧ W.cell? ⟨o, 4, none⟩ = some (.int .u64 (y : Int)))) (by kernel_rfl) ?_ (fun hHeld => ?_)
              · ((try dsimp only); exact ⟨hP3.c1, hP3.c3, hP3.c4⟩)
              refine wpAnyH_take (i := 0) (oi := { dst := some 91, op := Op.move (Operand.tmp 9), type := 27, pos := _, after := #[], guard := none }) (v := ?_) rfl (by kernel_rfl) (by kernel_rfl) (by kernel_rfl) (fun _ _ _ h => h) (Or.inl ⟨by rfl, ?_⟩) (by assumption) ?_
              rotate_left
              · ((intro w hSw); (try dsimp only at hSw); go_simp; (try with_reducible rfl))
              try simp only [Act.put, List.setIfInBounds_toArray, List.set_cons_zero, List.set_cons_succ]
              refine wpAnyH_take (i := 1) (oi := { dst := some 92, op := Op.fieldAddr 37 (Operand.tmp 14) 1, type := 0, pos := _, after := #[], guard := none }) (v := ?_) rfl (by kernel_rfl) (by kernel_rfl) (by kernel_rfl) (fun _ _ _ h => h) (Or.inl ⟨by rfl, ?_⟩) (by assumption) ?_
              rotate_left
              · ((intro w hSw); (try dsimp only at hSw); go_simp; (try with_reducible rfl))
              try simp only [Act.put, List.setIfInBounds_toArray, List.set_cons_zero, List.set_cons_succ]
              refine wpAnyH_take (i := 2) (oi := { dst := some 93, op := Op.load 22 (Operand.tmp 92), type := 22, pos := _, after := #[{ on := 1, ground := Ground.data }], guard := none }) (v := ?_) rfl (by kernel_rfl) (by kernel_rfl) (by kernel_rfl) (fun _ _ _ h => h) (Or.inl ⟨by rfl, ?_⟩) (by assumption) ?_
              rotate_left
              · ((intro w hSw); (try dsimp only at hSw); go_simp; (try with_reducible rfl))
              try simp only [Act.put, List.setIfInBounds_toArray, List.set_cons_zero, List.set_cons_succ]
              refine wpAnyH_take (i := 3) (oi := { dst := some 94, op := Op.fieldAddr 37 (Operand.tmp 14) 3, type := 0, pos := _, after := #[], guard := none }) (v := ?_) rfl (by kernel_rfl) (by kernel_rfl) (by kernel_rfl) (fun _ _ _ h => h) (Or.inl ⟨by rfl, ?_⟩) (by assumption) ?_
              rotate_left
              · ((intro w hSw); (try dsimp only at hSw); go_simp; (try with_reducible rfl))
              try simp only [Act.put, List.setIfInBounds_toArray, List.set_cons_zero, List.set_cons_succ]
              refine wpAnyH_take (i := 4) (oi := { dst := some 95, op := Op.load 24 (Operand.tmp 94), type := 24, pos := _, after := #[{ on := 3, ground := Ground.data }], guard := none }) (v := ?_) rfl (by kernel_rfl) (by kernel_rfl) (by kernel_rfl) (fun _ _ _ h => h) (Or.inl ⟨by rfl, ?_⟩) (by assumption) ?_
              rotate_left
              · ((intro w hSw); (try dsimp only at hSw); go_simp; (try with_reducible rfl))
              try simp only [Act.put, List.setIfInBounds_toArray, List.set_cons_zero, List.set_cons_succ]
              refine wpAnyH_take (i := 6) (oi := { dst := some 97, op := Op.move (Operand.tmp 11), type := 31, pos := _, after := #[], guard := none }) (v := ?_) rfl (by kernel_rfl) (by kernel_rfl) (by kernel_rfl) (fun _ _ _ h => h) (Or.inl ⟨by rfl, ?_⟩) (by assumption) ?_
              rotate_left
              · ((intro w hSw); (try dsimp only at hSw); go_simp; (try with_reducible rfl))
              try simp only [Act.put, List.setIfInBounds_toArray, List.set_cons_zero, List.set_cons_succ]
              refine wpAnyH_take (i := 7) (oi := { dst := some 98, op := Op.fieldAddr 37 (Operand.tmp 14) 1, type := 0, pos := _, after := #[], guard := none }) (v := ?_) rfl (by kernel_rfl) (by kernel_rfl) (by kernel_rfl) (fun _ _ _ h => h) (Or.inl ⟨by rfl, ?_⟩) (by assumption) ?_
              rotate_left
              · ((intro w hSw); (try dsimp only at hSw); go_simp; (try with_reducible rfl))
              try simp only [Act.put, List.setIfInBounds_toArray, List.set_cons_zero, List.set_cons_succ]
              refine wpAnyH_take (i := 8) (oi := { dst := some 99, op := Op.load 22 (Operand.tmp 98), type := 22, pos := _, after := #[{ on := 7, ground := Ground.data }], guard := none }) (v := ?_) rfl (by kernel_rfl) (by kernel_rfl) (by kernel_rfl) (fun _ _ _ h => h) (Or.inl ⟨by rfl, ?_⟩) (by assumption) ?_
              rotate_left
              · ((intro w hSw); (try dsimp only at hSw); go_simp; (try with_reducible rfl))
              try simp only [Act.put, List.setIfInBounds_toArray, List.set_cons_zero, List.set_cons_succ]
              refine wpAnyH_take (i := 9) (oi := { dst := some 100, op := Op.fieldAddr 37 (Operand.tmp 14) 3, type := 0, pos := _, after := #[], guard := none }) (v := ?_) rfl (by kernel_rfl) (by kernel_rfl) (by kernel_rfl) (fun _ _ _ h => h) (Or.inl ⟨by rfl, ?_⟩) (by assumption) ?_
              rotate_left
              · ((intro w hSw); (try dsimp only at hSw); go_simp; (try with_reducible rfl))
              try simp only [Act.put, List.setIfInBounds_toArray, List.set_cons_zero, List.set_cons_succ]
              refine wpAnyH_take (i := 10) (oi := { dst := some 101, op := Op.load 24 (Operand.tmp 100), type := 24, pos := _, after := #[{ on := 9, ground := Ground.data }], guard := none }) (v := ?_) rfl (by kernel_rfl) (by kernel_rfl) (by kernel_rfl) (fun _ _ _ h => h) (Or.inl ⟨by rfl, ?_⟩) (by assumption) ?_
              rotate_left
              · ((intro w hSw); (try dsimp only at hSw); go_simp; (try with_reducible rfl))
              try simp only [Act.put, List.setIfInBounds_toArray, List.set_cons_zero, List.set_cons_succ]
              refine wpAnyH_ready (rs := [5]) (by kernel_rfl) (by simp) ?_
              refine (AllReadyH.cons (o := { dst := some 96, op := Op.call { callee := Callee.value (Operand.func 15), args := #[Operand.tmp 91, Operand.tmp 93, Operand.tmp 95], argTypes := #[27, 22, 24] }, type := 28, pos := _, after := #[{ on := 0, ground := Ground.data }, { on := 2, ground := Ground.data }, { on := 4, ground := Ground.data }], guard := none }) rfl (fun K hK => ?_) AllReadyH.nil)
              go_simp
              (refine (turnM t n y hB3 hP3 hCk ht hn hy).mono ?_; rw [hv]; rintro e w4 ⟨rfl, hB4, hP4⟩)
              go_wp2_with fail
              refine hK.out _ _ ?_ (fun hHeld => ?_)
              · ((try dsimp only); exact ⟨hP4.c1, hP4.c3, hP4.c4⟩)
              clear hK K
              try simp only [Act.put, List.setIfInBounds_toArray, List.set_cons_zero, List.set_cons_succ]
              refine wpAnyH_ready (rs := [11]) (by kernel_rfl) (by simp) ?_
              refine (AllReadyH.cons (o := { dst := some 102, op := Op.call { callee := Callee.value (Operand.func 10), args := #[Operand.tmp 101], argTypes := #[24] }, type := 34, pos := _, after := #[{ on := 10, ground := Ground.data }, { on := 5, ground := Ground.chain }], guard := none }) rfl (fun K hK => ?_) AllReadyH.nil)
              go_simp
              (refine (plainM (n : Int) (y : Int) hB4 hP4).mono ?_; rintro e w5 ⟨rfl, hB5, hP5⟩)
              go_wp2_with fail
              refine hK.out _ _ ?_ (fun hHeld => ?_)
              · ((try dsimp only); exact ⟨hP5.c1, hP5.c3, hP5.c4⟩)
              clear hK K
              try simp only [Act.put, List.setIfInBounds_toArray, List.set_cons_zero, List.set_cons_succ]
              refine wpAnyH_ready (rs := [12]) (by kernel_rfl) (by simp) ?_
              refine (AllReadyH.cons (o := { dst := some 103, op := Op.call { callee := Callee.value (Operand.func 16), args := #[Operand.tmp 97, Operand.tmp 99, Operand.tmp 102], argTypes := #[31, 22, 34] }, type := 28, pos := _, after := #[{ on := 6, ground := Ground.data }, { on := 8, ground := Ground.data }, { on := 11, ground := Ground.data }, { on := 11, ground := Ground.chain }], guard := none }) rfl (fun K hK => ?_) AllReadyH.nil)
              go_simp
              (refine (turnN t n y hB5 hP5 hCk ht hn hy).mono ?_; rw [hv]; rintro e w6 ⟨rfl, hB6, hP6⟩)
              go_wp2_with fail
              refine hK.out _ _ ?_ (fun hHeld => ?_)
              · ((try dsimp only); exact ⟨hP6.c1, hP6.c3, hP6.c4⟩)
              clear hK K
              try simp only [Act.put, List.setIfInBounds_toArray, List.set_cons_zero, List.set_cons_succ]
              refine wpAnyH_take (i := 13) (oi := { dst := some 104, op := Op.binOp BinOp.eql 28 (Operand.tmp 96) (Operand.tmp 103) 28, type := 4, pos := _, after := #[{ on := 5, ground := Ground.data }, { on := 12, ground := Ground.data }], guard := none }) (v := ?_) rfl (by kernel_rfl) (by kernel_rfl) (by kernel_rfl) (fun _ _ _ h => h) (Or.inl ⟨by rfl, ?_⟩) (by assumption) ?_
              rotate_left
              · ((intro w hSw); (try dsimp only at hSw); go_simp; (try with_reducible rfl))
              try simp only [Act.put, List.setIfInBounds_toArray, List.set_cons_zero, List.set_cons_succ]
              refine wpAnyH_take (i := 14) (oi := { dst := some 15, op := Op.assign (Operand.tmp 104), type := 4, pos := _, after := #[{ on := 13, ground := Ground.data }, { on := 12, ground := Ground.chain }, { on := 0, ground := Ground.phase }, { on := 1, ground := Ground.phase }, { on := 2, ground := Ground.phase }, { on := 3, ground := Ground.phase }, { on := 4, ground := Ground.phase }, { on := 5, ground := Ground.phase }, { on := 6, ground := Ground.phase }, { on := 7, ground := Ground.phase }, { on := 8, ground := Ground.phase }, { on := 9, ground := Ground.phase }, { on := 10, ground := Ground.phase }, { on := 11, ground := Ground.phase }, { on := 12, ground := Ground.phase }, { on := 13, ground := Ground.phase }], guard := none }) (v := ?_) rfl (by kernel_rfl) (by kernel_rfl) (by kernel_rfl) (fun _ _ _ h => h) (Or.inl ⟨by rfl, ?_⟩) (by assumption) ?_
              rotate_left
              · ((intro w hSw); (try dsimp only at hSw); go_simp; (try with_reducible rfl))
              try simp only [Act.put, List.setIfInBounds_toArray, List.set_cons_zero, List.set_cons_succ]
              refine wpAnyH_done (by kernel_rfl) ?_ _
              go_wp2
              go_meet
              exact ⟨o, _, rfl, rfl, rfl, turnK_ok hCk t n y ht, hB6, hP6⟩
            · have b2 : (kind == 2) = false := by simpa using e2
              go_wp2
              go_meet
              exact ⟨o, c, rfl, rfl, rfl, hCk, hB2, hP2⟩
      case rest =>
        clear c0 c1 c2 c3 c4 HBw hCk
        obtain ⟨o, c, rfl, rfl, rfl, hCk, hB2, hP2⟩ := hcut
        have hB3 := hB2.then_ (Below.refl _ _).drew
        have hP3 := hP2.then_ (Below.refl _ _).drew
        obtain ⟨X1, hX⟩ : ∃ X1, (reach c t).1 = X1 := ⟨_, rfl⟩
        obtain ⟨Y1, hY⟩ : ∃ Y1, (reach c x).1 = Y1 := ⟨_, rfl⟩
        have hXX : ((X1 : Int) != (X1 : Int)) = false := by simp
        have hYY : ((Y1 : Int) != (Y1 : Int)) = false := by simp
        have hRR : ((c.rest : Int) != (c.rest : Int)) = false := by simp
        go_wp2_with fail
        refine wp_region_held_drew (S := (fun W => W.cell? ⟨o, 1, none⟩ = some (.int .u64 (t : Int)) ∧ W.cell? ⟨o, 2, none⟩ = some (.int .u64 (x : Int)) ∧ W.cell? ⟨q, 2, none⟩ = some (.int .u64 (c.rest : Int)) ∧ W.cell? ⟨q, 3, none⟩ = some (.int .u64 (c.num : Int)) ∧ W.cell? ⟨q, 4, none⟩ = some (.int .u64 (c.den : Int)))) (by kernel_rfl) ?_ (fun hHeld => ?_)
        · ((try dsimp only); exact ⟨hP3.c1, hP3.c2, hB3.cq.c2, hB3.cq.c3, hB3.cq.c4⟩)
        refine wpAnyH_take (i := 0) (oi := { dst := some 105, op := Op.move (Operand.tmp 15), type := 4, pos := _, after := #[], guard := none }) (v := ?_) rfl (by kernel_rfl) (by kernel_rfl) (by kernel_rfl) (fun _ _ _ h => h) (Or.inl ⟨by rfl, ?_⟩) (by assumption) ?_
        rotate_left
        · ((intro w hSw); (try dsimp only at hSw); go_simp; (try with_reducible rfl))
        try simp only [Act.put, List.setIfInBounds_toArray, List.set_cons_zero, List.set_cons_succ]
        refine wpAnyH_take (i := 1) (oi := { dst := some 106, op := Op.unOp UnOp.not 4 (Operand.tmp 105), type := 4, pos := _, after := #[{ on := 0, ground := Ground.data }], guard := none }) (v := ?_) rfl (by kernel_rfl) (by kernel_rfl) (by kernel_rfl) (fun _ _ _ h => h) (Or.inl ⟨by rfl, ?_⟩) (by assumption) ?_
        rotate_left
        · ((intro w hSw); (try dsimp only at hSw); go_simp; (try with_reducible rfl))
        try simp only [Act.put, List.setIfInBounds_toArray, List.set_cons_zero, List.set_cons_succ]
        refine wpAnyH_take (i := 2) (oi := { dst := some 107, op := Op.move (Operand.tmp 106), type := 4, pos := _, after := #[{ on := 1, ground := Ground.data }], guard := none }) (v := ?_) rfl (by kernel_rfl) (by kernel_rfl) (by kernel_rfl) (fun _ _ _ h => h) (Or.inl ⟨by rfl, ?_⟩) (by assumption) ?_
        rotate_left
        · ((intro w hSw); (try dsimp only at hSw); go_simp; (try with_reducible rfl))
        try simp only [Act.put, List.setIfInBounds_toArray, List.set_cons_zero, List.set_cons_succ]
        refine wpAnyH_take (i := 3) (oi := { dst := some 108, op := Op.move (Operand.tmp 9), type := 27, pos := _, after := #[{ on := 2, ground := Ground.guard }], guard := some (2, false) }) (v := ?_) rfl (by kernel_rfl) (by kernel_rfl) (by kernel_rfl) (fun _ _ _ h => h) (Or.inl ⟨by rfl, ?_⟩) (by assumption) ?_
        rotate_left
        · ((intro w hSw); (try dsimp only at hSw); go_simp; (try with_reducible rfl))
        try simp only [Act.put, List.setIfInBounds_toArray, List.set_cons_zero, List.set_cons_succ]
        refine wpAnyH_take (i := 4) (oi := { dst := some 109, op := Op.fieldAddr 37 (Operand.tmp 14) 1, type := 0, pos := _, after := #[{ on := 2, ground := Ground.guard }], guard := some (2, false) }) (v := ?_) rfl (by kernel_rfl) (by kernel_rfl) (by kernel_rfl) (fun _ _ _ h => h) (Or.inl ⟨by rfl, ?_⟩) (by assumption) ?_
        rotate_left
        · ((intro w hSw); (try dsimp only at hSw); go_simp; (try with_reducible rfl))
        try simp only [Act.put, List.setIfInBounds_toArray, List.set_cons_zero, List.set_cons_succ]
        refine wpAnyH_take (i := 5) (oi := { dst := some 110, op := Op.load 22 (Operand.tmp 109), type := 22, pos := _, after := #[{ on := 4, ground := Ground.data }, { on := 2, ground := Ground.guard }], guard := some (2, false) }) (v := ?_) rfl (by kernel_rfl) (by kernel_rfl) (by kernel_rfl) (fun _ _ _ h => h) (Or.inl ⟨by rfl, ?_⟩) (by assumption) ?_
        rotate_left
        · ((intro w hSw); (try dsimp only at hSw); go_simp; (try with_reducible rfl))
        try simp only [Act.put, List.setIfInBounds_toArray, List.set_cons_zero, List.set_cons_succ]
        refine wpAnyH_take (i := 7) (oi := { dst := some 112, op := Op.move (Operand.tmp 11), type := 31, pos := _, after := #[{ on := 2, ground := Ground.guard }], guard := some (2, false) }) (v := ?_) rfl (by kernel_rfl) (by kernel_rfl) (by kernel_rfl) (fun _ _ _ h => h) (Or.inl ⟨by rfl, ?_⟩) (by assumption) ?_
        rotate_left
        · ((intro w hSw); (try dsimp only at hSw); go_simp; (try with_reducible rfl))
        try simp only [Act.put, List.setIfInBounds_toArray, List.set_cons_zero, List.set_cons_succ]
        refine wpAnyH_take (i := 8) (oi := { dst := some 113, op := Op.fieldAddr 37 (Operand.tmp 14) 1, type := 0, pos := _, after := #[{ on := 2, ground := Ground.guard }], guard := some (2, false) }) (v := ?_) rfl (by kernel_rfl) (by kernel_rfl) (by kernel_rfl) (fun _ _ _ h => h) (Or.inl ⟨by rfl, ?_⟩) (by assumption) ?_
        rotate_left
        · ((intro w hSw); (try dsimp only at hSw); go_simp; (try with_reducible rfl))
        try simp only [Act.put, List.setIfInBounds_toArray, List.set_cons_zero, List.set_cons_succ]
        refine wpAnyH_take (i := 9) (oi := { dst := some 114, op := Op.load 22 (Operand.tmp 113), type := 22, pos := _, after := #[{ on := 8, ground := Ground.data }, { on := 2, ground := Ground.guard }], guard := some (2, false) }) (v := ?_) rfl (by kernel_rfl) (by kernel_rfl) (by kernel_rfl) (fun _ _ _ h => h) (Or.inl ⟨by rfl, ?_⟩) (by assumption) ?_
        rotate_left
        · ((intro w hSw); (try dsimp only at hSw); go_simp; (try with_reducible rfl))
        try simp only [Act.put, List.setIfInBounds_toArray, List.set_cons_zero, List.set_cons_succ]
        refine wpAnyH_ready (rs := [6]) (by kernel_rfl) (by simp) ?_
        refine (AllReadyH.cons (o := { dst := some 111, op := Op.call { callee := Callee.value (Operand.func 17), args := #[Operand.tmp 108, Operand.tmp 110], argTypes := #[27, 22] }, type := 22, pos := _, after := #[{ on := 3, ground := Ground.data }, { on := 5, ground := Ground.data }, { on := 2, ground := Ground.chain }, { on := 2, ground := Ground.guard }], guard := some (2, false) }) rfl (fun K hK => ?_) AllReadyH.nil)
        go_simp
        (refine (atM t hB3 hP3 hCk ht).mono ?_; rw [hX]; rintro e w4 ⟨rfl, hB4, hP4⟩)
        go_wp2_with fail
        refine hK.out _ _ ?_ (fun hHeld => ?_)
        · ((try dsimp only); exact ⟨hP4.c1, hP4.c2, hB4.cq.c2, hB4.cq.c3, hB4.cq.c4⟩)
        clear hK K
        try simp only [Act.put, List.setIfInBounds_toArray, List.set_cons_zero, List.set_cons_succ]
        refine wpAnyH_ready (rs := [10]) (by kernel_rfl) (by simp) ?_
        refine (AllReadyH.cons (o := { dst := some 115, op := Op.call { callee := Callee.value (Operand.func 18), args := #[Operand.tmp 112, Operand.tmp 114], argTypes := #[31, 22] }, type := 22, pos := _, after := #[{ on := 7, ground := Ground.data }, { on := 9, ground := Ground.data }, { on := 6, ground := Ground.chain }, { on := 2, ground := Ground.guard }], guard := some (2, false) }) rfl (fun K hK => ?_) AllReadyH.nil)
        go_simp
        (refine (atN t hB4 hP4 hCk ht).mono ?_; rw [hX]; rintro e w5 ⟨rfl, hB5, hP5⟩)
        go_wp2_with fail
        refine hK.out _ _ ?_ (fun hHeld => ?_)
        · ((try dsimp only); exact ⟨hP5.c1, hP5.c2, hB5.cq.c2, hB5.cq.c3, hB5.cq.c4⟩)
        clear hK K
        try simp only [Act.put, List.setIfInBounds_toArray, List.set_cons_zero, List.set_cons_succ]
        refine wpAnyH_take (i := 11) (oi := { dst := some 116, op := Op.binOp BinOp.neq 22 (Operand.tmp 111) (Operand.tmp 115) 22, type := 4, pos := _, after := #[{ on := 6, ground := Ground.data }, { on := 10, ground := Ground.data }, { on := 2, ground := Ground.guard }], guard := some (2, false) }) (v := ?_) rfl (by kernel_rfl) (by kernel_rfl) (by kernel_rfl) (fun _ _ _ h => h) (Or.inl ⟨by rfl, ?_⟩) (by assumption) ?_
        rotate_left
        · ((intro w hSw); (try dsimp only at hSw); go_simp; (try with_reducible rfl))
        try simp only [Act.put, List.setIfInBounds_toArray, List.set_cons_zero, List.set_cons_succ]
        refine wpAnyH_take (i := 12) (oi := { dst := some 117, op := Op.pick (Operand.tmp 107) (Operand.const (Value.bool true)) (Operand.tmp 116), type := 4, pos := _, after := #[{ on := 2, ground := Ground.data }, { on := 11, ground := Ground.data }], guard := none }) (v := ?_) rfl (by kernel_rfl) (by kernel_rfl) (by kernel_rfl) (fun _ _ _ h => h) (Or.inl ⟨by rfl, ?_⟩) (by assumption) ?_
        rotate_left
        · ((intro w hSw); (try dsimp only at hSw); go_simp; (try with_reducible rfl))
        try simp only [Act.put, List.setIfInBounds_toArray, List.set_cons_zero, List.set_cons_succ]
        refine wpAnyH_take (i := 13) (oi := { dst := some 118, op := Op.move (Operand.tmp 117), type := 4, pos := _, after := #[{ on := 12, ground := Ground.data }, { on := 10, ground := Ground.chain }], guard := none }) (v := ?_) rfl (by kernel_rfl) (by kernel_rfl) (by kernel_rfl) (fun _ _ _ h => h) (Or.inl ⟨by rfl, ?_⟩) (by assumption) ?_
        rotate_left
        · ((intro w hSw); (try dsimp only at hSw); go_simp; (try with_reducible rfl))
        try simp only [Act.put, List.setIfInBounds_toArray, List.set_cons_zero, List.set_cons_succ]
        refine wpAnyH_take (i := 14) (oi := { dst := some 119, op := Op.move (Operand.tmp 9), type := 27, pos := _, after := #[{ on := 13, ground := Ground.guard }], guard := some (13, false) }) (v := ?_) rfl (by kernel_rfl) (by kernel_rfl) (by kernel_rfl) (fun _ _ _ h => h) (Or.inl ⟨by rfl, ?_⟩) (by assumption) ?_
        rotate_left
        · ((intro w hSw); (try dsimp only at hSw); go_simp; (try with_reducible rfl))
        try simp only [Act.put, List.setIfInBounds_toArray, List.set_cons_zero, List.set_cons_succ]
        refine wpAnyH_take (i := 15) (oi := { dst := some 120, op := Op.fieldAddr 37 (Operand.tmp 14) 2, type := 0, pos := _, after := #[{ on := 13, ground := Ground.guard }], guard := some (13, false) }) (v := ?_) rfl (by kernel_rfl) (by kernel_rfl) (by kernel_rfl) (fun _ _ _ h => h) (Or.inl ⟨by rfl, ?_⟩) (by assumption) ?_
        rotate_left
        · ((intro w hSw); (try dsimp only at hSw); go_simp; (try with_reducible rfl))
        try simp only [Act.put, List.setIfInBounds_toArray, List.set_cons_zero, List.set_cons_succ]
        refine wpAnyH_take (i := 16) (oi := { dst := some 121, op := Op.load 22 (Operand.tmp 120), type := 22, pos := _, after := #[{ on := 15, ground := Ground.data }, { on := 13, ground := Ground.guard }], guard := some (13, false) }) (v := ?_) rfl (by kernel_rfl) (by kernel_rfl) (by kernel_rfl) (fun _ _ _ h => h) (Or.inl ⟨by rfl, ?_⟩) (by assumption) ?_
        rotate_left
        · ((intro w hSw); (try dsimp only at hSw); go_simp; (try with_reducible rfl))
        try simp only [Act.put, List.setIfInBounds_toArray, List.set_cons_zero, List.set_cons_succ]
        refine wpAnyH_take (i := 18) (oi := { dst := some 123, op := Op.move (Operand.tmp 11), type := 31, pos := _, after := #[{ on := 13, ground := Ground.guard }], guard := some (13, false) }) (v := ?_) rfl (by kernel_rfl) (by kernel_rfl) (by kernel_rfl) (fun _ _ _ h => h) (Or.inl ⟨by rfl, ?_⟩) (by assumption) ?_
        rotate_left
        · ((intro w hSw); (try dsimp only at hSw); go_simp; (try with_reducible rfl))
        try simp only [Act.put, List.setIfInBounds_toArray, List.set_cons_zero, List.set_cons_succ]
        refine wpAnyH_take (i := 19) (oi := { dst := some 124, op := Op.fieldAddr 37 (Operand.tmp 14) 2, type := 0, pos := _, after := #[{ on := 13, ground := Ground.guard }], guard := some (13, false) }) (v := ?_) rfl (by kernel_rfl) (by kernel_rfl) (by kernel_rfl) (fun _ _ _ h => h) (Or.inl ⟨by rfl, ?_⟩) (by assumption) ?_
        rotate_left
        · ((intro w hSw); (try dsimp only at hSw); go_simp; (try with_reducible rfl))
        try simp only [Act.put, List.setIfInBounds_toArray, List.set_cons_zero, List.set_cons_succ]
        refine wpAnyH_take (i := 20) (oi := { dst := some 125, op := Op.load 22 (Operand.tmp 124), type := 22, pos := _, after := #[{ on := 19, ground := Ground.data }, { on := 13, ground := Ground.guard }], guard := some (13, false) }) (v := ?_) rfl (by kernel_rfl) (by kernel_rfl) (by kernel_rfl) (fun _ _ _ h => h) (Or.inl ⟨by rfl, ?_⟩) (by assumption) ?_
        rotate_left
        · ((intro w hSw); (try dsimp only at hSw); go_simp; (try with_reducible rfl))
        try simp only [Act.put, List.setIfInBounds_toArray, List.set_cons_zero, List.set_cons_succ]
        refine wpAnyH_ready (rs := [17]) (by kernel_rfl) (by simp) ?_
        refine (AllReadyH.cons (o := { dst := some 122, op := Op.call { callee := Callee.value (Operand.func 17), args := #[Operand.tmp 119, Operand.tmp 121], argTypes := #[27, 22] }, type := 22, pos := _, after := #[{ on := 14, ground := Ground.data }, { on := 16, ground := Ground.data }, { on := 13, ground := Ground.chain }, { on := 13, ground := Ground.guard }], guard := some (13, false) }) rfl (fun K hK => ?_) AllReadyH.nil)
        go_simp
        (refine (atM x hB5 hP5 hCk hx).mono ?_; rw [hY]; rintro e w6 ⟨rfl, hB6, hP6⟩)
        go_wp2_with fail
        refine hK.out _ _ ?_ (fun hHeld => ?_)
        · ((try dsimp only); exact ⟨hP6.c1, hP6.c2, hB6.cq.c2, hB6.cq.c3, hB6.cq.c4⟩)
        clear hK K
        try simp only [Act.put, List.setIfInBounds_toArray, List.set_cons_zero, List.set_cons_succ]
        refine wpAnyH_ready (rs := [21]) (by kernel_rfl) (by simp) ?_
        refine (AllReadyH.cons (o := { dst := some 126, op := Op.call { callee := Callee.value (Operand.func 18), args := #[Operand.tmp 123, Operand.tmp 125], argTypes := #[31, 22] }, type := 22, pos := _, after := #[{ on := 18, ground := Ground.data }, { on := 20, ground := Ground.data }, { on := 17, ground := Ground.chain }, { on := 13, ground := Ground.guard }], guard := some (13, false) }) rfl (fun K hK => ?_) AllReadyH.nil)
        go_simp
        (refine (atN x hB6 hP6 hCk hx).mono ?_; rw [hY]; rintro e w7 ⟨rfl, hB7, hP7⟩)
        go_wp2_with fail
        refine hK.out _ _ ?_ (fun hHeld => ?_)
        · ((try dsimp only); exact ⟨hP7.c1, hP7.c2, hB7.cq.c2, hB7.cq.c3, hB7.cq.c4⟩)
        clear hK K
        try simp only [Act.put, List.setIfInBounds_toArray, List.set_cons_zero, List.set_cons_succ]
        refine wpAnyH_take (i := 22) (oi := { dst := some 127, op := Op.binOp BinOp.neq 22 (Operand.tmp 122) (Operand.tmp 126) 22, type := 4, pos := _, after := #[{ on := 17, ground := Ground.data }, { on := 21, ground := Ground.data }, { on := 13, ground := Ground.guard }], guard := some (13, false) }) (v := ?_) rfl (by kernel_rfl) (by kernel_rfl) (by kernel_rfl) (fun _ _ _ h => h) (Or.inl ⟨by rfl, ?_⟩) (by assumption) ?_
        rotate_left
        · ((intro w hSw); (try dsimp only at hSw); go_simp; (try with_reducible rfl))
        try simp only [Act.put, List.setIfInBounds_toArray, List.set_cons_zero, List.set_cons_succ]
        refine wpAnyH_take (i := 23) (oi := { dst := some 128, op := Op.pick (Operand.tmp 118) (Operand.const (Value.bool true)) (Operand.tmp 127), type := 4, pos := _, after := #[{ on := 13, ground := Ground.data }, { on := 22, ground := Ground.data }], guard := none }) (v := ?_) rfl (by kernel_rfl) (by kernel_rfl) (by kernel_rfl) (fun _ _ _ h => h) (Or.inl ⟨by rfl, ?_⟩) (by assumption) ?_
        rotate_left
        · ((intro w hSw); (try dsimp only at hSw); go_simp; (try with_reducible rfl))
        try simp only [Act.put, List.setIfInBounds_toArray, List.set_cons_zero, List.set_cons_succ]
        refine wpAnyH_take (i := 24) (oi := { dst := some 129, op := Op.move (Operand.tmp 128), type := 4, pos := _, after := #[{ on := 23, ground := Ground.data }, { on := 21, ground := Ground.chain }], guard := none }) (v := ?_) rfl (by kernel_rfl) (by kernel_rfl) (by kernel_rfl) (fun _ _ _ h => h) (Or.inl ⟨by rfl, ?_⟩) (by assumption) ?_
        rotate_left
        · ((intro w hSw); (try dsimp only at hSw); go_simp; (try with_reducible rfl))
        try simp only [Act.put, List.setIfInBounds_toArray, List.set_cons_zero, List.set_cons_succ]
        refine wpAnyH_take (i := 25) (oi := { dst := some 130, op := Op.move (Operand.tmp 9), type := 27, pos := _, after := #[{ on := 24, ground := Ground.guard }], guard := some (24, false) }) (v := ?_) rfl (by kernel_rfl) (by kernel_rfl) (by kernel_rfl) (fun _ _ _ h => h) (Or.inl ⟨by rfl, ?_⟩) (by assumption) ?_
        rotate_left
        · ((intro w hSw); (try dsimp only at hSw); go_simp; (try with_reducible rfl))
        try simp only [Act.put, List.setIfInBounds_toArray, List.set_cons_zero, List.set_cons_succ]
        refine wpAnyH_take (i := 27) (oi := { dst := some 132, op := Op.move (Operand.tmp 11), type := 31, pos := _, after := #[{ on := 24, ground := Ground.guard }], guard := some (24, false) }) (v := ?_) rfl (by kernel_rfl) (by kernel_rfl) (by kernel_rfl) (fun _ _ _ h => h) (Or.inl ⟨by rfl, ?_⟩) (by assumption) ?_
        rotate_left
        · ((intro w hSw); (try dsimp only at hSw); go_simp; (try with_reducible rfl))
        try simp only [Act.put, List.setIfInBounds_toArray, List.set_cons_zero, List.set_cons_succ]
        refine wpAnyH_take (i := 28) (oi := { dst := some 133, op := Op.nilCheck (Operand.tmp 132), type := 0, pos := _, after := #[{ on := 27, ground := Ground.data }, { on := 24, ground := Ground.guard }], guard := some (24, false) }) (v := ?_) rfl (by kernel_rfl) (by kernel_rfl) (by kernel_rfl) (fun _ _ _ h => h) (Or.inl ⟨by rfl, ?_⟩) (by assumption) ?_
        rotate_left
        · ((intro w hSw); (try dsimp only at hSw); go_simp; (try with_reducible rfl))
        try simp only [Act.put, List.setIfInBounds_toArray, List.set_cons_zero, List.set_cons_succ]
        refine wpAnyH_take (i := 29) (oi := { dst := some 134, op := Op.fieldAddr 44 (Operand.tmp 133) 2, type := 0, pos := _, after := #[{ on := 28, ground := Ground.data }, { on := 24, ground := Ground.guard }], guard := some (24, false) }) (v := ?_) rfl (by kernel_rfl) (by kernel_rfl) (by kernel_rfl) (fun _ _ _ h => h) (Or.inl ⟨by rfl, ?_⟩) (by assumption) ?_
        rotate_left
        · ((intro w hSw); (try dsimp only at hSw); go_simp; (try with_reducible rfl))
        try simp only [Act.put, List.setIfInBounds_toArray, List.set_cons_zero, List.set_cons_succ]
        refine wpAnyH_take (i := 30) (oi := { dst := some 135, op := Op.load 22 (Operand.tmp 134), type := 22, pos := _, after := #[{ on := 29, ground := Ground.data }, { on := 24, ground := Ground.guard }], guard := some (24, false) }) (v := ?_) rfl (by kernel_rfl) (by kernel_rfl) (by kernel_rfl) (fun _ _ _ h => h) (Or.inl ⟨by rfl, ?_⟩) (by assumption) ?_
        rotate_left
        · ((intro w hSw); (try dsimp only at hSw); go_simp; (try with_reducible rfl))
        try simp only [Act.put, List.setIfInBounds_toArray, List.set_cons_zero, List.set_cons_succ]
        refine wpAnyH_ready (rs := [26]) (by kernel_rfl) (by simp) ?_
        refine (AllReadyH.cons (o := { dst := some 131, op := Op.call { callee := Callee.value (Operand.func 19), args := #[Operand.tmp 130], argTypes := #[27] }, type := 22, pos := _, after := #[{ on := 25, ground := Ground.data }, { on := 24, ground := Ground.chain }, { on := 24, ground := Ground.guard }], guard := some (24, false) }) rfl (fun K hK => ?_) AllReadyH.nil)
        go_simp
        (refine (restC p c w7 hB7.cp).mono ?_; rintro e w8 ⟨rfl, rfl⟩)
        go_wp2_with fail
        refine hK.out _ _ ?_ (fun hHeld => ?_)
        · ((try dsimp only); exact ⟨hP7.c1, hP7.c2, hB7.cq.c2, hB7.cq.c3, hB7.cq.c4⟩)
        clear hK K
        try simp only [Act.put, List.setIfInBounds_toArray, List.set_cons_zero, List.set_cons_succ]
        refine wpAnyH_take (i := 31) (oi := { dst := some 136, op := Op.binOp BinOp.neq 22 (Operand.tmp 131) (Operand.tmp 135) 22, type := 4, pos := _, after := #[{ on := 26, ground := Ground.data }, { on := 30, ground := Ground.data }, { on := 24, ground := Ground.guard }], guard := some (24, false) }) (v := ?_) rfl (by kernel_rfl) (by kernel_rfl) (by kernel_rfl) (fun _ _ _ h => h) (Or.inl ⟨by rfl, ?_⟩) (by assumption) ?_
        rotate_left
        · ((intro w hSw); (try dsimp only at hSw); go_simp; (try with_reducible rfl))
        try simp only [Act.put, List.setIfInBounds_toArray, List.set_cons_zero, List.set_cons_succ]
        refine wpAnyH_take (i := 32) (oi := { dst := some 137, op := Op.pick (Operand.tmp 129) (Operand.const (Value.bool true)) (Operand.tmp 136), type := 4, pos := _, after := #[{ on := 24, ground := Ground.data }, { on := 31, ground := Ground.data }], guard := none }) (v := ?_) rfl (by kernel_rfl) (by kernel_rfl) (by kernel_rfl) (fun _ _ _ h => h) (Or.inl ⟨by rfl, ?_⟩) (by assumption) ?_
        rotate_left
        · ((intro w hSw); (try dsimp only at hSw); go_simp; (try with_reducible rfl))
        try simp only [Act.put, List.setIfInBounds_toArray, List.set_cons_zero, List.set_cons_succ]
        refine wpAnyH_take (i := 33) (oi := { dst := some 138, op := Op.move (Operand.tmp 137), type := 4, pos := _, after := #[{ on := 32, ground := Ground.data }, { on := 26, ground := Ground.chain }], guard := none }) (v := ?_) rfl (by kernel_rfl) (by kernel_rfl) (by kernel_rfl) (fun _ _ _ h => h) (Or.inl ⟨by rfl, ?_⟩) (by assumption) ?_
        rotate_left
        · ((intro w hSw); (try dsimp only at hSw); go_simp; (try with_reducible rfl))
        try simp only [Act.put, List.setIfInBounds_toArray, List.set_cons_zero, List.set_cons_succ]
        refine wpAnyH_take (i := 34) (oi := { dst := some 139, op := Op.move (Operand.tmp 9), type := 27, pos := _, after := #[{ on := 33, ground := Ground.guard }], guard := some (33, false) }) (v := ?_) rfl (by kernel_rfl) (by kernel_rfl) (by kernel_rfl) (fun _ _ _ h => h) (Or.inl ⟨by rfl, ?_⟩) (by assumption) ?_
        rotate_left
        · ((intro w hSw); (try dsimp only at hSw); go_simp; (try with_reducible rfl))
        try simp only [Act.put, List.setIfInBounds_toArray, List.set_cons_zero, List.set_cons_succ]
        refine wpAnyH_take (i := 37) (oi := { dst := some 142, op := Op.move (Operand.tmp 11), type := 31, pos := _, after := #[{ on := 33, ground := Ground.guard }], guard := some (33, false) }) (v := ?_) rfl (by kernel_rfl) (by kernel_rfl) (by kernel_rfl) (fun _ _ _ h => h) (Or.inl ⟨by rfl, ?_⟩) (by assumption) ?_
        rotate_left
        · ((intro w hSw); (try dsimp only at hSw); go_simp; (try with_reducible rfl))
        try simp only [Act.put, List.setIfInBounds_toArray, List.set_cons_zero, List.set_cons_succ]
        refine wpAnyH_take (i := 38) (oi := { dst := some 143, op := Op.nilCheck (Operand.tmp 142), type := 0, pos := _, after := #[{ on := 37, ground := Ground.data }, { on := 33, ground := Ground.guard }], guard := some (33, false) }) (v := ?_) rfl (by kernel_rfl) (by kernel_rfl) (by kernel_rfl) (fun _ _ _ h => h) (Or.inl ⟨by rfl, ?_⟩) (by assumption) ?_
        rotate_left
        · ((intro w hSw); (try dsimp only at hSw); go_simp; (try with_reducible rfl))
        try simp only [Act.put, List.setIfInBounds_toArray, List.set_cons_zero, List.set_cons_succ]
        refine wpAnyH_take (i := 39) (oi := { dst := some 144, op := Op.fieldAddr 44 (Operand.tmp 143) 3, type := 0, pos := _, after := #[{ on := 38, ground := Ground.data }, { on := 33, ground := Ground.guard }], guard := some (33, false) }) (v := ?_) rfl (by kernel_rfl) (by kernel_rfl) (by kernel_rfl) (fun _ _ _ h => h) (Or.inl ⟨by rfl, ?_⟩) (by assumption) ?_
        rotate_left
        · ((intro w hSw); (try dsimp only at hSw); go_simp; (try with_reducible rfl))
        try simp only [Act.put, List.setIfInBounds_toArray, List.set_cons_zero, List.set_cons_succ]
        refine wpAnyH_take (i := 40) (oi := { dst := some 145, op := Op.load 34 (Operand.tmp 144), type := 34, pos := _, after := #[{ on := 39, ground := Ground.data }, { on := 33, ground := Ground.guard }], guard := some (33, false) }) (v := ?_) rfl (by kernel_rfl) (by kernel_rfl) (by kernel_rfl) (fun _ _ _ h => h) (Or.inl ⟨by rfl, ?_⟩) (by assumption) ?_
        rotate_left
        · ((intro w hSw); (try dsimp only at hSw); go_simp; (try with_reducible rfl))
        try simp only [Act.put, List.setIfInBounds_toArray, List.set_cons_zero, List.set_cons_succ]
        refine wpAnyH_ready (rs := [35]) (by kernel_rfl) (by simp) ?_
        refine (AllReadyH.cons (o := { dst := some 140, op := Op.call { callee := Callee.value (Operand.func 20), args := #[Operand.tmp 139], argTypes := #[27] }, type := 24, pos := _, after := #[{ on := 34, ground := Ground.data }, { on := 33, ground := Ground.chain }, { on := 33, ground := Ground.guard }], guard := some (33, false) }) rfl (fun K hK => ?_) AllReadyH.nil)
        go_simp
        (refine (speedM hB7 hP7).mono ?_; rintro e w8 ⟨rfl, hB8, hP8⟩)
        go_wp2_with fail
        refine hK.out _ _ ?_ (fun hHeld => ?_)
        · ((try dsimp only); exact ⟨hP8.c1, hP8.c2, hB8.cq.c2, hB8.cq.c3, hB8.cq.c4⟩)
        clear hK K
        try simp only [Act.put, List.setIfInBounds_toArray, List.set_cons_zero, List.set_cons_succ]
        refine wpAnyH_ready (rs := [36]) (by kernel_rfl) (by simp) ?_
        refine (AllReadyH.cons (o := { dst := some 141, op := Op.call { callee := Callee.value (Operand.func 10), args := #[Operand.tmp 140], argTypes := #[24] }, type := 34, pos := _, after := #[{ on := 35, ground := Ground.data }, { on := 35, ground := Ground.chain }, { on := 33, ground := Ground.guard }], guard := some (33, false) }) rfl (fun K hK => ?_) AllReadyH.nil)
        go_simp
        (refine (plainM (c.num : Int) (c.den : Int) hB8 hP8).mono ?_; rintro e w9 ⟨rfl, hB9, hP9⟩)
        go_wp2_with fail
        refine hK.out _ _ ?_ (fun hHeld => ?_)
        · ((try dsimp only); exact ⟨hP9.c1, hP9.c2, hB9.cq.c2, hB9.cq.c3, hB9.cq.c4⟩)
        clear hK K
        try simp only [Act.put, List.setIfInBounds_toArray, List.set_cons_zero, List.set_cons_succ]
        refine wpAnyH_take (i := 41) (oi := { dst := some 146, op := Op.binOp BinOp.neq 34 (Operand.tmp 141) (Operand.tmp 145) 34, type := 4, pos := _, after := #[{ on := 36, ground := Ground.data }, { on := 40, ground := Ground.data }, { on := 33, ground := Ground.guard }], guard := some (33, false) }) (v := ?_) rfl (by kernel_rfl) (by kernel_rfl) (by kernel_rfl) (fun _ _ _ h => h) (Or.inl ⟨by rfl, ?_⟩) (by assumption) ?_
        rotate_left
        · ((intro w hSw); (try dsimp only at hSw); go_simp; (try with_reducible rfl))
        try simp only [Act.put, List.setIfInBounds_toArray, List.set_cons_zero, List.set_cons_succ]
        refine wpAnyH_take (i := 42) (oi := { dst := some 147, op := Op.pick (Operand.tmp 138) (Operand.const (Value.bool true)) (Operand.tmp 146), type := 4, pos := _, after := #[{ on := 33, ground := Ground.data }, { on := 41, ground := Ground.data }], guard := none }) (v := ?_) rfl (by kernel_rfl) (by kernel_rfl) (by kernel_rfl) (fun _ _ _ h => h) (Or.inl ⟨by rfl, ?_⟩) (by assumption) ?_
        rotate_left
        · ((intro w hSw); (try dsimp only at hSw); go_simp; (try with_reducible rfl))
        try simp only [Act.put, List.setIfInBounds_toArray, List.set_cons_zero, List.set_cons_succ]
        refine wpAnyH_done (by kernel_rfl) ?_ _
        go_wp2
        go_roundw
        case rel => exact ⟨i + 1, c, by omega, by go_num, hCk, hB9⟩
        case measure => simp [intOf]; omega
    · obtain rfl : i = len := by omega
      go_wp2_with fail
      refine (first _).mono ?_
      rintro e w5 ⟨rfl, hb5⟩
      go_wp2
      go_ret
      exact ⟨rfl, below_next hB.bel hb5⟩
theorem walk (T X n d : Int) (a : Option Addr) (len cap : Nat) (F : Nat → Op5) (W : World) (w0 : (Lit.int .u64 T).wf = true) (w1 : (Lit.int .u64 X).wf = true) (w3 : (Lit.int .u64 n).wf = true) (w4 : (Lit.int .u64 d).wf = true) (wo : IsOps W a len cap F) :
    Calls Try.prog 3 #[.int .u64 T, .int .u64 X, .agg #[.int .u64 n, .int .u64 d], .slice a len cap] W fun e w' => e = .returned (.bool true) ∧ Below W.heap.size W w' := by
  obtain ⟨p0, q0⟩ := in64 w0
  obtain ⟨p1, q1⟩ := in64 w1
  obtain ⟨p3, q3⟩ := in64 w3
  obtain ⟨p4, q4⟩ := in64 w4
  obtain ⟨T, rfl⟩ := Int.eq_ofNat_of_zero_le p0
  obtain ⟨X, rfl⟩ := Int.eq_ofNat_of_zero_le p1
  obtain ⟨n, rfl⟩ := Int.eq_ofNat_of_zero_le p3
  obtain ⟨d, rfl⟩ := Int.eq_ofNat_of_zero_le p4
  by_cases hl : 200 < len
  · exact out T X n d a len cap W hl (by have h1 := wo.1; have h2 := wo.2.1; unfold maxLen at h2; omega)
  · by_cases hA : mayN n d = true ∧ T ≤ mx ∧ X ≤ mx
    · exact main T X n d a len cap F W (by omega) (by omega) hA.1 hA.2.1 hA.2.2 (by omega) wo
    · exact outNo T X n d a len cap W (by omega) (by omega) (by omega) hA
end Go.Proofs.Ytilblkccophnnaa.GoesW
