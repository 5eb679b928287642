/- GridPlays: the walk. -/
import Derived.Test.YtfdjmlncdbpkgaaYb
import Derived.Test.YtfdjmlncdbpkgaaXt
set_option linter.unusedVariables false
namespace Go.Proofs.Ytfdjmlncdbpkgaa.Yc
open Go Go.RowKit Kit Gm Gv Fl Me Cp Sl Gg Gh Gq Gk Gs Gt Gu Lw Xa Og Ya Yb
open Pr (Iv iv_new)

/-- another condition on the world, from here on. -/
theorem wpAnyH_switch {P : Program} {ops : Array Oper} {Q : Exit → Act → World → Prop} {md : Region.Mode} {S S' : World → Prop} (h : ∀ w, S' w → S w) : ∀ {fuel : Nat} {listed : Array Bool} {a : Act} {w : World}, wpAnyH P md ops Q S' fuel listed a w → wpAnyH P md ops Q S fuel listed a w
  | 0, _, _, _, k => k
  | fuel + 1, _, _, _, k => ⟨k.1, fun i hi => wpOp_mono (fun a' w' h' => ⟨h _ h'.1, wpAnyH_switch h h'.2⟩) (k.2 i hi)⟩
set_option maxRecDepth 100000 in
set_option maxHeartbeats 1000000 in
theorem walkLen (rows cols : Int) (a : Option Addr) (len cap : Nat) (W : World) (h : 100 < len) :
    Calls Try.prog 3 #[.int .i64 rows, .int .i64 cols, .slice a len cap] W fun e w' => e = .returned (.bool true) ∧ Below W.heap.size W w' := by
  go_enter Try.func3, Try.ntmps3
  go_wp2_with (go_at_call 9; (first
      | ((with_reducible refine (firstC W).mono ?_); rintro e w1 ⟨rfl, hb⟩; have HB1 := Lib.hid hb; clear hb)
      | ((with_reducible refine (firstC _).mono ?_); rintro e w2 ⟨rfl, hb⟩; have HB2 := Lib.hid (below_then HB1.out hb HB1.out.size); clear hb)))
  go_ret
  exact ⟨rfl, HB2.out⟩
set_option maxRecDepth 100000 in
set_option maxHeartbeats 1000000 in
theorem walkNo (rows cols : Int) (a : Option Addr) (len cap : Nat) (W : World) (h : len ≤ 100) (hs : sizeB rows cols = false) :
    Calls Try.prog 3 #[.int .i64 rows, .int .i64 cols, .slice a len cap] W fun e w' => e = .returned (.bool true) ∧ Below W.heap.size W w' := by
  have HN := Lib.hid (fun w => Gh.newNo rows cols w hs)
  have HX := Lib.hid (fun w => Xn.newNo rows cols w hs)
  have t1 : decide (100 < (len : Int)) = false := by simp; omega
  have t2 : decide (100 < len) = false := by simp; omega
  clear hs
  go_enter Try.func3, Try.ntmps3
  go_wp2_with (first
    | (go_at_call 9; (first
      | ((with_reducible refine (firstC W).mono ?_); rintro e w1 ⟨rfl, hb⟩; have HB1 := Lib.hid hb; clear hb)
      | ((with_reducible refine (firstC _).mono ?_); rintro e w2 ⟨rfl, hb⟩; have HB2 := Lib.hid (below_then HB1.out hb HB1.out.size); clear hb)))
    | (go_at_call 10; (with_reducible refine (HN.out _).mono ?_); rintro e w' ⟨rfl, rfl⟩)
    | (go_at_call 11; (with_reducible refine (HX.out _).mono ?_); rintro e w' ⟨rfl, rfl⟩))
  go_ret
  exact ⟨rfl, HB2.out⟩
/-- the document's New, its blocks behind what stood. -/
theorem newX (R C : Nat) (w : World) (h : 1 ≤ R ∧ R ≤ 60 ∧ 1 ≤ C ∧ C ≤ 200) (L : List Ce) (hL : List.replicate (R * C) (Gm.blankC 0) = L) :
    Calls Try.prog 11 #[.int .i64 (R : Int), .int .i64 (C : Int)] w fun e w' => ∃ q d, e = .returned (.tuple #[.pointer (some ⟨q, 0, none⟩), .int .i64 0]) ∧ X w' q d R C L ∧ Below w.heap.size w w' ∧ w.heap.size ≤ q ∧ w.heap.size ≤ d := by
  subst hL
  exact (Xn.newYes R C w h).mono fun e w' ⟨h1, h2, h3⟩ => ⟨_, _, h1, h2, h3, by omega, Nat.le_refl _⟩
/-- both grids and both copies, as they were made. -/
theorem bo_start {W w2 w3 w4 w5 : World} {p b q d R C c1 e1 k1 c2 e2 k2 : Nat} {L : List Ce} (ht : Tp W w2 p b R C L) (hx : X w3 q d R C L) (h3 : Below w2.heap.size w2 w3) (hq : w2.heap.size ≤ q) (hd : w2.heap.size ≤ d)
    (hg : GV w4 c1 e1 R C k1 L) (h4 : Below w3.heap.size w3 w4) (hc1 : w3.heap.size ≤ c1) (he1 : w3.heap.size ≤ e1) (hv : XV w5 c2 e2 R C k2 L) (h5 : Below w4.heap.size w4 w5) (hc2 : w4.heap.size ≤ c2) (he2 : w4.heap.size ≤ e2) (hi : Iv R C L) :
    Bo W w5 ⟨c1, e1, c2, e2, R, C, k1, k2, L⟩ p b R C L q d R C L := by
  have s3 := h3.size
  have s4 := h4.size
  have s0 := ht.bel.size
  have a1 := ht.g.p_lt
  have a2 := ht.g.b_lt
  have a3 := hx.p_lt
  have a4 := hx.b_lt
  have f : ∀ k, w3.heap.size ≤ k → Far k p b q d := fun k hk => by unfold Far; omega
  exact ⟨((ht.then_ h3).then_ h4).then_ h5, (hx.then_ h4 (Nat.le_refl _)).then_ h5 (Nat.le_refl _), hi, by omega, by omega, by omega, by omega, by omega, by omega, hg.then_ h5 (Nat.le_refl _), hv, f c1 hc1, f e1 he1, f c2 (Nat.le_trans s4 hc2), f e2 (Nat.le_trans s4 he2)⟩
set_option maxRecDepth 100000 in
set_option maxHeartbeats 8000000 in
theorem mainW (R0 C0 len : Nat) (a : Option Addr) (cap : Nat) (F : Nat → GO) (W : World) (hs : 1 ≤ R0 ∧ R0 ≤ 60 ∧ 1 ≤ C0 ∧ C0 ≤ 200) (hl : len ≤ 100) (hops : IsOps W a len cap F) :
    Calls Try.prog 3 #[.int .i64 (R0 : Int), .int .i64 (C0 : Int), .slice a len cap] W fun e w' => e = .returned (.bool true) ∧ Below W.heap.size W w' := by
  have HS := Lib.hid hs
  have HOps := Lib.hid hops
  obtain ⟨L0, hL0⟩ : ∃ L0, List.replicate (R0 * C0) (Gm.blankC 0) = L0 := ⟨_, rfl⟩
  have HI0 := Lib.hid (show Iv R0 C0 L0 from hL0 ▸ iv_new R0 C0)
  have HL0 := Lib.hid hL0
  have t1 : decide (100 < (len : Int)) = false := by simp; omega
  have t2 : decide (100 < len) = false := by simp; omega
  clear hs hops hL0
  go_enter Try.func3, Try.ntmps3
  go_wp2_with (first
    | (go_at_call 9; (with_reducible refine (firstC W).mono ?_); rintro e w1 ⟨rfl, hb⟩; have HB1 := Lib.hid hb; clear hb)
    | (go_at_call 10; (with_reducible refine (newT W R0 C0 _ HB1.out HS.out _ HL0.out (R0 : Int) (C0 : Int) rfl rfl).mono ?_); rintro e w2 ⟨p, b0, rfl, ht⟩; have HT2 := Lib.hid ht; clear ht)
    | (go_at_call 11; (with_reducible refine (newX R0 C0 _ HS.out _ HL0.out).mono ?_); rintro e w3 ⟨q, d0, rfl, hx3, hb3, hq, hd⟩; have HX3 := Lib.hid hx3; have HB3 := Lib.hid hb3; have HQ := Lib.hid hq; have HD := Lib.hid hd; have HT3 := Lib.hid (HT2.out.then_ hb3); clear hx3 hb3 hq hd)
    | (go_at_call 12; (with_reducible refine (copyK p b0 R0 C0 _ L0 _ HT3.out.g.view).mono ?_); rintro e w4 ⟨c1, e1, k1, rfl, hg4, hb4, hc1, he1⟩; have HG4 := Lib.hid hg4; have HB4 := Lib.hid hb4; have HC1 := Lib.hid hc1; have HE1 := Lib.hid he1; have HX4 := Lib.hid (HX3.out.then_ hb4 (Nat.le_refl _)); clear hg4 hb4 hc1 he1)
    | (go_at_call 13; (with_reducible refine (Xu.copyX q d0 R0 C0 _ L0 _ HX4.out.view).mono ?_); rintro e w5 ⟨c2, e2, k2, rfl, hv5, hb5, hc2, he2⟩; have HBo := Lib.hid (bo_start HT2.out HX3.out HB3.out HQ.out HD.out HG4.out HB4.out HC1.out HE1.out hv5 hb5 hc2 he2 HI0.out); clear hv5 hb5 hc2 he2))
  clear HX4 HC1 HE1 HG4 HB4 HT3 HX3 HB3 HQ HD HT2 HB1 HI0 HL0 HS
  obtain ⟨z, hz⟩ : ∃ z : Cps, z = ⟨c1, e1, c2, e2, R0, C0, k1, k2, L0⟩ := ⟨_, rfl⟩
  have z1 : c1 = z.c1 := by rw [hz]
  have z2 : c2 = z.c2 := by rw [hz]
  rw [← hz] at HBo
  subst z1
  subst z2
  clear hz
  go_loopw [13] (fun s13 wr => ∃ (i b d R C : Nat) (L : List Ce), i ≤ len ∧ s13 = .int .i64 i ∧ Hid (Bo W wr z p b R C L q d R C L)) (fun s13 _ => len - (intOf s13).toNat)
  case atStart => exact ⟨0, _, _, _, _, _, Nat.zero_le _, rfl, HBo⟩
  case round =>
    clear HBo
    obtain ⟨i, b, d, R, C, L, hi, rfl, HB⟩ := hrel
    by_cases hlt : i < len
    · obtain ⟨ob, off, rfl, hop⟩ := op_at HOps.out i hlt
      generalize F i = g at hop
      obtain ⟨gk, gr, gc, gn, xr, xf, xg, xb, xw⟩ := g
      have HN9 := Lib.hid hop
      have hop2 := hop _ HB.out.tp.bel
      clear hop
      obtain ⟨o0, o1, o2, o3, o4, o5, o6, o7, o8⟩ := hop2
      dsimp only at o0 o1 o2 o3 o4 o5 o6 o7 o8
      have HKi := Lib.hid (show i + 1 ≤ len ∧ len - (i + 1) < len - i by omega)
      have hl2 : len ≤ 1000000 := by omega
      clear hi
      go_wp2
      refine wp_region_held_drew (S := (fun W => W.cell? ⟨ob, off + i * 9, none⟩ = some (.int .i64 gk) ∧ W.cell? ⟨ob, off + i * 9 + 1, none⟩ = some (.int .i64 gr) ∧ W.cell? ⟨ob, off + i * 9 + 2, none⟩ = some (.int .i64 gc) ∧ W.cell? ⟨ob, off + i * 9 + 3, none⟩ = some (.int .i64 gn) ∧ W.cell? ⟨ob, off + i * 9 + 4, none⟩ = some (.int .i32 xr) ∧ W.cell? ⟨ob, off + i * 9 + 5, none⟩ = some (.int .i64 xf) ∧ W.cell? ⟨ob, off + i * 9 + 6, none⟩ = some (.int .i64 xg) ∧ W.cell? ⟨ob, off + i * 9 + 7, none⟩ = some (.int .i64 xb) ∧ W.cell? ⟨ob, off + i * 9 + 8, none⟩ = some (.int .i64 xw))) (by kernel_rfl) ?_ (fun hHeld => ?_)
      · ((try dsimp only); exact ⟨o0, o1, o2, o3, o4, o5, o6, o7, o8⟩)
      refine wpAnyH_take (i := 0) (oi := { dst := some 55, op := Op.move (Operand.tmp 7), type := 24, pos := _, after := #[], guard := none }) (v := ?_) rfl (by kernel_rfl) (by kernel_rfl) (by kernel_rfl) (fun _ _ _ h => h) (Or.inl ⟨by rfl, ?_⟩) (by assumption) ?_
      rotate_left
      · ((intro w hSw); (try dsimp only at hSw); go_simp; (try with_reducible rfl))
      try simp only [Act.put, List.setIfInBounds_toArray, List.set_cons_zero, List.set_cons_succ]
      refine wpAnyH_take (i := 1) (oi := { dst := some 56, op := Op.move (Operand.tmp 9), type := 28, pos := _, after := #[], guard := none }) (v := ?_) rfl (by kernel_rfl) (by kernel_rfl) (by kernel_rfl) (fun _ _ _ h => h) (Or.inl ⟨by rfl, ?_⟩) (by assumption) ?_
      rotate_left
      · ((intro w hSw); (try dsimp only at hSw); go_simp; (try with_reducible rfl))
      try simp only [Act.put, List.setIfInBounds_toArray, List.set_cons_zero, List.set_cons_succ]
      refine wpAnyH_take (i := 2) (oi := { dst := some 57, op := Op.move (Operand.tmp 2), type := 22, pos := _, after := #[], guard := none }) (v := ?_) rfl (by kernel_rfl) (by kernel_rfl) (by kernel_rfl) (fun _ _ _ h => h) (Or.inl ⟨by rfl, ?_⟩) (by assumption) ?_
      rotate_left
      · ((intro w hSw); (try dsimp only at hSw); go_simp; (try with_reducible rfl))
      try simp only [Act.put, List.setIfInBounds_toArray, List.set_cons_zero, List.set_cons_succ]
      refine wpAnyH_take (i := 3) (oi := { dst := some 58, op := Op.move (Operand.tmp 13), type := 3, pos := _, after := #[], guard := none }) (v := ?_) rfl (by kernel_rfl) (by kernel_rfl) (by kernel_rfl) (fun _ _ _ h => h) (Or.inl ⟨by rfl, ?_⟩) (by assumption) ?_
      rotate_left
      · ((intro w hSw); (try dsimp only at hSw); go_simp; (try with_reducible rfl))
      try simp only [Act.put, List.setIfInBounds_toArray, List.set_cons_zero, List.set_cons_succ]
      refine wpAnyH_take (i := 4) (oi := { dst := some 59, op := Op.indexAddr 22 (Operand.tmp 57) (Operand.tmp 58), type := 0, pos := _, after := #[{ on := 2, ground := Ground.data }, { on := 3, ground := Ground.data }], guard := none }) (v := ?_) rfl (by kernel_rfl) (by kernel_rfl) (by kernel_rfl) (fun _ _ _ h => h) (Or.inl ⟨by rfl, ?_⟩) (by assumption) ?_
      rotate_left
      · ((intro w hSw); (try dsimp only at hSw); go_simp; (try with_reducible rfl))
      try simp only [Act.put, List.setIfInBounds_toArray, List.set_cons_zero, List.set_cons_succ]
      refine wpAnyH_take (i := 5) (oi := { dst := some 60, op := Op.load 39 (Operand.tmp 59), type := 39, pos := _, after := #[{ on := 4, ground := Ground.data }], guard := none }) (v := ?_) rfl (by kernel_rfl) (by kernel_rfl) (by kernel_rfl) (fun _ _ _ h => h) (Or.inl ⟨by rfl, ?_⟩) (by assumption) ?_
      rotate_left
      · ((intro w hSw); (try dsimp only at hSw); go_simp; (try with_reducible rfl))
      try simp only [Act.put, List.setIfInBounds_toArray, List.set_cons_zero, List.set_cons_succ]
      refine wpAnyH_ready (rs := [6]) (by kernel_rfl) (by simp) ?_
      refine (AllReadyH.cons (o := { dst := some 61, op := Op.call { callee := Callee.value (Operand.func 14), args := #[Operand.tmp 55, Operand.tmp 56, Operand.tmp 60], argTypes := #[24, 28, 39] }, type := 4, pos := _, after := #[{ on := 0, ground := Ground.data }, { on := 1, ground := Ground.data }, { on := 5, ground := Ground.data }], guard := none }) rfl (fun K hK => ?_) AllReadyH.nil)
      go_simp
      refine (doesC W wr.drew z p b R C L q d ⟨gk, gr, gc, gn, ⟨xr, xf, xg, xb, xw⟩⟩ (HB.out.drewN 1)).mono ?_
      rintro e w4 ⟨rfl, b1, d1, R1, C1, L1, hb1⟩
      have HB4 := Lib.hid hb1
      clear hb1
      go_wp2_with fail
      refine hK.out _ _ ?_ (fun hHeld => ?_)
      · ((try dsimp only); exact HN9.out w4 HB4.out.tp.bel)
      clear hK K
      try simp only [Act.put, List.setIfInBounds_toArray, List.set_cons_zero, List.set_cons_succ]
      have HS1 := Lib.hid (fun (w : World) (h : Bo W w z p b1 R1 C1 L1 q d1 R1 C1 L1) => (show (fun W => W.cell? ⟨ob, off + i * 9, none⟩ = some (.int .i64 gk) ∧ W.cell? ⟨ob, off + i * 9 + 1, none⟩ = some (.int .i64 gr) ∧ W.cell? ⟨ob, off + i * 9 + 2, none⟩ = some (.int .i64 gc) ∧ W.cell? ⟨ob, off + i * 9 + 3, none⟩ = some (.int .i64 gn) ∧ W.cell? ⟨ob, off + i * 9 + 4, none⟩ = some (.int .i32 xr) ∧ W.cell? ⟨ob, off + i * 9 + 5, none⟩ = some (.int .i64 xf) ∧ W.cell? ⟨ob, off + i * 9 + 6, none⟩ = some (.int .i64 xg) ∧ W.cell? ⟨ob, off + i * 9 + 7, none⟩ = some (.int .i64 xb) ∧ W.cell? ⟨ob, off + i * 9 + 8, none⟩ = some (.int .i64 xw) ∧ W.cell? ⟨q, 0, none⟩ = some (.int .i64 (R1 : Int)) ∧ W.cell? ⟨q, 1, none⟩ = some (.int .i64 (C1 : Int)) ∧ W.cell? ⟨q, 2, none⟩ = some (.slice (some ⟨d1, 0, none⟩) L1.length L1.length)) w from (by have e := HN9.out w h.tp.bel; exact ⟨e.1, e.2.1, e.2.2.1, e.2.2.2.1, e.2.2.2.2.1, e.2.2.2.2.2.1, e.2.2.2.2.2.2.1, e.2.2.2.2.2.2.2.1, e.2.2.2.2.2.2.2.2, (three h.x.obj).1, (three h.x.obj).2.1, (three h.x.obj).2.2⟩)))
      refine wpAnyH_switch (S' := (fun W => W.cell? ⟨ob, off + i * 9, none⟩ = some (.int .i64 gk) ∧ W.cell? ⟨ob, off + i * 9 + 1, none⟩ = some (.int .i64 gr) ∧ W.cell? ⟨ob, off + i * 9 + 2, none⟩ = some (.int .i64 gc) ∧ W.cell? ⟨ob, off + i * 9 + 3, none⟩ = some (.int .i64 gn) ∧ W.cell? ⟨ob, off + i * 9 + 4, none⟩ = some (.int .i32 xr) ∧ W.cell? ⟨ob, off + i * 9 + 5, none⟩ = some (.int .i64 xf) ∧ W.cell? ⟨ob, off + i * 9 + 6, none⟩ = some (.int .i64 xg) ∧ W.cell? ⟨ob, off + i * 9 + 7, none⟩ = some (.int .i64 xb) ∧ W.cell? ⟨ob, off + i * 9 + 8, none⟩ = some (.int .i64 xw) ∧ W.cell? ⟨q, 0, none⟩ = some (.int .i64 (R1 : Int)) ∧ W.cell? ⟨q, 1, none⟩ = some (.int .i64 (C1 : Int)) ∧ W.cell? ⟨q, 2, none⟩ = some (.slice (some ⟨d1, 0, none⟩) L1.length L1.length))) (fun _ h => ⟨h.1, h.2.1, h.2.2.1, h.2.2.2.1, h.2.2.2.2.1, h.2.2.2.2.2.1, h.2.2.2.2.2.2.1, h.2.2.2.2.2.2.2.1, h.2.2.2.2.2.2.2.2.1⟩) ?_
      clear hHeld
      have hHeld := HS1.out w4 HB4.out
      refine wpAnyH_take (i := 7) (oi := { dst := some 62, op := Op.unOp UnOp.not 4 (Operand.tmp 61), type := 4, pos := _, after := #[{ on := 6, ground := Ground.data }], guard := none }) (v := ?_) rfl (by kernel_rfl) (by kernel_rfl) (by kernel_rfl) (fun _ _ _ h => h) (Or.inl ⟨by rfl, ?_⟩) (by assumption) ?_
      rotate_left
      · ((intro w hSw); (try dsimp only at hSw); go_simp; (try with_reducible rfl))
      try simp only [Act.put, List.setIfInBounds_toArray, List.set_cons_zero, List.set_cons_succ]
      refine wpAnyH_take (i := 8) (oi := { dst := some 63, op := Op.move (Operand.tmp 62), type := 4, pos := _, after := #[{ on := 7, ground := Ground.data }, { on := 6, ground := Ground.chain }], guard := none }) (v := ?_) rfl (by kernel_rfl) (by kernel_rfl) (by kernel_rfl) (fun _ _ _ h => h) (Or.inl ⟨by rfl, ?_⟩) (by assumption) ?_
      rotate_left
      · ((intro w hSw); (try dsimp only at hSw); go_simp; (try with_reducible rfl))
      try simp only [Act.put, List.setIfInBounds_toArray, List.set_cons_zero, List.set_cons_succ]
      refine wpAnyH_take (i := 9) (oi := { dst := some 64, op := Op.move (Operand.tmp 7), type := 24, pos := _, after := #[{ on := 8, ground := Ground.guard }], guard := some (8, false) }) (v := ?_) rfl (by kernel_rfl) (by kernel_rfl) (by kernel_rfl) (fun _ _ _ h => h) (Or.inl ⟨by rfl, ?_⟩) (by assumption) ?_
      rotate_left
      · ((intro w hSw); (try dsimp only at hSw); go_simp; (try with_reducible rfl))
      try simp only [Act.put, List.setIfInBounds_toArray, List.set_cons_zero, List.set_cons_succ]
      refine wpAnyH_take (i := 11) (oi := { dst := some 66, op := Op.move (Operand.tmp 9), type := 28, pos := _, after := #[{ on := 8, ground := Ground.guard }], guard := some (8, false) }) (v := ?_) rfl (by kernel_rfl) (by kernel_rfl) (by kernel_rfl) (fun _ _ _ h => h) (Or.inl ⟨by rfl, ?_⟩) (by assumption) ?_
      rotate_left
      · ((intro w hSw); (try dsimp only at hSw); go_simp; (try with_reducible rfl))
      try simp only [Act.put, List.setIfInBounds_toArray, List.set_cons_zero, List.set_cons_succ]
      refine wpAnyH_take (i := 12) (oi := { dst := some 67, op := Op.nilCheck (Operand.tmp 66), type := 0, pos := _, after := #[{ on := 11, ground := Ground.data }, { on := 8, ground := Ground.guard }], guard := some (8, false) }) (v := ?_) rfl (by kernel_rfl) (by kernel_rfl) (by kernel_rfl) (fun _ _ _ h => h) (Or.inl ⟨by rfl, ?_⟩) (by assumption) ?_
      rotate_left
      · ((intro w hSw); (try dsimp only at hSw); go_simp; (try with_reducible rfl))
      try simp only [Act.put, List.setIfInBounds_toArray, List.set_cons_zero, List.set_cons_succ]
      refine wpAnyH_take (i := 13) (oi := { dst := some 68, op := Op.fieldAddr 43 (Operand.tmp 67) 0, type := 0, pos := _, after := #[{ on := 12, ground := Ground.data }, { on := 8, ground := Ground.guard }], guard := some (8, false) }) (v := ?_) rfl (by kernel_rfl) (by kernel_rfl) (by kernel_rfl) (fun _ _ _ h => h) (Or.inl ⟨by rfl, ?_⟩) (by assumption) ?_
      rotate_left
      · ((intro w hSw); (try dsimp only at hSw); go_simp; (try with_reducible rfl))
      try simp only [Act.put, List.setIfInBounds_toArray, List.set_cons_zero, List.set_cons_succ]
      refine wpAnyH_take (i := 14) (oi := { dst := some 69, op := Op.load 3 (Operand.tmp 68), type := 3, pos := _, after := #[{ on := 13, ground := Ground.data }, { on := 8, ground := Ground.guard }], guard := some (8, false) }) (v := ?_) rfl (by kernel_rfl) (by kernel_rfl) (by kernel_rfl) (fun _ _ _ h => h) (Or.inl ⟨by rfl, ?_⟩) (by assumption) ?_
      rotate_left
      · ((intro w hSw); (try dsimp only at hSw); go_simp; (try with_reducible rfl))
      try simp only [Act.put, List.setIfInBounds_toArray, List.set_cons_zero, List.set_cons_succ]
      refine wpAnyH_ready (rs := [10]) (by kernel_rfl) (by simp) ?_
      refine (AllReadyH.cons (o := { dst := some 65, op := Op.call { callee := Callee.value (Operand.func 15), args := #[Operand.tmp 64], argTypes := #[24] }, type := 3, pos := _, after := #[{ on := 9, ground := Ground.data }, { on := 8, ground := Ground.chain }, { on := 8, ground := Ground.guard }], guard := some (8, false) }) rfl (fun K hK => ?_) AllReadyH.nil)
      go_simp
      refine (rowsT W p b1 R1 C1 L1 _ HB4.out.tp).mono ?_
      rintro e w' ⟨rfl, rfl⟩
      go_wp2_with fail
      refine hK.out _ _ ?_ (fun hHeld => ?_)
      · ((try dsimp only); exact HS1.out w4 HB4.out)
      clear hK K
      try simp only [Act.put, List.setIfInBounds_toArray, List.set_cons_zero, List.set_cons_succ]
      refine wpAnyH_take (i := 15) (oi := { dst := some 70, op := Op.binOp BinOp.neq 3 (Operand.tmp 65) (Operand.tmp 69) 3, type := 4, pos := _, after := #[{ on := 10, ground := Ground.data }, { on := 14, ground := Ground.data }, { on := 8, ground := Ground.guard }], guard := some (8, false) }) (v := ?_) rfl (by kernel_rfl) (by kernel_rfl) (by kernel_rfl) (fun _ _ _ h => h) (Or.inl ⟨by rfl, ?_⟩) (by assumption) ?_
      rotate_left
      · ((intro w hSw); (try dsimp only at hSw); go_simp; (try with_reducible rfl))
      try simp only [Act.put, List.setIfInBounds_toArray, List.set_cons_zero, List.set_cons_succ]
      refine wpAnyH_take (i := 16) (oi := { dst := some 71, op := Op.pick (Operand.tmp 63) (Operand.const (Value.bool true)) (Operand.tmp 70), type := 4, pos := _, after := #[{ on := 8, ground := Ground.data }, { on := 15, ground := Ground.data }], guard := none }) (v := ?_) rfl (by kernel_rfl) (by kernel_rfl) (by kernel_rfl) (fun _ _ _ h => h) (Or.inl ⟨by rfl, ?_⟩) (by assumption) ?_
      rotate_left
      · ((intro w hSw); (try dsimp only at hSw); go_simp; (try with_reducible rfl))
      try simp only [Act.put, List.setIfInBounds_toArray, List.set_cons_zero, List.set_cons_succ]
      refine wpAnyH_take (i := 17) (oi := { dst := some 72, op := Op.move (Operand.tmp 71), type := 4, pos := _, after := #[{ on := 16, ground := Ground.data }, { on := 10, ground := Ground.chain }], guard := none }) (v := ?_) rfl (by kernel_rfl) (by kernel_rfl) (by kernel_rfl) (fun _ _ _ h => h) (Or.inl ⟨by rfl, ?_⟩) (by assumption) ?_
      rotate_left
      · ((intro w hSw); (try dsimp only at hSw); go_simp; (try with_reducible rfl))
      try simp only [Act.put, List.setIfInBounds_toArray, List.set_cons_zero, List.set_cons_succ]
      refine wpAnyH_take (i := 18) (oi := { dst := some 73, op := Op.move (Operand.tmp 7), type := 24, pos := _, after := #[{ on := 17, ground := Ground.guard }], guard := some (17, false) }) (v := ?_) rfl (by kernel_rfl) (by kernel_rfl) (by kernel_rfl) (fun _ _ _ h => h) (Or.inl ⟨by rfl, ?_⟩) (by assumption) ?_
      rotate_left
      · ((intro w hSw); (try dsimp only at hSw); go_simp; (try with_reducible rfl))
      try simp only [Act.put, List.setIfInBounds_toArray, List.set_cons_zero, List.set_cons_succ]
      refine wpAnyH_take (i := 20) (oi := { dst := some 75, op := Op.move (Operand.tmp 9), type := 28, pos := _, after := #[{ on := 17, ground := Ground.guard }], guard := some (17, false) }) (v := ?_) rfl (by kernel_rfl) (by kernel_rfl) (by kernel_rfl) (fun _ _ _ h => h) (Or.inl ⟨by rfl, ?_⟩) (by assumption) ?_
      rotate_left
      · ((intro w hSw); (try dsimp only at hSw); go_simp; (try with_reducible rfl))
      try simp only [Act.put, List.setIfInBounds_toArray, List.set_cons_zero, List.set_cons_succ]
      refine wpAnyH_take (i := 21) (oi := { dst := some 76, op := Op.nilCheck (Operand.tmp 75), type := 0, pos := _, after := #[{ on := 20, ground := Ground.data }, { on := 17, ground := Ground.guard }], guard := some (17, false) }) (v := ?_) rfl (by kernel_rfl) (by kernel_rfl) (by kernel_rfl) (fun _ _ _ h => h) (Or.inl ⟨by rfl, ?_⟩) (by assumption) ?_
      rotate_left
      · ((intro w hSw); (try dsimp only at hSw); go_simp; (try with_reducible rfl))
      try simp only [Act.put, List.setIfInBounds_toArray, List.set_cons_zero, List.set_cons_succ]
      refine wpAnyH_take (i := 22) (oi := { dst := some 77, op := Op.fieldAddr 43 (Operand.tmp 76) 1, type := 0, pos := _, after := #[{ on := 21, ground := Ground.data }, { on := 17, ground := Ground.guard }], guard := some (17, false) }) (v := ?_) rfl (by kernel_rfl) (by kernel_rfl) (by kernel_rfl) (fun _ _ _ h => h) (Or.inl ⟨by rfl, ?_⟩) (by assumption) ?_
      rotate_left
      · ((intro w hSw); (try dsimp only at hSw); go_simp; (try with_reducible rfl))
      try simp only [Act.put, List.setIfInBounds_toArray, List.set_cons_zero, List.set_cons_succ]
      refine wpAnyH_take (i := 23) (oi := { dst := some 78, op := Op.load 3 (Operand.tmp 77), type := 3, pos := _, after := #[{ on := 22, ground := Ground.data }, { on := 17, ground := Ground.guard }], guard := some (17, false) }) (v := ?_) rfl (by kernel_rfl) (by kernel_rfl) (by kernel_rfl) (fun _ _ _ h => h) (Or.inl ⟨by rfl, ?_⟩) (by assumption) ?_
      rotate_left
      · ((intro w hSw); (try dsimp only at hSw); go_simp; (try with_reducible rfl))
      try simp only [Act.put, List.setIfInBounds_toArray, List.set_cons_zero, List.set_cons_succ]
      refine wpAnyH_ready (rs := [19]) (by kernel_rfl) (by simp) ?_
      refine (AllReadyH.cons (o := { dst := some 74, op := Op.call { callee := Callee.value (Operand.func 16), args := #[Operand.tmp 73], argTypes := #[24] }, type := 3, pos := _, after := #[{ on := 18, ground := Ground.data }, { on := 17, ground := Ground.chain }, { on := 17, ground := Ground.guard }], guard := some (17, false) }) rfl (fun K hK => ?_) AllReadyH.nil)
      go_simp
      refine (colsT W p b1 R1 C1 L1 _ HB4.out.tp).mono ?_
      rintro e w' ⟨rfl, rfl⟩
      go_wp2_with fail
      refine hK.out _ _ ?_ (fun hHeld => ?_)
      · ((try dsimp only); exact HS1.out w4 HB4.out)
      clear hK K
      try simp only [Act.put, List.setIfInBounds_toArray, List.set_cons_zero, List.set_cons_succ]
      refine wpAnyH_take (i := 24) (oi := { dst := some 79, op := Op.binOp BinOp.neq 3 (Operand.tmp 74) (Operand.tmp 78) 3, type := 4, pos := _, after := #[{ on := 19, ground := Ground.data }, { on := 23, ground := Ground.data }, { on := 17, ground := Ground.guard }], guard := some (17, false) }) (v := ?_) rfl (by kernel_rfl) (by kernel_rfl) (by kernel_rfl) (fun _ _ _ h => h) (Or.inl ⟨by rfl, ?_⟩) (by assumption) ?_
      rotate_left
      · ((intro w hSw); (try dsimp only at hSw); go_simp; (try with_reducible rfl))
      try simp only [Act.put, List.setIfInBounds_toArray, List.set_cons_zero, List.set_cons_succ]
      refine wpAnyH_take (i := 25) (oi := { dst := some 80, op := Op.pick (Operand.tmp 72) (Operand.const (Value.bool true)) (Operand.tmp 79), type := 4, pos := _, after := #[{ on := 17, ground := Ground.data }, { on := 24, ground := Ground.data }], guard := none }) (v := ?_) rfl (by kernel_rfl) (by kernel_rfl) (by kernel_rfl) (fun _ _ _ h => h) (Or.inl ⟨by rfl, ?_⟩) (by assumption) ?_
      rotate_left
      · ((intro w hSw); (try dsimp only at hSw); go_simp; (try with_reducible rfl))
      try simp only [Act.put, List.setIfInBounds_toArray, List.set_cons_zero, List.set_cons_succ]
      refine wpAnyH_take (i := 26) (oi := { dst := some 81, op := Op.move (Operand.tmp 80), type := 4, pos := _, after := #[{ on := 25, ground := Ground.data }, { on := 19, ground := Ground.chain }], guard := none }) (v := ?_) rfl (by kernel_rfl) (by kernel_rfl) (by kernel_rfl) (fun _ _ _ h => h) (Or.inl ⟨by rfl, ?_⟩) (by assumption) ?_
      rotate_left
      · ((intro w hSw); (try dsimp only at hSw); go_simp; (try with_reducible rfl))
      try simp only [Act.put, List.setIfInBounds_toArray, List.set_cons_zero, List.set_cons_succ]
      refine wpAnyH_take (i := 27) (oi := { dst := some 82, op := Op.move (Operand.tmp 7), type := 24, pos := _, after := #[{ on := 26, ground := Ground.guard }], guard := some (26, false) }) (v := ?_) rfl (by kernel_rfl) (by kernel_rfl) (by kernel_rfl) (fun _ _ _ h => h) (Or.inl ⟨by rfl, ?_⟩) (by assumption) ?_
      rotate_left
      · ((intro w hSw); (try dsimp only at hSw); go_simp; (try with_reducible rfl))
      try simp only [Act.put, List.setIfInBounds_toArray, List.set_cons_zero, List.set_cons_succ]
      refine wpAnyH_take (i := 29) (oi := { dst := some 84, op := Op.move (Operand.tmp 9), type := 28, pos := _, after := #[{ on := 26, ground := Ground.guard }], guard := some (26, false) }) (v := ?_) rfl (by kernel_rfl) (by kernel_rfl) (by kernel_rfl) (fun _ _ _ h => h) (Or.inl ⟨by rfl, ?_⟩) (by assumption) ?_
      rotate_left
      · ((intro w hSw); (try dsimp only at hSw); go_simp; (try with_reducible rfl))
      try simp only [Act.put, List.setIfInBounds_toArray, List.set_cons_zero, List.set_cons_succ]
      refine wpAnyH_take (i := 30) (oi := { dst := some 85, op := Op.nilCheck (Operand.tmp 84), type := 0, pos := _, after := #[{ on := 29, ground := Ground.data }, { on := 26, ground := Ground.guard }], guard := some (26, false) }) (v := ?_) rfl (by kernel_rfl) (by kernel_rfl) (by kernel_rfl) (fun _ _ _ h => h) (Or.inl ⟨by rfl, ?_⟩) (by assumption) ?_
      rotate_left
      · ((intro w hSw); (try dsimp only at hSw); go_simp; (try with_reducible rfl))
      try simp only [Act.put, List.setIfInBounds_toArray, List.set_cons_zero, List.set_cons_succ]
      refine wpAnyH_take (i := 31) (oi := { dst := some 86, op := Op.fieldAddr 43 (Operand.tmp 85) 2, type := 0, pos := _, after := #[{ on := 30, ground := Ground.data }, { on := 26, ground := Ground.guard }], guard := some (26, false) }) (v := ?_) rfl (by kernel_rfl) (by kernel_rfl) (by kernel_rfl) (fun _ _ _ h => h) (Or.inl ⟨by rfl, ?_⟩) (by assumption) ?_
      rotate_left
      · ((intro w hSw); (try dsimp only at hSw); go_simp; (try with_reducible rfl))
      try simp only [Act.put, List.setIfInBounds_toArray, List.set_cons_zero, List.set_cons_succ]
      refine wpAnyH_take (i := 32) (oi := { dst := some 87, op := Op.load 41 (Operand.tmp 86), type := 41, pos := _, after := #[{ on := 31, ground := Ground.data }, { on := 26, ground := Ground.guard }], guard := some (26, false) }) (v := ?_) rfl (by kernel_rfl) (by kernel_rfl) (by kernel_rfl) (fun _ _ _ h => h) (Or.inl ⟨by rfl, ?_⟩) (by assumption) ?_
      rotate_left
      · ((intro w hSw); (try dsimp only at hSw); go_simp; (try with_reducible rfl))
      try simp only [Act.put, List.setIfInBounds_toArray, List.set_cons_zero, List.set_cons_succ]
      refine wpAnyH_ready (rs := [28]) (by kernel_rfl) (by simp) ?_
      refine (AllReadyH.cons (o := { dst := some 83, op := Op.call { callee := Callee.value (Operand.func 18), args := #[Operand.tmp 82], argTypes := #[24] }, type := 41, pos := _, after := #[{ on := 27, ground := Ground.data }, { on := 26, ground := Ground.chain }, { on := 26, ground := Ground.guard }], guard := some (26, false) }) rfl (fun K hK => ?_) AllReadyH.nil)
      go_simp
      refine (cellsC p b1 R1 C1 _ L1 _ HB4.out.tp.g.view).mono ?_
      rintro e w5 ⟨kb, kc, rfl, hkb, hkn, hkc, hcs, hb5⟩
      have HB5 := Lib.hid (HB4.out.then_ hb5)
      have HCS := Lib.hid hcs
      have HKN := Lib.hid hkn
      clear hkb hkn hkc hcs hb5
      go_wp2_with fail
      refine hK.out _ _ ?_ (fun hHeld => ?_)
      · ((try dsimp only); exact HS1.out w5 HB5.out)
      clear hK K
      try simp only [Act.put, List.setIfInBounds_toArray, List.set_cons_zero, List.set_cons_succ]
      refine wpAnyH_ready (rs := [33]) (by kernel_rfl) (by simp) ?_
      refine (AllReadyH.cons (o := { dst := some 88, op := Op.call { callee := Callee.value (Operand.func 17), args := #[Operand.tmp 83, Operand.tmp 87], argTypes := #[41, 41] }, type := 4, pos := _, after := #[{ on := 28, ground := Ground.data }, { on := 32, ground := Ground.data }, { on := 28, ground := Ground.chain }, { on := 26, ground := Ground.guard }], guard := some (26, false) }) rfl (fun K hK => ?_) AllReadyH.nil)
      go_simp
      refine (Xt.cellsSame kb d1 _ kc _ L1 _ rfl HCS.out HB5.out.x.view.cell HKN.out (Nat.le_refl _) (by have := HB5.out.x.small; omega)).mono ?_
      rintro e w6 ⟨rfl, m6, hm6⟩
      have HB6 := Lib.hid (show Bo W w6 z p b1 R1 C1 L1 q d1 R1 C1 L1 from hm6 ▸ HB5.out.drewN m6)
      clear hm6
      go_wp2_with fail
      refine hK.out _ _ ?_ (fun hHeld => ?_)
      · ((try dsimp only); exact HS1.out w6 HB6.out)
      clear hK K
      try simp only [Act.put, List.setIfInBounds_toArray, List.set_cons_zero, List.set_cons_succ]
      refine wpAnyH_take (i := 34) (oi := { dst := some 89, op := Op.unOp UnOp.not 4 (Operand.tmp 88), type := 4, pos := _, after := #[{ on := 33, ground := Ground.data }, { on := 26, ground := Ground.guard }], guard := some (26, false) }) (v := ?_) rfl (by kernel_rfl) (by kernel_rfl) (by kernel_rfl) (fun _ _ _ h => h) (Or.inl ⟨by rfl, ?_⟩) (by assumption) ?_
      rotate_left
      · ((intro w hSw); (try dsimp only at hSw); go_simp; (try with_reducible rfl))
      try simp only [Act.put, List.setIfInBounds_toArray, List.set_cons_zero, List.set_cons_succ]
      refine wpAnyH_take (i := 35) (oi := { dst := some 90, op := Op.pick (Operand.tmp 81) (Operand.const (Value.bool true)) (Operand.tmp 89), type := 4, pos := _, after := #[{ on := 26, ground := Ground.data }, { on := 34, ground := Ground.data }], guard := none }) (v := ?_) rfl (by kernel_rfl) (by kernel_rfl) (by kernel_rfl) (fun _ _ _ h => h) (Or.inl ⟨by rfl, ?_⟩) (by assumption) ?_
      rotate_left
      · ((intro w hSw); (try dsimp only at hSw); go_simp; (try with_reducible rfl))
      try simp only [Act.put, List.setIfInBounds_toArray, List.set_cons_zero, List.set_cons_succ]
      refine wpAnyH_take (i := 36) (oi := { dst := some 91, op := Op.move (Operand.tmp 90), type := 4, pos := _, after := #[{ on := 35, ground := Ground.data }, { on := 33, ground := Ground.chain }], guard := none }) (v := ?_) rfl (by kernel_rfl) (by kernel_rfl) (by kernel_rfl) (fun _ _ _ h => h) (Or.inl ⟨by rfl, ?_⟩) (by assumption) ?_
      rotate_left
      · ((intro w hSw); (try dsimp only at hSw); go_simp; (try with_reducible rfl))
      try simp only [Act.put, List.setIfInBounds_toArray, List.set_cons_zero, List.set_cons_succ]
      refine wpAnyH_take (i := 37) (oi := { dst := some 92, op := Op.move (Operand.tmp 7), type := 24, pos := _, after := #[{ on := 36, ground := Ground.guard }], guard := some (36, false) }) (v := ?_) rfl (by kernel_rfl) (by kernel_rfl) (by kernel_rfl) (fun _ _ _ h => h) (Or.inl ⟨by rfl, ?_⟩) (by assumption) ?_
      rotate_left
      · ((intro w hSw); (try dsimp only at hSw); go_simp; (try with_reducible rfl))
      try simp only [Act.put, List.setIfInBounds_toArray, List.set_cons_zero, List.set_cons_succ]
      refine wpAnyH_take (i := 38) (oi := { dst := some 93, op := Op.move (Operand.tmp 2), type := 22, pos := _, after := #[{ on := 36, ground := Ground.guard }], guard := some (36, false) }) (v := ?_) rfl (by kernel_rfl) (by kernel_rfl) (by kernel_rfl) (fun _ _ _ h => h) (Or.inl ⟨by rfl, ?_⟩) (by assumption) ?_
      rotate_left
      · ((intro w hSw); (try dsimp only at hSw); go_simp; (try with_reducible rfl))
      try simp only [Act.put, List.setIfInBounds_toArray, List.set_cons_zero, List.set_cons_succ]
      refine wpAnyH_take (i := 39) (oi := { dst := some 94, op := Op.move (Operand.tmp 13), type := 3, pos := _, after := #[{ on := 36, ground := Ground.guard }], guard := some (36, false) }) (v := ?_) rfl (by kernel_rfl) (by kernel_rfl) (by kernel_rfl) (fun _ _ _ h => h) (Or.inl ⟨by rfl, ?_⟩) (by assumption) ?_
      rotate_left
      · ((intro w hSw); (try dsimp only at hSw); go_simp; (try with_reducible rfl))
      try simp only [Act.put, List.setIfInBounds_toArray, List.set_cons_zero, List.set_cons_succ]
      refine wpAnyH_take (i := 40) (oi := { dst := some 95, op := Op.indexAddr 22 (Operand.tmp 93) (Operand.tmp 94), type := 0, pos := _, after := #[{ on := 38, ground := Ground.data }, { on := 39, ground := Ground.data }, { on := 36, ground := Ground.guard }], guard := some (36, false) }) (v := ?_) rfl (by kernel_rfl) (by kernel_rfl) (by kernel_rfl) (fun _ _ _ h => h) (Or.inl ⟨by rfl, ?_⟩) (by assumption) ?_
      rotate_left
      · ((intro w hSw); (try dsimp only at hSw); go_simp; (try with_reducible rfl))
      try simp only [Act.put, List.setIfInBounds_toArray, List.set_cons_zero, List.set_cons_succ]
      refine wpAnyH_take (i := 41) (oi := { dst := some 96, op := Op.fieldAddr 39 (Operand.tmp 95) 1, type := 0, pos := _, after := #[{ on := 40, ground := Ground.data }, { on := 36, ground := Ground.guard }], guard := some (36, false) }) (v := ?_) rfl (by kernel_rfl) (by kernel_rfl) (by kernel_rfl) (fun _ _ _ h => h) (Or.inl ⟨by rfl, ?_⟩) (by assumption) ?_
      rotate_left
      · ((intro w hSw); (try dsimp only at hSw); go_simp; (try with_reducible rfl))
      try simp only [Act.put, List.setIfInBounds_toArray, List.set_cons_zero, List.set_cons_succ]
      refine wpAnyH_take (i := 42) (oi := { dst := some 97, op := Op.load 3 (Operand.tmp 96), type := 3, pos := _, after := #[{ on := 41, ground := Ground.data }, { on := 36, ground := Ground.guard }], guard := some (36, false) }) (v := ?_) rfl (by kernel_rfl) (by kernel_rfl) (by kernel_rfl) (fun _ _ _ h => h) (Or.inl ⟨by rfl, ?_⟩) (by assumption) ?_
      rotate_left
      · ((intro w hSw); (try dsimp only at hSw); go_simp; (try with_reducible rfl))
      try simp only [Act.put, List.setIfInBounds_toArray, List.set_cons_zero, List.set_cons_succ]
      refine wpAnyH_take (i := 43) (oi := { dst := some 98, op := Op.move (Operand.tmp 2), type := 22, pos := _, after := #[{ on := 36, ground := Ground.guard }], guard := some (36, false) }) (v := ?_) rfl (by kernel_rfl) (by kernel_rfl) (by kernel_rfl) (fun _ _ _ h => h) (Or.inl ⟨by rfl, ?_⟩) (by assumption) ?_
      rotate_left
      · ((intro w hSw); (try dsimp only at hSw); go_simp; (try with_reducible rfl))
      try simp only [Act.put, List.setIfInBounds_toArray, List.set_cons_zero, List.set_cons_succ]
      refine wpAnyH_take (i := 44) (oi := { dst := some 99, op := Op.move (Operand.tmp 13), type := 3, pos := _, after := #[{ on := 36, ground := Ground.guard }], guard := some (36, false) }) (v := ?_) rfl (by kernel_rfl) (by kernel_rfl) (by kernel_rfl) (fun _ _ _ h => h) (Or.inl ⟨by rfl, ?_⟩) (by assumption) ?_
      rotate_left
      · ((intro w hSw); (try dsimp only at hSw); go_simp; (try with_reducible rfl))
      try simp only [Act.put, List.setIfInBounds_toArray, List.set_cons_zero, List.set_cons_succ]
      refine wpAnyH_take (i := 45) (oi := { dst := some 100, op := Op.indexAddr 22 (Operand.tmp 98) (Operand.tmp 99), type := 0, pos := _, after := #[{ on := 43, ground := Ground.data }, { on := 44, ground := Ground.data }, { on := 36, ground := Ground.guard }], guard := some (36, false) }) (v := ?_) rfl (by kernel_rfl) (by kernel_rfl) (by kernel_rfl) (fun _ _ _ h => h) (Or.inl ⟨by rfl, ?_⟩) (by assumption) ?_
      rotate_left
      · ((intro w hSw); (try dsimp only at hSw); go_simp; (try with_reducible rfl))
      try simp only [Act.put, List.setIfInBounds_toArray, List.set_cons_zero, List.set_cons_succ]
      refine wpAnyH_take (i := 46) (oi := { dst := some 101, op := Op.fieldAddr 39 (Operand.tmp 100) 2, type := 0, pos := _, after := #[{ on := 45, ground := Ground.data }, { on := 36, ground := Ground.guard }], guard := some (36, false) }) (v := ?_) rfl (by kernel_rfl) (by kernel_rfl) (by kernel_rfl) (fun _ _ _ h => h) (Or.inl ⟨by rfl, ?_⟩) (by assumption) ?_
      rotate_left
      · ((intro w hSw); (try dsimp only at hSw); go_simp; (try with_reducible rfl))
      try simp only [Act.put, List.setIfInBounds_toArray, List.set_cons_zero, List.set_cons_succ]
      refine wpAnyH_take (i := 47) (oi := { dst := some 102, op := Op.load 3 (Operand.tmp 101), type := 3, pos := _, after := #[{ on := 46, ground := Ground.data }, { on := 36, ground := Ground.guard }], guard := some (36, false) }) (v := ?_) rfl (by kernel_rfl) (by kernel_rfl) (by kernel_rfl) (fun _ _ _ h => h) (Or.inl ⟨by rfl, ?_⟩) (by assumption) ?_
      rotate_left
      · ((intro w hSw); (try dsimp only at hSw); go_simp; (try with_reducible rfl))
      try simp only [Act.put, List.setIfInBounds_toArray, List.set_cons_zero, List.set_cons_succ]
      refine wpAnyH_take (i := 49) (oi := { dst := some 104, op := Op.move (Operand.tmp 9), type := 28, pos := _, after := #[{ on := 36, ground := Ground.guard }], guard := some (36, false) }) (v := ?_) rfl (by kernel_rfl) (by kernel_rfl) (by kernel_rfl) (fun _ _ _ h => h) (Or.inl ⟨by rfl, ?_⟩) (by assumption) ?_
      rotate_left
      · ((intro w hSw); (try dsimp only at hSw); go_simp; (try with_reducible rfl))
      try simp only [Act.put, List.setIfInBounds_toArray, List.set_cons_zero, List.set_cons_succ]
      refine wpAnyH_take (i := 50) (oi := { dst := some 105, op := Op.move (Operand.tmp 2), type := 22, pos := _, after := #[{ on := 36, ground := Ground.guard }], guard := some (36, false) }) (v := ?_) rfl (by kernel_rfl) (by kernel_rfl) (by kernel_rfl) (fun _ _ _ h => h) (Or.inl ⟨by rfl, ?_⟩) (by assumption) ?_
      rotate_left
      · ((intro w hSw); (try dsimp only at hSw); go_simp; (try with_reducible rfl))
      try simp only [Act.put, List.setIfInBounds_toArray, List.set_cons_zero, List.set_cons_succ]
      refine wpAnyH_take (i := 51) (oi := { dst := some 106, op := Op.move (Operand.tmp 13), type := 3, pos := _, after := #[{ on := 36, ground := Ground.guard }], guard := some (36, false) }) (v := ?_) rfl (by kernel_rfl) (by kernel_rfl) (by kernel_rfl) (fun _ _ _ h => h) (Or.inl ⟨by rfl, ?_⟩) (by assumption) ?_
      rotate_left
      · ((intro w hSw); (try dsimp only at hSw); go_simp; (try with_reducible rfl))
      try simp only [Act.put, List.setIfInBounds_toArray, List.set_cons_zero, List.set_cons_succ]
      refine wpAnyH_take (i := 52) (oi := { dst := some 107, op := Op.indexAddr 22 (Operand.tmp 105) (Operand.tmp 106), type := 0, pos := _, after := #[{ on := 50, ground := Ground.data }, { on := 51, ground := Ground.data }, { on := 36, ground := Ground.guard }], guard := some (36, false) }) (v := ?_) rfl (by kernel_rfl) (by kernel_rfl) (by kernel_rfl) (fun _ _ _ h => h) (Or.inl ⟨by rfl, ?_⟩) (by assumption) ?_
      rotate_left
      · ((intro w hSw); (try dsimp only at hSw); go_simp; (try with_reducible rfl))
      try simp only [Act.put, List.setIfInBounds_toArray, List.set_cons_zero, List.set_cons_succ]
      refine wpAnyH_take (i := 53) (oi := { dst := some 108, op := Op.fieldAddr 39 (Operand.tmp 107) 1, type := 0, pos := _, after := #[{ on := 52, ground := Ground.data }, { on := 36, ground := Ground.guard }], guard := some (36, false) }) (v := ?_) rfl (by kernel_rfl) (by kernel_rfl) (by kernel_rfl) (fun _ _ _ h => h) (Or.inl ⟨by rfl, ?_⟩) (by assumption) ?_
      rotate_left
      · ((intro w hSw); (try dsimp only at hSw); go_simp; (try with_reducible rfl))
      try simp only [Act.put, List.setIfInBounds_toArray, List.set_cons_zero, List.set_cons_succ]
      refine wpAnyH_take (i := 54) (oi := { dst := some 109, op := Op.load 3 (Operand.tmp 108), type := 3, pos := _, after := #[{ on := 53, ground := Ground.data }, { on := 36, ground := Ground.guard }], guard := some (36, false) }) (v := ?_) rfl (by kernel_rfl) (by kernel_rfl) (by kernel_rfl) (fun _ _ _ h => h) (Or.inl ⟨by rfl, ?_⟩) (by assumption) ?_
      rotate_left
      · ((intro w hSw); (try dsimp only at hSw); go_simp; (try with_reducible rfl))
      try simp only [Act.put, List.setIfInBounds_toArray, List.set_cons_zero, List.set_cons_succ]
      refine wpAnyH_take (i := 55) (oi := { dst := some 110, op := Op.move (Operand.tmp 2), type := 22, pos := _, after := #[{ on := 36, ground := Ground.guard }], guard := some (36, false) }) (v := ?_) rfl (by kernel_rfl) (by kernel_rfl) (by kernel_rfl) (fun _ _ _ h => h) (Or.inl ⟨by rfl, ?_⟩) (by assumption) ?_
      rotate_left
      · ((intro w hSw); (try dsimp only at hSw); go_simp; (try with_reducible rfl))
      try simp only [Act.put, List.setIfInBounds_toArray, List.set_cons_zero, List.set_cons_succ]
      refine wpAnyH_take (i := 56) (oi := { dst := some 111, op := Op.move (Operand.tmp 13), type := 3, pos := _, after := #[{ on := 36, ground := Ground.guard }], guard := some (36, false) }) (v := ?_) rfl (by kernel_rfl) (by kernel_rfl) (by kernel_rfl) (fun _ _ _ h => h) (Or.inl ⟨by rfl, ?_⟩) (by assumption) ?_
      rotate_left
      · ((intro w hSw); (try dsimp only at hSw); go_simp; (try with_reducible rfl))
      try simp only [Act.put, List.setIfInBounds_toArray, List.set_cons_zero, List.set_cons_succ]
      refine wpAnyH_take (i := 57) (oi := { dst := some 112, op := Op.indexAddr 22 (Operand.tmp 110) (Operand.tmp 111), type := 0, pos := _, after := #[{ on := 55, ground := Ground.data }, { on := 56, ground := Ground.data }, { on := 36, ground := Ground.guard }], guard := some (36, false) }) (v := ?_) rfl (by kernel_rfl) (by kernel_rfl) (by kernel_rfl) (fun _ _ _ h => h) (Or.inl ⟨by rfl, ?_⟩) (by assumption) ?_
      rotate_left
      · ((intro w hSw); (try dsimp only at hSw); go_simp; (try with_reducible rfl))
      try simp only [Act.put, List.setIfInBounds_toArray, List.set_cons_zero, List.set_cons_succ]
      refine wpAnyH_take (i := 58) (oi := { dst := some 113, op := Op.fieldAddr 39 (Operand.tmp 112) 2, type := 0, pos := _, after := #[{ on := 57, ground := Ground.data }, { on := 36, ground := Ground.guard }], guard := some (36, false) }) (v := ?_) rfl (by kernel_rfl) (by kernel_rfl) (by kernel_rfl) (fun _ _ _ h => h) (Or.inl ⟨by rfl, ?_⟩) (by assumption) ?_
      rotate_left
      · ((intro w hSw); (try dsimp only at hSw); go_simp; (try with_reducible rfl))
      try simp only [Act.put, List.setIfInBounds_toArray, List.set_cons_zero, List.set_cons_succ]
      refine wpAnyH_take (i := 59) (oi := { dst := some 114, op := Op.load 3 (Operand.tmp 113), type := 3, pos := _, after := #[{ on := 58, ground := Ground.data }, { on := 36, ground := Ground.guard }], guard := some (36, false) }) (v := ?_) rfl (by kernel_rfl) (by kernel_rfl) (by kernel_rfl) (fun _ _ _ h => h) (Or.inl ⟨by rfl, ?_⟩) (by assumption) ?_
      rotate_left
      · ((intro w hSw); (try dsimp only at hSw); go_simp; (try with_reducible rfl))
      try simp only [Act.put, List.setIfInBounds_toArray, List.set_cons_zero, List.set_cons_succ]
      refine wpAnyH_ready (rs := [48]) (by kernel_rfl) (by simp) ?_
      refine (AllReadyH.cons (o := { dst := some 103, op := Op.call { callee := Callee.value (Operand.func 19), args := #[Operand.tmp 92, Operand.tmp 97, Operand.tmp 102], argTypes := #[24, 3, 3] }, type := 37, pos := _, after := #[{ on := 37, ground := Ground.data }, { on := 42, ground := Ground.data }, { on := 47, ground := Ground.data }, { on := 36, ground := Ground.chain }, { on := 36, ground := Ground.guard }], guard := some (36, false) }) rfl (fun K hK => ?_) AllReadyH.nil)
      obtain ⟨xx, hxx⟩ : ∃ xx, xx = atC R1 C1 L1 gr gc := ⟨_, rfl⟩
      have HXX := Lib.hid hxx
      clear hxx
      obtain ⟨ar, af, ag, ab, aw⟩ := xx
      go_simp
      refine (Gh.atK p b1 R1 C1 _ gr gc L1 _ HB6.out.tp.g.view ⟨ar, af, ag, ab, aw⟩ HXX.out).mono ?_
      rintro e w7 ⟨rfl, hb7⟩
      have HB7 := Lib.hid (HB6.out.then_ hb7)
      clear hb7
      go_wp2_with fail
      refine hK.out _ _ ?_ (fun hHeld => ?_)
      · ((try dsimp only); exact HS1.out w7 HB7.out)
      clear hK K
      try simp only [Act.put, List.setIfInBounds_toArray, List.set_cons_zero, List.set_cons_succ]
      refine wpAnyH_ready (rs := [60]) (by kernel_rfl) (by simp) ?_
      refine (AllReadyH.cons (o := { dst := some 115, op := Op.call { callee := Callee.value (Operand.func 20), args := #[Operand.tmp 104, Operand.tmp 109, Operand.tmp 114], argTypes := #[28, 3, 3] }, type := 37, pos := _, after := #[{ on := 49, ground := Ground.data }, { on := 54, ground := Ground.data }, { on := 59, ground := Ground.data }, { on := 48, ground := Ground.chain }, { on := 36, ground := Ground.guard }], guard := some (36, false) }) rfl (fun K hK => ?_) AllReadyH.nil)
      go_simp
      refine (Xa.atK q d1 R1 C1 _ gr gc L1 _ HB7.out.x.view ⟨ar, af, ag, ab, aw⟩ HXX.out).mono ?_
      rintro e w8 ⟨rfl, hb8⟩
      have HB8 := Lib.hid (HB7.out.then_ hb8)
      clear hb8
      go_wp2_with fail
      refine hK.out _ _ ?_ (fun hHeld => ?_)
      · ((try dsimp only); exact HS1.out w8 HB8.out)
      clear hK K
      try simp only [Act.put, List.setIfInBounds_toArray, List.set_cons_zero, List.set_cons_succ]
      refine wpAnyH_take (i := 61) (oi := { dst := some 116, op := Op.binOp BinOp.neq 37 (Operand.tmp 103) (Operand.tmp 115) 37, type := 4, pos := _, after := #[{ on := 48, ground := Ground.data }, { on := 60, ground := Ground.data }, { on := 36, ground := Ground.guard }], guard := some (36, false) }) (v := ?_) rfl (by kernel_rfl) (by kernel_rfl) (by kernel_rfl) (fun _ _ _ h => h) (Or.inl ⟨by rfl, ?_⟩) (by assumption) ?_
      rotate_left
      · ((intro w hSw); (try dsimp only at hSw); go_simp; (try with_reducible rfl))
      try simp only [Act.put, List.setIfInBounds_toArray, List.set_cons_zero, List.set_cons_succ]
      refine wpAnyH_take (i := 62) (oi := { dst := some 117, op := Op.pick (Operand.tmp 91) (Operand.const (Value.bool true)) (Operand.tmp 116), type := 4, pos := _, after := #[{ on := 36, ground := Ground.data }, { on := 61, ground := Ground.data }], guard := none }) (v := ?_) rfl (by kernel_rfl) (by kernel_rfl) (by kernel_rfl) (fun _ _ _ h => h) (Or.inl ⟨by rfl, ?_⟩) (by assumption) ?_
      rotate_left
      · ((intro w hSw); (try dsimp only at hSw); go_simp; (try with_reducible rfl))
      try simp only [Act.put, List.setIfInBounds_toArray, List.set_cons_zero, List.set_cons_succ]
      refine wpAnyH_done (by kernel_rfl) ?_ _
      go_wp2
      go_roundw
      · exact ⟨i + 1, b1, d1, R1, C1, L1, HKi.out.1, by go_num, HB8⟩
      · simp only [intOf]; exact HKi.out.2
    · obtain rfl : len = i := by omega
      have d0 := (three HB.out.xv.obj).2.2
      go_wp2
      refine wp_region_held_drew (S := (fun W => W.cell? ⟨z.c2, 2, none⟩ = some (.slice (some ⟨z.e2, 0, none⟩) z.M.length z.k2))) (by kernel_rfl) ?_ (fun hHeld => ?_)
      · ((try dsimp only); exact d0)
      refine wpAnyH_ready (rs := [0]) (by kernel_rfl) (by simp) ?_
      refine (AllReadyH.cons (o := { dst := some 118, op := Op.call { callee := Callee.value (Operand.func 9), args := #[], argTypes := #[] }, type := 4, pos := _, after := #[], guard := none }) rfl (fun K hK => ?_) AllReadyH.nil)
      go_simp
      refine (firstC wr.drew).mono ?_
      rintro e w4 ⟨rfl, hb4⟩
      have HB4 := Lib.hid ((HB.out.drewN 1).then_ hb4)
      clear hb4
      go_wp2_with fail
      refine hK.out _ _ ?_ (fun hHeld => ?_)
      · ((try dsimp only); exact (three HB4.out.xv.obj).2.2)
      clear hK K
      try simp only [Act.put, List.setIfInBounds_toArray, List.set_cons_zero, List.set_cons_succ]
      refine wpAnyH_take (i := 1) (oi := { dst := some 119, op := Op.move (Operand.tmp 118), type := 4, pos := _, after := #[{ on := 0, ground := Ground.data }, { on := 0, ground := Ground.chain }], guard := none }) (v := ?_) rfl (by kernel_rfl) (by kernel_rfl) (by kernel_rfl) (fun _ _ _ h => h) (Or.inl ⟨by rfl, ?_⟩) (by assumption) ?_
      rotate_left
      · ((intro w hSw); (try dsimp only at hSw); go_simp; (try with_reducible rfl))
      try simp only [Act.put, List.setIfInBounds_toArray, List.set_cons_zero, List.set_cons_succ]
      refine wpAnyH_take (i := 2) (oi := { dst := some 120, op := Op.move (Operand.tmp 11), type := 24, pos := _, after := #[{ on := 1, ground := Ground.guard }], guard := some (1, true) }) (v := ?_) rfl (by kernel_rfl) (by kernel_rfl) (by kernel_rfl) (fun _ _ _ h => h) (Or.inl ⟨by rfl, ?_⟩) (by assumption) ?_
      rotate_left
      · ((intro w hSw); (try dsimp only at hSw); go_simp; (try with_reducible rfl))
      try simp only [Act.put, List.setIfInBounds_toArray, List.set_cons_zero, List.set_cons_succ]
      refine wpAnyH_take (i := 3) (oi := { dst := some 121, op := Op.binOp BinOp.neq 24 (Operand.tmp 120) (Operand.const (Value.pointer none)) 24, type := 4, pos := _, after := #[{ on := 2, ground := Ground.data }, { on := 1, ground := Ground.guard }], guard := some (1, true) }) (v := ?_) rfl (by kernel_rfl) (by kernel_rfl) (by kernel_rfl) (fun _ _ _ h => h) (Or.inl ⟨by rfl, ?_⟩) (by assumption) ?_
      rotate_left
      · ((intro w hSw); (try dsimp only at hSw); go_simp; (try with_reducible rfl))
      try simp only [Act.put, List.setIfInBounds_toArray, List.set_cons_zero, List.set_cons_succ]
      refine wpAnyH_take (i := 4) (oi := { dst := some 122, op := Op.pick (Operand.tmp 119) (Operand.tmp 121) (Operand.const (Value.bool false)), type := 4, pos := _, after := #[{ on := 1, ground := Ground.data }, { on := 3, ground := Ground.data }], guard := none }) (v := ?_) rfl (by kernel_rfl) (by kernel_rfl) (by kernel_rfl) (fun _ _ _ h => h) (Or.inl ⟨by rfl, ?_⟩) (by assumption) ?_
      rotate_left
      · ((intro w hSw); (try dsimp only at hSw); go_simp; (try with_reducible rfl))
      try simp only [Act.put, List.setIfInBounds_toArray, List.set_cons_zero, List.set_cons_succ]
      refine wpAnyH_take (i := 5) (oi := { dst := some 123, op := Op.move (Operand.tmp 122), type := 4, pos := _, after := #[{ on := 4, ground := Ground.data }, { on := 1, ground := Ground.chain }], guard := none }) (v := ?_) rfl (by kernel_rfl) (by kernel_rfl) (by kernel_rfl) (fun _ _ _ h => h) (Or.inl ⟨by rfl, ?_⟩) (by assumption) ?_
      rotate_left
      · ((intro w hSw); (try dsimp only at hSw); go_simp; (try with_reducible rfl))
      try simp only [Act.put, List.setIfInBounds_toArray, List.set_cons_zero, List.set_cons_succ]
      refine wpAnyH_take (i := 6) (oi := { dst := some 124, op := Op.move (Operand.tmp 11), type := 24, pos := _, after := #[{ on := 5, ground := Ground.guard }], guard := some (5, true) }) (v := ?_) rfl (by kernel_rfl) (by kernel_rfl) (by kernel_rfl) (fun _ _ _ h => h) (Or.inl ⟨by rfl, ?_⟩) (by assumption) ?_
      rotate_left
      · ((intro w hSw); (try dsimp only at hSw); go_simp; (try with_reducible rfl))
      try simp only [Act.put, List.setIfInBounds_toArray, List.set_cons_zero, List.set_cons_succ]
      refine wpAnyH_take (i := 8) (oi := { dst := some 126, op := Op.move (Operand.tmp 12), type := 28, pos := _, after := #[{ on := 5, ground := Ground.guard }], guard := some (5, true) }) (v := ?_) rfl (by kernel_rfl) (by kernel_rfl) (by kernel_rfl) (fun _ _ _ h => h) (Or.inl ⟨by rfl, ?_⟩) (by assumption) ?_
      rotate_left
      · ((intro w hSw); (try dsimp only at hSw); go_simp; (try with_reducible rfl))
      try simp only [Act.put, List.setIfInBounds_toArray, List.set_cons_zero, List.set_cons_succ]
      refine wpAnyH_take (i := 9) (oi := { dst := some 127, op := Op.nilCheck (Operand.tmp 126), type := 0, pos := _, after := #[{ on := 8, ground := Ground.data }, { on := 5, ground := Ground.guard }], guard := some (5, true) }) (v := ?_) rfl (by kernel_rfl) (by kernel_rfl) (by kernel_rfl) (fun _ _ _ h => h) (Or.inl ⟨by rfl, ?_⟩) (by assumption) ?_
      rotate_left
      · ((intro w hSw); (try dsimp only at hSw); go_simp; (try with_reducible rfl))
      try simp only [Act.put, List.setIfInBounds_toArray, List.set_cons_zero, List.set_cons_succ]
      refine wpAnyH_take (i := 10) (oi := { dst := some 128, op := Op.fieldAddr 43 (Operand.tmp 127) 2, type := 0, pos := _, after := #[{ on := 9, ground := Ground.data }, { on := 5, ground := Ground.guard }], guard := some (5, true) }) (v := ?_) rfl (by kernel_rfl) (by kernel_rfl) (by kernel_rfl) (fun _ _ _ h => h) (Or.inl ⟨by rfl, ?_⟩) (by assumption) ?_
      rotate_left
      · ((intro w hSw); (try dsimp only at hSw); go_simp; (try with_reducible rfl))
      try simp only [Act.put, List.setIfInBounds_toArray, List.set_cons_zero, List.set_cons_succ]
      refine wpAnyH_take (i := 11) (oi := { dst := some 129, op := Op.load 41 (Operand.tmp 128), type := 41, pos := _, after := #[{ on := 10, ground := Ground.data }, { on := 5, ground := Ground.guard }], guard := some (5, true) }) (v := ?_) rfl (by kernel_rfl) (by kernel_rfl) (by kernel_rfl) (fun _ _ _ h => h) (Or.inl ⟨by rfl, ?_⟩) (by assumption) ?_
      rotate_left
      · ((intro w hSw); (try dsimp only at hSw); go_simp; (try with_reducible rfl))
      try simp only [Act.put, List.setIfInBounds_toArray, List.set_cons_zero, List.set_cons_succ]
      refine wpAnyH_ready (rs := [7]) (by kernel_rfl) (by simp) ?_
      refine (AllReadyH.cons (o := { dst := some 125, op := Op.call { callee := Callee.value (Operand.func 18), args := #[Operand.tmp 124], argTypes := #[24] }, type := 41, pos := _, after := #[{ on := 6, ground := Ground.data }, { on := 5, ground := Ground.chain }, { on := 5, ground := Ground.guard }], guard := some (5, true) }) rfl (fun K hK => ?_) AllReadyH.nil)
      go_simp
      refine (cellsC z.c1 z.e1 z.S z.D _ z.M _ HB4.out.gv).mono ?_
      rintro e w5 ⟨kb, kc, rfl, hkb, hkn, hkc, hcs, hb5⟩
      have HB5 := Lib.hid (HB4.out.then_ hb5)
      have HCS := Lib.hid hcs
      have HKN := Lib.hid hkn
      clear hkb hkn hkc hcs hb5
      go_wp2_with fail
      refine hK.out _ _ ?_ (fun hHeld => ?_)
      · ((try dsimp only); exact (three HB5.out.xv.obj).2.2)
      clear hK K
      try simp only [Act.put, List.setIfInBounds_toArray, List.set_cons_zero, List.set_cons_succ]
      refine wpAnyH_ready (rs := [12]) (by kernel_rfl) (by simp) ?_
      refine (AllReadyH.cons (o := { dst := some 130, op := Op.call { callee := Callee.value (Operand.func 17), args := #[Operand.tmp 125, Operand.tmp 129], argTypes := #[41, 41] }, type := 4, pos := _, after := #[{ on := 7, ground := Ground.data }, { on := 11, ground := Ground.data }, { on := 7, ground := Ground.chain }, { on := 5, ground := Ground.guard }], guard := some (5, true) }) rfl (fun K hK => ?_) AllReadyH.nil)
      go_simp
      refine (Xt.cellsSame kb z.e2 _ kc _ z.M _ rfl HCS.out HB5.out.xv.cell HKN.out HB5.out.xv.cap1 (by have := HB5.out.xv.small; omega)).mono ?_
      rintro e w6 ⟨rfl, m6, hm6⟩
      have HB6 := Lib.hid (show Bo W w6 z p b R C L q d R C L from hm6 ▸ HB5.out.drewN m6)
      clear hm6
      go_wp2_with fail
      refine hK.out _ _ ?_ (fun hHeld => ?_)
      · ((try dsimp only); exact (three HB6.out.xv.obj).2.2)
      clear hK K
      try simp only [Act.put, List.setIfInBounds_toArray, List.set_cons_zero, List.set_cons_succ]
      refine wpAnyH_take (i := 13) (oi := { dst := some 131, op := Op.pick (Operand.tmp 123) (Operand.tmp 130) (Operand.const (Value.bool false)), type := 4, pos := _, after := #[{ on := 5, ground := Ground.data }, { on := 12, ground := Ground.data }], guard := none }) (v := ?_) rfl (by kernel_rfl) (by kernel_rfl) (by kernel_rfl) (fun _ _ _ h => h) (Or.inl ⟨by rfl, ?_⟩) (by assumption) ?_
      rotate_left
      · ((intro w hSw); (try dsimp only at hSw); go_simp; (try with_reducible rfl))
      try simp only [Act.put, List.setIfInBounds_toArray, List.set_cons_zero, List.set_cons_succ]
      refine wpAnyH_take (i := 14) (oi := { dst := some 6, op := Op.assign (Operand.tmp 131), type := 4, pos := _, after := #[{ on := 13, ground := Ground.data }, { on := 12, ground := Ground.chain }, { on := 0, ground := Ground.phase }, { on := 1, ground := Ground.phase }, { on := 2, ground := Ground.phase }, { on := 3, ground := Ground.phase }, { on := 4, ground := Ground.phase }, { on := 5, ground := Ground.phase }, { on := 6, ground := Ground.phase }, { on := 7, ground := Ground.phase }, { on := 8, ground := Ground.phase }, { on := 9, ground := Ground.phase }, { on := 10, ground := Ground.phase }, { on := 11, ground := Ground.phase }, { on := 12, ground := Ground.phase }, { on := 13, ground := Ground.phase }], guard := none }) (v := ?_) rfl (by kernel_rfl) (by kernel_rfl) (by kernel_rfl) (fun _ _ _ h => h) (Or.inl ⟨by rfl, ?_⟩) (by assumption) ?_
      rotate_left
      · ((intro w hSw); (try dsimp only at hSw); go_simp; (try with_reducible rfl))
      try simp only [Act.put, List.setIfInBounds_toArray, List.set_cons_zero, List.set_cons_succ]
      refine wpAnyH_done (by kernel_rfl) ?_ _
      go_wp2
      go_ret
      exact ⟨rfl, HB6.out.tp.bel⟩
/-- GridPlays. -/
theorem walk (rows cols : Int) (a : Option Addr) (len cap : Nat) (F : Nat → GO) (W : World) (_ : (Lit.int .i64 rows).wf = true) (_ : (Lit.int .i64 cols).wf = true) (hops : IsOps W a len cap F) :
    Calls Try.prog 3 #[.int .i64 rows, .int .i64 cols, .slice a len cap] W fun e w' => e = .returned (.bool true) ∧ Below W.heap.size W w' := by
  by_cases h1 : 100 < len
  · exact walkLen rows cols a len cap W h1
  · by_cases hs : 1 ≤ rows ∧ rows ≤ 60 ∧ 1 ≤ cols ∧ cols ≤ 200
    · obtain ⟨R, rfl⟩ := Int.eq_ofNat_of_zero_le (show 0 ≤ rows by omega)
      obtain ⟨C, rfl⟩ := Int.eq_ofNat_of_zero_le (show 0 ≤ cols by omega)
      exact mainW R C len a cap F W (by omega) (by omega) hops
    · refine walkNo rows cols a len cap W (by omega) ?_
      unfold sizeB
      exact decide_eq_false (by omega)
end Go.Proofs.Ytfdjmlncdbpkgaa.Yc
