/- Clocks: contracts of Turn, New (the code's and the document's). -/
import Derived.Test.YthihkbnkbajglaaGreatDoorCkD
set_option linter.unusedVariables false
namespace Go.Proofs.YthihkbnkbajglaaGreatDoor.CkE
open Go Go.RowKit Kit Nums Scale Scale2 CkMath CkC CkD

/-- what Turn leaves. -/
def TurnP (T : TypeId) (w : World) (p : Nat) (c : Ck) (t n d : Nat) (e : Ending) (w' : World) : Prop :=
  (t ≤ mx ∧ mayN n d = true ∧ e = .returned (.int .i64 0) ∧ Cl T w' p (turn c t n d) ∧ w.grownBy w' (some p)) ∨ (¬ (t ≤ mx ∧ mayN n d = true) ∧ e = .returned (.int .i64 1) ∧ Below w.heap.size w w')
theorem turn_eq (c : Ck) (t n d : Nat) : turn c t n d = { go c t with rest := (go c t).rest * d / (go c t).den, num := n, den := d } := rfl
theorem go_ckk {c : Ck} (h : Ckk c) {t : Nat} (ht : t < 18446744073709551616) : Ckk (go c t) := by
  refine ⟨go_ok h.ok t, by rw [go_num, go_den]; exact h.may, ?_⟩
  unfold go
  split
  · exact ht
  · exact h.now
theorem turn_ckk {c : Ck} (h : Ckk c) {t n d : Nat} (ht : t < 18446744073709551616) (hm : mayN n d = true) : Ckk (turn c t n d) := by
  obtain ⟨k, _, hk, _⟩ := may_pow hm
  exact ⟨turn_ok h.ok t n d (by rw [hk]; exact Nat.two_pow_pos k), hm, (go_ckk h ht).now⟩
set_option maxRecDepth 100000 in
set_option maxHeartbeats 2000000 in
theorem turnC (p : Nat) (c : Ck) (t n d : Nat) (w : World) (h : Cl 90 w p c) (hk : Ckk c) (ht : t < 18446744073709551616) (hn : n < 18446744073709551616) (hd : d < 18446744073709551616) :
    Calls Tryz.prog 59 #[.pointer (some ⟨p, 0, none⟩), .int .u64 (t : Int), .agg #[.int .u64 (n : Int), .int .u64 (d : Int)]] w (TurnP 90 w p c t n d) := by
  have hM := fun w => mayC n d w hn hd
  have hpl := h.lt
  by_cases htm : t ≤ mx
  · have ht' : decide ((4611686018427387904 : Int) < (t : Int)) = false := decide_eq_false (by rw [mx_eq] at htm; omega)
    have HTM := Lib.hid htm
    clear htm
    cases hB : mayN n d
    · rw [hB] at hM
      have HM := Lib.hid hM
      have HB := Lib.hid hB
      clear h hk ht hn hd hM hB
      go_enter Tryz.func59, Tryz.ntmps59
      go_wp2_with fail
      refine (HM.out _).mono ?_
      rintro e w1 ⟨rfl, rfl⟩
      go_wp2
      go_ret
      exact .inr ⟨fun h => by rw [HB.out] at h; exact absurd h.2 (by decide), rfl, ((Below.refl _ _).alloc (Nat.le_refl _) _).alloc (by simp) _⟩
    · obtain ⟨kd, hkd, hde, _⟩ := may_pow hB
      have hd20 : d ≤ 1048576 := by
        have : 2 ^ kd ≤ 2 ^ 20 := Nat.pow_le_pow_right (by decide) hkd
        omega
      rw [hB] at hM
      have HM := Lib.hid hM
      have HB := Lib.hid hB
      have hgok := go_ckk hk ht
      obtain ⟨kk, hkk, hdk, _⟩ := may_pow hgok.may
      have HDK := Lib.hid hdk
      clear hdk hde
      have h0 := (h.alloc (.cells #[.int .u64 (n : Int), .int .u64 (d : Int)] 51)).alloc (.cells #[.int .u64 (n : Int), .int .u64 (d : Int)] 51)
      have HGo := Lib.hid (goC p c t _ h0 hk ht)
      have HE := Lib.hid (turn_eq c t n d)
      have hb0 : Below w.heap.size w ((w.alloc (.cells #[.int .u64 (n : Int), .int .u64 (d : Int)] 51)).alloc (.cells #[.int .u64 (n : Int), .int .u64 (d : Int)] 51)) := ((Below.refl _ _).alloc (Nat.le_refl _) _).alloc (by simp) _
      have HB0 := Lib.hid hb0
      have x0 : ((w.alloc (.cells #[.int .u64 (n : Int), .int .u64 (d : Int)] 51)).alloc (.cells #[.int .u64 (n : Int), .int .u64 (d : Int)] 51)).cell? ⟨w.heap.size, 0, none⟩ = some (.int .u64 (n : Int)) := past_alloc (by rw [World.cell?_alloc_new]; rfl)
      have x1 : ((w.alloc (.cells #[.int .u64 (n : Int), .int .u64 (d : Int)] 51)).alloc (.cells #[.int .u64 (n : Int), .int .u64 (d : Int)] 51)).cell? ⟨w.heap.size, 1, none⟩ = some (.int .u64 (d : Int)) := past_alloc (by rw [World.cell?_alloc_new]; rfl)
      have X0 := Lib.hid x0
      have X1 := Lib.hid x1
      clear h hk ht hn hM hB h0 hb0 x0 x1
      unfold GoP at HGo
      generalize go c t = G at *
      go_enter Tryz.func59, Tryz.ntmps59
      go_wp2_with fail
      refine (HM.out _).mono ?_
      rintro e w1 ⟨rfl, rfl⟩
      go_wp2_with fail
      refine HGo.out.mono ?_
      rintro e w2 ⟨rfl, h2, hg2⟩
      have b0 : w2.cell? ⟨w.heap.size, 0, none⟩ = some (.int .u64 (n : Int)) := hg2.cell X0.out (fun e => by injection e with e; exact absurd e (by show w.heap.size ≠ p; omega))
      have b1 : w2.cell? ⟨w.heap.size, 1, none⟩ = some (.int .u64 (d : Int)) := hg2.cell X1.out (fun e => by injection e with e; exact absurd e (by show w.heap.size ≠ p; omega))
      have r2 : w2.cell? ⟨p, 2, none⟩ = some (.int .u64 (G.rest : Int)) := h2.c2
      have r4 : w2.cell? ⟨p, 4, none⟩ = some (.int .u64 (G.den : Int)) := h2.c4
      have f2 : w2.frozen? ⟨p, 2, none⟩ = false := h2.fz 2
      obtain ⟨V, hV⟩ : ∃ V, V = G.rest * d / G.den := ⟨_, rfl⟩
      have H3 : Hid (∀ m, Cl 90 ((w2.drewN (1 + m)).setCell ⟨p, 2, none⟩ (.int .u64 (V : Int))) p { G with rest := V }) := Lib.hid (fun m => (h2.drewN (1 + m)).set2 V)
      have HP : Hid (∀ w, Calls Tryz.prog 83 #[.int .u64 (G.rest : Int), .int .u64 (G.den : Int), .int .u64 (d : Int)] w fun e w' => e = .returned (.int .u64 (V : Int)) ∧ ∃ m, w.drewN m = w') := Lib.hid (fun w => by rw [hV]; exact partC G.rest G.den d w hgok.ok.rest hgok.den hd20 kk hkk HDK.out)

      have HV := Lib.hid hV
      clear h2 hV hgok
      go_wp2_with fail
      refine wp_region_held_drew (S := (fun W => W.cell? ⟨p, 4, none⟩ = some (.int .u64 (G.den : Int)) ∧ W.cell? ⟨w.heap.size, 1, none⟩ = some (.int .u64 (d : Int)))) (by kernel_rfl) ?_ (fun hHeld => ?_)
      · ((try dsimp only); exact ⟨r4, b1⟩)
      refine wpAnyH_take (i := 0) (oi := { dst := some 17, op := Op.move (Operand.tmp 0), type := 63, pos := _, after := #[], guard := none }) (v := ?_) rfl (by kernel_rfl) (by kernel_rfl) (by kernel_rfl) (fun _ _ _ h => h) (Or.inl ⟨by rfl, ?_⟩) (by assumption) ?_
      rotate_left
      · ((intro w hSw); (try dsimp only at hSw); go_simp; (try with_reducible rfl))
      try simp only [Act.put, List.setIfInBounds_toArray, List.set_cons_zero, List.set_cons_succ]
      refine wpAnyH_take (i := 1) (oi := { dst := some 18, op := Op.move (Operand.tmp 0), type := 63, pos := _, after := #[], guard := none }) (v := ?_) rfl (by kernel_rfl) (by kernel_rfl) (by kernel_rfl) (fun _ _ _ h => h) (Or.inl ⟨by rfl, ?_⟩) (by assumption) ?_
      rotate_left
      · ((intro w hSw); (try dsimp only at hSw); go_simp; (try with_reducible rfl))
      try simp only [Act.put, List.setIfInBounds_toArray, List.set_cons_zero, List.set_cons_succ]
      refine wpAnyH_take (i := 2) (oi := { dst := some 19, op := Op.nilCheck (Operand.tmp 18), type := 0, pos := _, after := #[{ on := 1, ground := Ground.data }], guard := none }) (v := ?_) rfl (by kernel_rfl) (by kernel_rfl) (by kernel_rfl) (fun _ _ _ h => h) (Or.inl ⟨by rfl, ?_⟩) (by assumption) ?_
      rotate_left
      · ((intro w hSw); (try dsimp only at hSw); go_simp; (try with_reducible rfl))
      try simp only [Act.put, List.setIfInBounds_toArray, List.set_cons_zero, List.set_cons_succ]
      refine wpAnyH_take (i := 3) (oi := { dst := some 20, op := Op.fieldAddr 90 (Operand.tmp 19) 2, type := 0, pos := _, after := #[{ on := 2, ground := Ground.data }], guard := none }) (v := ?_) rfl (by kernel_rfl) (by kernel_rfl) (by kernel_rfl) (fun _ _ _ h => h) (Or.inl ⟨by rfl, ?_⟩) (by assumption) ?_
      rotate_left
      · ((intro w hSw); (try dsimp only at hSw); go_simp; (try with_reducible rfl))
      try simp only [Act.put, List.setIfInBounds_toArray, List.set_cons_zero, List.set_cons_succ]
      refine wpAnyH_take (i := 5) (oi := { dst := some 22, op := Op.move (Operand.tmp 0), type := 63, pos := _, after := #[], guard := none }) (v := ?_) rfl (by kernel_rfl) (by kernel_rfl) (by kernel_rfl) (fun _ _ _ h => h) (Or.inl ⟨by rfl, ?_⟩) (by assumption) ?_
      rotate_left
      · ((intro w hSw); (try dsimp only at hSw); go_simp; (try with_reducible rfl))
      try simp only [Act.put, List.setIfInBounds_toArray, List.set_cons_zero, List.set_cons_succ]
      refine wpAnyH_take (i := 6) (oi := { dst := some 23, op := Op.nilCheck (Operand.tmp 22), type := 0, pos := _, after := #[{ on := 5, ground := Ground.data }], guard := none }) (v := ?_) rfl (by kernel_rfl) (by kernel_rfl) (by kernel_rfl) (fun _ _ _ h => h) (Or.inl ⟨by rfl, ?_⟩) (by assumption) ?_
      rotate_left
      · ((intro w hSw); (try dsimp only at hSw); go_simp; (try with_reducible rfl))
      try simp only [Act.put, List.setIfInBounds_toArray, List.set_cons_zero, List.set_cons_succ]
      refine wpAnyH_take (i := 7) (oi := { dst := some 24, op := Op.fieldAddr 90 (Operand.tmp 23) 3, type := 0, pos := _, after := #[{ on := 6, ground := Ground.data }], guard := none }) (v := ?_) rfl (by kernel_rfl) (by kernel_rfl) (by kernel_rfl) (fun _ _ _ h => h) (Or.inl ⟨by rfl, ?_⟩) (by assumption) ?_
      rotate_left
      · ((intro w hSw); (try dsimp only at hSw); go_simp; (try with_reducible rfl))
      try simp only [Act.put, List.setIfInBounds_toArray, List.set_cons_zero, List.set_cons_succ]
      refine wpAnyH_take (i := 8) (oi := { dst := some 25, op := Op.fieldAddr 51 (Operand.tmp 24) 1, type := 0, pos := _, after := #[{ on := 7, ground := Ground.data }], guard := none }) (v := ?_) rfl (by kernel_rfl) (by kernel_rfl) (by kernel_rfl) (fun _ _ _ h => h) (Or.inl ⟨by rfl, ?_⟩) (by assumption) ?_
      rotate_left
      · ((intro w hSw); (try dsimp only at hSw); go_simp; (try with_reducible rfl))
      try simp only [Act.put, List.setIfInBounds_toArray, List.set_cons_zero, List.set_cons_succ]
      refine wpAnyH_take (i := 9) (oi := { dst := some 26, op := Op.load 23 (Operand.tmp 25), type := 23, pos := _, after := #[{ on := 8, ground := Ground.data }], guard := none }) (v := ?_) rfl (by kernel_rfl) (by kernel_rfl) (by kernel_rfl) (fun _ _ _ h => h) (Or.inl ⟨by rfl, ?_⟩) (by assumption) ?_
      rotate_left
      · ((intro w hSw); (try dsimp only at hSw); go_simp; (try with_reducible rfl))
      try simp only [Act.put, List.setIfInBounds_toArray, List.set_cons_zero, List.set_cons_succ]
      refine wpAnyH_take (i := 10) (oi := { dst := some 27, op := Op.fieldAddr 51 (Operand.tmp 5) 1, type := 0, pos := _, after := #[], guard := none }) (v := ?_) rfl (by kernel_rfl) (by kernel_rfl) (by kernel_rfl) (fun _ _ _ h => h) (Or.inl ⟨by rfl, ?_⟩) (by assumption) ?_
      rotate_left
      · ((intro w hSw); (try dsimp only at hSw); go_simp; (try with_reducible rfl))
      try simp only [Act.put, List.setIfInBounds_toArray, List.set_cons_zero, List.set_cons_succ]
      refine wpAnyH_take (i := 11) (oi := { dst := some 28, op := Op.load 23 (Operand.tmp 27), type := 23, pos := _, after := #[{ on := 10, ground := Ground.data }], guard := none }) (v := ?_) rfl (by kernel_rfl) (by kernel_rfl) (by kernel_rfl) (fun _ _ _ h => h) (Or.inl ⟨by rfl, ?_⟩) (by assumption) ?_
      rotate_left
      · ((intro w hSw); (try dsimp only at hSw); go_simp; (try with_reducible rfl))
      try simp only [Act.put, List.setIfInBounds_toArray, List.set_cons_zero, List.set_cons_succ]
      refine wpAnyH_ready (rs := [4]) (by kernel_rfl) (by simp) ?_
      refine (AllReadyH.cons (o := { dst := some 21, op := Op.load 23 (Operand.tmp 20), type := 23, pos := _, after := #[{ on := 3, ground := Ground.data }], guard := none }) rfl (fun K hK => ?_) AllReadyH.nil)
      go_simp
      refine hK.out _ _ ?_ (fun hHeld => ?_)
      · ((try dsimp only); exact ⟨r4, b1⟩)
      clear hK K
      try simp only [Act.put, List.setIfInBounds_toArray, List.set_cons_zero, List.set_cons_succ]
      refine wpAnyH_ready (rs := [12]) (by kernel_rfl) (by simp) ?_
      refine (AllReadyH.cons (o := { dst := some 29, op := Op.call { callee := Callee.value (Operand.func 83), args := #[Operand.tmp 21, Operand.tmp 26, Operand.tmp 28], argTypes := #[23, 23, 23] }, type := 23, pos := _, after := #[{ on := 4, ground := Ground.data }, { on := 9, ground := Ground.data }, { on := 11, ground := Ground.data }], guard := none }) rfl (fun K hK => ?_) AllReadyH.nil)
      go_simp
      (refine (HP.out _).mono ?_; rintro e w3 ⟨rfl, m, rfl⟩)
      go_wp2_with fail
      refine hK.out _ _ ?_ (fun hHeld => ?_)
      · ((try dsimp only); exact ⟨r4, b1⟩)
      clear hK K
      try simp only [Act.put, List.setIfInBounds_toArray, List.set_cons_zero, List.set_cons_succ]
      refine wpAnyH_take (i := 13) (oi := { dst := some 30, op := Op.nilCheck (Operand.tmp 17), type := 0, pos := _, after := #[{ on := 0, ground := Ground.data }, { on := 0, ground := Ground.phase }, { on := 1, ground := Ground.phase }, { on := 2, ground := Ground.phase }, { on := 3, ground := Ground.phase }, { on := 4, ground := Ground.phase }, { on := 5, ground := Ground.phase }, { on := 6, ground := Ground.phase }, { on := 7, ground := Ground.phase }, { on := 8, ground := Ground.phase }, { on := 9, ground := Ground.phase }, { on := 10, ground := Ground.phase }, { on := 11, ground := Ground.phase }, { on := 12, ground := Ground.phase }], guard := none }) (v := ?_) rfl (by kernel_rfl) (by kernel_rfl) (by kernel_rfl) (fun _ _ _ h => h) (Or.inl ⟨by rfl, ?_⟩) (by assumption) ?_
      rotate_left
      · ((intro w hSw); (try dsimp only at hSw); go_simp; (try with_reducible rfl))
      try simp only [Act.put, List.setIfInBounds_toArray, List.set_cons_zero, List.set_cons_succ]
      refine wpAnyH_take (i := 14) (oi := { dst := some 31, op := Op.fieldAddr 90 (Operand.tmp 30) 2, type := 0, pos := _, after := #[{ on := 13, ground := Ground.data }, { on := 0, ground := Ground.phase }, { on := 1, ground := Ground.phase }, { on := 2, ground := Ground.phase }, { on := 3, ground := Ground.phase }, { on := 4, ground := Ground.phase }, { on := 5, ground := Ground.phase }, { on := 6, ground := Ground.phase }, { on := 7, ground := Ground.phase }, { on := 8, ground := Ground.phase }, { on := 9, ground := Ground.phase }, { on := 10, ground := Ground.phase }, { on := 11, ground := Ground.phase }, { on := 12, ground := Ground.phase }], guard := none }) (v := ?_) rfl (by kernel_rfl) (by kernel_rfl) (by kernel_rfl) (fun _ _ _ h => h) (Or.inl ⟨by rfl, ?_⟩) (by assumption) ?_
      rotate_left
      · ((intro w hSw); (try dsimp only at hSw); go_simp; (try with_reducible rfl))
      try simp only [Act.put, List.setIfInBounds_toArray, List.set_cons_zero, List.set_cons_succ]
      refine wpAnyH_ready (rs := [15]) (by kernel_rfl) (by simp) ?_
      refine (AllReadyH.cons (o := { dst := none, op := Op.store 23 (Operand.tmp 31) (Operand.tmp 29), type := 0, pos := _, after := #[{ on := 14, ground := Ground.data }, { on := 12, ground := Ground.data }, { on := 12, ground := Ground.chain }, { on := 0, ground := Ground.phase }, { on := 1, ground := Ground.phase }, { on := 2, ground := Ground.phase }, { on := 3, ground := Ground.phase }, { on := 4, ground := Ground.phase }, { on := 5, ground := Ground.phase }, { on := 6, ground := Ground.phase }, { on := 7, ground := Ground.phase }, { on := 8, ground := Ground.phase }, { on := 9, ground := Ground.phase }, { on := 10, ground := Ground.phase }, { on := 11, ground := Ground.phase }, { on := 12, ground := Ground.phase }], guard := none }) rfl (fun K hK => ?_) AllReadyH.nil)
      go_simp
      refine hK.out _ _ ?_ (fun hHeld => ?_)
      · ((try dsimp only); exact ⟨(H3.out m).c4, by first | exact past_set b1 (by show w.heap.size ≠ p; omega) | assumption⟩)
      clear hK K
      try simp only [Act.put, List.setIfInBounds_toArray, List.set_cons_zero, List.set_cons_succ]
      refine wpAnyH_done (by kernel_rfl) ?_ _
      have H3d := (H3.out m)
      have e0 : ((w2.drewN (1 + m)).setCell ⟨p, 2, none⟩ (.int .u64 (V : Int))).cell? ⟨w.heap.size, 0, none⟩ = some (.int .u64 (n : Int)) := past_set b0 (by show w.heap.size ≠ p; omega)
      have e1 : ((w2.drewN (1 + m)).setCell ⟨p, 2, none⟩ (.int .u64 (V : Int))).cell? ⟨w.heap.size, 1, none⟩ = some (.int .u64 (d : Int)) := past_set b1 (by show w.heap.size ≠ p; omega)
      have hg4 := grown_set (i := 2) (u := .int .u64 (V : Int)) (grown_then hg2 (w2 := (w2.drewN (1 + m))) (below_drewN (Below.refl _ _) _))
      generalize hW3 : (w2.drewN (1 + m)).setCell ⟨p, 2, none⟩ (.int .u64 (V : Int)) = w4 at *
      have q5 := H3d.set3 n
      have q6 := q5.set4 d
      have x3 := H3d.c3
      have x4 := q5.c4
      have y3 := H3d.fz 3
      have y4 := H3d.fz 4
      have z4 := q5.fz 4
      have HQ := Lib.hid q6
      have HG := Lib.hid (grown_trans (grown_below HB0.out (some p)) (grown_set (i := 4) (u := .int .u64 (d : Int)) (grown_set (i := 3) (u := .int .u64 (n : Int)) hg4)))
      clear hW3 q5 q6 H3d hg4 hg2 b0 b1 r2 r4 f2
      go_wp2
      go_ret
      exact .inl ⟨HTM.out, HB.out, rfl, by rw [HE.out, ← HV.out]; exact HQ.out, HG.out⟩

  · have HN := Lib.hid (fun h : t ≤ mx ∧ mayN n d = true => htm h.1)
    have ht' : decide ((4611686018427387904 : Int) < (t : Int)) = true := decide_eq_true (by rw [mx_eq] at htm; omega)
    clear h hk ht htm hM
    go_enter Tryz.func59, Tryz.ntmps59
    go_wp2
    go_ret
    exact .inr ⟨HN.out, rfl, (Below.refl _ _).alloc (Nat.le_refl _) _⟩
end Go.Proofs.YthihkbnkbajglaaGreatDoor.CkE
