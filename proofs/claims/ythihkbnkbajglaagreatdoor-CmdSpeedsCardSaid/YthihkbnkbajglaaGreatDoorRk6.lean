/- The document's deck: contracts of Rate, Speed. -/
import Derived.Test.YthihkbnkbajglaaGreatDoorRk5
set_option linter.unusedVariables false
namespace Go.Proofs.YthihkbnkbajglaaGreatDoor.Rk6
open Go Go.RowKit Kit Nums Rate1 Scale Scale2 RSc CkMath CkC CkD CkE OfA OfB OfD Dk Dk2 Dk3 Dk4 Rk Rk2 Rk3 Rk4 Rk5

variable {w w' : World} {p : Nat} {d : Dck}
set_option maxRecDepth 100000 in
set_option maxHeartbeats 2000000 in
theorem speedR (now b : Nat) (h : Dq w p d) (hk : Dkk d) (hb : In64 b) (hn : now < 18446744073709551616) :
    Calls Tryz.prog 36 #[.pointer (some ⟨p, 0, none⟩), .int .u64 (now : Int), .float .f64 b] w (ErQ w p (speedE now b) (speedD d now b)) := by
  have HO := Lib.hid (ofR b w hb)
  unfold OfP at HO
  have HM := Lib.hid (fun h => of_may (b := b) h)
  have HX0 := Lib.hid (show speedE now b = if (ofN b).2.2 ≠ 0 then (ofN b).2.2 else if now ≤ mx then 0 else 1 from rfl)
  have HR0 := Lib.hid (show speedD d now b = if (ofN b).2.2 ≠ 0 then d else if now ≤ mx then { d with c := turn d.c now (ofN b).1 (ofN b).2.1 } else d from rfl)
  generalize speedE now b = X at *
  generalize speedD d now b = R at *
  generalize ofN b = O at *
  have H := Lib.hid h
  by_cases he : O.2.2 = 0
  · have hne : (O.2.2 != 0) = false := by rw [he]; rfl
    by_cases hnm : now ≤ mx
    · have b1 : decide ((4611686018427387904 : Int) < (now : Int)) = false := decide_eq_false (by rw [mx_eq] at hnm; omega)
      have hmay := HM.out he
      obtain ⟨l1, l2, l3⟩ := mayLe hmay
      have HT : Hid (∀ w2, Dq w2 p d → Calls Tryz.prog 62 #[.pointer (some ⟨p, 2, none⟩), .int .u64 (now : Int), .agg #[.int .u64 (O.1 : Int), .int .u64 (O.2.1 : Int)]] w2 fun e w3 => e = .returned (.int .i64 0) ∧ Cq (d.mode, d.place) w3 p (turn d.c now O.1 O.2.1) ∧ w2.grownBy w3 (some p)) := Lib.hid (fun w2 h2 => by
        refine (turnR p d.c now O.1 O.2.1 w2 h2 hk.c hn (by omega) (by omega)).mono ?_
        rintro e w3 (⟨_, _, rfl, hc, hg⟩ | ⟨hno, _⟩)
        · exact ⟨rfl, hc, hg⟩
        · exact absurd ⟨hnm, hmay⟩ hno)
      have HX := Lib.hid (HX0.out.trans ((if_neg (by simp [he])).trans (if_pos hnm)))
      have HR := Lib.hid (HR0.out.trans ((if_neg (by simp [he])).trans (if_pos hnm)))
      clear hk hb hn he h HM HX0 HR0 hnm hmay l1 l2 l3
      go_enter Tryz.func36, Tryz.ntmps36
      go_wp2_with fail
      refine HO.out.mono ?_
      rintro e w1 ⟨rfl, hb1⟩
      obtain ⟨b0, b1⟩ := new_cells (w := w1) (a := O.1) (b := O.2.1) (T := 39)
      have hal := hb1.alloc hb1.size (.cells #[.int .u64 (O.1 : Int), .int .u64 (O.2.1 : Int)] 39)
      have h2 := H.out.then_ hal
      have hpl := H.out.lt
      have hsz := hb1.size
      have hBp : w1.heap.size ≠ p := by omega
      have hg1 := grown_below hal (some p)
      have hBlt : w1.heap.size < (w1.alloc (.cells #[.int .u64 (O.1 : Int), .int .u64 (O.2.1 : Int)] 39)).heap.size := by rw [World.size_alloc]; omega
      generalize hw2 : w1.alloc (.cells #[.int .u64 (O.1 : Int), .int .u64 (O.2.1 : Int)] 39) = w2 at *
      generalize hB : w1.heap.size = B at *
      clear hal hpl hsz hb1
      have hd := hg1
      have HT2 : Hid (Calls Tryz.prog 62 #[.pointer (some ⟨p, 2, none⟩), .int .u64 (now : Int), .agg #[.int .u64 (O.1 : Int), .int .u64 (O.2.1 : Int)]] w2.drew fun e w3 => e = .returned (.int .i64 0) ∧ Cq (d.mode, d.place) w3 p (turn d.c now O.1 O.2.1) ∧ w2.drew.grownBy w3 (some p)) := Lib.hid (HT.out w2.drew (Cq.drew_ h2))
      clear HT h2
      go_wp2_with fail
      clear hw2 hB
      refine wp_region_held_drew (S := (fun W => W.cell? ⟨B, 0, none⟩ = some (.int .u64 (O.1 : Int)) ∧ W.cell? ⟨B, 1, none⟩ = some (.int .u64 (O.2.1 : Int)))) (by kernel_rfl) ?_ (fun hHeld => ?_)
      · ((try dsimp only); exact ⟨past_drew b0, past_drew b1⟩)
      refine wpAnyH_take (i := 0) (oi := { dst := some 19, op := Op.move (Operand.tmp 0), type := 27, pos := _, after := #[], guard := none }) (v := ?_) rfl (by kernel_rfl) (by kernel_rfl) (by kernel_rfl) (fun _ _ _ h => h) (Or.inl ⟨by rfl, ?_⟩) (by assumption) ?_
      rotate_left
      · ((intro w hSw); (try dsimp only at hSw); go_simp; (try with_reducible rfl))
      try simp only [Act.put, List.setIfInBounds_toArray, List.set_cons_zero, List.set_cons_succ]
      refine wpAnyH_take (i := 1) (oi := { dst := some 20, op := Op.nilCheck (Operand.tmp 19), type := 0, pos := _, after := #[{ on := 0, ground := Ground.data }], guard := none }) (v := ?_) rfl (by kernel_rfl) (by kernel_rfl) (by kernel_rfl) (fun _ _ _ h => h) (Or.inl ⟨by rfl, ?_⟩) (by assumption) ?_
      rotate_left
      · ((intro w hSw); (try dsimp only at hSw); go_simp; (try with_reducible rfl))
      try simp only [Act.put, List.setIfInBounds_toArray, List.set_cons_zero, List.set_cons_succ]
      refine wpAnyH_take (i := 2) (oi := { dst := some 21, op := Op.fieldAddr 43 (Operand.tmp 20) 2, type := 0, pos := _, after := #[{ on := 1, ground := Ground.data }], guard := none }) (v := ?_) rfl (by kernel_rfl) (by kernel_rfl) (by kernel_rfl) (fun _ _ _ h => h) (Or.inl ⟨by rfl, ?_⟩) (by assumption) ?_
      rotate_left
      · ((intro w hSw); (try dsimp only at hSw); go_simp; (try with_reducible rfl))
      try simp only [Act.put, List.setIfInBounds_toArray, List.set_cons_zero, List.set_cons_succ]
      refine wpAnyH_take (i := 3) (oi := { dst := some 22, op := Op.move (Operand.tmp 1), type := 23, pos := _, after := #[], guard := none }) (v := ?_) rfl (by kernel_rfl) (by kernel_rfl) (by kernel_rfl) (fun _ _ _ h => h) (Or.inl ⟨by rfl, ?_⟩) (by assumption) ?_
      rotate_left
      · ((intro w hSw); (try dsimp only at hSw); go_simp; (try with_reducible rfl))
      try simp only [Act.put, List.setIfInBounds_toArray, List.set_cons_zero, List.set_cons_succ]
      refine wpAnyH_take (i := 4) (oi := { dst := some 23, op := Op.load 39 (Operand.tmp 7), type := 39, pos := _, after := #[], guard := none }) (v := ?_) rfl (by kernel_rfl) (by kernel_rfl) (by kernel_rfl) (fun _ _ _ h => h) (Or.inl ⟨by rfl, ?_⟩) (by assumption) ?_
      rotate_left
      · ((intro w hSw); (try dsimp only at hSw); go_simp; (try with_reducible rfl))
      try simp only [Act.put, List.setIfInBounds_toArray, List.set_cons_zero, List.set_cons_succ]
      refine wpAnyH_ready (rs := [5]) (by kernel_rfl) (by simp) ?_
      refine (AllReadyH.cons (o := { dst := some 24, op := Op.call { callee := Callee.value (Operand.func 62), args := #[Operand.tmp 21, Operand.tmp 22, Operand.tmp 23], argTypes := #[41, 23, 39] }, type := 29, pos := _, after := #[{ on := 2, ground := Ground.data }, { on := 3, ground := Ground.data }, { on := 4, ground := Ground.data }], guard := none }) rfl (fun K hK => ?_) AllReadyH.nil)
      go_simp
      (refine HT2.out.mono ?_; rintro e w4 ⟨rfl, hq4, hg4⟩)
      go_wp2_with fail
      refine hK.out _ _ ?_ (fun hHeld => ?_)
      · ((try dsimp only); exact ⟨hg4.cell (past_drew b0) (fun e => hBp (by injection e)), hg4.cell (past_drew b1) (fun e => hBp (by injection e))⟩)
      clear hK K
      try simp only [Act.put, List.setIfInBounds_toArray, List.set_cons_zero, List.set_cons_succ]
      refine wpAnyH_done (by kernel_rfl) ?_ _
      skip
      go_wp2
      go_ret
      exact ⟨by rw [HX.out]; rfl, by rw [HR.out]; exact hq4, grown_trans (grown_then hg1 (w2 := w2.drew) (Below.refl _ _).drew) hg4⟩
    · have b1 : decide ((4611686018427387904 : Int) < (now : Int)) = true := decide_eq_true (by rw [mx_eq] at hnm; omega)
      have HX := Lib.hid (HX0.out.trans ((if_neg (by simp [he])).trans (if_neg hnm)))
      have HR := Lib.hid (HR0.out.trans ((if_neg (by simp [he])).trans (if_neg hnm)))
      clear hk hb hn he h HM HX0 HR0 hnm
      go_enter Tryz.func36, Tryz.ntmps36
      go_wp2_with fail
      refine HO.out.mono ?_
      rintro e w1 ⟨rfl, hb1⟩
      have hal := hb1.alloc hb1.size (.cells #[.int .u64 (O.1 : Int), .int .u64 (O.2.1 : Int)] 39)
      have HD := Lib.hid (H.out.then_ hal)
      have HG := Lib.hid (grown_below hal (some p))
      clear hal
      go_wp2
      go_ret
      exact ⟨by rw [HX.out]; rfl, by rw [HR.out]; exact HD.out, HG.out⟩
  · have hne : (O.2.2 != 0) = true := by simpa using he
    have HX := Lib.hid (HX0.out.trans (if_pos he))
    have HR := Lib.hid (HR0.out.trans (if_pos he))
    clear hk hb hn he h HM HX0 HR0
    go_enter Tryz.func36, Tryz.ntmps36
    go_wp2_with fail
    refine HO.out.mono ?_
    rintro e w1 ⟨rfl, hb1⟩
    have hal := hb1.alloc hb1.size (.cells #[.int .u64 (O.1 : Int), .int .u64 (O.2.1 : Int)] 39)
    have HD := Lib.hid (H.out.then_ hal)
    have HG := Lib.hid (grown_below hal (some p))
    clear hal
    go_wp2
    go_ret
    exact ⟨by rw [HX.out]; rfl, by rw [HR.out]; exact HD.out, HG.out⟩
end Go.Proofs.YthihkbnkbajglaaGreatDoor.Rk6
