/- The document's deck: contracts of Tick, Play. -/
import Derived.Test.YthihkbnkbajglaaGreatDoorRk2
set_option linter.unusedVariables false
namespace Go.Proofs.YthihkbnkbajglaaGreatDoor.Rk3
open Go Go.RowKit Kit Nums Rate1 Scale Scale2 RSc CkMath CkC CkD CkE OfA OfB Dk Dk2 Dk3 Dk4 Rk Rk2

variable {w w' : World} {p : Nat} {d : Dck}
set_option maxRecDepth 100000 in
set_option maxHeartbeats 4000000 in
theorem tick2 (now lo hi : Nat) (h : Dq w p d) (hk : Dkk d) (he : ends now lo hi = true) (hm : d.mode = 2) :
    Calls Tryz.prog 15 #[.pointer (some ⟨p, 0, none⟩), .int .u64 (now : Int), .int .u64 (lo : Int), .int .u64 (hi : Int)] w (NoQ w p (playD d now lo hi)) := by
  obtain ⟨h1, h2, h3⟩ := ends_parts he
  have HE := Lib.hid (fun w => mayR now lo hi w)
  rw [he] at HE
  have HG := Lib.hid (goR p d.c now w h hk.c (by rw [mx_eq] at h2; omega))
  unfold GoQ at HG
  have b1 : ((d.mode : Int) == 1) = false := by rw [hm]; rfl
  have b2 : ((d.mode : Int) == 2) = true := by rw [hm]; rfl
  have m0 := h.c0
  have HP := Lib.hid (show playD d now lo hi = { mode := if held (go d.c now).pos lo hi = hi then 0 else d.mode, place := held (go d.c now).pos lo hi, c := if held (go d.c now).pos lo hi = (go d.c now).pos then go d.c now else stood (go d.c now) now (held (go d.c now).pos lo hi) } from rfl)
  obtain ⟨x, hx⟩ : ∃ x, held (go d.c now).pos lo hi = x := ⟨_, rfl⟩
  rw [hx] at HP
  have hxm : x ≤ mx := by rw [← hx]; unfold held; omega
  generalize playD d now lo hi = R at *
  generalize go d.c now = G at *
  obtain ⟨r, hr⟩ : ∃ r, G.pos = r := ⟨_, rfl⟩
  rw [hr] at HG HP hx
  have hcase : ((r : Int) < (lo : Int) ∧ ¬ (hi : Int) < (lo : Int) ∧ x = lo ∧ x ≠ r) ∨ (¬ (r : Int) < (lo : Int) ∧ ¬ (hi : Int) < (r : Int) ∧ x = r) ∨ (¬ (r : Int) < (lo : Int) ∧ (hi : Int) < (r : Int) ∧ x = hi ∧ x ≠ r) := by
    unfold held at hx
    by_cases c1 : r < lo
    · exact .inl ⟨by omega, by omega, by omega, by omega⟩
    · by_cases c2 : hi < r
      · exact .inr (.inr ⟨by omega, by omega, by omega, by omega⟩)
      · exact .inr (.inl ⟨by omega, by omega, by omega⟩)
  have hend : (x = hi ∧ ((x : Int) == (hi : Int)) = true ∧ (x == hi) = true) ∨ (x ≠ hi ∧ ((x : Int) == (hi : Int)) = false ∧ (x == hi) = false) := by
    by_cases c : x = hi
    · exact .inl ⟨c, by rw [c]; simp, by rw [c]; simp⟩
    · exact .inr ⟨c, by rw [beq_eq_false_iff_ne]; omega, by rw [beq_eq_false_iff_ne]; omega⟩
  have HXM := Lib.hid (And.intro h2 hxm)
  clear h hk he hm h1 h2 h3 hx hxm hr
  have hne : (x = r ∧ ((x : Int) != (r : Int)) = false) ∨ (x ≠ r ∧ ((x : Int) != (r : Int)) = true) := by
    by_cases c : x = r
    · exact .inl ⟨c, by rw [c]; simp⟩
    · exact .inr ⟨c, by rw [bne_iff_ne]; omega⟩
  rcases hne with ⟨xr, n1⟩ | ⟨xr, n1⟩
  all_goals
    rcases hend with ⟨xh, e1, e2⟩ | ⟨xh, e1, e2⟩
  all_goals
    rcases hcase with ⟨c1, c2, c3, c4⟩ | ⟨c1, c2, c3⟩ | ⟨c1, c2, c3, c4⟩
  all_goals first
    | (exact absurd xr c4)
    | (exact absurd c3 xr)
    | (exact absurd c3 xh)
    | skip
  all_goals
    first
      | rw [if_pos xh] at HP
      | rw [if_neg xh] at HP
    first
      | rw [if_pos xr] at HP
      | rw [if_neg xr] at HP
    clear xr xh
    try clear c4
    subst c3
    go_enter Tryz.func15, Tryz.ntmps15
    go_wp2_with fail
    refine (HE.out _).mono ?_
    rintro e w1 ⟨rfl, rfl⟩
    go_wp2_with fail
    refine HG.out.mono ?_
    rintro e w2 ⟨rfl, hq, hg⟩
    have q1 := Cq.m1 hq
    have f1 := Cq.fz hq 1
    have hs := Cq.s1 hq x
    have hgs := grown_set (i := 1) (u := .int .u64 (x : Int)) hg
    generalize hw3 : w2.setCell ⟨p, 1, none⟩ (.int .u64 (x : Int)) = w3 at *
    have r0 := Cq.m0 hs
    have r1 := Cq.m1 hs
    have g0 := Cq.fz hs 0
    clear hq hg
    first
      | (have n2 : ((x : Int) != (x : Int)) = false := n1
         have HS := Lib.hid hs
         have HS0 := Lib.hid (Cq.s0 hs 0)
         have HG0 := Lib.hid (grown_set (i := 0) (u := .int .i64 ((0 : Nat) : Int)) hgs)
         clear hs
         go_wp2
         go_end0
         rw [HP.out]
         first
           | exact ⟨rfl, HS.out, hgs⟩
           | exact ⟨rfl, HS0.out, HG0.out⟩)
      | (have HS9 : Hid (Calls Tryz.prog 43 #[.pointer (some ⟨p, 2, none⟩), .int .u64 (now : Int), .int .u64 (x : Int)] w3.drew fun e w4 => e = .returned (.int .i64 0) ∧ Cq (d.mode, x) w4 p (stood G now x) ∧ w3.drew.grownBy w4 (some p)) := Lib.hid ((setR p G now x w3.drew (Cq.drew_ hs)).mono fun e w4 h4 => by
           rcases h4 with ⟨_, _, a, b, c⟩ | ⟨hno, _⟩
           · exact ⟨a, b, c⟩
           · exact absurd HXM.out hno)
         have hgd := grown_then hgs (w2 := w3.drew) (Below.refl _ _).drew
         clear hs hgs
         go_wp2_with fail
         clear hw3
         refine wp_region_held_drew (S := (fun W => W.cell? ⟨p, 1, none⟩ = some (.int .u64 (x : Int)))) (by kernel_rfl) ?_ (fun hHeld => ?_)
         · ((try dsimp only); exact past_drew r1)
         refine wpAnyH_take (i := 0) (oi := { dst := some 51, op := Op.move (Operand.tmp 0), type := 27, pos := _, after := #[], guard := none }) (v := ?_) rfl (by kernel_rfl) (by kernel_rfl) (by kernel_rfl) (fun _ _ _ h => h) (Or.inl ⟨by rfl, ?_⟩) (by assumption) ?_
         rotate_left
         · ((intro w hSw); (try dsimp only at hSw); go_simp; (try with_reducible rfl))
         try simp only [Act.put, List.setIfInBounds_toArray, List.set_cons_zero, List.set_cons_succ]
         refine wpAnyH_take (i := 1) (oi := { dst := some 52, op := Op.nilCheck (Operand.tmp 51), type := 0, pos := _, after := #[{ on := 0, ground := Ground.data }], guard := none }) (v := ?_) rfl (by kernel_rfl) (by kernel_rfl) (by kernel_rfl) (fun _ _ _ h => h) (Or.inl ⟨by rfl, ?_⟩) (by assumption) ?_
         rotate_left
         · ((intro w hSw); (try dsimp only at hSw); go_simp; (try with_reducible rfl))
         try simp only [Act.put, List.setIfInBounds_toArray, List.set_cons_zero, List.set_cons_succ]
         refine wpAnyH_take (i := 2) (oi := { dst := some 53, op := Op.fieldAddr 43 (Operand.tmp 52) 2, type := 0, pos := _, after := #[{ on := 1, ground := Ground.data }], guard := none }) (v := ?_) rfl (by kernel_rfl) (by kernel_rfl) (by kernel_rfl) (fun _ _ _ h => h) (Or.inl ⟨by rfl, ?_⟩) (by assumption) ?_
         rotate_left
         · ((intro w hSw); (try dsimp only at hSw); go_simp; (try with_reducible rfl))
         try simp only [Act.put, List.setIfInBounds_toArray, List.set_cons_zero, List.set_cons_succ]
         refine wpAnyH_take (i := 3) (oi := { dst := some 54, op := Op.move (Operand.tmp 1), type := 23, pos := _, after := #[], guard := none }) (v := ?_) rfl (by kernel_rfl) (by kernel_rfl) (by kernel_rfl) (fun _ _ _ h => h) (Or.inl ⟨by rfl, ?_⟩) (by assumption) ?_
         rotate_left
         · ((intro w hSw); (try dsimp only at hSw); go_simp; (try with_reducible rfl))
         try simp only [Act.put, List.setIfInBounds_toArray, List.set_cons_zero, List.set_cons_succ]
         refine wpAnyH_take (i := 4) (oi := { dst := some 55, op := Op.move (Operand.tmp 0), type := 27, pos := _, after := #[], guard := none }) (v := ?_) rfl (by kernel_rfl) (by kernel_rfl) (by kernel_rfl) (fun _ _ _ h => h) (Or.inl ⟨by rfl, ?_⟩) (by assumption) ?_
         rotate_left
         · ((intro w hSw); (try dsimp only at hSw); go_simp; (try with_reducible rfl))
         try simp only [Act.put, List.setIfInBounds_toArray, List.set_cons_zero, List.set_cons_succ]
         refine wpAnyH_take (i := 5) (oi := { dst := some 56, op := Op.nilCheck (Operand.tmp 55), type := 0, pos := _, after := #[{ on := 4, ground := Ground.data }], guard := none }) (v := ?_) rfl (by kernel_rfl) (by kernel_rfl) (by kernel_rfl) (fun _ _ _ h => h) (Or.inl ⟨by rfl, ?_⟩) (by assumption) ?_
         rotate_left
         · ((intro w hSw); (try dsimp only at hSw); go_simp; (try with_reducible rfl))
         try simp only [Act.put, List.setIfInBounds_toArray, List.set_cons_zero, List.set_cons_succ]
         refine wpAnyH_take (i := 6) (oi := { dst := some 57, op := Op.fieldAddr 43 (Operand.tmp 56) 1, type := 0, pos := _, after := #[{ on := 5, ground := Ground.data }], guard := none }) (v := ?_) rfl (by kernel_rfl) (by kernel_rfl) (by kernel_rfl) (fun _ _ _ h => h) (Or.inl ⟨by rfl, ?_⟩) (by assumption) ?_
         rotate_left
         · ((intro w hSw); (try dsimp only at hSw); go_simp; (try with_reducible rfl))
         try simp only [Act.put, List.setIfInBounds_toArray, List.set_cons_zero, List.set_cons_succ]
         refine wpAnyH_take (i := 7) (oi := { dst := some 58, op := Op.load 23 (Operand.tmp 57), type := 23, pos := _, after := #[{ on := 6, ground := Ground.data }], guard := none }) (v := ?_) rfl (by kernel_rfl) (by kernel_rfl) (by kernel_rfl) (fun _ _ _ h => h) (Or.inl ⟨by rfl, ?_⟩) (by assumption) ?_
         rotate_left
         · ((intro w hSw); (try dsimp only at hSw); go_simp; (try with_reducible rfl))
         try simp only [Act.put, List.setIfInBounds_toArray, List.set_cons_zero, List.set_cons_succ]
         refine wpAnyH_ready (rs := [8]) (by kernel_rfl) (by simp) ?_
         refine (AllReadyH.cons (o := { dst := some 59, op := Op.call { callee := Callee.value (Operand.func 43), args := #[Operand.tmp 53, Operand.tmp 54, Operand.tmp 58], argTypes := #[41, 23, 23] }, type := 29, pos := _, after := #[{ on := 2, ground := Ground.data }, { on := 3, ground := Ground.data }, { on := 7, ground := Ground.data }], guard := none }) rfl (fun K hK => ?_) AllReadyH.nil)
         go_simp
         (refine HS9.out.mono ?_; rintro e w4 ⟨rfl, hq4, hg4⟩)
         go_wp2_with fail
         refine hK.out _ _ ?_ (fun hHeld => ?_)
         · ((try dsimp only); exact Cq.m1 hq4)
         clear hK K
         try simp only [Act.put, List.setIfInBounds_toArray, List.set_cons_zero, List.set_cons_succ]
         refine wpAnyH_done (by kernel_rfl) ?_ _
         skip
         have s0 := Cq.m0 hq4
         have s1 := Cq.m1 hq4
         have t0 := Cq.fz hq4 0
         have HS := Lib.hid hq4
         have HS0 := Lib.hid (Cq.s0 hq4 0)
         have HG := Lib.hid (grown_trans hgd hg4)
         have HG0 := Lib.hid (grown_set (i := 0) (u := .int .i64 ((0 : Nat) : Int)) (grown_trans hgd hg4))
         clear hq4 hg4 hgd r0 r1 g0
         go_wp2
         go_end0
         rw [HP.out]
         first
           | exact ⟨rfl, HS.out, HG.out⟩
           | exact ⟨rfl, HS0.out, HG0.out⟩)
end Go.Proofs.YthihkbnkbajglaaGreatDoor.Rk3
