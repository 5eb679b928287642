/- The document's deck: contracts of Play, New, Rate. -/
import Derived.Test.YthihkbnkbajglaaGreatDoorRk4
set_option linter.unusedVariables false
namespace Go.Proofs.YthihkbnkbajglaaGreatDoor.Rk5
open Go Go.RowKit Kit Nums Rate1 Scale Scale2 RSc CkMath CkC CkD CkE OfA OfB Dk Dk2 Dk3 Dk4 Rk Rk2 Rk3 Rk4

variable {w w' : World} {p : Nat} {d : Dck}
set_option maxRecDepth 100000 in
set_option maxHeartbeats 1000000 in
theorem playBR (now lo hi : Nat) (h : Dq w p d) (hk : Dkk d) :
    Calls Tryz.prog 34 #[.pointer (some ⟨p, 0, none⟩), .int .u64 (now : Int), .int .u64 (lo : Int), .int .u64 (hi : Int)] w (ErQ w p (playE d now lo hi) (playBD d now lo hi)) := by
  have HE := Lib.hid (fun w => mayR now lo hi w)
  have H := Lib.hid h
  have c0 := h.c0
  have c1 := h.c1
  cases he : ends now lo hi
  · have HR := Lib.hid (show playBD d now lo hi = d by unfold playBD; rw [he, if_pos rfl])
    have HX := Lib.hid (show playE d now lo hi = 1 by unfold playE; rw [he, if_pos rfl])
    rw [he] at HE
    generalize playBD d now lo hi = R at *
    generalize playE d now lo hi = X at *
    clear h hk he c0 c1
    go_enter Tryz.func34, Tryz.ntmps34
    go_wp2_with fail
    refine (HE.out _).mono ?_
    rintro e w1 ⟨rfl, rfl⟩
    go_wp2
    go_ret
    exact ⟨by rw [HX.out]; rfl, by rw [HR.out]; exact H.out, grown_refl _ _⟩
  · obtain ⟨h1, h2, h3⟩ := ends_parts he
    rw [he] at HE
    by_cases m0 : d.mode = 0
    · have b0 : ((d.mode : Int) == 0) = true := by rw [m0]; rfl
      have HR := Lib.hid (show playBD d now lo hi = d by unfold playBD; rw [he, if_neg (by decide), if_neg (by omega)])
      have HX := Lib.hid (show playE d now lo hi = 13 by unfold playE; rw [he, if_neg (by decide), if_pos m0])
      generalize playBD d now lo hi = R at *
      generalize playE d now lo hi = X at *
      clear h hk he h1 h2 h3 m0
      go_enter Tryz.func34, Tryz.ntmps34
      go_wp2_with fail
      refine (HE.out _).mono ?_
      rintro e w1 ⟨rfl, rfl⟩
      go_wp2
      go_ret
      exact ⟨by rw [HX.out]; rfl, by rw [HR.out]; exact H.out, grown_refl _ _⟩
    · have b0 : ((d.mode : Int) == 0) = false := by rw [beq_eq_false_iff_ne]; omega
      have HX := Lib.hid (show playE d now lo hi = 0 by unfold playE; rw [he, if_neg (by decide), if_neg m0])
      by_cases m1 : d.mode = 1
      · have b1 : ((d.mode : Int) == 1) = true := by rw [m1]; rfl
        have HR := Lib.hid (show playBD d now lo hi = { stand d now (Dk.held d.place lo hi) with mode := 2 } by unfold playBD; rw [he, if_neg (by decide), if_pos m1])
        have hs := h.set0 2
        have f0 := h.fz 0
        obtain ⟨r, hr⟩ : ∃ r, d.place = r := ⟨_, rfl⟩
        obtain ⟨x, hx⟩ : ∃ x, Dk.held d.place lo hi = x := ⟨_, rfl⟩
        have hxm : x ≤ mx := by rw [← hx]; unfold Dk.held; omega
        have HS := Lib.hid (standR now x hs h2 hxm)
        have hg := grown_set (i := 0) (u := .int .i64 ((2 : Nat) : Int)) (grown_refl w (some p))
        have r1 := hs.c1
        rw [hx] at HR
        have hcase : ((r : Int) < (lo : Int) ∧ ¬ (hi : Int) < (lo : Int) ∧ x = lo) ∨ (¬ (r : Int) < (lo : Int) ∧ ¬ (hi : Int) < (r : Int) ∧ x = r) ∨ (¬ (r : Int) < (lo : Int) ∧ (hi : Int) < (r : Int) ∧ x = hi) := by
          rw [← hr]
          unfold Dk.held at hx
          by_cases c1 : d.place < lo
          · exact .inl ⟨by omega, by omega, by omega⟩
          · by_cases c2 : hi < d.place
            · exact .inr (.inr ⟨by omega, by omega, by omega⟩)
            · exact .inr (.inl ⟨by omega, by omega, by omega⟩)
        have r1' : (w.setCell ⟨p, 0, none⟩ (.int .i64 2)).cell? ⟨p, 1, none⟩ = some (.int .u64 (r : Int)) := by rw [← hr]; exact r1
        rw [hr] at c1
        generalize playBD d now lo hi = R at *
        generalize playE d now lo hi = X at *
        have hg := Lib.hid hg
        clear h hk he h1 h2 h3 m0 m1 hs hr hx hxm r1
        rcases hcase with ⟨a1, a2, a3⟩ | ⟨a1, a2, a3⟩ | ⟨a1, a2, a3⟩
        all_goals
          subst a3
          go_enter Tryz.func34, Tryz.ntmps34
          go_wp2_with fail
          refine (HE.out _).mono ?_
          rintro e w2 ⟨rfl, rfl⟩
          go_wp2_with fail
          refine HS.out.mono ?_
          rintro e w2 ⟨rfl, h5, hf5⟩
          have H5 := Lib.hid h5
          clear h5
          go_wp2
          go_ret
          exact ⟨by rw [HX.out]; rfl, by rw [HR.out]; exact H5.out, grown_trans hg.out hf5⟩
      · have b1 : ((d.mode : Int) == 1) = false := by rw [beq_eq_false_iff_ne]; omega
        have HR := Lib.hid (show playBD d now lo hi = d by unfold playBD; rw [he, if_neg (by decide), if_neg m1])
        generalize playBD d now lo hi = R at *
        generalize playE d now lo hi = X at *
        clear h hk he h1 h2 h3 m0 m1
        go_enter Tryz.func34, Tryz.ntmps34
        go_wp2_with fail
        refine (HE.out _).mono ?_
        rintro e w1 ⟨rfl, rfl⟩
        go_wp2
        go_ret
        exact ⟨by rw [HX.out]; rfl, by rw [HR.out]; exact H.out, grown_refl _ _⟩
def NewQ (w : World) (e : Ending) (w' : World) : Prop := ∃ p, w.heap.size ≤ p ∧ e = .returned (.pointer (some ⟨p, 0, none⟩)) ∧ Dq w' p d0 ∧ Below w.heap.size w w'
set_option maxRecDepth 100000 in
theorem newR (w : World) : Calls Tryz.prog 8 #[] w (NewQ w) := by
  have hp := heap_alloc_new w (.cells #[.int .i64 0, .int .u64 0, .int .u64 0, .int .u64 0, .int .u64 0, .int .u64 1, .int .u64 1] 43)
  have HP := Lib.hid hp
  have HB := Lib.hid ((Below.refl w.heap.size w).alloc (Nat.le_refl _) (.cells #[.int .i64 0, .int .u64 0, .int .u64 0, .int .u64 0, .int .u64 0, .int .u64 1, .int .u64 1] 43))
  clear hp
  go_enter Tryz.func8, Tryz.ntmps8
  go_wp2
  go_ret
  exact ⟨_, Nat.le_refl _, rfl, HP.out, HB.out⟩
end Go.Proofs.YthihkbnkbajglaaGreatDoor.Rk5
