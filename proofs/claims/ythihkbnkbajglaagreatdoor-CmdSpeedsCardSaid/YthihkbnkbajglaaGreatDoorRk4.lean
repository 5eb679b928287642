/- The document's deck: contracts of Tick, Pause. -/
import Derived.Test.YthihkbnkbajglaaGreatDoorRk3
set_option linter.unusedVariables false
namespace Go.Proofs.YthihkbnkbajglaaGreatDoor.Rk4
open Go Go.RowKit Kit Nums Rate1 Scale Scale2 RSc CkMath CkC CkD CkE OfA OfB Dk Dk2 Dk3 Dk4 Rk Rk2 Rk3

variable {w w' : World} {p : Nat} {d : Dck}
set_option maxRecDepth 100000 in
theorem tickR (now lo hi : Nat) (h : Dq w p d) (hk : Dkk d) :
    Calls Tryz.prog 15 #[.pointer (some ⟨p, 0, none⟩), .int .u64 (now : Int), .int .u64 (lo : Int), .int .u64 (hi : Int)] w (NoQ w p (tickD d now lo hi)) := by
  have HE := Lib.hid (fun w => mayR now lo hi w)
  cases he : ends now lo hi
  · have HR := Lib.hid (show tickD d now lo hi = d by unfold tickD; rw [he, if_pos rfl])
    rw [he] at HE
    have H := Lib.hid h
    generalize tickD d now lo hi = R at *
    clear h hk he
    go_enter Tryz.func15, Tryz.ntmps15
    go_wp2_with fail
    refine (HE.out _).mono ?_
    rintro e w1 ⟨rfl, rfl⟩
    go_wp2
    go_end0
    exact ⟨rfl, by rw [HR.out]; exact H.out, grown_refl _ _⟩
  · rw [he] at HE
    obtain ⟨h1, h2, h3⟩ := ends_parts he
    have H := Lib.hid h
    have c0 := h.c0
    have c1 := h.c1
    by_cases m1 : d.mode = 1
    · have b1 : ((d.mode : Int) == 1) = true := by rw [m1]; rfl
      by_cases hl : d.place < lo
      · have HR := Lib.hid (show tickD d now lo hi = stand d now lo by unfold tickD; rw [he, if_neg (by decide), if_pos m1, if_pos hl])
        have HS := Lib.hid (standR now lo h h2 (by omega))
        have hl' : (d.place : Int) < (lo : Int) := by omega
        generalize tickD d now lo hi = R at *
        clear h hk he m1 hl h1 h2 h3
        go_enter Tryz.func15, Tryz.ntmps15
        go_wp2_with fail
        refine (HE.out _).mono ?_
        rintro e w1 ⟨rfl, rfl⟩
        go_wp2_with fail
        refine HS.out.mono ?_
        rintro e w1 ⟨rfl, h4, hf4⟩
        go_wp2
        go_end0
        exact ⟨rfl, by rw [HR.out]; exact h4, hf4⟩
      · have HR := Lib.hid (show tickD d now lo hi = d by unfold tickD; rw [he, if_neg (by decide), if_pos m1, if_neg hl])
        have hl' : ¬ (d.place : Int) < (lo : Int) := by omega
        generalize tickD d now lo hi = R at *
        clear h hk he m1 hl h1 h2 h3
        go_enter Tryz.func15, Tryz.ntmps15
        go_wp2_with fail
        refine (HE.out _).mono ?_
        rintro e w1 ⟨rfl, rfl⟩
        go_wp2
        go_end0
        exact ⟨rfl, by rw [HR.out]; exact H.out, grown_refl _ _⟩
    · have b1 : ((d.mode : Int) == 1) = false := by rw [beq_eq_false_iff_ne]; omega
      by_cases m2 : d.mode = 2
      · have b2 : ((d.mode : Int) == 2) = true := by rw [m2]; rfl
        have HR := Lib.hid (show tickD d now lo hi = playD d now lo hi by unfold tickD; rw [he, if_neg (by decide), if_neg m1, if_pos m2])
        have HS := tick2 now lo hi h hk he m2
        rw [HR.out]
        exact HS
      · have b2 : ((d.mode : Int) == 2) = false := by rw [beq_eq_false_iff_ne]; omega
        have HR := Lib.hid (show tickD d now lo hi = d by unfold tickD; rw [he, if_neg (by decide), if_neg m1, if_neg m2])
        generalize tickD d now lo hi = R at *
        clear h hk he m1 m2 h1 h2 h3
        go_enter Tryz.func15, Tryz.ntmps15
        go_wp2_with fail
        refine (HE.out _).mono ?_
        rintro e w1 ⟨rfl, rfl⟩
        go_wp2
        go_end0
        exact ⟨rfl, by rw [HR.out]; exact H.out, grown_refl _ _⟩
set_option maxRecDepth 100000 in
set_option maxHeartbeats 2000000 in
theorem pauseR (now lo hi : Nat) (h : Dq w p d) (hk : Dkk d) :
    Calls Tryz.prog 33 #[.pointer (some ⟨p, 0, none⟩), .int .u64 (now : Int), .int .u64 (lo : Int), .int .u64 (hi : Int)] w (ErQ w p (pauseE now lo hi) (pauseD d now lo hi)) := by
  have HE := Lib.hid (fun w => mayR now lo hi w)
  cases he : ends now lo hi
  · have HR := Lib.hid (show pauseD d now lo hi = d by unfold pauseD; rw [he, if_pos rfl])
    have HX := Lib.hid (show pauseE now lo hi = 1 by unfold pauseE; rw [he, if_pos rfl])
    rw [he] at HE
    have H := Lib.hid h
    generalize pauseD d now lo hi = R at *
    generalize pauseE now lo hi = X at *
    clear h hk he
    go_enter Tryz.func33, Tryz.ntmps33
    go_wp2_with fail
    refine (HE.out _).mono ?_
    rintro e w1 ⟨rfl, rfl⟩
    go_wp2
    go_ret
    exact ⟨by rw [HX.out]; rfl, by rw [HR.out]; exact H.out, grown_refl _ _⟩
  · have HX := Lib.hid (show pauseE now lo hi = 0 by unfold pauseE; rw [he, if_neg (by decide)])
    have HR0 := Lib.hid (show pauseD d now lo hi = { (if (if d.mode = 2 then tickD d now lo hi else d).mode = 0 then stand (if d.mode = 2 then tickD d now lo hi else d) now hi else (if d.mode = 2 then tickD d now lo hi else d)) with mode := 1 } by unfold pauseD; rw [he, if_neg (by decide)])
    rw [he] at HE
    obtain ⟨h1, h2, h3⟩ := ends_parts he
    have c0 := h.c0
    by_cases m2 : d.mode = 2
    · have b2 : ((d.mode : Int) == 2) = true := by rw [m2]; rfl
      have HS := Lib.hid (tickR now lo hi h hk)
      rw [if_pos m2] at HR0
      generalize pauseD d now lo hi = R at *
      generalize pauseE now lo hi = X at *
      generalize tickD d now lo hi = g at *
      by_cases m0 : g.mode = 0
      · have b0 : ((g.mode : Int) == 0) = true := by rw [m0]; rfl
        have HR := Lib.hid (HR0.out.trans (show _ = ({ stand g now hi with mode := 1 } : Dck) by rw [if_pos m0]))
        have HQ := Lib.hid (fun w1 (h : Dq w1 p g) => standR now hi h h2 h3)
        clear h hk he m2 m0 h1 h2 h3 HR0
        go_enter Tryz.func33, Tryz.ntmps33
        go_wp2_with fail
        refine (HE.out _).mono ?_
        rintro e w1 ⟨rfl, rfl⟩
        go_wp2_with fail
        refine HS.out.mono ?_
        rintro e w1 ⟨rfl, h4, hf4⟩
        have j0 := h4.c0
        go_wp2_with fail
        refine (HQ.out _ h4).mono ?_
        rintro e w2 ⟨rfl, h5, hf5⟩
        have h6 := h5.set0 1
        have k0 := h5.c0
        have kf := h5.fz 0
        have H6 := Lib.hid h6
        have HF := Lib.hid (grown_set (i := 0) (u := .int .i64 ((1 : Nat) : Int)) (grown_trans hf4 hf5))
        clear h4 h5 h6 hf4 hf5
        go_wp2
        go_ret
        exact ⟨by rw [HX.out]; rfl, by rw [HR.out]; exact H6.out, HF.out⟩
      · have b0 : ((g.mode : Int) == 0) = false := by rw [beq_eq_false_iff_ne]; omega
        have HR := Lib.hid (HR0.out.trans (show _ = ({ g with mode := 1 } : Dck) by rw [if_neg m0]))
        clear h hk he m2 m0 h1 h2 h3 HR0
        go_enter Tryz.func33, Tryz.ntmps33
        go_wp2_with fail
        refine (HE.out _).mono ?_
        rintro e w1 ⟨rfl, rfl⟩
        go_wp2_with fail
        refine HS.out.mono ?_
        rintro e w1 ⟨rfl, h4, hf4⟩
        have j0 := h4.c0
        have h6 := h4.set0 1
        have kf := h4.fz 0
        have H6 := Lib.hid h6
        have HF := Lib.hid (grown_set (i := 0) (u := .int .i64 ((1 : Nat) : Int)) hf4)
        clear h4 h6 hf4
        go_wp2
        go_ret
        exact ⟨by rw [HX.out]; rfl, by rw [HR.out]; exact H6.out, HF.out⟩
    · have b2 : ((d.mode : Int) == 2) = false := by rw [beq_eq_false_iff_ne]; omega
      rw [if_neg m2] at HR0
      generalize pauseD d now lo hi = R at *
      generalize pauseE now lo hi = X at *
      by_cases m0 : d.mode = 0
      · have b0 : ((d.mode : Int) == 0) = true := by rw [m0]; rfl
        have HR := Lib.hid (HR0.out.trans (show _ = ({ stand d now hi with mode := 1 } : Dck) by rw [if_pos m0]))
        have HQ := Lib.hid (standR now hi h h2 h3)
        clear h hk he m2 m0 h1 h2 h3 HR0
        go_enter Tryz.func33, Tryz.ntmps33
        go_wp2_with fail
        refine (HE.out _).mono ?_
        rintro e w1 ⟨rfl, rfl⟩
        go_wp2_with fail
        refine HQ.out.mono ?_
        rintro e w2 ⟨rfl, h5, hf5⟩
        have h6 := h5.set0 1
        have k0 := h5.c0
        have kf := h5.fz 0
        have H6 := Lib.hid h6
        have HF := Lib.hid (grown_set (i := 0) (u := .int .i64 ((1 : Nat) : Int)) hf5)
        clear h5 h6 hf5
        go_wp2
        go_ret
        exact ⟨by rw [HX.out]; rfl, by rw [HR.out]; exact H6.out, HF.out⟩
      · have b0 : ((d.mode : Int) == 0) = false := by rw [beq_eq_false_iff_ne]; omega
        have HR := Lib.hid (HR0.out.trans (show _ = ({ d with mode := 1 } : Dck) by rw [if_neg m0]))
        have h6 := h.set0 1
        have kf := h.fz 0
        have H6 := Lib.hid h6
        clear h hk he m2 m0 h1 h2 h3 h6 HR0
        go_enter Tryz.func33, Tryz.ntmps33
        go_wp2_with fail
        refine (HE.out _).mono ?_
        rintro e w1 ⟨rfl, rfl⟩
        go_wp2
        go_ret
        exact ⟨by rw [HX.out]; rfl, by rw [HR.out]; exact H6.out, grown_set (i := 0) (u := .int .i64 ((1 : Nat) : Int)) (grown_refl _ _)⟩
end Go.Proofs.YthihkbnkbajglaaGreatDoor.Rk4
