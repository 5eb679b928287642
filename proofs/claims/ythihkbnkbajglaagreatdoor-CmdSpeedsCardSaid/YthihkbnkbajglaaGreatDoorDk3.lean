/- Decks: contracts of Tick, Pause, Play, Seek, Live. -/
import Derived.Test.YthihkbnkbajglaaGreatDoorDk2
set_option linter.unusedVariables false
namespace Go.Proofs.YthihkbnkbajglaaGreatDoor.Dk3
open Go Go.RowKit Kit Nums Scale Scale2 CkMath CkC CkD CkE CkN OfA OfB Dk Dk2

variable {w : World} {p q : Nat} {d : Dck}
theorem ends_parts {now lo hi : Nat} (h : ends now lo hi = true) : lo ≤ hi ∧ now ≤ mx ∧ hi ≤ mx := by unfold ends at h; exact of_decide_eq_true h
theorem stood_ckk {c : Ck} (h : Ckk c) {t x : Nat} (ht : t ≤ mx) (hx : x ≤ mx) : Ckk (stood c t x) := ⟨⟨h.ok.den, h.ok.den, hx⟩, h.may, by rw [mx_eq] at ht; show t < _; omega⟩
theorem stand_dkk (h : Dkk d) {t x : Nat} (ht : t ≤ mx) (hx : x ≤ mx) : Dkk (stand d t x) := ⟨stood_ckk h.c ht hx, hx, h.mode⟩
theorem playD_dkk (h : Dkk d) {now lo hi : Nat} (ht : now ≤ mx) (hl : lo ≤ hi) (hh : hi ≤ mx) : Dkk (playD d now lo hi) := by
  have hx : held (go d.c now).pos lo hi ≤ mx := by unfold held; omega
  have hg := go_ckk h.c (t := now) (by rw [mx_eq] at ht; omega)
  refine ⟨?_, hx, ?_⟩
  · show Ckk (if _ then _ else _)
    split
    · exact hg
    · exact stood_ckk hg ht hx
  · show (if _ then _ else _) ≤ 2
    split
    · omega
    · exact h.mode
theorem tickD_dkk (h : Dkk d) {now lo hi : Nat} : Dkk (tickD d now lo hi) := by
  unfold tickD
  cases he : ends now lo hi
  · rw [if_pos rfl]; exact h
  · rw [if_neg (by decide)]
    obtain ⟨h1, h2, h3⟩ := ends_parts he
    split
    · split
      · exact stand_dkk h h2 (by omega)
      · exact h
    · split
      · exact playD_dkk h h2 h1 h3
      · exact h
set_option maxRecDepth 100000 in
theorem tickC (now lo hi : Nat) (h : Dl w p q d) (hk : Dkk d) :
    Calls Tryz.prog 14 #[.pointer (some ⟨p, 0, none⟩), .int .u64 (now : Int), .int .u64 (lo : Int), .int .u64 (hi : Int)] w (NoP w p q (tickD d now lo hi)) := by
  have HE := Lib.hid (fun w => endsC now lo hi w)
  cases he : ends now lo hi
  · have HR := Lib.hid (show tickD d now lo hi = d by unfold tickD; rw [he, if_pos rfl])
    rw [he] at HE
    have H := Lib.hid h
    generalize tickD d now lo hi = R at *
    clear h hk he
    go_enter Tryz.func14, Tryz.ntmps14
    go_wp2_with fail
    refine (HE.out _).mono ?_
    rintro e w1 ⟨rfl, rfl⟩
    go_wp2
    go_end0
    exact ⟨rfl, by rw [HR.out]; exact H.out, Fr2.refl _ _ _⟩
  · rw [he] at HE
    obtain ⟨h1, h2, h3⟩ := ends_parts he
    have H := Lib.hid h
    have c0 := h.c0
    have c1 := h.c1
    by_cases m1 : d.mode = 1
    · have b1 : ((d.mode : Int) == 1) = true := by rw [m1]; rfl
      by_cases hl : d.place < lo
      · have HR := Lib.hid (show tickD d now lo hi = stand d now lo by unfold tickD; rw [he, if_neg (by decide), if_pos m1, if_pos hl])
        have HS := Lib.hid (standC now lo h h2 (by omega))
        have hl' : (d.place : Int) < (lo : Int) := by omega
        generalize tickD d now lo hi = R at *
        clear h hk he m1 hl h1 h2 h3
        go_enter Tryz.func14, Tryz.ntmps14
        go_wp2_with fail
        refine (HE.out _).mono ?_
        rintro e w1 ⟨rfl, rfl⟩
        go_wp2_with fail
        refine HS.out.mono ?_
        rintro e w1 ⟨rfl, h4, hf4⟩
        go_wp2
        go_end0
        exact ⟨rfl, by rw [HR.out]; exact h4, hf4⟩
      · have HR := Lib.hid (show tickD d now lo hi = d by unfold tickD; rw [he, if_neg (by decide), if_pos m1, if_neg hl])
        have hl' : ¬ (d.place : Int) < (lo : Int) := by omega
        generalize tickD d now lo hi = R at *
        clear h hk he m1 hl h1 h2 h3
        go_enter Tryz.func14, Tryz.ntmps14
        go_wp2_with fail
        refine (HE.out _).mono ?_
        rintro e w1 ⟨rfl, rfl⟩
        go_wp2
        go_end0
        exact ⟨rfl, by rw [HR.out]; exact H.out, Fr2.refl _ _ _⟩
    · have b1 : ((d.mode : Int) == 1) = false := by rw [beq_eq_false_iff_ne]; omega
      by_cases m2 : d.mode = 2
      · have b2 : ((d.mode : Int) == 2) = true := by rw [m2]; rfl
        have HR := Lib.hid (show tickD d now lo hi = playD d now lo hi by unfold tickD; rw [he, if_neg (by decide), if_neg m1, if_pos m2])
        have HS := Lib.hid (playC now lo hi h hk h2 h1 h3)
        generalize tickD d now lo hi = R at *
        clear h hk he m1 m2 h1 h2 h3
        go_enter Tryz.func14, Tryz.ntmps14
        go_wp2_with fail
        refine (HE.out _).mono ?_
        rintro e w1 ⟨rfl, rfl⟩
        go_wp2_with fail
        refine HS.out.mono ?_
        rintro e w1 ⟨rfl, h4, hf4⟩
        go_wp2
        go_end0
        exact ⟨rfl, by rw [HR.out]; exact h4, hf4⟩
      · have b2 : ((d.mode : Int) == 2) = false := by rw [beq_eq_false_iff_ne]; omega
        have HR := Lib.hid (show tickD d now lo hi = d by unfold tickD; rw [he, if_neg (by decide), if_neg m1, if_neg m2])
        generalize tickD d now lo hi = R at *
        clear h hk he m1 m2 h1 h2 h3
        go_enter Tryz.func14, Tryz.ntmps14
        go_wp2_with fail
        refine (HE.out _).mono ?_
        rintro e w1 ⟨rfl, rfl⟩
        go_wp2
        go_end0
        exact ⟨rfl, by rw [HR.out]; exact H.out, Fr2.refl _ _ _⟩
set_option maxRecDepth 100000 in
theorem liveC (now : Int) (h : Dl w p q d) : Calls Tryz.prog 30 #[.pointer (some ⟨p, 0, none⟩), .int .u64 now] w (NoP w p q { d with mode := 0 }) := by
  have h1 := h.set0 0
  have c0 := h.c0
  have f0 := h.fz 0
  have H1 := Lib.hid h1
  clear h h1
  go_enter Tryz.func30, Tryz.ntmps30
  go_wp2
  go_end0
  exact ⟨rfl, H1.out, Fr2.set⟩
theorem pauseD_dkk (h : Dkk d) {now lo hi : Nat} : Dkk (pauseD d now lo hi) := by
  unfold pauseD
  cases he : ends now lo hi
  · rw [if_pos rfl]; exact h
  · rw [if_neg (by decide)]
    obtain ⟨h1, h2, h3⟩ := ends_parts he
    have ht : Dkk (if d.mode = 2 then tickD d now lo hi else d) := by split; exact tickD_dkk h; exact h
    generalize (if d.mode = 2 then tickD d now lo hi else d) = g at *
    have h4 : Dkk (if g.mode = 0 then stand g now hi else g) := by
      split
      · exact stand_dkk ht h2 h3
      · exact ht
    exact ⟨h4.c, h4.place, by show (1 : Nat) ≤ 2; omega⟩
set_option maxRecDepth 100000 in
set_option maxHeartbeats 2000000 in
theorem pauseC (now lo hi : Nat) (h : Dl w p q d) (hk : Dkk d) :
    Calls Tryz.prog 26 #[.pointer (some ⟨p, 0, none⟩), .int .u64 (now : Int), .int .u64 (lo : Int), .int .u64 (hi : Int)] w (ErP w p q (pauseE now lo hi) (pauseD d now lo hi)) := by
  have HE := Lib.hid (fun w => endsC now lo hi w)
  cases he : ends now lo hi
  · have HR := Lib.hid (show pauseD d now lo hi = d by unfold pauseD; rw [he, if_pos rfl])
    have HX := Lib.hid (show pauseE now lo hi = 1 by unfold pauseE; rw [he, if_pos rfl])
    rw [he] at HE
    have H := Lib.hid h
    generalize pauseD d now lo hi = R at *
    generalize pauseE now lo hi = X at *
    clear h hk he
    go_enter Tryz.func26, Tryz.ntmps26
    go_wp2_with fail
    refine (HE.out _).mono ?_
    rintro e w1 ⟨rfl, rfl⟩
    go_wp2
    go_ret
    exact ⟨by rw [HX.out]; rfl, by rw [HR.out]; exact H.out, Fr2.refl _ _ _⟩
  · have HX := Lib.hid (show pauseE now lo hi = 0 by unfold pauseE; rw [he, if_neg (by decide)])
    have HR0 := Lib.hid (show pauseD d now lo hi = { (if (if d.mode = 2 then tickD d now lo hi else d).mode = 0 then stand (if d.mode = 2 then tickD d now lo hi else d) now hi else (if d.mode = 2 then tickD d now lo hi else d)) with mode := 1 } by unfold pauseD; rw [he, if_neg (by decide)])
    rw [he] at HE
    obtain ⟨h1, h2, h3⟩ := ends_parts he
    have c0 := h.c0
    by_cases m2 : d.mode = 2
    · have b2 : ((d.mode : Int) == 2) = true := by rw [m2]; rfl
      have HS := Lib.hid (tickC now lo hi h hk)
      rw [if_pos m2] at HR0
      generalize pauseD d now lo hi = R at *
      generalize pauseE now lo hi = X at *
      generalize tickD d now lo hi = g at *
      by_cases m0 : g.mode = 0
      · have b0 : ((g.mode : Int) == 0) = true := by rw [m0]; rfl
        have HR := Lib.hid (HR0.out.trans (show _ = ({ stand g now hi with mode := 1 } : Dck) by rw [if_pos m0]))
        have HQ := Lib.hid (fun w1 (h : Dl w1 p q g) => standC now hi h h2 h3)
        clear h hk he m2 m0 h1 h2 h3 HR0
        go_enter Tryz.func26, Tryz.ntmps26
        go_wp2_with fail
        refine (HE.out _).mono ?_
        rintro e w1 ⟨rfl, rfl⟩
        go_wp2_with fail
        refine HS.out.mono ?_
        rintro e w1 ⟨rfl, h4, hf4⟩
        have j0 := h4.c0
        go_wp2_with fail
        refine (HQ.out _ h4).mono ?_
        rintro e w2 ⟨rfl, h5, hf5⟩
        have h6 := h5.set0 1
        have k0 := h5.c0
        have kf := h5.fz 0
        have H6 := Lib.hid h6
        have HF := Lib.hid ((hf4.trans hf5).trans (Fr2.set (i := 0) (u := .int .i64 ((1 : Nat) : Int))))
        clear h4 h5 h6 hf4 hf5
        go_wp2
        go_ret
        exact ⟨by rw [HX.out]; rfl, by rw [HR.out]; exact H6.out, HF.out⟩
      · have b0 : ((g.mode : Int) == 0) = false := by rw [beq_eq_false_iff_ne]; omega
        have HR := Lib.hid (HR0.out.trans (show _ = ({ g with mode := 1 } : Dck) by rw [if_neg m0]))
        clear h hk he m2 m0 h1 h2 h3 HR0
        go_enter Tryz.func26, Tryz.ntmps26
        go_wp2_with fail
        refine (HE.out _).mono ?_
        rintro e w1 ⟨rfl, rfl⟩
        go_wp2_with fail
        refine HS.out.mono ?_
        rintro e w1 ⟨rfl, h4, hf4⟩
        have j0 := h4.c0
        have h6 := h4.set0 1
        have kf := h4.fz 0
        have H6 := Lib.hid h6
        have HF := Lib.hid (hf4.trans (Fr2.set (i := 0) (u := .int .i64 ((1 : Nat) : Int))))
        clear h4 h6 hf4
        go_wp2
        go_ret
        exact ⟨by rw [HX.out]; rfl, by rw [HR.out]; exact H6.out, HF.out⟩
    · have b2 : ((d.mode : Int) == 2) = false := by rw [beq_eq_false_iff_ne]; omega
      rw [if_neg m2] at HR0
      generalize pauseD d now lo hi = R at *
      generalize pauseE now lo hi = X at *
      by_cases m0 : d.mode = 0
      · have b0 : ((d.mode : Int) == 0) = true := by rw [m0]; rfl
        have HR := Lib.hid (HR0.out.trans (show _ = ({ stand d now hi with mode := 1 } : Dck) by rw [if_pos m0]))
        have HQ := Lib.hid (standC now hi h h2 h3)
        clear h hk he m2 m0 h1 h2 h3 HR0
        go_enter Tryz.func26, Tryz.ntmps26
        go_wp2_with fail
        refine (HE.out _).mono ?_
        rintro e w1 ⟨rfl, rfl⟩
        go_wp2_with fail
        refine HQ.out.mono ?_
        rintro e w2 ⟨rfl, h5, hf5⟩
        have h6 := h5.set0 1
        have k0 := h5.c0
        have kf := h5.fz 0
        have H6 := Lib.hid h6
        have HF := Lib.hid (hf5.trans (Fr2.set (i := 0) (u := .int .i64 ((1 : Nat) : Int))))
        clear h5 h6 hf5
        go_wp2
        go_ret
        exact ⟨by rw [HX.out]; rfl, by rw [HR.out]; exact H6.out, HF.out⟩
      · have b0 : ((d.mode : Int) == 0) = false := by rw [beq_eq_false_iff_ne]; omega
        have HR := Lib.hid (HR0.out.trans (show _ = ({ d with mode := 1 } : Dck) by rw [if_neg m0]))
        have h6 := h.set0 1
        have kf := h.fz 0
        have H6 := Lib.hid h6
        clear h hk he m2 m0 h1 h2 h3 h6 HR0
        go_enter Tryz.func26, Tryz.ntmps26
        go_wp2_with fail
        refine (HE.out _).mono ?_
        rintro e w1 ⟨rfl, rfl⟩
        go_wp2
        go_ret
        exact ⟨by rw [HX.out]; rfl, by rw [HR.out]; exact H6.out, Fr2.set⟩
theorem playBD_dkk (h : Dkk d) {now lo hi : Nat} : Dkk (playBD d now lo hi) := by
  unfold playBD
  cases he : ends now lo hi
  · rw [if_pos rfl]; exact h
  · rw [if_neg (by decide)]
    obtain ⟨h1, h2, h3⟩ := ends_parts he
    split
    · have h4 := stand_dkk h h2 (x := held d.place lo hi) (by unfold held; omega)
      exact ⟨h4.c, h4.place, Nat.le_refl _⟩
    · exact h
set_option maxRecDepth 100000 in
set_option maxHeartbeats 2000000 in
theorem playBC (now lo hi : Nat) (h : Dl w p q d) (hk : Dkk d) :
    Calls Tryz.prog 27 #[.pointer (some ⟨p, 0, none⟩), .int .u64 (now : Int), .int .u64 (lo : Int), .int .u64 (hi : Int)] w (ErP w p q (playE d now lo hi) (playBD d now lo hi)) := by
  have HE := Lib.hid (fun w => endsC now lo hi w)
  cases he : ends now lo hi
  · have HR := Lib.hid (show playBD d now lo hi = d by unfold playBD; rw [he, if_pos rfl])
    have HX := Lib.hid (show playE d now lo hi = 1 by unfold playE; rw [he, if_pos rfl])
    rw [he] at HE
    have H := Lib.hid h
    generalize playBD d now lo hi = R at *
    generalize playE d now lo hi = X at *
    clear h hk he
    go_enter Tryz.func27, Tryz.ntmps27
    go_wp2_with fail
    refine (HE.out _).mono ?_
    rintro e w1 ⟨rfl, rfl⟩
    go_wp2
    go_ret
    exact ⟨by rw [HX.out]; rfl, by rw [HR.out]; exact H.out, Fr2.refl _ _ _⟩
  · obtain ⟨h1, h2, h3⟩ := ends_parts he
    have c0 := h.c0
    have c1 := h.c1
    have H := Lib.hid h
    by_cases m0 : d.mode = 0
    · have b0 : ((d.mode : Int) == 0) = true := by rw [m0]; rfl
      have HR := Lib.hid (show playBD d now lo hi = d by unfold playBD; rw [he, if_neg (by decide), if_neg (by omega)])
      have HX := Lib.hid (show playE d now lo hi = 13 by unfold playE; rw [he, if_neg (by decide), if_pos m0])
      rw [he] at HE
      generalize playBD d now lo hi = R at *
      generalize playE d now lo hi = X at *
      clear h hk he m0 h1 h2 h3
      go_enter Tryz.func27, Tryz.ntmps27
      go_wp2_with fail
      refine (HE.out _).mono ?_
      rintro e w1 ⟨rfl, rfl⟩
      go_wp2
      go_ret
      exact ⟨by rw [HX.out]; rfl, by rw [HR.out]; exact H.out, Fr2.refl _ _ _⟩
    · have b0 : ((d.mode : Int) == 0) = false := by rw [beq_eq_false_iff_ne]; omega
      have HX := Lib.hid (show playE d now lo hi = 0 by unfold playE; rw [he, if_neg (by decide), if_neg m0])
      by_cases m1 : d.mode = 1
      · have b1 : ((d.mode : Int) == 1) = true := by rw [m1]; rfl
        have HR := Lib.hid (show playBD d now lo hi = { stand d now (held d.place lo hi) with mode := 2 } by unfold playBD; rw [he, if_neg (by decide), if_pos m1])
        have HH := Lib.hid (fun w => heldC d.place lo hi w)
        have HQ := Lib.hid (standC now (held d.place lo hi) h h2 (by unfold held; omega))
        rw [he] at HE
        generalize playBD d now lo hi = R at *
        generalize playE d now lo hi = X at *
        generalize held d.place lo hi = x at *
        clear h hk he m0 m1 h1 h2 h3
        go_enter Tryz.func27, Tryz.ntmps27
        go_wp2_with fail
        refine (HE.out _).mono ?_
        rintro e w1 ⟨rfl, rfl⟩
        go_wp2_with fail
        refine (HH.out _).mono ?_
        rintro e w1 ⟨rfl, rfl⟩
        go_wp2_with fail
        refine HQ.out.mono ?_
        rintro e w2 ⟨rfl, h5, hf5⟩
        have h6 := h5.set0 2
        have k0 := h5.c0
        have kf := h5.fz 0
        have H6 := Lib.hid h6
        have HF := Lib.hid (hf5.trans (Fr2.set (i := 0) (u := .int .i64 ((2 : Nat) : Int))))
        clear h5 h6 hf5
        go_wp2
        go_ret
        exact ⟨by rw [HX.out]; rfl, by rw [HR.out]; exact H6.out, HF.out⟩
      · have b1 : ((d.mode : Int) == 1) = false := by rw [beq_eq_false_iff_ne]; omega
        have HR := Lib.hid (show playBD d now lo hi = d by unfold playBD; rw [he, if_neg (by decide), if_neg m1])
        rw [he] at HE
        generalize playBD d now lo hi = R at *
        generalize playE d now lo hi = X at *
        clear h hk he m0 m1 h1 h2 h3
        go_enter Tryz.func27, Tryz.ntmps27
        go_wp2_with fail
        refine (HE.out _).mono ?_
        rintro e w1 ⟨rfl, rfl⟩
        go_wp2
        go_ret
        exact ⟨by rw [HX.out]; rfl, by rw [HR.out]; exact H.out, Fr2.refl _ _ _⟩
theorem seekD_dkk (h : Dkk d) {now lo hi time : Nat} : Dkk (seekD d now lo hi time) := by
  unfold seekD
  cases he : ends now lo hi
  · rw [if_pos rfl]; exact h
  · rw [if_neg (by decide)]
    obtain ⟨h1, h2, h3⟩ := ends_parts he
    split
    · exact h
    · have h4 := stand_dkk h h2 (x := min time hi) (by omega)
      refine ⟨h4.c, h4.place, ?_⟩
      show (if d.mode = 0 then 1 else d.mode) ≤ 2
      have := h.mode
      split <;> omega
set_option maxRecDepth 100000 in
set_option maxHeartbeats 2000000 in
theorem seekC (now lo hi time : Nat) (h : Dl w p q d) (hk : Dkk d) :
    Calls Tryz.prog 28 #[.pointer (some ⟨p, 0, none⟩), .int .u64 (now : Int), .int .u64 (lo : Int), .int .u64 (hi : Int), .int .u64 (time : Int)] w (ErP w p q (seekE now lo hi time) (seekD d now lo hi time)) := by
  have HE := Lib.hid (fun w => endsC now lo hi w)
  cases he : ends now lo hi
  · have HR := Lib.hid (show seekD d now lo hi time = d by unfold seekD; rw [he, if_pos rfl])
    have HX := Lib.hid (show seekE now lo hi time = 1 by unfold seekE; rw [he, if_pos rfl])
    rw [he] at HE
    have H := Lib.hid h
    generalize seekD d now lo hi time = R at *
    generalize seekE now lo hi time = X at *
    clear h hk he
    go_enter Tryz.func28, Tryz.ntmps28
    go_wp2_with fail
    refine (HE.out _).mono ?_
    rintro e w1 ⟨rfl, rfl⟩
    go_wp2
    go_ret
    exact ⟨by rw [HX.out]; rfl, by rw [HR.out]; exact H.out, Fr2.refl _ _ _⟩
  · obtain ⟨h1, h2, h3⟩ := ends_parts he
    have H := Lib.hid h
    by_cases hl : time < lo
    · have hl' : (time : Int) < (lo : Int) := by omega
      have HR := Lib.hid (show seekD d now lo hi time = d by unfold seekD; rw [he, if_neg (by decide), if_pos hl])
      have HX := Lib.hid (show seekE now lo hi time = 12 by unfold seekE; rw [he, if_neg (by decide), if_pos hl])
      rw [he] at HE
      generalize seekD d now lo hi time = R at *
      generalize seekE now lo hi time = X at *
      clear h hk he hl h1 h2 h3
      go_enter Tryz.func28, Tryz.ntmps28
      go_wp2_with fail
      refine (HE.out _).mono ?_
      rintro e w1 ⟨rfl, rfl⟩
      go_wp2
      go_ret
      exact ⟨by rw [HX.out]; rfl, by rw [HR.out]; exact H.out, Fr2.refl _ _ _⟩
    · have hl' : ¬ (time : Int) < (lo : Int) := by omega
      have HX := Lib.hid (show seekE now lo hi time = 0 by unfold seekE; rw [he, if_neg (by decide), if_neg hl])
      have HR0 := Lib.hid (show seekD d now lo hi time = { stand d now (min time hi) with mode := if d.mode = 0 then 1 else d.mode } by unfold seekD; rw [he, if_neg (by decide), if_neg hl])
      have HQ := Lib.hid (standC now (min time hi) h h2 (by omega))
      rw [he] at HE
      have hm : ((hi : Int) < (time : Int) ∧ Hid (min time hi = hi)) ∨ (¬ (hi : Int) < (time : Int) ∧ Hid (min time hi = time)) := by
        by_cases hx : hi < time
        · exact .inl ⟨by omega, Lib.hid (by omega)⟩
        · exact .inr ⟨by omega, Lib.hid (by omega)⟩
      generalize seekD d now lo hi time = R at *
      generalize seekE now lo hi time = X at *
      rcases hm with ⟨hm, HM⟩ | ⟨hm, HM⟩
      all_goals
        rw [HM.out] at HQ HR0
        by_cases m0 : d.mode = 0
        · have b0 : ((d.mode : Int) == 0) = true := by rw [m0]; rfl
          rw [if_pos m0] at HR0
          clear h hk he hl h1 h2 h3 m0
          go_enter Tryz.func28, Tryz.ntmps28
          go_wp2_with fail
          refine (HE.out _).mono ?_
          rintro e w1 ⟨rfl, rfl⟩
          go_wp2_with fail
          refine HQ.out.mono ?_
          rintro e w2 ⟨rfl, h5, hf5⟩
          have h6 := h5.set0 1
          have k0 : w2.cell? ⟨p, 0, none⟩ = some (.int .i64 (d.mode : Int)) := h5.c0
          have kf := h5.fz 0
          have H6 := Lib.hid h6
          have HF := Lib.hid (hf5.trans (Fr2.set (i := 0) (u := .int .i64 ((1 : Nat) : Int))))
          clear h5 h6 hf5
          go_wp2
          go_ret
          exact ⟨by rw [HX.out]; rfl, by rw [HR0.out]; exact H6.out, HF.out⟩
        · have b0 : ((d.mode : Int) == 0) = false := by rw [beq_eq_false_iff_ne]; omega
          rw [if_neg m0] at HR0
          clear h hk he hl h1 h2 h3 m0
          go_enter Tryz.func28, Tryz.ntmps28
          go_wp2_with fail
          refine (HE.out _).mono ?_
          rintro e w1 ⟨rfl, rfl⟩
          go_wp2_with fail
          refine HQ.out.mono ?_
          rintro e w2 ⟨rfl, h5, hf5⟩
          have k0 : w2.cell? ⟨p, 0, none⟩ = some (.int .i64 (d.mode : Int)) := h5.c0
          have H6 := Lib.hid h5
          clear h5
          go_wp2
          go_ret
          exact ⟨by rw [HX.out]; rfl, by rw [HR0.out]; exact H6.out, hf5⟩
end Go.Proofs.YthihkbnkbajglaaGreatDoor.Dk3
