/- tiklaw23.DeckAir: the walk. -/
import Derived.Test.YtkogmjbiedpbnaaDoorDkTab
set_option linter.unusedVariables false
namespace Go.Proofs.YtkogmjbiedpbnaaDoor.AirW
open Go Go.RowKit Kit Nums Rate0 Scale Scale2 CkMath CkC CkD CkE CkN OfA OfB Dk Dk2 Dk3 Dk4

def OutP (w : World) (e : Ending) (w' : World) : Prop := e = .returned (.bool true) ∧ Below w.heap.size w w'
theorem in64 {n : Int} (h : (Lit.int .u64 n).wf = true) : 0 ≤ n ∧ n < 18446744073709551616 := by
  simp only [Lit.wf, Bool.and_eq_true, decide_eq_true_eq] at h
  have h1 : IntKind.u64.min = 0 := by decide
  have h2 : IntKind.u64.max = 18446744073709551615 := by decide
  omega
theorem inF {b : Nat} (h : (Lit.float .f64 b).wf = true) : In64 b := by
  simp [Lit.wf] at h
  exact ⟨by omega, by omega⟩
theorem ends_true {now lo hi : Nat} (h1 : lo ≤ hi) (h2 : now ≤ mx) (h3 : hi ≤ mx) : ends now lo hi = true := decide_eq_true ⟨h1, h2, h3⟩
set_option maxRecDepth 100000 in
set_option maxHeartbeats 4000000 in
theorem out (now lo hi time : Nat) (b : Nat) (w : World) (hT : TabZ w) (b1 b2 b3 : Bool) (h1 : decide ((hi : Int) < (lo : Int)) = b1) (h2 : decide ((4611686018427387904 : Int) < (hi : Int)) = b2) (h3 : decide ((4611686018427387904 : Int) < (now : Int)) = b3) (hall : (b1 || b2 || b3) = true) :
    Calls Tryd.prog 7 #[.int .u64 (now : Int), .int .u64 (lo : Int), .int .u64 (hi : Int), .int .u64 (time : Int), .float .f64 b] w (OutP w) := by
  have h1' : decide (hi < lo) = b1 := by rw [← h1]; exact decide_eq_decide.2 (by omega)
  have HF := Lib.hid (first w hT)
  have HT := Lib.hid hT
  clear hT
  cases b1 <;> cases b2 <;> cases b3
  all_goals first
    | (exact absurd hall (by decide))
    | skip
  all_goals
    clear hall
    go_enter Tryd.func7, Tryd.ntmps7
    go_wp2_with fail
    refine HF.out.mono ?_
    rintro e w1 ⟨rfl, hb1⟩
    go_wp2_with fail
    refine (first w1 (HT.out.then_ hb1)).mono ?_
    rintro e w2 ⟨rfl, hb2⟩
    go_wp2
    go_ret
    exact ⟨rfl, below_next hb1 hb2⟩
set_option maxRecDepth 100000 in
set_option maxHeartbeats 8000000 in
theorem main (now lo hi time : Nat) (b : Nat) (w : World) (hT : TabZ w) (hb : In64 b) (hl : lo ≤ hi) (hn : now ≤ mx) (hh : hi ≤ mx) :
    Calls Tryd.prog 7 #[.int .u64 (now : Int), .int .u64 (lo : Int), .int .u64 (hi : Int), .int .u64 (time : Int), .float .f64 b] w (OutP w) := by
  have he := ends_true hl hn hh
  have b1 : decide ((hi : Int) < (lo : Int)) = false := decide_eq_false (by omega)
  have b1' : decide (hi < lo) = false := decide_eq_false (by omega)
  have b2 : decide ((4611686018427387904 : Int) < (hi : Int)) = false := decide_eq_false (by rw [mx_eq] at hh; omega)
  have b3 : decide ((4611686018427387904 : Int) < (now : Int)) = false := decide_eq_false (by rw [mx_eq] at hn; omega)
  have hnow64 : now < 18446744073709551616 := by rw [mx_eq] at hn; omega
  -- the first deck
  have e1 : playBD d0 now lo hi = d0 ∧ playE d0 now lo hi = 13 := ⟨by unfold playBD; rw [he]; rfl, by unfold playE; rw [he]; rfl⟩
  obtain ⟨g, hg⟩ : ∃ g, pauseD d0 now lo hi = g := ⟨_, rfl⟩
  have e2 : pauseE now lo hi = 0 := by unfold pauseE; rw [he]; rfl
  have g0 : g.mode = 1 ∧ g.place = hi := by rw [← hg]; unfold pauseD; rw [he]; exact ⟨rfl, rfl⟩
  -- the second
  have hcase : (time < lo ∧ seekD d0 now lo hi time = d0 ∧ seekE now lo hi time = 12) ∨ (¬ time < lo ∧ seekD d0 now lo hi time = { stand d0 now (min time hi) with mode := 1 } ∧ seekE now lo hi time = 0) := by
    by_cases h : time < lo
    · exact .inl ⟨h, by unfold seekD; rw [he, if_neg (by decide), if_pos h], by unfold seekE; rw [he, if_neg (by decide), if_pos h]⟩
    · exact .inr ⟨h, by unfold seekD; rw [he, if_neg (by decide), if_neg h]; rfl, by unfold seekE; rw [he, if_neg (by decide), if_neg h]⟩
  have e3 : speedE now b = (ofN b).2.2 := by
    unfold speedE
    by_cases h : (ofN b).2.2 = 0
    · rw [if_neg (by simp [h]), if_pos hn, h]
    · rw [if_pos h]
  have e4 : ends now (hi + 1) hi = false := by unfold ends; exact decide_eq_false (by omega)
  have hw : IntKind.u64.wrap ((hi : Int) + 1) = ((hi + 1 : Nat) : Int) := by rw [mx_eq] at hh; rw [IntKind.wrap_u64]; omega
  obtain ⟨H1, hH1⟩ : ∃ H1, H1 = hi + 1 := ⟨_, rfl⟩
  rw [← hH1] at hw e4
  have e5 : ∀ d, pauseD d now H1 hi = d := fun d => by unfold pauseD; rw [e4, if_pos rfl]
  have e6 : pauseE now H1 hi = 1 := by unfold pauseE; rw [e4, if_pos rfl]
  have Kd : ∀ d, Dkk d → Dkk (speedD d now b) := fun d h => speedD_dkk h
  have Kl : ∀ d, Dkk d → Dkk { d with mode := 0 } := fun d h => ⟨h.c, h.place, by show (0 : Nat) ≤ 2; omega⟩
  have Ks : Dkk (seekD d0 now lo hi time) := seekD_dkk d0_ok
  have CO := Lib.hid (fun w (h : TabZ w) => ofC b w hb h)
  unfold OfP at CO
  have CS := Lib.hid (fun w p q d (h : Dl w p q d) (hk : Dkk d) (hT : TabZ w) => speedB now b h hk hb hnow64 hT)
  rw [e3] at CS
  generalize ofN b = O at *
  have HT := Lib.hid hT
  have CP := Lib.hid (fun w p q (h : Dl w p q d0) => playBC now lo hi h d0_ok)
  have CQ := Lib.hid (fun w p q (h : Dl w p q d0) => pauseC now lo hi h d0_ok)
  have CK := Lib.hid (fun w p q (h : Dl w p q d0) => seekC now lo hi time h d0_ok)
  have CZ := Lib.hid (fun w p q d (h : Dl w p q d) (hk : Dkk d) => pauseC now H1 hi h hk)
  rw [e1.1, e1.2] at CP
  rw [hg, e2] at CQ
  rw [e6] at CZ
  have E5 := Lib.hid e5
  have G0 := Lib.hid g0
  have KD := Lib.hid Kd
  have KL := Lib.hid Kl
  clear hT hb hl hn hh he e1 hg e2 g0 e3 e4 e5 e6 hH1 hnow64 Kd Kl
  go_enter Tryd.func7, Tryd.ntmps7
  go_wp2_with fail
  refine (first w HT.out).mono ?_
  rintro e w1 ⟨rfl, hb1⟩
  go_wp2_with fail
  refine (newD w1).mono ?_
  rintro e w2 ⟨p1, q1, hp1, hq1, rfl, hA, hb2⟩
  go_wp2_with fail
  refine (newD w2).mono ?_
  rintro e w3 ⟨p2, q2, hp2, hq2, rfl, hB, hb3⟩
  have z1 := hb1.size
  have z2 := hA.lt
  have z3 := hA.2.lt
  have n1 : p2 ≠ p1 := by omega
  have n2 : p2 ≠ q1 := by omega
  have n3 : q2 ≠ p1 := by omega
  have n4 : q2 ≠ q1 := by omega
  have y1 : w.heap.size ≤ p1 := by omega
  have y2 : w.heap.size ≤ q1 := by omega
  have z4 := hb2.size
  have y3 : w.heap.size ≤ p2 := by omega
  have y4 : w.heap.size ≤ q2 := by omega
  replace hA := hA.then_ hb3
  have hW := below_next (below_next hb1 hb2) hb3
  clear hb1 hb2 hb3 hp1 hq1 hp2 hq2 z1 z2 z3 z4
  go_wp2_with fail
  refine (CP.out _ _ _ hA).mono ?_
  rintro e w4 ⟨rfl, hA4, hf⟩
  have hB4 := hB.other hf n1 n2 n3 n4
  have hW4 := hf.below hW y1 y2
  clear hA hB hW hf
  go_wp2_with fail
  refine (modeC hA4).mono ?_
  rintro e w5 ⟨rfl, rfl⟩
  go_wp2_with fail
  refine (CQ.out _ _ _ hA4).mono ?_
  rintro e w5 ⟨rfl, hA5, hf⟩
  have hB5 := hB4.other hf n1 n2 n3 n4
  have hW5 := hf.below hW4 y1 y2
  clear hA4 hB4 hW4 hf
  go_wp2_with fail
  refine (posC hA5).mono ?_
  rw [G0.out.2]
  rintro e w6 ⟨rfl, rfl⟩
  have u1 : ((hi : Int) != (hi : Int)) = false := by simp
  go_wp2_with fail
  refine (modeC hA5).mono ?_
  rw [G0.out.1]
  rintro e w6 ⟨rfl, rfl⟩
  clear hA5
  go_wp2_with fail
  refine (CK.out _ _ _ hB5).mono ?_
  have hm : ((hi : Int) < (time : Int) ∧ Hid (min time hi = hi)) ∨ (¬ (hi : Int) < (time : Int) ∧ Hid (min time hi = time)) := by
    by_cases hx : hi < time
    · exact .inl ⟨by omega, Lib.hid (by omega)⟩
    · exact .inr ⟨by omega, Lib.hid (by omega)⟩
  obtain ⟨d, hd⟩ : ∃ d, seekD d0 now lo hi time = d := ⟨_, rfl⟩
  rw [hd] at hcase Ks ⊢
  rcases hcase with ⟨hlt, hx, hy⟩ | ⟨hlt, hx, hy⟩
  · rw [hy]
    have l1 : decide ((time : Int) < (lo : Int)) = true := decide_eq_true (by omega)
    have l1' : decide (time < lo) = true := decide_eq_true hlt
    have hmode : d.mode = 0 := by rw [hx]; rfl
    have HMD := Lib.hid hmode
    have HKS := Lib.hid Ks
    clear hlt hx hy hd hm hmode Ks
    rintro e w7 ⟨rfl, hB7, hf⟩
    have hW7 := hf.below hW5 y3 y4
    clear hB5 hW5 hf
    go_wp2_with fail
    refine (modeC hB7).mono ?_
    rw [HMD.out]
    rintro e w8 ⟨rfl, rfl⟩
    go_wp2_with fail
    refine (CO.out _ (HT.out.then_ hW7)).mono ?_
    rintro e w9 ⟨rfl, hb9⟩
    have hB9 := hB7.then_ (hb9.alloc hb9.size (.cells #[.int .u64 (O.1 : Int), .int .u64 (O.2.1 : Int)] 30))
    have hW9 := below_next hW7 (hb9.alloc hb9.size (.cells #[.int .u64 (O.1 : Int), .int .u64 (O.2.1 : Int)] 30))
    clear hb9 hB7 hW7
    generalize hw9 : w9.alloc (.cells #[.int .u64 (O.1 : Int), .int .u64 (O.2.1 : Int)] 30) = w10 at *
    go_wp2_with fail
    refine (CS.out _ _ _ _ hB9 HKS.out (HT.out.then_ hW9)).mono ?_
    rintro e w11 ⟨rfl, hB11, hf⟩
    have hW11 := hf.below hW9 y3 y4
    have hK11 := KD.out _ HKS.out
    generalize speedD d now b = d2 at *
    clear hB9 hW9 hf hw9
    go_wp2_with fail
    refine (liveC (now : Int) hB11).mono ?_
    rintro e w12 ⟨rfl, hB12, hf⟩
    have hW12 := hf.below hW11 y3 y4
    have hK12 := KL.out _ hK11
    clear hB11 hW11 hf
    have u3 : (O.2.2 == O.2.2) = true := by simp
    go_wp2_with fail
    refine (first w12 (HT.out.then_ hW12)).mono ?_
    rintro e w13 ⟨rfl, hb13⟩
    have hB13 := hB12.then_ hb13
    have hW13 := below_next hW12 hb13
    clear hB12 hW12 hb13
    go_wp2_with fail
    refine (modeC hB13).mono ?_
    rintro e w14 ⟨rfl, rfl⟩
    go_wp2_with fail
    refine (CZ.out _ _ _ _ hB13 hK12).mono ?_
    rw [E5.out]
    rintro e w14 ⟨rfl, hB14, hf⟩
    have hW14 := hf.below hW13 y3 y4
    clear hB13 hW13 hf
    go_wp2_with fail
    refine (modeC hB14).mono ?_
    rintro e w15 ⟨rfl, rfl⟩
    go_wp2
    go_ret
    exact ⟨rfl, hW14⟩
  · rw [hy]
    have l1 : decide ((time : Int) < (lo : Int)) = false := decide_eq_false (by omega)
    have l1' : decide (time < lo) = false := decide_eq_false hlt
    have hmode : d.mode = 1 := by rw [hx]
    have hplace : d.place = min time hi := by rw [hx]; rfl
    have HMD := Lib.hid hmode
    have HPL := Lib.hid hplace
    have HKS := Lib.hid Ks
    clear hlt hx hy hd hmode hplace Ks
    rcases hm with ⟨hm, HMM⟩ | ⟨hm, HMM⟩
    all_goals
      rw [HMM.out] at HPL
      have u2 : ((time : Int) != (time : Int)) = false := by simp
      rintro e w7 ⟨rfl, hB7, hf⟩
      have hW7 := hf.below hW5 y3 y4
      clear hB5 hW5 hf
      go_wp2_with fail
      refine (posC hB7).mono ?_
      rw [HPL.out]
      rintro e w8 ⟨rfl, rfl⟩
      go_wp2_with fail
      refine (modeC hB7).mono ?_
      rw [HMD.out]
      rintro e w8 ⟨rfl, rfl⟩
      go_wp2_with fail
      refine (CO.out _ (HT.out.then_ hW7)).mono ?_
      rintro e w9 ⟨rfl, hb9⟩
      have hB9 := hB7.then_ (hb9.alloc hb9.size (.cells #[.int .u64 (O.1 : Int), .int .u64 (O.2.1 : Int)] 30))
      have hW9 := below_next hW7 (hb9.alloc hb9.size (.cells #[.int .u64 (O.1 : Int), .int .u64 (O.2.1 : Int)] 30))
      clear hb9 hB7 hW7
      generalize hw9 : w9.alloc (.cells #[.int .u64 (O.1 : Int), .int .u64 (O.2.1 : Int)] 30) = w10 at *
      go_wp2_with fail
      refine (CS.out _ _ _ _ hB9 HKS.out (HT.out.then_ hW9)).mono ?_
      rintro e w11 ⟨rfl, hB11, hf⟩
      have hW11 := hf.below hW9 y3 y4
      have hK11 := KD.out _ HKS.out
      generalize speedD d now b = d2 at *
      clear hB9 hW9 hf hw9
      go_wp2_with fail
      refine (liveC (now : Int) hB11).mono ?_
      rintro e w12 ⟨rfl, hB12, hf⟩
      have hW12 := hf.below hW11 y3 y4
      have hK12 := KL.out _ hK11
      clear hB11 hW11 hf
      have u3 : (O.2.2 == O.2.2) = true := by simp
      go_wp2_with fail
      refine (first w12 (HT.out.then_ hW12)).mono ?_
      rintro e w13 ⟨rfl, hb13⟩
      have hB13 := hB12.then_ hb13
      have hW13 := below_next hW12 hb13
      clear hB12 hW12 hb13
      go_wp2_with fail
      refine (modeC hB13).mono ?_
      rintro e w14 ⟨rfl, rfl⟩
      go_wp2_with fail
      refine (CZ.out _ _ _ _ hB13 hK12).mono ?_
      rw [E5.out]
      rintro e w14 ⟨rfl, hB14, hf⟩
      have hW14 := hf.below hW13 y3 y4
      clear hB13 hW13 hf
      go_wp2_with fail
      refine (modeC hB14).mono ?_
      rintro e w15 ⟨rfl, rfl⟩
      go_wp2
      go_ret
      exact ⟨rfl, hW14⟩
theorem walk (now lo hi time : Int) (b : Nat) (W : World) (w0 : (Lit.int .u64 now).wf = true) (w1 : (Lit.int .u64 lo).wf = true) (w2 : (Lit.int .u64 hi).wf = true) (w3 : (Lit.int .u64 time).wf = true) (w4 : (Lit.float .f64 b).wf = true) (hT : TabZ W) :
    Calls Tryd.prog 7 #[.int .u64 now, .int .u64 lo, .int .u64 hi, .int .u64 time, .float .f64 b] W fun e w' => e = .returned (.bool true) ∧ Below W.heap.size W w' := by
  obtain ⟨now, rfl⟩ := Int.eq_ofNat_of_zero_le (in64 w0).1
  obtain ⟨lo, rfl⟩ := Int.eq_ofNat_of_zero_le (in64 w1).1
  obtain ⟨hi, rfl⟩ := Int.eq_ofNat_of_zero_le (in64 w2).1
  obtain ⟨time, rfl⟩ := Int.eq_ofNat_of_zero_le (in64 w3).1
  by_cases h : lo ≤ hi ∧ now ≤ mx ∧ hi ≤ mx
  · exact main now lo hi time b W hT (inF w4) h.1 h.2.1 h.2.2
  · refine out now lo hi time b W hT _ _ _ rfl rfl rfl ?_
    simp only [Bool.or_eq_true, decide_eq_true_eq]
    rw [mx_eq] at h
    omega
theorem walkT (now lo hi time : Int) (b : Nat) (W : World) (w0 : (Lit.int .u64 now).wf = true) (w1 : (Lit.int .u64 lo).wf = true) (w2 : (Lit.int .u64 hi).wf = true) (w3 : (Lit.int .u64 time).wf = true) (w4 : (Lit.float .f64 b).wf = true) (hT : Lib.TabIs Tryd.prog W "math/bits.deBruijn64tab" .u8 [0, 1, 56, 2, 57, 49, 28, 3, 61, 58, 42, 50, 38, 29, 17, 4, 62, 47, 59, 36, 45, 43, 51, 22, 53, 39, 33, 30, 24, 18, 12, 5, 63, 55, 48, 27, 60, 41, 37, 16, 46, 35, 44, 21, 52, 32, 23, 11, 54, 26, 40, 15, 34, 20, 31, 10, 25, 14, 19, 9, 13, 8, 7, 6]) :
    Calls Tryd.prog 7 #[.int .u64 now, .int .u64 lo, .int .u64 hi, .int .u64 time, .float .f64 b] W fun e w' => e = .returned (.bool true) ∧ Below W.heap.size W w' :=
  walk now lo hi time b W w0 w1 w2 w3 w4 (DkTab.tabZ hT)
end Go.Proofs.YtkogmjbiedpbnaaDoor.AirW
