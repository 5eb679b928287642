/- Package utf: goOn, take, Write. -/
import Derived.Test.YtlhapnnepcnfbabUDec
set_option linter.unusedVariables false
namespace Go.Proofs.Ytlhapnnepcnfbab.UDec
open Go Go.RowKit Words UMath

theorem startC_ (p base : Nat) (v : Value) (xs : List Int) (c : Int) (w : World) (h : Dw w p d0) (hown : w.ownsRow base 21 1 v xs.length (cellsK .i32 xs)) (hb : base ≤ w.heap.size) (hx : xs.length ≤ 100000) (h0 : 0 ≤ c) (h1 : c ≤ 255) :
    Calls Try.prog 30 #[.pointer (some ⟨p, 0, none⟩), v, .int .u8 c] w (ApP w p base v xs (startD c).1 (startD c).2) := by
  by_cases a1 : c ≤ 127
  · exact start1 p base v xs c w h hown hb hx h0 a1
  by_cases a2 : c ≤ 193
  · exact startBad p base v xs c w h hown hb hx h0 h1 (.inl ⟨by omega, a2⟩)
  by_cases a3 : c ≤ 223
  · exact startB p base v xs c w h hown hb hx (by omega) a3
  by_cases a4 : c = 224
  · exact startC p base v xs c w h hown hb hx (by omega) (by omega)
  by_cases a5 : c = 237
  · exact startD_ p base v xs c w h hown hb hx (by omega) (by omega)
  by_cases a6 : c ≤ 239
  · exact startE p base v xs c w h hown hb hx (by omega) a6 a5
  by_cases a7 : c = 240
  · exact startF p base v xs c w h hown hb hx (by omega) (by omega)
  by_cases a8 : c ≤ 243
  · exact startG p base v xs c w h hown hb hx (by omega) a8
  by_cases a9 : c = 244
  · exact startH p base v xs c w h hown hb hx (by omega) (by omega)
  · exact startBad p base v xs c w h hown hb hx h0 h1 (.inr (by omega))
set_option maxRecDepth 100000 in
set_option maxHeartbeats 1000000 in
theorem goOnC (p base : Nat) (v : Value) (xs : List Int) (d : Dec) (c : Int) (w : World) (h : Dw w p d) (hown : w.ownsRow base 21 1 v xs.length (cellsK .i32 xs)) (hb : base ≤ w.heap.size) (hx : xs.length ≤ 100000) (hok : OkD d) (hd : 0 < d.h) (h0 : 0 ≤ c) (h1 : c ≤ 255) :
    Calls Try.prog 29 #[.pointer (some ⟨p, 0, none⟩), v, .int .u8 c] w (ApP w p base v xs (goOnD d c).1 (goOnD d c).2) := by
  obtain ⟨i0, hi, hz0, hz1, hz2⟩ := info_parts info21
  obtain ⟨⟨c0, c1, c2, c3, c4⟩, f0, f1, f2, f3, f4⟩ := h.five
  have hs : 0 ≤ d.s ∧ d.s < 131072 ∧ d.h ≤ 3 ∧ d.n ≤ 4 := by
    rcases hok with rfl | hok
    · exact absurd hd (by decide)
    · omega
  obtain ⟨s0, s1, s2, s3⟩ := hs
  have ha := UBits.and63 c h0 h1
  have ha0 : 0 ≤ c % 64 := by omega
  have ha1 : c % 64 < 64 := by omega
  have ho := UBits.or32 d.s (c % 64) s0 s1 ha0 ha1
  have hD1 : Dw ((((w.setCell ⟨p, 0, none⟩ (.int .i32 (d.s * 64 + c % 64))).setCell ⟨p, 1, none⟩ (.int .i64 (d.h + 1))).setCell ⟨p, 3, none⟩ (.int .u8 128)).setCell ⟨p, 4, none⟩ (.int .u8 191)) p ⟨d.s * 64 + c % 64, d.h + 1, d.n, 128, 191⟩ :=
    (((Blk.set_ h 0 (.int .i32 (d.s * 64 + c % 64))).set_ 1 (.int .i64 (d.h + 1))).set_ 3 (.int .u8 128)).set_ 4 (.int .u8 191)
  have hG1 : w.grownBy ((((w.setCell ⟨p, 0, none⟩ (.int .i32 (d.s * 64 + c % 64))).setCell ⟨p, 1, none⟩ (.int .i64 (d.h + 1))).setCell ⟨p, 3, none⟩ (.int .u8 128)).setCell ⟨p, 4, none⟩ (.int .u8 191)) (some p) :=
    grownBy_trans (grownBy_trans (grownBy_trans (grownBy_set w p 0 _) (grownBy_set _ p 1 _)) (grownBy_set _ p 3 _)) (grownBy_set _ p 4 _)
  have HD := Lib.hid hD1
  have HG := Lib.hid hG1
  clear hD1 hG1
  have hne := own_blk_ne hown h (by decide)
  have HO := Lib.hid hown
  go_enter Try.func29, Try.ntmps29
  go_wp2
  generalize ((((w.setCell ⟨p, 0, none⟩ (.int .i32 (d.s * 64 + c % 64))).setCell ⟨p, 1, none⟩ (.int .i64 (d.h + 1))).setCell ⟨p, 3, none⟩ (.int .u8 128)).setCell ⟨p, 4, none⟩ (.int .u8 191)) = w1 at *
  have hD1 : Dw w1 p ⟨d.s * 64 + c % 64, d.h + 1, d.n, 128, 191⟩ := HD.out
  clear c0 c1 c2 c3 c4 f0 f1 f2 f3 f4
  obtain ⟨⟨c0, c1, c2, c3, c4⟩, f0, f1, f2, f3, f4⟩ := hD1.five
  have hown1 : w1.ownsRow base 21 1 v xs.length (cellsK .i32 xs) := hown.kept HG.out (.inr hne)
  have hsz := HG.out.size
  by_cases hlt : d.h + 1 < d.n
  · have HX := Lib.hid (mid_go (c := c) hlt)
    go_quiet (fail)
    go_wp2
    go_ret
    rw [HX.out]
    exact apP_nil HO.out ⟨_, h⟩ (Blk.drewN hD1 _) (grownBy_drewN HG.out _)
  · have HX := Lib.hid (end_go (c := c) hlt)
    go_quiet (fail)
    go_wp2_with (at_builtin; refine wpList_append_own _ rfl _ _ 31 rfl base 21 i0 (.int .i32 0) 1 4 Try.underlying31 hi hz0 hz1 hz2 rfl (by decide) _ _ _ rfl (World.ownsRow.alloc (World.ownsRow.kept (w := w1.drewN _) hown1 (grown5 _ _ _ _ _ _ _) (.inr hne)) _) ⟨w1.heap.size, 0, none⟩ 1 1 [.int .i32 (d.s * 64 + c % 64)] rfl rfl (cell_one_at _ _ _ _ (by simp [World.setCell])) (fun x hx => by simp at hx; subst hx; rfl) (by unfold maxLen; omega) (by omega) (by simp [World.setCell]; omega) ?_; intro v2 w2 hown2 hgrow2 hnil2)
    go_ret
    rw [HX.out]
    have hg2 := grownBy_trans (grown_of_below (below_one _ _) _) hgrow2
    refine ⟨v2, rfl, ?_, ?_, ?_⟩
    · rw [List.length_append, ← cellsK_app]; exact hown2
    · exact Blk.grown (set5 (Blk.drewN hD1 _) 0 0 0 0 0) hg2 (fun e => hne e.symm)
    · exact (two_p HG.out).trans ((two_p (grownBy_trans (grownBy_drewN (grownBy_refl w1 _) _) (grown5 _ _ _ _ _ _ _))).trans (two_row hg2))
set_option maxRecDepth 100000 in
set_option maxHeartbeats 1000000 in
theorem takeC (p base : Nat) (v : Value) (xs : List Int) (d : Dec) (c : Int) (w : World) (h : Dw w p d) (hown : w.ownsRow base 21 1 v xs.length (cellsK .i32 xs)) (hb : base ≤ w.heap.size) (hx : xs.length ≤ 50000) (hok : OkD d) (h0 : 0 ≤ c) (h1 : c ≤ 255) :
    Calls Try.prog 21 #[.pointer (some ⟨p, 0, none⟩), v, .int .u8 c] w (ApP w p base v xs (takeD d c).1 (takeD d c).2) := by
  obtain ⟨i0, hi, hz0, hz1, hz2⟩ := info_parts info21
  obtain ⟨⟨c0, c1, c2, c3, c4⟩, f0, f1, f2, f3, f4⟩ := h.five
  have hh := ok_h hok
  have hh0 := hh.1
  have hfl : flushL d = [] ∨ flushL d = [65533] := by unfold flushL; split <;> simp
  by_cases hcase : 0 < d.h ∧ folB d c = true
  · have HX := Lib.hid (show takeD d c = goOnD d c by rw [takeD, if_pos hcase])
    obtain ⟨hd, hf⟩ := hcase
    have HF := Lib.hid hf
    clear hf
    go_enter Try.func21, Try.ntmps21
    go_wp2_with fail
    refine (folC p d c w h).mono ?_
    rw [HF.out]
    rintro e w1 ⟨rfl, rfl⟩
    go_wp2_with fail
    refine (goOnC p base v xs d c w h hown hb (by omega) hok hd h0 h1).mono ?_
    rintro e w1 ⟨v1, rfl, hq⟩
    go_wp2
    go_ret
    rw [HX.out]
    exact ⟨v1, rfl, hq⟩
  · have HX := Lib.hid (show takeD d c = (flushL d ++ (startD c).1, (startD c).2) by rw [takeD, if_neg hcase])
    have hstl := start_len c
    have hfl1 : (flushL d).length ≤ 1 := by rcases hfl with e | e <;> simp [e]
    have hne := own_blk_ne hown h (by decide)
    have HC : (d.h = 0) ∨ (0 < d.h ∧ Hid (folB d c = false)) := by
      by_cases e : d.h = 0
      · exact .inl e
      · refine .inr ⟨by omega, ?_⟩
        cases hf : folB d c
        · exact Lib.hid rfl
        · exact absurd ⟨by omega, hf⟩ hcase
    clear hcase
    have HFL := Lib.hid (flushC p d w h hok)
    rcases HC with hd | ⟨hd, HF⟩
    · have hd' : ¬ (0 < d.h) := by omega
      rw [hd] at c1
      go_enter Try.func21, Try.ntmps21
      go_wp2_with fail
      refine HFL.out.mono ?_
      rintro e w1 ⟨v1, rfl, hd1, hg1, ho1⟩
      have hs1 := hg1.size
      go_wp2_with fail
      refine (startC_ p w.heap.size v1 (flushL d) c w1 hd1 ho1 hs1 (by omega) h0 h1).mono ?_
      rintro e w2 ⟨v2, rfl, ho2, hd2, ht2⟩
      have hne1 : v.ownBlock = none ∨ v.ownBlock ≠ v1.ownBlock := by
        cases hv : v.ownBlock with
        | none => exact .inl rfl
        | some j =>
          refine .inr fun e => ?_
          have h1 := (hown.lt j hv).2
          have h2 := (ho1.lt j e.symm).1
          omega
      have how : w2.ownsRow base 21 1 v xs.length (cellsK .i32 xs) := own_two (hown.kept hg1 (.inr hne)) ht2 hne hne1
      have hT : Two w w2 p v.ownBlock := (two_p hg1).new ht2 (fun j hj => (ho1.lt j hj).1)
      have hs2 := hT.size
      have hll : (flushL d ++ (startD c).1).length ≤ 2 := by simp; omega
      generalize flushL d ++ (startD c).1 = O at *
      rcases own_form ho2 with ⟨hv2, hnl⟩ | ⟨g2, cap2, rfl, hr2, _, _⟩
      · have HN := Lib.hid hnl
        have HV := Lib.hid hv2
        clear hnl hv2
        go_wp2_with (at_builtin; refine wpList_append_own_none rfl _ _ 31 rfl base 21 i0 1 Try.underlying31 hi _ _ _ rfl how HV.out ?_)
        go_ret
        rw [HX.out]
        show ApP w p base v xs O (startD c).2 _ _
        rw [HN.out]
        exact ⟨v, rfl, by rw [List.append_nil]; exact how, hd2, hT⟩
      · go_wp2_with (at_builtin; refine wpList_append_own _ rfl _ _ 31 rfl base 21 i0 (.int .i32 0) 1 4 Try.underlying31 hi hz0 hz1 hz2 rfl (by decide) _ _ _ rfl how ⟨g2, 0, none⟩ O.length cap2 (cellsK .i32 O) rfl (by simp [cellsK]) hr2.cells cellsK_one (by unfold maxLen; omega) (by omega) (by omega) ?_; intro v3 w3 hown3 hgrow3 hnil3)
        go_ret
        rw [HX.out]
        refine ⟨v3, rfl, ?_, ?_, hT.trans (two_row hgrow3)⟩
        · rw [List.length_append, ← cellsK_app]; exact hown3
        · exact Blk.grown hd2 hgrow3 (fun e => hne e.symm)
    · go_enter Try.func21, Try.ntmps21
      go_wp2_with fail
      refine (folC p d c w h).mono ?_
      rw [HF.out]
      rintro e w1 ⟨rfl, rfl⟩
      go_wp2_with fail
      refine HFL.out.mono ?_
      rintro e w1 ⟨v1, rfl, hd1, hg1, ho1⟩
      have hs1 := hg1.size
      go_wp2_with fail
      refine (startC_ p w.heap.size v1 (flushL d) c w1 hd1 ho1 hs1 (by omega) h0 h1).mono ?_
      rintro e w2 ⟨v2, rfl, ho2, hd2, ht2⟩
      have hne1 : v.ownBlock = none ∨ v.ownBlock ≠ v1.ownBlock := by
        cases hv : v.ownBlock with
        | none => exact .inl rfl
        | some j =>
          refine .inr fun e => ?_
          have h1 := (hown.lt j hv).2
          have h2 := (ho1.lt j e.symm).1
          omega
      have how : w2.ownsRow base 21 1 v xs.length (cellsK .i32 xs) := own_two (hown.kept hg1 (.inr hne)) ht2 hne hne1
      have hT : Two w w2 p v.ownBlock := (two_p hg1).new ht2 (fun j hj => (ho1.lt j hj).1)
      have hs2 := hT.size
      have hll : (flushL d ++ (startD c).1).length ≤ 2 := by simp; omega
      generalize flushL d ++ (startD c).1 = O at *
      rcases own_form ho2 with ⟨hv2, hnl⟩ | ⟨g2, cap2, rfl, hr2, _, _⟩
      · have HN := Lib.hid hnl
        have HV := Lib.hid hv2
        clear hnl hv2
        go_wp2_with (at_builtin; refine wpList_append_own_none rfl _ _ 31 rfl base 21 i0 1 Try.underlying31 hi _ _ _ rfl how HV.out ?_)
        go_ret
        rw [HX.out]
        show ApP w p base v xs O (startD c).2 _ _
        rw [HN.out]
        exact ⟨v, rfl, by rw [List.append_nil]; exact how, hd2, hT⟩
      · go_wp2_with (at_builtin; refine wpList_append_own _ rfl _ _ 31 rfl base 21 i0 (.int .i32 0) 1 4 Try.underlying31 hi hz0 hz1 hz2 rfl (by decide) _ _ _ rfl how ⟨g2, 0, none⟩ O.length cap2 (cellsK .i32 O) rfl (by simp [cellsK]) hr2.cells cellsK_one (by unfold maxLen; omega) (by omega) (by omega) ?_; intro v3 w3 hown3 hgrow3 hnil3)
        go_ret
        rw [HX.out]
        refine ⟨v3, rfl, ?_, ?_, hT.trans (two_row hgrow3)⟩
        · rw [List.length_append, ← cellsK_app]; exact hown3
        · exact Blk.grown hd2 hgrow3 (fun e => hne e.symm)
end Go.Proofs.Ytlhapnnepcnfbab.UDec
