/- tiklaw23.DeckForward: the walk. -/
import Derived.Test.YtkogmjbiedpbnaaDoorFm
import Derived.Test.YtkogmjbiedpbnaaDoorStandsW
import Derived.LoopTactic
set_option linter.unusedVariables false
namespace Go.Proofs.YtkogmjbiedpbnaaDoor.ForwW
open Go Go.RowKit Kit Nums Rate0 Scale Scale2 CkMath CkC CkD CkE CkN OfA OfB Dk Dk2 Dk3 Dk4 AirW Rm Fm

set_option maxRecDepth 100000 in
set_option maxHeartbeats 4000000 in
theorem out (now lo hi x : Nat) (y : Nat) (a : Option Addr) (len cap : Nat) (w : World) (hT : TabZ w) (hlm : len ≤ 9223372036854775807) (b0 b1 b2 b3 b4 : Bool) (h0 : decide ((200 : Int) < (len : Int)) = b0) (h1 : decide ((hi : Int) < (lo : Int)) = b1) (h2 : decide ((1152921504606846976 : Int) < (hi : Int)) = b2) (h3 : decide ((1152921504606846976 : Int) < (now : Int)) = b3)
    (h4 : decide ((x : Int) < (lo : Int)) = b4) (hall : (b0 || b1 || b2 || b3 || b4) = true) :
    Calls Tryd.prog 4 #[.int .u64 (now : Int), .int .u64 (lo : Int), .int .u64 (hi : Int), .int .u64 (x : Int), .float .f64 y, .slice a len cap] w (OutP w) := by
  have h1' : decide (hi < lo) = b1 := by rw [← h1]; exact decide_eq_decide.2 (by omega)
  have h4' : decide (x < lo) = b4 := by rw [← h4]; exact decide_eq_decide.2 (by omega)
  have HT := Lib.hid hT
  have HF : Hid (∀ W, TabZ W → Calls Tryd.prog 8 #[] W fun e w' => e = .returned (.bool true) ∧ Below W.heap.size W w') := Lib.hid (fun W h => first W h)
  clear hT
  have hc : b0 = true ∨ (b0 = false ∧ b1 = true) ∨ (b0 = false ∧ b1 = false ∧ b2 = true) ∨ (b0 = false ∧ b1 = false ∧ b2 = false ∧ b3 = true) ∨ (b0 = false ∧ b1 = false ∧ b2 = false ∧ b3 = false ∧ b4 = true) := by
    revert hall; cases b0 <;> cases b1 <;> cases b2 <;> cases b3 <;> cases b4 <;> decide
  rcases hc with rfl | ⟨rfl, rfl⟩ | ⟨rfl, rfl, rfl⟩ | ⟨rfl, rfl, rfl, rfl⟩ | ⟨rfl, rfl, rfl, rfl, rfl⟩
  all_goals
    clear hall
    go_enter Tryd.func4, Tryd.ntmps4
    go_wp2_with fail
    refine (HF.out _ HT.out).mono ?_
    rintro e w1 ⟨rfl, hb1⟩
    go_wp2_with fail
    refine (newD w1).mono ?_
    rintro e w2 ⟨p, q, hp, hq, rfl, hD, hb2⟩
    clear hD
    have hb3 := below_next hb1 hb2
    clear hb1 hb2
    go_wp2_with fail
    refine (HF.out _ (HT.out.then_ hb3)).mono ?_
    rintro e w3 ⟨rfl, hb4⟩
    go_wp2
    go_ret
    exact ⟨rfl, below_next hb3 hb4⟩
set_option maxRecDepth 100000 in
set_option maxHeartbeats 8000000 in
theorem main (now lo hi x : Nat) (y : Nat) (a : Option Addr) (len cap : Nat) (zs : List Int) (w : World) (hT : TabZ w) (hy : In64 y) (hr : IsRow .u64 w a len cap zs) (hl : len ≤ 200) (h1 : lo ≤ hi) (h2 : hi ≤ 1152921504606846976) (h3 : now ≤ 1152921504606846976) (h4 : lo ≤ x) :
    Calls Tryd.prog 4 #[.int .u64 (now : Int), .int .u64 (lo : Int), .int .u64 (hi : Int), .int .u64 (x : Int), .float .f64 y, .slice a len cap] w (OutP w) := by
  have b0 : decide ((200 : Int) < (len : Int)) = false := decide_eq_false (by omega)
  have b1 : decide ((hi : Int) < (lo : Int)) = false := decide_eq_false (by omega)
  have b1' : decide (hi < lo) = false := decide_eq_false (by omega)
  have b2 : decide ((1152921504606846976 : Int) < (hi : Int)) = false := decide_eq_false (by omega)
  have b3 : decide ((1152921504606846976 : Int) < (now : Int)) = false := decide_eq_false (by omega)
  have b4 : decide ((x : Int) < (lo : Int)) = false := decide_eq_false (by omega)
  have b4' : decide (x < lo) = false := decide_eq_false (by omega)
  obtain ⟨D1, D2, n, d, s1, s2, s3, s4, s5, s6, s7, s8, K1, K2, K3, hO⟩ := Fm.start (now := now) (lo := lo) (hi := hi) (x := x) (y := y) h1 (by rw [mx_eq]; omega) (by rw [mx_eq]; omega) h4
  have CS := Lib.hid (fun w p q (h : Dl w p q d0) (hT : TabZ w) => speedB now y h d0_ok hy (by omega) hT)
  rw [s1, s2] at CS
  have CO := Lib.hid (fun w (h : TabZ w) => ofC y w hy h)
  unfold OfP at CO
  have CK := Lib.hid (fun w p q (h : Dl w p q D1) => seekC now lo hi x h K1)
  rw [s3, s4] at CK
  have CB := Lib.hid (fun w p q (h : Dl w p q D2) => playBC now lo hi h K2)
  rw [s7, s8] at CB
  generalize ofN y = O at *
  have HF : Hid (∀ W, TabZ W → Calls Tryd.prog 8 #[] W fun e w' => e = .returned (.bool true) ∧ Below W.heap.size W w') := Lib.hid (fun W h => first W h)
  have hmin : ((hi : Int) < (x : Int) ∧ (((min x hi : Nat) : Int) != (hi : Int)) = false) ∨ (¬ (hi : Int) < (x : Int) ∧ (((min x hi : Nat) : Int) != (x : Int)) = false) := by
    by_cases hx : hi < x
    · exact .inl ⟨by omega, by rw [show min x hi = hi by omega]; simp⟩
    · exact .inr ⟨by omega, by rw [show min x hi = x by omega]; simp⟩
  obtain ⟨X0, hX0⟩ : ∃ X0, min x hi = X0 := ⟨_, rfl⟩
  have hX1 : lo ≤ X0 ∧ X0 ≤ hi := by omega
  rw [hX0] at CB hmin K3 s6
  have HX1 := Lib.hid hX1
  have HM2 := Lib.hid s5
  have HP2 := Lib.hid s6
  have HK3 := Lib.hid K3
  have HT := Lib.hid hT
  have HROW := Lib.hid (StandsW.row_at hr)
  have HB := Lib.hid (And.intro hl (And.intro h1 (And.intro h2 h3)))
  have u0 : (O.2.2 != O.2.2) = false := by simp
  have hlen : len ≤ 9223372036854775807 := by omega
  clear hT hy hr hl h1 h2 h3 h4 s1 s2 s3 s4 s5 s6 s7 s8 K1 K2 K3 hX0 hX1
  go_enter Tryd.func4, Tryd.ntmps4
  go_wp2_with fail
  refine (HF.out _ HT.out).mono ?_
  rintro e w1 ⟨rfl, hb1⟩
  go_wp2_with fail
  refine (newD w1).mono ?_
  rintro e w2 ⟨p, q, hp, hq, rfl, hD, hb2⟩
  have z1 := hb1.size
  have yp : w.heap.size ≤ p := by omega
  have yq : w.heap.size ≤ q := by omega
  have hW2 := below_next hb1 hb2
  clear hb1 hb2 hp hq z1
  go_wp2_with fail
  refine (CS.out _ _ _ hD (HT.out.then_ hW2)).mono ?_
  rintro e w3 ⟨rfl, hD3, hf⟩
  have hW3 := hf.below hW2 yp yq
  clear hD hW2 hf
  go_wp2_with fail
  refine (CO.out _ (HT.out.then_ hW3)).mono ?_
  rintro e w4 ⟨rfl, hb4⟩
  have hal := hb4.alloc hb4.size (.cells #[.int .u64 (O.1 : Int), .int .u64 (O.2.1 : Int)] 30)
  have hW5 := below_next hW3 hal
  have hD5 := hD3.then_ hal
  have hX5 := Bx.new w4 O.1 O.2.1
  have yB : w.heap.size ≤ w4.heap.size := Nat.le_trans hW3.size hb4.size
  clear hb4 hW3 hD3 hal
  generalize hw4 : w4.alloc (.cells #[.int .u64 (O.1 : Int), .int .u64 (O.2.1 : Int)] 30) = w5 at *
  generalize hB : w4.heap.size = B at *
  go_wp2_with fail
  refine (CK.out _ _ _ hD5).mono ?_
  rintro e w6 ⟨rfl, hD6, hf⟩
  have hX6 := hX5.fr hD5 hf
  have hW6 := hf.below hW5 yp yq
  clear hD5 hX5 hW5 hf hw4 hB
  go_wp2_with fail
  refine (modeC hD6).mono ?_
  rw [HM2.out]
  rintro e w7 ⟨rfl, rfl⟩
  have u1 : ((X0 : Int) != (X0 : Int)) = false := by simp
  have u2 : ((x : Int) != (x : Int)) = false := by simp
  have u3 : ((hi : Int) != (hi : Int)) = false := by simp
  rcases hmin with ⟨hmin, hmn⟩ | ⟨hmin, hmn⟩
  all_goals
    go_wp2_with fail
    refine (posC hD6).mono ?_
    rw [HP2.out]
    rintro e w7 ⟨rfl, rfl⟩
    go_wp2_with fail
    refine (CB.out _ _ _ hD6).mono ?_
    rintro e w8 ⟨rfl, hD8, hf⟩
    have hX8 := hX6.fr hD6 hf
    have hW8 := hf.below hW6 yp yq
    clear hD6 hX6 hW6 hf
    go_wp2_with fail
    refine (modeC hD8).mono ?_
    rintro e w9 ⟨rfl, rfl⟩
    clear hmin hmn
    rcases hO with ⟨e0, e1, e2⟩ | ⟨e0, e1, e2⟩
    all_goals
      first
        | (have v0 : (O.2.2 != 0) = false := by rw [e0]; rfl
           rw [e1, e2] at hX8
           clear e0 e1 e2
           have hX9 := hX8
           have hD9 := hD8
           have hW9 := hW8
           clear hX8 hD8 hW8
           go_wp2_with fail
           refine (posC hD9).mono ?_)
        | (have v0 : (O.2.2 != 0) = true := by rw [bne_iff_ne]; exact e0
           have c0 := hX8.c0
           have c1 := hX8.c1
           have f0 := Bx.fz hX8 0
           have f1 := Bx.fz hX8 1
           have hX9 : Bx (ones w8 B) B n d := by rw [e1, e2]; exact ones_bx hX8
           have hD9 := ones_dl hD8 hX8
           have hW9 := ones_below hW8 yB
           clear e0 e1 e2 hX8 hD8 hW8
           obtain ⟨w9, hw9⟩ : ∃ w9, ones w8 B = w9 := ⟨_, rfl⟩
           rw [hw9] at hX9 hD9 hW9
           unfold ones at hw9
           go_wp2_with fail
           clear c0 c1 f0 f1 hw9
           refine (posC hD9).mono ?_)
      rintro e w10 ⟨rfl, rfl⟩
      clear v0
      go_wp2
      go_loopw [17, 18, 19] (fun s17 s18 s19 wr => ∃ (i t X r : Nat), i ≤ len ∧ s17 = .int .u64 (t : Int) ∧ s18 = .int .u64 (X : Int) ∧ s19 = .int .i64 (i : Int) ∧ Dkk ⟨2, X, ⟨t, X, r, n, d⟩⟩ ∧ Dl wr p q ⟨2, X, ⟨t, X, r, n, d⟩⟩ ∧ Bx wr B n d ∧ Below w.heap.size w wr ∧ lo ≤ X ∧ X ≤ hi ∧ t ≤ now + i * 1073741824) (fun _ _ s19 _ => len - (intOf s19).toNat)
      case atStart => exact ⟨0, now, X0, 0, Nat.zero_le _, rfl, rfl, rfl, HK3.out, hD9, hX9, hW9, HX1.out.1, HX1.out.2, by omega⟩
      case round =>
        clear hX9 hD9 hW9 HK3
        obtain ⟨i, t, X, r, hi', rfl, rfl, rfl, hk, hD, hX, hW, l1, l2, l3⟩ := hrel
        by_cases hlt : i < len
        · obtain ⟨sb, so, z, rfl, hcell, hz⟩ := HROW.out i hlt
          have hcr : wr.cell? ⟨sb, so + i, none⟩ = some (.int .u64 (z : Int)) := cell_then hW (Nat.le_refl _) hcell
          clear hcell
          by_cases hbig : 1073741824 < z
          · have bz : decide ((1073741824 : Int) < (z : Int)) = true := decide_eq_true (by omega)
            have bz' : decide (1073741824 < z) = true := decide_eq_true hbig
            clear hk hD hX l1 l2 l3 hbig hz
            go_wp2_with fail
            refine (HF.out _ (HT.out.then_ hW)).mono ?_
            rintro e w11 ⟨rfl, hb⟩
            go_wp2
            go_ret
            exact ⟨rfl, below_next hW hb⟩
          · have bz : decide ((1073741824 : Int) < (z : Int)) = false := decide_eq_false (by omega)
            have bz' : decide (1073741824 < z) = false := decide_eq_false hbig
            obtain ⟨T, hTT⟩ : ∃ T, T = t + z := ⟨_, rfl⟩
            have hBB := HB.out
            have hT1 : T ≤ now + (i + 1) * 1073741824 := by omega
            have hT2 : T ≤ mx := by rw [mx_eq]; omega
            have wT : IntKind.u64.wrap ((t : Int) + (z : Int)) = (T : Int) := by rw [IntKind.wrap_u64]; rw [mx_eq] at hT2; omega
            have TF := tickF (lo := lo) (hi := hi) hk (show t ≤ T by omega) hT2 l1 hBB.2.1 (by rw [mx_eq]; omega)
            have HC := Lib.hid (tickC T lo hi hD hk)
            have K6 : Dkk (tickD ⟨2, X, ⟨t, X, r, n, d⟩⟩ T lo hi) := tickD_dkk hk
            generalize tickD ⟨2, X, ⟨t, X, r, n, d⟩⟩ T lo hi = D6 at *
            have HT1 := Lib.hid hT1
            clear hk hTT hBB hT2 hbig hz hT1 l3
            rcases TF with ⟨Y, s, y1, y2, rfl⟩ | ⟨hm, hpl⟩
            · have v1 : decide ((Y : Int) < (X : Int)) = false := decide_eq_false (by omega)
              have v1' : decide (Y < X) = false := decide_eq_false (by omega)
              have v2 : decide ((hi : Int) < (Y : Int)) = false := decide_eq_false (by omega)
              have v2' : decide (hi < Y) = false := decide_eq_false (by omega)
              have v3 : ((Y : Int) == (hi : Int)) = false := by rw [beq_eq_false_iff_ne]; omega
              have v3' : (Y == hi) = false := by rw [beq_eq_false_iff_ne]; omega
              have HL := Lib.hid (show lo ≤ Y ∧ Y ≤ hi by omega)
              have HK6 := Lib.hid K6
              clear K6 y1 y2 l1 l2
              go_wp2_with fail
              refine HC.out.mono ?_
              rintro e w11 ⟨rfl, hD11, hf⟩
              have hX11 := hX.fr hD hf
              have hW11 := hf.below hW yp yq
              clear hf hD hX hW hcr
              repeat
                go_wp2_with fail
                first
                  | (refine (posC hD11).mono ?_; rintro e w12 ⟨rfl, rfl⟩)
                  | (refine (modeC hD11).mono ?_; rintro e w12 ⟨rfl, rfl⟩)
              go_wp2
              go_roundw
              case rel => exact ⟨i + 1, T, Y, s, by omega, rfl, rfl, by go_num, HK6.out, hD11, hX11, hW11, HL.out.1, HL.out.2, HT1.out⟩
              case measure => simp [intOf]; omega
            · have v1 : decide ((hi : Int) < (X : Int)) = false := decide_eq_false (by omega)
              have v1' : decide (hi < X) = false := decide_eq_false (by omega)
              have HM6 := Lib.hid hm
              have HP6 := Lib.hid hpl
              clear hm hpl K6 l1 l2
              go_wp2_with fail
              refine HC.out.mono ?_
              rintro e w11 ⟨rfl, hD11, hf⟩
              have hW11 := hf.below hW yp yq
              clear hf hD hX hW hcr
              repeat
                go_wp2_with fail
                first
                  | (refine (posC hD11).mono ?_; rw [HP6.out]; rintro e w12 ⟨rfl, rfl⟩)
                  | (refine (modeC hD11).mono ?_; rw [HM6.out]; rintro e w12 ⟨rfl, rfl⟩)
              go_wp2_with fail
              refine (HF.out _ (HT.out.then_ hW11)).mono ?_
              rintro e w12 ⟨rfl, hb⟩
              go_wp2
              go_ret
              exact ⟨rfl, below_next hW11 hb⟩
        · obtain rfl : i = len := by omega
          have c0 := hX.c0
          have hBB := HB.out
          by_cases hn : n = 0
          · have bn : ((n : Int) == 0) = true := by rw [hn]; rfl
            have bn' : (n == 0) = true := by rw [hn]; rfl
            clear hk hX l1 l2 l3 hn hBB
            go_wp2_with fail
            refine (HF.out _ (HT.out.then_ hW)).mono ?_
            rintro e w11 ⟨rfl, hb⟩
            go_wp2
            go_ret
            exact ⟨rfl, below_next hW hb⟩
          · have bn : ((n : Int) == 0) = false := by rw [beq_eq_false_iff_ne]; omega
            have bn' : (n == 0) = false := by rw [beq_eq_false_iff_ne]; omega
            obtain ⟨Z, hZ⟩ : ∃ Z, Z = hi - X := ⟨_, rfl⟩
            have wZ : IntKind.u64.wrap ((hi : Int) - (X : Int)) = (Z : Int) := by rw [IntKind.wrap_u64]; omega
            by_cases hbig : 1073741824 < Z
            · have bz : decide ((1073741824 : Int) < (Z : Int)) = true := decide_eq_true (by omega)
              have bz' : decide (1073741824 < Z) = true := decide_eq_true hbig
              clear hk hX l1 l2 l3 hn hBB hZ hbig
              go_wp2_with fail
              refine (HF.out _ (HT.out.then_ hW)).mono ?_
              rintro e w11 ⟨rfl, hb⟩
              go_wp2
              go_ret
              exact ⟨rfl, below_next hW hb⟩
            · have bz : decide ((1073741824 : Int) < (Z : Int)) = false := decide_eq_false (by omega)
              have bz' : decide (1073741824 < Z) = false := decide_eq_false hbig
              obtain ⟨Y, hY⟩ : ∃ Y, Y = Z + 1 := ⟨_, rfl⟩
              obtain ⟨V, hV⟩ : ∃ V, V = Y * 1048576 := ⟨_, rfl⟩
              obtain ⟨T, hTT⟩ : ∃ T, T = t + V := ⟨_, rfl⟩
              have wY : IntKind.u64.wrap ((Z : Int) + 1) = (Y : Int) := by rw [IntKind.wrap_u64]; omega
              have wV : IntKind.u64.wrap ((Y : Int) * 1048576) = (V : Int) := by rw [IntKind.wrap_u64]; omega
              have wT : IntKind.u64.wrap ((t : Int) + (V : Int)) = (T : Int) := by rw [IntKind.wrap_u64]; omega
              have hT2 : T ≤ mx := by rw [mx_eq]; omega
              have TF := lastF (lo := lo) (hi := hi) (T := T) hk (by omega) hT2 l1 l2 (by rw [mx_eq]; omega) hn
              have HC := Lib.hid (tickC T lo hi hD hk)
              generalize tickD ⟨2, X, ⟨t, X, r, n, d⟩⟩ T lo hi = D6 at *
              have HM6 := Lib.hid TF.1
              have HP6 := Lib.hid TF.2
              clear hk hX l1 l2 l3 hn hBB hZ hbig hY hV hTT hT2 TF
              go_wp2_with fail
              refine HC.out.mono ?_
              rintro e w11 ⟨rfl, hD11, hf⟩
              have hW11 := hf.below hW yp yq
              clear hf hD hW c0
              go_wp2_with fail
              refine (HF.out _ (HT.out.then_ hW11)).mono ?_
              rintro e w12 ⟨rfl, hb⟩
              have hD12 := hD11.then_ hb
              repeat
                go_wp2_with fail
                first
                  | (refine (posC hD12).mono ?_; rw [HP6.out]; rintro e w12 ⟨rfl, rfl⟩)
                  | (refine (modeC hD12).mono ?_; rw [HM6.out]; rintro e w12 ⟨rfl, rfl⟩)
              go_wp2
              go_ret
              exact ⟨rfl, below_next hW11 hb⟩
theorem walkT (now lo hi x : Int) (y : Nat) (a : Option Addr) (len cap : Nat) (zs : List Int) (W : World) (w0 : (Lit.int .u64 now).wf = true) (w1 : (Lit.int .u64 lo).wf = true) (w2 : (Lit.int .u64 hi).wf = true) (w3 : (Lit.int .u64 x).wf = true) (w4 : (Lit.float .f64 y).wf = true) (hr : IsRow .u64 W a len cap zs)
    (hT : Lib.TabIs Tryd.prog W "math/bits.deBruijn64tab" .u8 [0, 1, 56, 2, 57, 49, 28, 3, 61, 58, 42, 50, 38, 29, 17, 4, 62, 47, 59, 36, 45, 43, 51, 22, 53, 39, 33, 30, 24, 18, 12, 5, 63, 55, 48, 27, 60, 41, 37, 16, 46, 35, 44, 21, 52, 32, 23, 11, 54, 26, 40, 15, 34, 20, 31, 10, 25, 14, 19, 9, 13, 8, 7, 6]) :
    Calls Tryd.prog 4 #[.int .u64 now, .int .u64 lo, .int .u64 hi, .int .u64 x, .float .f64 y, .slice a len cap] W fun e w' => e = .returned (.bool true) ∧ Below W.heap.size W w' := by
  have hT' := DkTab.tabZ hT
  obtain ⟨now, rfl⟩ := Int.eq_ofNat_of_zero_le (AirW.in64 w0).1
  obtain ⟨lo, rfl⟩ := Int.eq_ofNat_of_zero_le (AirW.in64 w1).1
  obtain ⟨hi, rfl⟩ := Int.eq_ofNat_of_zero_le (AirW.in64 w2).1
  obtain ⟨x, rfl⟩ := Int.eq_ofNat_of_zero_le (AirW.in64 w3).1
  by_cases h : len ≤ 200 ∧ lo ≤ hi ∧ hi ≤ 1152921504606846976 ∧ now ≤ 1152921504606846976 ∧ lo ≤ x
  · exact main now lo hi x y a len cap zs W hT' (inF w4) hr h.1 h.2.1 h.2.2.1 h.2.2.2.1 h.2.2.2.2
  · refine out now lo hi x y a len cap W hT' (StandsW.row_len hr) _ _ _ _ _ rfl rfl rfl rfl rfl ?_
    simp only [Bool.or_eq_true, decide_eq_true_eq]
    omega
end Go.Proofs.YtkogmjbiedpbnaaDoor.ForwW
