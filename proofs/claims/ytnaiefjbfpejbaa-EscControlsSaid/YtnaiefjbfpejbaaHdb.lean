/- A control that is written: the walk. -/
import Derived.Test.YtnaiefjbfpejbaaHd
set_option linter.unusedVariables false
namespace Go.Proofs.Ytnaiefjbfpejbaa.Hdb
open Go Go.RowKit Kit Ep Eb Er Ea Es Et Eu Ev Ek Ew Ex Ey Ez Fa Fb Fc Fd Ga Gb Gc Gd Ha Hb Hc Hd


set_option maxRecDepth 100000 in
set_option maxHeartbeats 16000000 in
theorem main (a : Option Addr) (cap : Nat) (ps : List Int) (pv it fi : Int) (w : World) (hn : ps.length ≤ 16) (hpv : pv = 0) (hit : 32 ≤ it ∧ it ≤ 47) (hf1 : 64 ≤ fi) (hf2 : fi ≤ 126) (hA : Ints.Ints w a ps) (hrg : ∀ x ∈ ps, x < 9223372036854775808) :
    Calls Try.prog 5 #[.slice a ps.length cap, .int .i32 pv, .int .i32 it, .int .i32 fi] w (Fd.OutP w) := by
  have HA := Lib.hid hA
  have HRG := Lib.hid hrg
  have HNN := Lib.hid hn
  have HPV := Lib.hid (show pv = 0 ∨ 60 ≤ pv ∧ pv ≤ 63 from .inl hpv)
  have HIT := Lib.hid (show it = 0 ∨ 32 ≤ it ∧ it ≤ 47 from .inr hit)
  have HF12 := Lib.hid (And.intro hf1 hf2)
  have d0 : decide ((16 : Int) < (ps.length : Int)) = false := decide_eq_false (by omega)
  have HBW := Lib.hid (Below.refl w.heap.size w)
  have HK0 := Lib.hid (bg_ok 0 0)
  have HST0 : Hid ((0 : Int) = ((bg 0).st : Int)) := Lib.hid rfl
  clear hA hrg
  subst hpv
  have q1 := hit.1
  have q2 := hit.2
  have HT0 : Hid (¬ it = 0) := Lib.hid (by omega)
  have z0 : (it == 0) = false := by rw [beq_eq_false_iff_ne]; omega
  have z1 : (it != 0) = true := by rw [bne, z0]; rfl
  clear hit
  go_enter Try.func5, Try.ntmps5
  go_wp2_with (first
    | (go_at_call 7; (with_reducible refine (first8 w).mono ?_); rintro e w1 ⟨rfl, bq⟩; have HB1 := Lib.hid (below_then HBW.out bq HBW.out.size); clear bq)
    | (go_at_call 8; (with_reducible refine (newC w1).mono ?_); rintro e w2 ⟨rfl, hw2⟩; have HN := Lib.hid (new_pr w1); have HG := Lib.hid HB1.out.size; have HZ2 := Lib.hid (show w1.heap.size < (w1.alloc (.cells #[.int .i64 0, .bool false, .int .i32 0, .int .i32 0, .slice none 0 0, .int .i64 0, .slice none 0 0] 49)).heap.size by simp); rw [hw2] at HN HZ2; have HB2 := Lib.hid (HB1.out.alloc HB1.out.size (.cells #[.int .i64 0, .bool false, .int .i32 0, .int .i32 0, .slice none 0 0, .int .i64 0, .slice none 0 0] 49)); rw [hw2] at HB2; clear hw2; have HTW0 := Lib.hid (tw_start w2); obtain ⟨L0, hL0⟩ : ∃ z, z = ([27, 91] : List Int) := ⟨_, rfl⟩; have HL0 := Lib.hid hL0; have HTS := Lib.hid (show Tw w2 (w2.alloc (.cells #[.int .i32 27, .int .i32 91] 21)) (.slice (some ⟨w2.heap.size, 0, none⟩) L0.length 2) L0 (.slice none 0 0) [] by rw [hL0]; exact tw_start w2); have hl2 : L0.length = 2 := (by rw [hL0]; rfl); clear hL0))
  have HL03 : Hid (L0.length ≤ 3) := Lib.hid (by rw [hl2]; decide)
  go_loopw [10, 11, 12] (fun s10 s11 s12 wr => ∃ (i : Nat) (L : List Int) (la : Option Addr) (lc : Nat) (wa : Option Addr) (wc : Nat), i ≤ ps.length ∧ s10 = .slice la L.length lc ∧ s11 = .slice wa i wc ∧ s12 = .int .i64 (i : Int) ∧ L = L0 ++ bodyN ps i ∧ Tw w2 wr s10 L s11 (wantN ps i)) (fun _ _ s12 _ => ps.length - (intOf s12).toNat)
  case atStart => exact ⟨0, L0, some ⟨w2.heap.size, 0, none⟩, 2, none, 0, Nat.zero_le _, by rw [hl2], rfl, rfl, by rw [bodyN, List.append_nil], by have h := HTS.out; rw [hl2] at h; exact h⟩
  case round =>
    obtain ⟨i, L, la, lc, wa, wc, hi, rfl, rfl, rfl, hLe, hTr⟩ := hrel
    have HTr := Lib.hid hTr
    have HLE := Lib.hid hLe
    have HLS : Hid (L.length ≤ 400) := Lib.hid (by
      rw [hLe, List.length_append]
      have h1 := body_len HRG.out i hi
      have h2 := HL03.out
      omega)
    have HLL : Hid (L.length ≤ 9000) := Lib.hid (Nat.le_trans HLS.out (by decide))
    have HML : Hid ((wantN ps i).length ≤ 9000) := Lib.hid (by rw [wantN_len]; omega)
    clear hTr hLe
    by_cases hlt : i < ps.length
    · obtain ⟨x, hx⟩ : ∃ x, x = ps.getD i 0 := ⟨_, rfl⟩
      have hxm : ps[i] = x := by rw [hx, List.getD_eq_getElem?_getD, List.getElem?_eq_getElem hlt]; rfl
      have HXD := Lib.hid hx
      have HXB : Hid (x < 9223372036854775808) := Lib.hid (by rw [← hxm]; exact HRG.out _ (List.getElem_mem hlt))
      rcases HA.out with h0 | ⟨ab, ao, rfl, hc⟩
      · rw [h0] at hlt; exact absurd hlt (Nat.not_lt_zero _)
      have HCX : Hid (∀ W : World, Below w2.heap.size w2 W → W.cell? ⟨ab, ao + i, none⟩ = some (.int .i64 x)) := Lib.hid (fun W hW => by
        rw [← hxm]
        exact cell_then (below_then HB2.out hW HB2.out.size) (Nat.le_refl _) (hc i hlt))
      have cx := HCX.out _ (Tw.b HTr.out)
      have hiI : (i : Int) < (ps.length : Int) := by omega
      clear hx hxm hc
      by_cases hneg : x < 0
      · have HNEG := Lib.hid hneg
        by_cases hi0 : i = 0
        · have HI0 := Lib.hid hi0
          have hz0 : ¬ (0 : Int) < (i : Int) := by omega
          have hz1 : ¬ 0 < i := by omega
          clear hi0
          go_wp2_with (at_builtin; (refine app_m rfl _ _ rfl w2 (.slice la L.length lc) (.slice wa i wc) L (wantN ps i) (-1) rfl (Tw.alloc HTr.out (.cells #[.int .i64 (-1)] 3)) wr.heap.size rfl (lit_cell wr 3 _) HML.out ?_; intro v6 w6 o6; obtain ⟨M6, hM6⟩ : ∃ z, z = (wantN ps i) ++ [(-1 : Int)] := ⟨_, rfl⟩; rw [← hM6] at o6; have HM6 := Lib.hid hM6; obtain ⟨wa6, wc6, rfl⟩ := own_slice o6.m; have HT6 := Lib.hid o6; clear o6 hM6))
          have hm6 : M6.length = i + 1 := by rw [HM6.out, List.length_append, wantN_len]; rfl
          refine ⟨⟨i + 1, L, la, lc, wa6, wc6, hlt, rfl, by rw [hm6], rfl, ?_, ?_⟩, by show ps.length - ((i : Int) + 1).toNat < ps.length - (i : Int).toNat; omega⟩
          · rw [bodyN, ← HXD.out, if_pos HNEG.out, List.append_nil, if_neg (by have := HI0.out; omega), List.append_nil]
            exact HLE.out
          · have e : wantN ps (i + 1) = M6 := by rw [HM6.out, wantN, ← HXD.out, if_pos HNEG.out]
            rw [e]
            have h := HT6.out
            exact h
        · have hi1 : 0 < i := Nat.pos_of_ne_zero hi0
          clear hi0
          go_wp2_with (first
            | (at_builtin; (refine app_l rfl _ _ rfl w2 (.slice la L.length lc) (.slice wa i wc) L (wantN ps i) 59 rfl (Tw.alloc HTr.out (.cells #[.int .i32 59] 21)) (wr.heap.size) rfl (lit_cell wr 21 _) HLL.out ?_; intro v4 w4 o4; obtain ⟨L4, hL4⟩ : ∃ z, z = L ++ [59] := ⟨_, rfl⟩; rw [← hL4] at o4; have HL4 := Lib.hid hL4; obtain ⟨la4, lc4, rfl⟩ := own_slice o4.l; have HT4 := Lib.hid o4; clear cx; have cx := HCX.out _ (Tw.b HT4.out); clear o4 hL4))
            | (at_builtin; (refine app_m rfl _ _ rfl w2 (.slice la4 L4.length lc4) (.slice wa i wc) L4 (wantN ps i) (-1) rfl (Tw.alloc HT4.out (.cells #[.int .i64 (-1)] 3)) w4.heap.size rfl (lit_cell w4 3 _) HML.out ?_; intro v6 w6 o6; obtain ⟨M6, hM6⟩ : ∃ z, z = (wantN ps i) ++ [(-1 : Int)] := ⟨_, rfl⟩; rw [← hM6] at o6; have HM6 := Lib.hid hM6; obtain ⟨wa6, wc6, rfl⟩ := own_slice o6.m; have HT6 := Lib.hid o6; clear o6 hM6)))
          have hm6 : M6.length = i + 1 := by rw [HM6.out, List.length_append, wantN_len]; rfl
          refine ⟨⟨i + 1, L4, la4, lc4, wa6, wc6, hlt, rfl, by rw [hm6], rfl, ?_, ?_⟩, by show ps.length - ((i : Int) + 1).toNat < ps.length - (i : Int).toNat; omega⟩
          · rw [bodyN, ← HXD.out, if_pos HNEG.out, List.append_nil, if_pos (by omega)]
            rw [HL4.out, HLE.out, List.append_assoc]
          · have e : wantN ps (i + 1) = M6 := by rw [HM6.out, wantN, ← HXD.out, if_pos HNEG.out]
            rw [e]
            have h := HT6.out
            exact h
      · have HNEG := Lib.hid hneg
        have hx0 : 0 ≤ x := by omega
        have hxm : x % 18446744073709551616 = x := by have := HXB.out; omega
        have HXN : Hid (x = ((x.toNat : Nat) : Int)) := Lib.hid (by omega)
        have HX64 : Hid (x.toNat < 18446744073709551616) := Lib.hid (by have := HXB.out; omega)
        by_cases hi0 : i = 0
        · have HI0 := Lib.hid hi0
          have hz0 : ¬ (0 : Int) < (i : Int) := by omega
          have hz1 : ¬ 0 < i := by omega
          clear hi0
          go_wp2_with (go_at_call 15; (with_reducible refine (decK x x.toNat HXN.out HX64.out wr).mono ?_); rintro e w5 ⟨rfl, bq⟩; have HT5 := Lib.hid (Tw.below HTr.out bq); clear cx; have cx := HCX.out _ (Tw.b HT5.out); clear bq)
          obtain ⟨D, hD⟩ : ∃ D, D = decL x.toNat := ⟨_, rfl⟩
          have HDD : Hid (∀ r ∈ D, 48 ≤ r ∧ r ≤ 57) := Lib.hid (by rw [hD]; exact decL_dig _)
          have HDL : Hid (D.length ≤ 20) := Lib.hid (by rw [hD]; exact decL_20 HXB.out)
          have HD := Lib.hid hD
          rw [← hD]
          have hsz : (strOfNums D).size = D.length := strOfNums_size D
          have HLL5 : Hid (L.length ≤ 8000) := Lib.hid (by exact Nat.le_trans HLS.out (by omega))
          clear hD
          go_wp2_with fail
          go_loopw [10, 14] (fun s10 s14 wq => ∃ (k : Nat) (L7 : List Int) (la7 : Option Addr) (lc7 : Nat), k ≤ D.length ∧ s14 = .int .i64 (k : Int) ∧ s10 = .slice la7 L7.length lc7 ∧ L7 = L ++ D.take k ∧ Tw w2 wq s10 L7 (.slice wa i wc) (wantN ps i)) (fun _ s14 _ => D.length - (intOf s14).toNat)
          case atStart => exact ⟨0, L, la, lc, Nat.zero_le _, rfl, rfl, by simp, HT5.out⟩
          case round =>
            obtain ⟨k, L7, la7, lc7, hk, rfl, rfl, hL7, hT7⟩ := hrel
            have HT7 := Lib.hid hT7
            have HL7 := Lib.hid hL7
            have hLL7 : L7.length ≤ 9000 := by rw [hL7, List.length_append, List.length_take]; have := HLL5.out; have := HDL.out; omega
            have HLL7 := Lib.hid hLL7
            clear hT7 hL7 hLL7
            by_cases hkl : k < D.length
            · obtain ⟨r, hr⟩ : ∃ r, r = D[k] := ⟨_, rfl⟩
              have hidx := dec_index D HDD.out k hkl wr
              rw [← hr] at hidx
              have hrb := HDD.out _ (List.getElem_mem hkl)
              rw [← hr] at hrb
              have hr1 := hrb.1
              have hr2 := hrb.2
              have HR := Lib.hid hr
              have hkI : (k : Int) < (D.length : Int) := by omega
              have hDl := HDL.out
              clear hr hrb cx
              go_wp2_with (at_builtin; (refine app_l rfl _ _ rfl w2 (.slice la7 L7.length lc7) (.slice wa i wc) L7 (wantN ps i) r rfl (Tw.alloc HT7.out (.cells #[.int .i32 r] 21)) wr.heap.size rfl (lit_cell wr 21 _) HLL7.out ?_; intro v8 w8 o8; obtain ⟨L8, hL8⟩ : ∃ z, z = L7 ++ [r] := ⟨_, rfl⟩; rw [← hL8] at o8; have HL8 := Lib.hid hL8; obtain ⟨la8, lc8, rfl⟩ := own_slice o8.l; have HT8 := Lib.hid o8; clear o8 hL8))
              exact ⟨⟨k + 1, L8, la8, lc8, hkl, rfl, rfl, by rw [HL8.out, HL7.out, HR.out, take_succ hkl, List.append_assoc], HT8.out⟩, by show D.length - ((k : Int) + 1).toNat < D.length - (k : Int).toNat; omega⟩
            · have hke : k = D.length := Nat.le_antisymm hk (Nat.not_lt.1 hkl)
              subst hke
              have HL9 : Hid (L7 = L ++ D) := Lib.hid (by have h := HL7.out; rw [List.take_length] at h; exact h)
              have cy := HCX.out _ (Tw.b HT7.out)
              clear hk hkl cx
              go_wp2_with (at_builtin; (refine app_m rfl _ _ rfl w2 (.slice la7 L7.length lc7) (.slice wa i wc) L7 (wantN ps i) (min x 9999) rfl (Tw.alloc HT7.out (.cells #[.int .i64 (min x 9999)] 3)) wr.heap.size rfl (lit_cell wr 3 _) HML.out ?_; intro v6 w6 o6; obtain ⟨M6, hM6⟩ : ∃ z, z = (wantN ps i) ++ [min x 9999] := ⟨_, rfl⟩; rw [← hM6] at o6; have HM6 := Lib.hid hM6; obtain ⟨wa6, wc6, rfl⟩ := own_slice o6.m; have HT6 := Lib.hid o6; clear o6 hM6))
              have hm6 : M6.length = i + 1 := by rw [HM6.out, List.length_append, wantN_len]; rfl
              refine ⟨⟨i + 1, L7, la7, lc7, wa6, wc6, hlt, rfl, by rw [hm6], rfl, ?_, ?_⟩, by show ps.length - ((i : Int) + 1).toNat < ps.length - (i : Int).toNat; omega⟩
              · rw [bodyN, ← HXD.out, if_neg (show ¬ x < 0 by have := HNEG.out; omega), if_neg (by have := HI0.out; omega), List.append_nil, ← HD.out, HL9.out]
                rw [HLE.out, List.append_assoc]
              · have e : wantN ps (i + 1) = M6 := by rw [HM6.out, wantN, ← HXD.out, if_neg (show ¬ x < 0 by have := HNEG.out; omega)]
                rw [e]
                have h := HT6.out
                exact h
        · have hi1 : 0 < i := Nat.pos_of_ne_zero hi0
          clear hi0
          go_wp2_with (first
            | (at_builtin; (refine app_l rfl _ _ rfl w2 (.slice la L.length lc) (.slice wa i wc) L (wantN ps i) 59 rfl (Tw.alloc HTr.out (.cells #[.int .i32 59] 21)) (wr.heap.size) rfl (lit_cell wr 21 _) HLL.out ?_; intro v4 w4 o4; obtain ⟨L4, hL4⟩ : ∃ z, z = L ++ [59] := ⟨_, rfl⟩; rw [← hL4] at o4; have HL4 := Lib.hid hL4; obtain ⟨la4, lc4, rfl⟩ := own_slice o4.l; have HT4 := Lib.hid o4; clear cx; have cx := HCX.out _ (Tw.b HT4.out); clear o4 hL4))
            | (go_at_call 15; (with_reducible refine (decK x x.toNat HXN.out HX64.out w4).mono ?_); rintro e w5 ⟨rfl, bq⟩; have HT5 := Lib.hid (Tw.below HT4.out bq); clear cx; have cx := HCX.out _ (Tw.b HT5.out); clear bq))
          obtain ⟨D, hD⟩ : ∃ D, D = decL x.toNat := ⟨_, rfl⟩
          have HDD : Hid (∀ r ∈ D, 48 ≤ r ∧ r ≤ 57) := Lib.hid (by rw [hD]; exact decL_dig _)
          have HDL : Hid (D.length ≤ 20) := Lib.hid (by rw [hD]; exact decL_20 HXB.out)
          have HD := Lib.hid hD
          rw [← hD]
          have hsz : (strOfNums D).size = D.length := strOfNums_size D
          have HLL5 : Hid (L4.length ≤ 8000) := Lib.hid (by have := HLS.out; rw [HL4.out, List.length_append]; simp; omega)
          clear hD
          go_wp2_with fail
          go_loopw [10, 14] (fun s10 s14 wq => ∃ (k : Nat) (L7 : List Int) (la7 : Option Addr) (lc7 : Nat), k ≤ D.length ∧ s14 = .int .i64 (k : Int) ∧ s10 = .slice la7 L7.length lc7 ∧ L7 = L4 ++ D.take k ∧ Tw w2 wq s10 L7 (.slice wa i wc) (wantN ps i)) (fun _ s14 _ => D.length - (intOf s14).toNat)
          case atStart => exact ⟨0, L4, la4, lc4, Nat.zero_le _, rfl, rfl, by simp, HT5.out⟩
          case round =>
            obtain ⟨k, L7, la7, lc7, hk, rfl, rfl, hL7, hT7⟩ := hrel
            have HT7 := Lib.hid hT7
            have HL7 := Lib.hid hL7
            have hLL7 : L7.length ≤ 9000 := by rw [hL7, List.length_append, List.length_take]; have := HLL5.out; have := HDL.out; omega
            have HLL7 := Lib.hid hLL7
            clear hT7 hL7 hLL7
            by_cases hkl : k < D.length
            · obtain ⟨r, hr⟩ : ∃ r, r = D[k] := ⟨_, rfl⟩
              have hidx := dec_index D HDD.out k hkl wr
              rw [← hr] at hidx
              have hrb := HDD.out _ (List.getElem_mem hkl)
              rw [← hr] at hrb
              have hr1 := hrb.1
              have hr2 := hrb.2
              have HR := Lib.hid hr
              have hkI : (k : Int) < (D.length : Int) := by omega
              have hDl := HDL.out
              clear hr hrb cx
              go_wp2_with (at_builtin; (refine app_l rfl _ _ rfl w2 (.slice la7 L7.length lc7) (.slice wa i wc) L7 (wantN ps i) r rfl (Tw.alloc HT7.out (.cells #[.int .i32 r] 21)) wr.heap.size rfl (lit_cell wr 21 _) HLL7.out ?_; intro v8 w8 o8; obtain ⟨L8, hL8⟩ : ∃ z, z = L7 ++ [r] := ⟨_, rfl⟩; rw [← hL8] at o8; have HL8 := Lib.hid hL8; obtain ⟨la8, lc8, rfl⟩ := own_slice o8.l; have HT8 := Lib.hid o8; clear o8 hL8))
              exact ⟨⟨k + 1, L8, la8, lc8, hkl, rfl, rfl, by rw [HL8.out, HL7.out, HR.out, take_succ hkl, List.append_assoc], HT8.out⟩, by show D.length - ((k : Int) + 1).toNat < D.length - (k : Int).toNat; omega⟩
            · have hke : k = D.length := Nat.le_antisymm hk (Nat.not_lt.1 hkl)
              subst hke
              have HL9 : Hid (L7 = L4 ++ D) := Lib.hid (by have h := HL7.out; rw [List.take_length] at h; exact h)
              have cy := HCX.out _ (Tw.b HT7.out)
              clear hk hkl cx
              go_wp2_with (at_builtin; (refine app_m rfl _ _ rfl w2 (.slice la7 L7.length lc7) (.slice wa i wc) L7 (wantN ps i) (min x 9999) rfl (Tw.alloc HT7.out (.cells #[.int .i64 (min x 9999)] 3)) wr.heap.size rfl (lit_cell wr 3 _) HML.out ?_; intro v6 w6 o6; obtain ⟨M6, hM6⟩ : ∃ z, z = (wantN ps i) ++ [min x 9999] := ⟨_, rfl⟩; rw [← hM6] at o6; have HM6 := Lib.hid hM6; obtain ⟨wa6, wc6, rfl⟩ := own_slice o6.m; have HT6 := Lib.hid o6; clear o6 hM6))
              have hm6 : M6.length = i + 1 := by rw [HM6.out, List.length_append, wantN_len]; rfl
              refine ⟨⟨i + 1, L7, la7, lc7, wa6, wc6, hlt, rfl, by rw [hm6], rfl, ?_, ?_⟩, by show ps.length - ((i : Int) + 1).toNat < ps.length - (i : Int).toNat; omega⟩
              · rw [bodyN, ← HXD.out, if_neg (show ¬ x < 0 by have := HNEG.out; omega), if_pos (by omega), ← HD.out, HL9.out]
                rw [HL4.out, HLE.out]; simp only [List.append_assoc]
              · have e : wantN ps (i + 1) = M6 := by rw [HM6.out, wantN, ← HXD.out, if_neg (show ¬ x < 0 by have := HNEG.out; omega)]
                rw [e]
                have h := HT6.out
                exact h
    · have hie : i = ps.length := Nat.le_antisymm hi (Nat.not_lt.1 hlt)
      subst hie
      clear hi hlt
      obtain ⟨PA, hPA⟩ : ∃ z, z = paN ps ps.length := ⟨_, rfl⟩
      have HPA := Lib.hid hPA
      have HNP := Lib.hid HN.out
      have HIE : Hid (PA.length ≤ 100000) := Lib.hid (by
        rw [hPA, paN]
        split
        · simp
        · rw [wantN_len]; have := HNN.out; omega)
      have HBr := Lib.hid (below_then HB2.out (Tw.b HTr.out) HB2.out.size)
      by_cases h1 : ps.length = 1
      · by_cases hneg : ps.getD 0 0 < 0
        · have hlen : ((ps.length : Int) == 1) = true := by rw [beq_iff_eq]; omega
          have HM1 : Hid (wantN ps ps.length = [-1]) := Lib.hid (by rw [h1, wantN, wantN, if_pos hneg]; rfl)
          have hpos : 0 < ps.length := by omega
          obtain ⟨gw, cw, hww⟩ := own_some (Tw.m HTr.out) (by rw [wantN_len]; exact hpos)
          have hwa : wa = some ⟨gw, 0, none⟩ := by injection hww
          subst hwa
          have cw0 : wr.cell? ⟨gw, 0, none⟩ = some (.int .i64 (-1)) := by
            have hm := Tw.m HTr.out
            rw [show (.slice (some ⟨gw, 0, none⟩) ps.length wc : Value) = .slice (some ⟨gw, 0, none⟩) (wantN ps ps.length).length wc by rw [wantN_len]] at hm
            rw [hm.cellAt 0 (by rw [wantN_len]; omega), HM1.out]; rfl
          have hlI : (0 : Int) < (ps.length : Int) := by omega
          clear hww hpos
          have HPE : Hid (PA = []) := Lib.hid (by rw [hPA, paN, if_pos ⟨h1, hneg⟩])
          have HTE := Lib.hid (show Tw w2 wr (.slice la L.length lc) L (.slice none 0 0) PA by rw [HPE.out]; exact ⟨(Tw.l HTr.out), World.ownsRow_nil _ _ _ _, Tw.fl HTr.out, (fun k hk => by cases hk), Tw.b HTr.out⟩)
          have HPL : Hid (0 = PA.length) := Lib.hid (by rw [HPE.out]; rfl)
          clear hPA h1 hneg
          go_wp2_with (first
            | (at_builtin; (refine app_l rfl _ _ rfl w2 (.slice la L.length lc) (.slice none 0 0) L PA it rfl (Tw.alloc HTE.out (.cells #[.int .i32 it] 21)) (wr.heap.size) rfl (lit_cell wr 21 _) HLL.out ?_; intro v8 w8 o8; obtain ⟨L8, hL8⟩ : ∃ z, z = L ++ [it] := ⟨_, rfl⟩; rw [← hL8] at o8; have HL8 := Lib.hid hL8; obtain ⟨la8, lc8, rfl⟩ := own_slice o8.l; have HT8 := Lib.hid o8; have HLL8 : Hid (L8.length ≤ 9000) := Lib.hid (by rw [HL8.out, List.length_append]; have := HLS.out; simp; omega); clear o8 hL8))
            | (at_builtin; (refine app_l rfl _ _ rfl w2 (.slice la8 L8.length lc8) (.slice none 0 0) L8 PA fi rfl (Tw.alloc HT8.out (.cells #[.int .i32 fi] 21)) (w8.heap.size) rfl (lit_cell w8 21 _) HLL8.out ?_; intro v9 w9 o9; obtain ⟨L9, hL9⟩ : ∃ z, z = L8 ++ [fi] := ⟨_, rfl⟩; rw [← hL9] at o9; have HL9' := Lib.hid hL9; obtain ⟨la9, lc9, rfl⟩ := own_slice o9.l; have HT9 := Lib.hid o9; have HLN9 : Hid (L9.length ≤ 10000) := Lib.hid (by rw [HL9'.out, List.length_append]; have := HLL8.out; simp; omega); have HP9 := Lib.hid (HN.out.then_ (Tw.b HT9.out) (Nat.le_refl _)); have HM9 : Hid (0 + L9.length ≤ 1000000) := Lib.hid (by have := HLN9.out; omega); have HL50 : Hid (L9.length ≤ 50000) := Lib.hid (by have := HLN9.out; omega); have HFD := Lib.hid (show feedM (bg 0) L9 = (bg 0, [⟨4, 0, paN ps ps.length, 0, it, fi, ⟨#[]⟩⟩]) from by have h := fc01 ps it fi HNN.out HIT.out HT0.out HF12.out; rw [HL9'.out, HL8.out, HLE.out, HL0.out]; exact h); have HF1 := Lib.hid (congrArg Prod.fst HFD.out); have HF2 := Lib.hid (congrArg Prod.snd HFD.out); obtain ⟨la9', lc9', hrl, lr9, _⟩ := row_lrow (Tw.l HT9.out); have hla : la9' = la9 := (by injection hrl with h _ _; exact h.symm); subst hla; have HLR9 := Lib.hid lr9; have HFR9 := Lib.hid (show ∀ b off, L9 ≠ [] → la9' = some ⟨b, off, none⟩ → b ≠ w1.heap.size ∧ (Value.slice none 0 0).ownBlock ≠ some b ∧ (Value.slice none 0 0).ownBlock ≠ some b from fun b off _ e => by have h := Tw.fl HT9.out b (by rw [e]; rfl); refine ⟨?_, (fun e => by cases e), (fun e => by cases e)⟩; have := HZ2.out; omega); have HB9 := Lib.hid (below_then HB2.out (Tw.b HT9.out) HB2.out.size); clear lr9 hrl; clear o9 hL9))
            | (go_at_call 11; (with_reducible refine (feedC la9' L9.length lc9 L9 w1.heap.size (.slice none 0 0) (.slice none 0 0) (bg 0) 0 w9 rfl HP9.out HK0.out HM9.out HL50.out HLR9.out HFR9.out).mono ?_); rintro e w10 hf; obtain ⟨vz, xz, qz, vg, cg, rfl, hs, hI, hq, _, _⟩ := feedP_of hf HF1.out HF2.out; obtain ⟨q, rfl, hE⟩ := one_ev hq; obtain ⟨g9, c9, hVV⟩ := own_some7 hI.1 (Nat.zero_lt_succ _); have hva : vg = some ⟨g9, 0, none⟩ := (by injection hVV); subst hva; have HS10 := Lib.hid hs; have HB10 := Lib.hid (st_below HB9.out hs HG.out); have HE10 := Lib.hid (show Ints.Ints w10 q.a PA by have h := ev_ints hI q (List.mem_singleton.2 rfl); rw [hE] at h; rw [HPA.out]; exact h); have HW10 := Lib.hid (own_ints (own_stand hs.2.1 HP9.out.row (Tw.m HT9.out) (by decide)) HPL.out); obtain ⟨e0, e1, e2, e3, e4, e5, e6⟩ := ev_at hI (Below.refl _ _) 0 (Nat.zero_lt_succ _); simp only [List.getElem_cons_zero, hE] at e0 e1 e2 e3 e4 e5 e6; rw [← HPA.out] at e2; clear hf hs hI hq hVV hE)
            | (go_at_call 7; (with_reducible refine (first8 w10).mono ?_); rintro e w11 ⟨rfl, bq⟩; have HB11 := Lib.hid (below_then HB10.out bq HB10.out.size); have HS11 := Lib.hid (StP.below HS10.out bq); have HE11 := Lib.hid (Ints.ints_then bq (Nat.le_refl _) HE10.out); have HW11 := Lib.hid (Ints.ints_then bq (Nat.le_refl _) HW10.out); have f0 := cell_then bq (Nat.le_refl _) e0; have f1 := cell_then bq (Nat.le_refl _) e1; have f2 := cell_then bq (Nat.le_refl _) e2; have f3 := cell_then bq (Nat.le_refl _) e3; have f4 := cell_then bq (Nat.le_refl _) e4; have f5 := cell_then bq (Nat.le_refl _) e5; have f6 := cell_then bq (Nat.le_refl _) e6; clear e0 e1 e2 e3 e4 e5 e6 bq)
            | (go_at_call 16; (with_reducible refine (intsS q.a none PA.length 0 q.c 0 PA _ rfl HPL.out HIE.out HE11.out HW11.out).mono ?_); rintro e w12 ⟨rfl, n12, h12⟩; have s12 := StP.drewN HS11.out n12; rw [h12] at s12; have HS12 := Lib.hid s12; have b12 := Kit.below_drewN HB11.out n12; rw [h12] at b12; have HB12 := Lib.hid b12; have k1 := past_drewN n12 f1; rw [h12] at k1; have k6 := past_drewN n12 f6; rw [h12] at k6; clear s12 b12; clear f0 f1 f2 f3 f4 f5 f6 h12)
            | (go_at_call 13; (with_reducible refine (stateK 0 w1.heap.size vz xz (bg 0) w12 (StP.pr HS12.out) HST0.out).mono ?_); rintro e w' ⟨rfl, rfl⟩))
          go_ret
          exact ⟨rfl, HB12.out⟩
        · have hlen : ((ps.length : Int) == 1) = true := by rw [beq_iff_eq]; omega
          have HM1 : Hid (wantN ps ps.length = [min (ps.getD 0 0) 9999]) := Lib.hid (by rw [h1, wantN, wantN, if_neg hneg]; rfl)
          have hpos : 0 < ps.length := by omega
          obtain ⟨gw, cw, hww⟩ := own_some (Tw.m HTr.out) (by rw [wantN_len]; exact hpos)
          have hwa : wa = some ⟨gw, 0, none⟩ := by injection hww
          subst hwa
          have cw0 : wr.cell? ⟨gw, 0, none⟩ = some (.int .i64 (min (ps.getD 0 0) 9999)) := by
            have hm := Tw.m HTr.out
            rw [show (.slice (some ⟨gw, 0, none⟩) ps.length wc : Value) = .slice (some ⟨gw, 0, none⟩) (wantN ps ps.length).length wc by rw [wantN_len]] at hm
            rw [hm.cellAt 0 (by rw [wantN_len]; omega), HM1.out]; rfl
          obtain ⟨y, hy⟩ : ∃ y, y = min (ps.getD 0 0) 9999 := ⟨_, rfl⟩
          rw [← hy] at cw0
          have hyn : (y == -1) = false := by rw [beq_eq_false_iff_ne]; omega
          have hlI : (0 : Int) < (ps.length : Int) := by omega
          clear hy
          clear hww hpos
          have HPE : Hid (PA = wantN ps ps.length) := Lib.hid (by rw [hPA, paN, if_neg (fun hh => hneg hh.2)])
          have HTE := Lib.hid (show Tw w2 wr (.slice la L.length lc) L (.slice (some ⟨gw, 0, none⟩) ps.length wc) PA by rw [HPE.out]; exact HTr.out)
          have HPL : Hid (ps.length = PA.length) := Lib.hid (by rw [HPE.out, wantN_len])
          clear hPA h1 hneg
          go_wp2_with (first
            | (at_builtin; (refine app_l rfl _ _ rfl w2 (.slice la L.length lc) (.slice (some ⟨gw, 0, none⟩) ps.length wc) L PA it rfl (Tw.alloc HTE.out (.cells #[.int .i32 it] 21)) (wr.heap.size) rfl (lit_cell wr 21 _) HLL.out ?_; intro v8 w8 o8; obtain ⟨L8, hL8⟩ : ∃ z, z = L ++ [it] := ⟨_, rfl⟩; rw [← hL8] at o8; have HL8 := Lib.hid hL8; obtain ⟨la8, lc8, rfl⟩ := own_slice o8.l; have HT8 := Lib.hid o8; have HLL8 : Hid (L8.length ≤ 9000) := Lib.hid (by rw [HL8.out, List.length_append]; have := HLS.out; simp; omega); clear o8 hL8))
            | (at_builtin; (refine app_l rfl _ _ rfl w2 (.slice la8 L8.length lc8) (.slice (some ⟨gw, 0, none⟩) ps.length wc) L8 PA fi rfl (Tw.alloc HT8.out (.cells #[.int .i32 fi] 21)) (w8.heap.size) rfl (lit_cell w8 21 _) HLL8.out ?_; intro v9 w9 o9; obtain ⟨L9, hL9⟩ : ∃ z, z = L8 ++ [fi] := ⟨_, rfl⟩; rw [← hL9] at o9; have HL9' := Lib.hid hL9; obtain ⟨la9, lc9, rfl⟩ := own_slice o9.l; have HT9 := Lib.hid o9; have HLN9 : Hid (L9.length ≤ 10000) := Lib.hid (by rw [HL9'.out, List.length_append]; have := HLL8.out; simp; omega); have HP9 := Lib.hid (HN.out.then_ (Tw.b HT9.out) (Nat.le_refl _)); have HM9 : Hid (0 + L9.length ≤ 1000000) := Lib.hid (by have := HLN9.out; omega); have HL50 : Hid (L9.length ≤ 50000) := Lib.hid (by have := HLN9.out; omega); have HFD := Lib.hid (show feedM (bg 0) L9 = (bg 0, [⟨4, 0, paN ps ps.length, 0, it, fi, ⟨#[]⟩⟩]) from by have h := fc01 ps it fi HNN.out HIT.out HT0.out HF12.out; rw [HL9'.out, HL8.out, HLE.out, HL0.out]; exact h); have HF1 := Lib.hid (congrArg Prod.fst HFD.out); have HF2 := Lib.hid (congrArg Prod.snd HFD.out); obtain ⟨la9', lc9', hrl, lr9, _⟩ := row_lrow (Tw.l HT9.out); have hla : la9' = la9 := (by injection hrl with h _ _; exact h.symm); subst hla; have HLR9 := Lib.hid lr9; have HFR9 := Lib.hid (show ∀ b off, L9 ≠ [] → la9' = some ⟨b, off, none⟩ → b ≠ w1.heap.size ∧ (Value.slice none 0 0).ownBlock ≠ some b ∧ (Value.slice none 0 0).ownBlock ≠ some b from fun b off _ e => by have h := Tw.fl HT9.out b (by rw [e]; rfl); refine ⟨?_, (fun e => by cases e), (fun e => by cases e)⟩; have := HZ2.out; omega); have HB9 := Lib.hid (below_then HB2.out (Tw.b HT9.out) HB2.out.size); clear lr9 hrl; clear o9 hL9))
            | (go_at_call 11; (with_reducible refine (feedC la9' L9.length lc9 L9 w1.heap.size (.slice none 0 0) (.slice none 0 0) (bg 0) 0 w9 rfl HP9.out HK0.out HM9.out HL50.out HLR9.out HFR9.out).mono ?_); rintro e w10 hf; obtain ⟨vz, xz, qz, vg, cg, rfl, hs, hI, hq, _, _⟩ := feedP_of hf HF1.out HF2.out; obtain ⟨q, rfl, hE⟩ := one_ev hq; obtain ⟨g9, c9, hVV⟩ := own_some7 hI.1 (Nat.zero_lt_succ _); have hva : vg = some ⟨g9, 0, none⟩ := (by injection hVV); subst hva; have HS10 := Lib.hid hs; have HB10 := Lib.hid (st_below HB9.out hs HG.out); have HE10 := Lib.hid (show Ints.Ints w10 q.a PA by have h := ev_ints hI q (List.mem_singleton.2 rfl); rw [hE] at h; rw [HPA.out]; exact h); have HW10 := Lib.hid (own_ints (own_stand hs.2.1 HP9.out.row (Tw.m HT9.out) (by decide)) HPL.out); obtain ⟨e0, e1, e2, e3, e4, e5, e6⟩ := ev_at hI (Below.refl _ _) 0 (Nat.zero_lt_succ _); simp only [List.getElem_cons_zero, hE] at e0 e1 e2 e3 e4 e5 e6; rw [← HPA.out] at e2; clear hf hs hI hq hVV hE)
            | (go_at_call 7; (with_reducible refine (first8 w10).mono ?_); rintro e w11 ⟨rfl, bq⟩; have HB11 := Lib.hid (below_then HB10.out bq HB10.out.size); have HS11 := Lib.hid (StP.below HS10.out bq); have HE11 := Lib.hid (Ints.ints_then bq (Nat.le_refl _) HE10.out); have HW11 := Lib.hid (Ints.ints_then bq (Nat.le_refl _) HW10.out); have f0 := cell_then bq (Nat.le_refl _) e0; have f1 := cell_then bq (Nat.le_refl _) e1; have f2 := cell_then bq (Nat.le_refl _) e2; have f3 := cell_then bq (Nat.le_refl _) e3; have f4 := cell_then bq (Nat.le_refl _) e4; have f5 := cell_then bq (Nat.le_refl _) e5; have f6 := cell_then bq (Nat.le_refl _) e6; clear e0 e1 e2 e3 e4 e5 e6 bq)
            | (go_at_call 16; (with_reducible refine (intsS q.a (some ⟨gw, 0, none⟩) PA.length ps.length q.c wc PA _ rfl HPL.out HIE.out HE11.out HW11.out).mono ?_); rintro e w12 ⟨rfl, n12, h12⟩; have s12 := StP.drewN HS11.out n12; rw [h12] at s12; have HS12 := Lib.hid s12; have b12 := Kit.below_drewN HB11.out n12; rw [h12] at b12; have HB12 := Lib.hid b12; have k1 := past_drewN n12 f1; rw [h12] at k1; have k6 := past_drewN n12 f6; rw [h12] at k6; clear s12 b12; clear f0 f1 f2 f3 f4 f5 f6 h12)
            | (go_at_call 13; (with_reducible refine (stateK 0 w1.heap.size vz xz (bg 0) w12 (StP.pr HS12.out) HST0.out).mono ?_); rintro e w' ⟨rfl, rfl⟩))
          go_ret
          exact ⟨rfl, HB12.out⟩
      · have hlen : ((ps.length : Int) == 1) = false := by rw [beq_eq_false_iff_ne]; omega
        have HPE : Hid (PA = wantN ps ps.length) := Lib.hid (by rw [hPA, paN, if_neg (fun hh => h1 hh.1)])
        have HTE := Lib.hid (show Tw w2 wr (.slice la L.length lc) L (.slice wa ps.length wc) PA by rw [HPE.out]; exact HTr.out)
        have HPL : Hid (ps.length = PA.length) := Lib.hid (by rw [HPE.out, wantN_len])
        clear hPA h1
        go_wp2_with (first
          | (at_builtin; (refine app_l rfl _ _ rfl w2 (.slice la L.length lc) (.slice wa ps.length wc) L PA it rfl (Tw.alloc HTE.out (.cells #[.int .i32 it] 21)) (wr.heap.size) rfl (lit_cell wr 21 _) HLL.out ?_; intro v8 w8 o8; obtain ⟨L8, hL8⟩ : ∃ z, z = L ++ [it] := ⟨_, rfl⟩; rw [← hL8] at o8; have HL8 := Lib.hid hL8; obtain ⟨la8, lc8, rfl⟩ := own_slice o8.l; have HT8 := Lib.hid o8; have HLL8 : Hid (L8.length ≤ 9000) := Lib.hid (by rw [HL8.out, List.length_append]; have := HLS.out; simp; omega); clear o8 hL8))
          | (at_builtin; (refine app_l rfl _ _ rfl w2 (.slice la8 L8.length lc8) (.slice wa ps.length wc) L8 PA fi rfl (Tw.alloc HT8.out (.cells #[.int .i32 fi] 21)) (w8.heap.size) rfl (lit_cell w8 21 _) HLL8.out ?_; intro v9 w9 o9; obtain ⟨L9, hL9⟩ : ∃ z, z = L8 ++ [fi] := ⟨_, rfl⟩; rw [← hL9] at o9; have HL9' := Lib.hid hL9; obtain ⟨la9, lc9, rfl⟩ := own_slice o9.l; have HT9 := Lib.hid o9; have HLN9 : Hid (L9.length ≤ 10000) := Lib.hid (by rw [HL9'.out, List.length_append]; have := HLL8.out; simp; omega); have HP9 := Lib.hid (HN.out.then_ (Tw.b HT9.out) (Nat.le_refl _)); have HM9 : Hid (0 + L9.length ≤ 1000000) := Lib.hid (by have := HLN9.out; omega); have HL50 : Hid (L9.length ≤ 50000) := Lib.hid (by have := HLN9.out; omega); have HFD := Lib.hid (show feedM (bg 0) L9 = (bg 0, [⟨4, 0, paN ps ps.length, 0, it, fi, ⟨#[]⟩⟩]) from by have h := fc01 ps it fi HNN.out HIT.out HT0.out HF12.out; rw [HL9'.out, HL8.out, HLE.out, HL0.out]; exact h); have HF1 := Lib.hid (congrArg Prod.fst HFD.out); have HF2 := Lib.hid (congrArg Prod.snd HFD.out); obtain ⟨la9', lc9', hrl, lr9, _⟩ := row_lrow (Tw.l HT9.out); have hla : la9' = la9 := (by injection hrl with h _ _; exact h.symm); subst hla; have HLR9 := Lib.hid lr9; have HFR9 := Lib.hid (show ∀ b off, L9 ≠ [] → la9' = some ⟨b, off, none⟩ → b ≠ w1.heap.size ∧ (Value.slice none 0 0).ownBlock ≠ some b ∧ (Value.slice none 0 0).ownBlock ≠ some b from fun b off _ e => by have h := Tw.fl HT9.out b (by rw [e]; rfl); refine ⟨?_, (fun e => by cases e), (fun e => by cases e)⟩; have := HZ2.out; omega); have HB9 := Lib.hid (below_then HB2.out (Tw.b HT9.out) HB2.out.size); clear lr9 hrl; clear o9 hL9))
          | (go_at_call 11; (with_reducible refine (feedC la9' L9.length lc9 L9 w1.heap.size (.slice none 0 0) (.slice none 0 0) (bg 0) 0 w9 rfl HP9.out HK0.out HM9.out HL50.out HLR9.out HFR9.out).mono ?_); rintro e w10 hf; obtain ⟨vz, xz, qz, vg, cg, rfl, hs, hI, hq, _, _⟩ := feedP_of hf HF1.out HF2.out; obtain ⟨q, rfl, hE⟩ := one_ev hq; obtain ⟨g9, c9, hVV⟩ := own_some7 hI.1 (Nat.zero_lt_succ _); have hva : vg = some ⟨g9, 0, none⟩ := (by injection hVV); subst hva; have HS10 := Lib.hid hs; have HB10 := Lib.hid (st_below HB9.out hs HG.out); have HE10 := Lib.hid (show Ints.Ints w10 q.a PA by have h := ev_ints hI q (List.mem_singleton.2 rfl); rw [hE] at h; rw [HPA.out]; exact h); have HW10 := Lib.hid (own_ints (own_stand hs.2.1 HP9.out.row (Tw.m HT9.out) (by decide)) HPL.out); obtain ⟨e0, e1, e2, e3, e4, e5, e6⟩ := ev_at hI (Below.refl _ _) 0 (Nat.zero_lt_succ _); simp only [List.getElem_cons_zero, hE] at e0 e1 e2 e3 e4 e5 e6; rw [← HPA.out] at e2; clear hf hs hI hq hVV hE)
          | (go_at_call 7; (with_reducible refine (first8 w10).mono ?_); rintro e w11 ⟨rfl, bq⟩; have HB11 := Lib.hid (below_then HB10.out bq HB10.out.size); have HS11 := Lib.hid (StP.below HS10.out bq); have HE11 := Lib.hid (Ints.ints_then bq (Nat.le_refl _) HE10.out); have HW11 := Lib.hid (Ints.ints_then bq (Nat.le_refl _) HW10.out); have f0 := cell_then bq (Nat.le_refl _) e0; have f1 := cell_then bq (Nat.le_refl _) e1; have f2 := cell_then bq (Nat.le_refl _) e2; have f3 := cell_then bq (Nat.le_refl _) e3; have f4 := cell_then bq (Nat.le_refl _) e4; have f5 := cell_then bq (Nat.le_refl _) e5; have f6 := cell_then bq (Nat.le_refl _) e6; clear e0 e1 e2 e3 e4 e5 e6 bq)
          | (go_at_call 16; (with_reducible refine (intsS q.a wa PA.length ps.length q.c wc PA _ rfl HPL.out HIE.out HE11.out HW11.out).mono ?_); rintro e w12 ⟨rfl, n12, h12⟩; have s12 := StP.drewN HS11.out n12; rw [h12] at s12; have HS12 := Lib.hid s12; have b12 := Kit.below_drewN HB11.out n12; rw [h12] at b12; have HB12 := Lib.hid b12; have k1 := past_drewN n12 f1; rw [h12] at k1; have k6 := past_drewN n12 f6; rw [h12] at k6; clear s12 b12; clear f0 f1 f2 f3 f4 f5 f6 h12)
          | (go_at_call 13; (with_reducible refine (stateK 0 w1.heap.size vz xz (bg 0) w12 (StP.pr HS12.out) HST0.out).mono ?_); rintro e w' ⟨rfl, rfl⟩))
        go_ret
        exact ⟨rfl, HB12.out⟩

end Go.Proofs.Ytnaiefjbfpejbaa.Hdb
