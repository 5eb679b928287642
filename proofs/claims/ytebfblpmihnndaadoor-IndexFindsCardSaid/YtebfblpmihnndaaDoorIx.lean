/- IndexFinds: the walk. -/
import Derived.Test.YtebfblpmihnndaaDoorIu
import Derived.Test.YtebfblpmihnndaaDoorIw
import Derived.BigQuiet
import Derived.Test.YtebfblpmihnndaaDoorArgB
set_option linter.unusedVariables false
namespace Go.Proofs.YtebfblpmihnndaaDoor.Ix
open Go Go.RowKit Kit Crc Var Get Ref3 Copy Bytes Bx Ia Ib Ic Ir Ie Iu Iw

theorem find_or (L : List En) (time : Nat) : ∀ n : Nat, (findN L time n = -1 ∧ ∀ j, j < n → time < (L.getD j default).t) ∨ ∃ k : Nat, k < n ∧ findN L time n = (k : Int) ∧ (L.getD k default).t ≤ time ∧ ∀ j, k < j → j < n → time < (L.getD j default).t
  | 0 => .inl ⟨rfl, fun j h => by omega⟩
  | n + 1 => by
    unfold findN
    by_cases h : (L.getD n default).t ≤ time
    · rw [if_pos h]; exact .inr ⟨n, by omega, rfl, h, fun j h1 h2 => by omega⟩
    · rw [if_neg h]
      rcases find_or L time n with ⟨h1, h2⟩ | ⟨k, h1, h2, h3, h4⟩
      · exact .inl ⟨h1, fun j hj => by
          by_cases e : j = n
          · subst e; omega
          · exact h2 j (by omega)⟩
      · exact .inr ⟨k, by omega, h2, h3, fun j hk hj => by
          by_cases e : j = n
          · subst e; omega
          · exact h4 j hk (by omega)⟩
set_option maxRecDepth 100000 in
set_option maxHeartbeats 1000000 in
theorem walkLen (a : Option Addr) (len cap : Nat) (time : Int) (W : World) (h : 200 < len) (hT : TabC W) :
    Calls Tryd.prog 4 #[.slice a len cap, .int .u64 time] W fun e w' => e = .returned (.bool true) ∧ Below W.heap.size W w' := by
  have HT := Lib.hid hT
  clear hT
  go_enter Tryd.func4, Tryd.ntmps4
  go_wp2_with (go_at_call 5; (first
      | ((with_reducible refine (firstC W HT.out).mono ?_); rintro e w1 ⟨rfl, hb⟩; have HB1 := Lib.hid hb; have HT1 := Lib.hid (tab_then HT.out hb (Nat.le_refl _)); clear hb)
      | ((with_reducible refine (firstC _ HT1.out).mono ?_); rintro e w2 ⟨rfl, hb⟩; have HB2 := Lib.hid (below_then HB1.out hb HB1.out.size); clear hb)))
  go_ret
  exact ⟨rfl, HB2.out⟩
set_option maxRecDepth 100000 in
set_option maxHeartbeats 8000000 in
theorem mainW (a : Option Addr) (len cap : Nat) (L : List En) (time : Nat) (W : World) (h : len ≤ 200) (hL : len = L.length) (hs : Es W a L) (hT : TabC W) :
    Calls Tryd.prog 4 #[.slice a len cap, .int .u64 (time : Int)] W fun e w' => e = .returned (.bool true) ∧ Below W.heap.size W w' := by
  have HT := Lib.hid hT
  have HS := Lib.hid hs
  have HL := Lib.hid hL
  have t1 : decide (200 < (len : Int)) = false := by simp; omega
  have t2 : decide (200 < len) = false := by simp; omega
  have HFC := Lib.hid (fun w1 (hb : Below W.heap.size W w1) => findC a len cap L time w1 hL (by omega) (hs.then_ hb (Nat.le_refl _)))
  have HLen := Lib.hid h
  clear hs hL hT
  go_enter Tryd.func4, Tryd.ntmps4
  go_wp2_with (go_at_call 5; (with_reducible refine (firstC W HT.out).mono ?_); rintro e w1 ⟨rfl, hb⟩; have HB1 := Lib.hid hb; clear hb)
  go_loopw [5] (fun s5 wr => ∃ i : Nat, 1 ≤ i ∧ s5 = .int .i64 i ∧ Hid (Below W.heap.size W wr)) (fun s5 _ => len + 1 - (intOf s5).toNat)
  case atStart => exact ⟨1, Nat.le_refl _, rfl, HB1⟩
  case round =>
    obtain ⟨i, hi, rfl, HBr⟩ := hrel
    have HTr := Lib.hid (tab_then HT.out HBr.out (Nat.le_refl _))
    have HTq := Lib.hid (fun n => show TabC (wr.drewN n) from HTr.out)
    by_cases hlt : i < len
    · obtain ⟨j, rfl⟩ : ∃ j, i = j + 1 := ⟨i - 1, by omega⟩
      have hjL : j + 1 < L.length := by rw [← HL.out]; exact hlt
      obtain ⟨b, off, rfl, hc⟩ : ∃ b off, a = some ⟨b, off, none⟩ ∧ EnC W b off L := by
        rcases HS.out with h | h
        · rw [h] at hjL; simp at hjL
        · exact h
      have hcr := hc.then_ HBr.out (Nat.le_refl _)
      have c1 := (hcr.at_ (j + 1) _ (List.getElem?_eq_getElem hjL)).2.1
      have c0 := (hcr.at_ j _ (List.getElem?_eq_getElem (show j < L.length by omega))).2.1
      generalize (L[j + 1]).t = U at c1
      generalize (L[j]).t = T at c0
      have e1 : IntKind.i64.wrap ((j : Int) + 1 - 1) = (j : Int) := by rw [show (j : Int) + 1 - 1 = (j : Int) by omega]; exact IntWalk.i64_in _ (by omega)
      have e2 : IntKind.i64.wrap ((j : Int) + 1 + 1) = (j : Int) + 1 + 1 := IntWalk.i64_in _ (by omega)
      have e3 : (((j + 1 : Nat) : Int)) = (j : Int) + 1 := by omega
      have hj2 : j < len := by omega
      have HKi := Lib.hid (show 1 ≤ j + 1 + 1 ∧ len + 1 - (j + 1 + 1) < len + 1 - (j + 1) by omega)
      have hltI : (j : Int) + 1 < (len : Int) := by omega
      rw [e3]
      clear hc hcr hjL hi
      by_cases hu : U < T
      · have huI : (U : Int) < (T : Int) := by omega
        go_wp2
        go_quiet (fail)
        go_wp2_with (go_at_call 5; (with_reducible refine (firstC _ (HTq.out _)).mono ?_); rintro e w8 ⟨rfl, hb8⟩; have HB8 := Lib.hid hb8; clear hb8)
        go_ret
        exact ⟨rfl, below_then HBr.out (show Below wr.heap.size wr w8 from ⟨HB8.out.os, HB8.out.tape, HB8.out.output, HB8.out.size, HB8.out.block⟩) HBr.out.size⟩
      · have huI : ¬ (U : Int) < (T : Int) := by omega
        go_wp2
        go_quiet (fail)
        go_wp2
        exact ⟨⟨j + 1 + 1, HKi.out.1, by go_num, Lib.hid (below_drewN HBr.out _)⟩, by simp only [intOf]; exact HKi.out.2⟩
    · have hge : (len : Int) ≤ (i : Int) := by omega
      have hfo := find_or L time len
      have hfl : findL L time = findN L time len := by rw [HL.out]; rfl
      have HF := Lib.hid (HFC.out wr HBr.out)
      rw [hfl] at HF
      have HTd := Lib.hid (show TabC wr.drew from HTr.out)
      have HBd := Lib.hid (drw HBr.out)
      have hl200 := HLen.out
      rcases hfo with ⟨he, hall⟩ | ⟨k, hk, he, hle, hall⟩
      · rw [he] at HF
        by_cases hz : len = 0
        · subst hz
          clear hall hl200
          go_wp2_with (first
            | (go_at_call 13; (with_reducible refine HF.out.mono ?_); rintro x w' ⟨rfl, rfl⟩)
            | (go_at_call 5; (with_reducible refine (firstC wr HTr.out).mono ?_); rintro x w8 ⟨rfl, hb8⟩; have HB8 := Lib.hid (below_then HBr.out hb8 HBr.out.size); clear hb8))
          go_ret
          exact ⟨rfl, HB8.out⟩
        · have hL0 : 0 < L.length := by rw [← HL.out]; omega
          obtain ⟨b, off, rfl, hc⟩ : ∃ b off, a = some ⟨b, off, none⟩ ∧ EnC W b off L := by
            rcases HS.out with h | h
            · rw [h] at hL0; simp at hL0
            · exact h
          have c0 := ((hc.then_ HBr.out (Nat.le_refl _)).at_ 0 _ (List.getElem?_eq_getElem hL0)).2.1
          have hT := hall 0 (by omega)
          rw [List.getD_eq_getElem?_getD, List.getElem?_eq_getElem hL0, Option.getD_some] at hT
          rw [Nat.zero_mul, Nat.add_zero] at c0
          generalize (L[0]).t = T at *
          have hTI : (time : Int) < (T : Int) := by omega
          have z1 : ((-1 : Int) + 1 == (len : Int)) = false := by rw [beq_eq_false_iff_ne]; omega
          have z2 : (0 : Int) < (len : Int) := by omega
          have z3 : 0 < len := by omega
          have z4 : ((0 : Int) == (len : Int)) = false := by rw [beq_eq_false_iff_ne]; omega
          clear hall hl200 hc hL0
          go_wp2_with (first
            | (go_at_call 13; (with_reducible refine HF.out.mono ?_); rintro x w' ⟨rfl, rfl⟩)
            | (go_at_call 5; (with_reducible refine (firstC wr HTr.out).mono ?_); rintro x w8 ⟨rfl, hb8⟩; have HB8 := Lib.hid (below_then HBr.out hb8 HBr.out.size); replace c0 := cell_then hb8 (Nat.le_refl _) c0; clear hb8))
          go_ret
          exact ⟨rfl, HB8.out⟩
      · rw [he] at HF
        have hkL : k < L.length := by rw [← HL.out]; exact hk
        obtain ⟨b, off, rfl, hc⟩ : ∃ b off, a = some ⟨b, off, none⟩ ∧ EnC W b off L := by
          rcases HS.out with h | h
          · rw [h] at hkL; simp at hkL
          · exact h
        have hcr := hc.then_ HBr.out (Nat.le_refl _)
        have c0 := (hcr.at_ k _ (List.getElem?_eq_getElem hkL)).2.1
        rw [List.getD_eq_getElem?_getD, List.getElem?_eq_getElem hkL, Option.getD_some] at hle
        generalize (L[k]).t = T at *
        have hTI : (T : Int) ≤ (time : Int) := by omega
        have y1 : ((k : Int) == -1) = false := by rw [beq_eq_false_iff_ne]; omega
        have y2 : (k : Int) < (len : Int) := by omega
        have y3 : IntKind.i64.wrap ((k : Int) + 1) = (k : Int) + 1 := IntWalk.i64_in _ (by omega)
        have y4 : ¬ (k : Int) < -1 := by omega
        by_cases hz : k + 1 = len
        · have z1 : ((k : Int) + 1 == (len : Int)) = true := by rw [beq_iff_eq]; omega
          clear hall hl200 hc hcr hkL hz
          go_wp2_with (first
            | (go_at_call 13; (with_reducible refine HF.out.mono ?_); rintro x w' ⟨rfl, rfl⟩)
            | (go_at_call 5; (with_reducible refine (firstC wr HTr.out).mono ?_); rintro x w8 ⟨rfl, hb8⟩; have HB8 := Lib.hid (below_then HBr.out hb8 HBr.out.size); replace c0 := cell_then hb8 (Nat.le_refl _) c0; clear hb8))
          go_ret
          exact ⟨rfl, HB8.out⟩
        · have hk1 : k + 1 < L.length := by rw [← HL.out]; omega
          have c1 := (hcr.at_ (k + 1) _ (List.getElem?_eq_getElem hk1)).2.1
          have hU := hall (k + 1) (by omega) (by omega)
          rw [List.getD_eq_getElem?_getD, List.getElem?_eq_getElem hk1, Option.getD_some] at hU
          generalize (L[k + 1]).t = U at *
          have hUI : (time : Int) < (U : Int) := by omega
          have z1 : ((k : Int) + 1 == (len : Int)) = false := by rw [beq_eq_false_iff_ne]; omega
          have z2 : (k : Int) + 1 < (len : Int) := by omega
          have z3 : k + 1 < len := by omega
          clear hall hl200 hc hcr hkL hz hk1
          go_wp2_with (first
            | (go_at_call 13; (with_reducible refine HF.out.mono ?_); rintro x w' ⟨rfl, rfl⟩)
            | (go_at_call 5; (with_reducible refine (firstC wr HTr.out).mono ?_); rintro x w8 ⟨rfl, hb8⟩; have HB8 := Lib.hid (below_then HBr.out hb8 HBr.out.size); replace c0 := cell_then hb8 (Nat.le_refl _) c0; replace c1 := cell_then hb8 (Nat.le_refl _) c1; clear hb8))
          go_ret
          exact ⟨rfl, HB8.out⟩
/-- IndexFinds. -/
theorem walk (a : Option Addr) (len cap : Nat) (L : List En) (time : Int) (W : World) (hw : IsEnts W a len cap L) (ht : (Lit.int .u64 time).wf = true) (hT : Lib.TabIs Tryd.prog W "tickertape/wire.crcSteps" .u32 [0, 498536548, 997073096, 651767980, 1994146192, 1802195444, 1303535960, 1342533948, 3988292384, 4027552580, 3604390888, 3412177804, 2607071920, 2262029012, 2685067896, 3183342108]) :
    Calls Tryd.prog 4 #[.slice a len cap, .int .u64 time] W fun e w' => e = .returned (.bool true) ∧ Below W.heap.size W w' := by
  obtain ⟨_, _, hl, hs, _⟩ := hw
  obtain ⟨t, rfl, _⟩ := nat_of ht
  by_cases h : 200 < len
  · exact walkLen a len cap (t : Int) W h (ArgB.tab hT (by kernel_rfl))
  · exact mainW a len cap L t W (by omega) hl hs (ArgB.tab hT (by kernel_rfl))
end Go.Proofs.YtebfblpmihnndaaDoor.Ix
