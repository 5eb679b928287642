/- mac.padded. -/
import Derived.Test.YtmfkfpgomglplaaDoorAp
import Derived.Test.YtmfkfpgomglplaaDoorSha
import Derived.Test.YtmfkfpgomglplaaDoorMc1
set_option linter.unusedVariables false
namespace Go.Proofs.YtmfkfpgomglplaaDoor.Pd
open Go Go.RowKit Kit Mb Sha Ap


theorem be8_at (m i : Nat) (hi : i < 8) (hm : m < 18446744073709551616) : (be8 m).take (i + 1) = (be8 m).take i ++ [m / 2 ^ (56 - 8 * i) % 256] := by
  have h : i = 0 ∨ i = 1 ∨ i = 2 ∨ i = 3 ∨ i = 4 ∨ i = 5 ∨ i = 6 ∨ i = 7 := by omega
  rcases h with rfl | rfl | rfl | rfl | rfl | rfl | rfl | rfl <;> simp [be8, be4, Nat.div_div_eq_div_mul]
def mid (l : List Nat) (j : Nat) : List Nat := l ++ 128 :: List.replicate j 0
theorem mid_len (l : List Nat) (j : Nat) : (mid l j).length = l.length + 1 + j := by simp [mid]; omega
theorem mid_next (l : List Nat) (j : Nat) : mid l j ++ [0] = mid l (j + 1) := by simp [mid, List.replicate_succ']
/-- a slice's length. -/
def lenV : Value → Nat
  | .slice _ n _ => n
  | _ => 0
def fin (l : List Nat) (n i : Nat) : List Nat := mid l (gap n) ++ (be8 (8 * n)).take i
theorem fin_end (l : List Nat) (n : Nat) : fin l n 8 = l ++ padL n := by
  have : (be8 (8 * n)).take 8 = be8 (8 * n) := List.take_of_length_le (by rw [be8_len]; omega)
  simp [fin, mid, padL, this]
theorem fin_len (l : List Nat) (n i : Nat) : (fin l n i).length ≤ l.length + 1 + gap n + 8 := by
  have : (be8 (8 * n)).length = 8 := be8_len _
  simp [fin, mid_len]; omega
theorem fin_next (l : List Nat) (n i : Nat) (hi : i < 8) (hn : n ≤ 1000000) : fin l n i ++ [8 * n / 2 ^ (56 - 8 * i) % 256] = fin l n (i + 1) := by
  unfold fin; rw [be8_at (8 * n) i hi (by omega), List.append_assoc]
set_option maxRecDepth 100000 in
theorem paddedC (a : Option Addr) (cap : Nat) (l : List Nat) (n : Nat) (w : World) (hs : Sl w a l) (h0 : a = none → cap = 0) (hlen : l.length ≤ 64) (hn : n ≤ 1000000) (hmod : n % 64 = l.length % 64) :
    Calls Tryd.prog 49 #[.slice a l.length cap, .int .i64 (n : Int)] w fun e w' => ∃ v, e = .returned v ∧ Rb w' w.heap.size v (l ++ padL n) ∧ Below w.heap.size w w' := by
  have HS := Lib.hid hs
  have H0 := Lib.hid h0
  have HL := Lib.hid hlen
  have HN := Lib.hid hn
  have HG := Lib.hid (gap_mod n l.length hmod)
  have gl := Lib.hid (gap_lt n)
  obtain ⟨N8, hN8⟩ : ∃ N8, N8 = 8 * n := ⟨_, rfl⟩
  have HN8 := Lib.hid hN8
  have e8 : IntKind.u64.wrap ((n : Int) * 8) = (N8 : Int) := by rw [IntKind.wrap_u64]; omega
  clear hN8
  have e1 : IntKind.u64.wrap (n : Int) = (n : Int) := by rw [IntKind.wrap_u64]; omega
  clear hs h0 hlen hn hmod
  go_enter Tryd.func49, Tryd.ntmps49
  go_wp2_with (at_builtin; first
    | (refine app_sl rfl _ _ rfl w.heap.size _ [] rfl (rb_nil _ _) a _ cap l rfl rfl H0.out HS.out (by have := HL.out; simp; omega) (Nat.le_refl _) ?_; intro v1 w1 o1 b1; have q1 := b1 _ _ (Nat.le_refl _) (Below.refl w.heap.size w))
    | (refine app_sl rfl _ _ rfl w.heap.size _ ([] ++ l) rfl (rb_alloc o1 _) _ 1 1 [128] rfl rfl (fun h => by cases h) (sl_new w1 [128] _) (by have := HL.out; simp; omega) (by simp; have := q1.size; omega) ?_; intro v2 w2 o2 b2; have q2 := b2 _ _ (Nat.le_refl _) (q1.alloc q1.size _)))
  have o3 : Rb w2 w.heap.size v2 (mid l 0) := by rw [show mid l 0 = [] ++ l ++ [128] from rfl]; exact o2
  have Q2 := Lib.hid (And.intro o3 q2)
  clear o1 b1 q1 o2 b2 q2 o3
  go_loopw [5] (fun s5 wr => ∃ j : Nat, j ≤ gap n ∧ Rb wr w.heap.size s5 (mid l j) ∧ Below w.heap.size w wr) (fun s5 _ => gap n + 65 + l.length - lenV s5)
  case atStart => exact ⟨0, Nat.zero_le _, Q2.out.1, Q2.out.2⟩
  case round =>
    obtain ⟨j, hj, hR, hB⟩ := hrel
    obtain ⟨ad, cp, rfl, hcp, hSl, h00, hx⟩ := rb_sl hR
    have HR := Lib.hid hR
    have HB := Lib.hid hB
    have ml : (mid l j).length = l.length + 1 + j := mid_len l j
    have hlb : (mid l j).length ≤ 200 := by have := HL.out; have := gl.out; omega
    have nx := Lib.hid (mid_next l j)
    have M1 := Lib.hid ml
    clear hcp hSl h00 hx hR hB ml
    by_cases hlt : j < gap n
    · have hne : (mid l j).length % 64 ≠ 56 := by
        have := gap_is l.length j (by have := HG.out; omega)
        have := HG.out; have := M1.out; omega
      have t1 : (((mid l j).length : Int) % 64 == 56) = false := by rw [beq_eq_false_iff_ne]; omega
      have t2 : (((mid l j).length : Int) % 64 != 56) = true := by simp only [bne, t1]; rfl
      have t3 : (((mid l j).length : Int).tmod 64 != 56) = true := by rw [Int.tmod_eq_emod_of_nonneg (by omega)]; exact t2
      clear hne t1
      generalize mid l j = X at *
      go_wp2_with (at_builtin; (refine app_sl rfl _ _ rfl w.heap.size _ X rfl (rb_alloc HR.out _) _ 1 1 [0] rfl rfl (fun h => by cases h) (sl_new wr [0] _) (by simp; omega) (by simp; have := HB.out.size; omega) ?_; intro v2 w2 o2 b2; have q2 := b2 _ _ (Nat.le_refl _) (HB.out.alloc HB.out.size _)))
      obtain ⟨a2, c2, rfl, _⟩ := rb_sl o2
      have O2 := Lib.hid o2
      have Q3 := Lib.hid q2
      clear o2 b2 q2
      go_wp2
      go_roundw
      case rel => exact ⟨j + 1, by omega, by rw [← nx.out]; exact O2.out, Q3.out⟩
      case measure => simp [lenV]; have := gl.out; have := HL.out; have := M1.out; omega
    · obtain rfl : j = gap n := by omega
      have heq : (mid l (gap n)).length % 64 = 56 := by
        have := (gap_is l.length (gap n) (by have := HG.out; omega)).2 (by have := HG.out; omega)
        have := M1.out; omega
      have t1 : (((mid l (gap n)).length : Int) % 64 == 56) = true := by rw [beq_iff_eq]; omega
      have t2 : (((mid l (gap n)).length : Int) % 64 != 56) = false := by simp only [bne, t1]; rfl
      have t3 : (((mid l (gap n)).length : Int).tmod 64 != 56) = false := by rw [Int.tmod_eq_emod_of_nonneg (by omega)]; exact t2
      have F0 := Lib.hid (show fin l n 0 = mid l (gap n) by simp [fin])
      clear heq t1 hj hlt nx
      go_wp2
      obtain ⟨wo, rfl⟩ : ∃ wo : World, wo = wr := ⟨_, rfl⟩
      clear t2 t3
      go_loopw [5, 7] (fun s5 s7 wr => ∃ i : Nat, i ≤ 8 ∧ s7 = .int .i64 (56 - 8 * (i : Int)) ∧ Rb wr w.heap.size s5 (fin l n i) ∧ Below w.heap.size w wr) (fun _ s7 _ => (64 + intOf s7).toNat)
      case atStart => exact ⟨0, by omega, rfl, by rw [F0.out]; exact HR.out, HB.out⟩
      case round =>
        clear HR HB F0
        obtain ⟨i, hi, rfl, hR, hB⟩ := hrel
        have HR := Lib.hid hR
        have HB := Lib.hid hB
        have fl := fin_len l n i
        have FX := Lib.hid (fun hi => fin_next l n i hi HN.out)
        have FL := Lib.hid (show (fin l n i).length ≤ 300 by have := HL.out; have := gl.out; omega)
        clear hR hB fl
        by_cases hlt : i < 8
        · have FY := Lib.hid (FX.out hlt)
          clear FX
          have hc : i = 0 ∨ i = 1 ∨ i = 2 ∨ i = 3 ∨ i = 4 ∨ i = 5 ∨ i = 6 ∨ i = 7 := by omega
          generalize hfi : fin l n i = X at *
          have HFI := Lib.hid hfi
          clear hfi
          clear hlt
          rcases hc with rfl | rfl | rfl | rfl | rfl | rfl | rfl | rfl
          · obtain ⟨C, hC⟩ : ∃ C, C = 8 * n / 2 ^ (56 - 8 * 0) % 256 := ⟨_, rfl⟩
            have FZ := FY.out
            rw [← hC] at FZ
            have FZ := Lib.hid FZ
            have cC : (N8 : Int) / 72057594037927936 % 256 = (C : Int) := by rw [hC]; have := HN8.out; omega
            clear hC FY
            go_wp2_with (at_builtin; (refine app_sl rfl _ _ rfl w.heap.size _ X rfl (rb_alloc HR.out _) _ 1 1 [C] rfl rfl (fun h => by cases h) (sl_new wr [C] _) (by simp; have := FL.out; omega) (by simp; have := HB.out.size; omega) ?_; intro v2 w2 o2 b2; have q2 := b2 _ _ (Nat.le_refl _) (HB.out.alloc HB.out.size _)))
            have O2 := Lib.hid o2
            have Q3 := Lib.hid q2
            clear o2 b2 q2
            go_wp2
            go_roundw
            case rel => exact ⟨1, by omega, by go_num, by rw [← FZ.out]; exact O2.out, Q3.out⟩
            case measure => simp [intOf]
          · obtain ⟨C, hC⟩ : ∃ C, C = 8 * n / 2 ^ (56 - 8 * 1) % 256 := ⟨_, rfl⟩
            have FZ := FY.out
            rw [← hC] at FZ
            have FZ := Lib.hid FZ
            have cC : (N8 : Int) / 281474976710656 % 256 = (C : Int) := by rw [hC]; have := HN8.out; omega
            clear hC FY
            go_wp2_with (at_builtin; (refine app_sl rfl _ _ rfl w.heap.size _ X rfl (rb_alloc HR.out _) _ 1 1 [C] rfl rfl (fun h => by cases h) (sl_new wr [C] _) (by simp; have := FL.out; omega) (by simp; have := HB.out.size; omega) ?_; intro v2 w2 o2 b2; have q2 := b2 _ _ (Nat.le_refl _) (HB.out.alloc HB.out.size _)))
            have O2 := Lib.hid o2
            have Q3 := Lib.hid q2
            clear o2 b2 q2
            go_wp2
            go_roundw
            case rel => exact ⟨2, by omega, by go_num, by rw [← FZ.out]; exact O2.out, Q3.out⟩
            case measure => simp [intOf]
          · obtain ⟨C, hC⟩ : ∃ C, C = 8 * n / 2 ^ (56 - 8 * 2) % 256 := ⟨_, rfl⟩
            have FZ := FY.out
            rw [← hC] at FZ
            have FZ := Lib.hid FZ
            have cC : (N8 : Int) / 1099511627776 % 256 = (C : Int) := by rw [hC]; have := HN8.out; omega
            clear hC FY
            go_wp2_with (at_builtin; (refine app_sl rfl _ _ rfl w.heap.size _ X rfl (rb_alloc HR.out _) _ 1 1 [C] rfl rfl (fun h => by cases h) (sl_new wr [C] _) (by simp; have := FL.out; omega) (by simp; have := HB.out.size; omega) ?_; intro v2 w2 o2 b2; have q2 := b2 _ _ (Nat.le_refl _) (HB.out.alloc HB.out.size _)))
            have O2 := Lib.hid o2
            have Q3 := Lib.hid q2
            clear o2 b2 q2
            go_wp2
            go_roundw
            case rel => exact ⟨3, by omega, by go_num, by rw [← FZ.out]; exact O2.out, Q3.out⟩
            case measure => simp [intOf]
          · obtain ⟨C, hC⟩ : ∃ C, C = 8 * n / 2 ^ (56 - 8 * 3) % 256 := ⟨_, rfl⟩
            have FZ := FY.out
            rw [← hC] at FZ
            have FZ := Lib.hid FZ
            have cC : (N8 : Int) / 4294967296 % 256 = (C : Int) := by rw [hC]; have := HN8.out; omega
            clear hC FY
            go_wp2_with (at_builtin; (refine app_sl rfl _ _ rfl w.heap.size _ X rfl (rb_alloc HR.out _) _ 1 1 [C] rfl rfl (fun h => by cases h) (sl_new wr [C] _) (by simp; have := FL.out; omega) (by simp; have := HB.out.size; omega) ?_; intro v2 w2 o2 b2; have q2 := b2 _ _ (Nat.le_refl _) (HB.out.alloc HB.out.size _)))
            have O2 := Lib.hid o2
            have Q3 := Lib.hid q2
            clear o2 b2 q2
            go_wp2
            go_roundw
            case rel => exact ⟨4, by omega, by go_num, by rw [← FZ.out]; exact O2.out, Q3.out⟩
            case measure => simp [intOf]
          · obtain ⟨C, hC⟩ : ∃ C, C = 8 * n / 2 ^ (56 - 8 * 4) % 256 := ⟨_, rfl⟩
            have FZ := FY.out
            rw [← hC] at FZ
            have FZ := Lib.hid FZ
            have cC : (N8 : Int) / 16777216 % 256 = (C : Int) := by rw [hC]; have := HN8.out; omega
            clear hC FY
            go_wp2_with (at_builtin; (refine app_sl rfl _ _ rfl w.heap.size _ X rfl (rb_alloc HR.out _) _ 1 1 [C] rfl rfl (fun h => by cases h) (sl_new wr [C] _) (by simp; have := FL.out; omega) (by simp; have := HB.out.size; omega) ?_; intro v2 w2 o2 b2; have q2 := b2 _ _ (Nat.le_refl _) (HB.out.alloc HB.out.size _)))
            have O2 := Lib.hid o2
            have Q3 := Lib.hid q2
            clear o2 b2 q2
            go_wp2
            go_roundw
            case rel => exact ⟨5, by omega, by go_num, by rw [← FZ.out]; exact O2.out, Q3.out⟩
            case measure => simp [intOf]
          · obtain ⟨C, hC⟩ : ∃ C, C = 8 * n / 2 ^ (56 - 8 * 5) % 256 := ⟨_, rfl⟩
            have FZ := FY.out
            rw [← hC] at FZ
            have FZ := Lib.hid FZ
            have cC : (N8 : Int) / 65536 % 256 = (C : Int) := by rw [hC]; have := HN8.out; omega
            clear hC FY
            go_wp2_with (at_builtin; (refine app_sl rfl _ _ rfl w.heap.size _ X rfl (rb_alloc HR.out _) _ 1 1 [C] rfl rfl (fun h => by cases h) (sl_new wr [C] _) (by simp; have := FL.out; omega) (by simp; have := HB.out.size; omega) ?_; intro v2 w2 o2 b2; have q2 := b2 _ _ (Nat.le_refl _) (HB.out.alloc HB.out.size _)))
            have O2 := Lib.hid o2
            have Q3 := Lib.hid q2
            clear o2 b2 q2
            go_wp2
            go_roundw
            case rel => exact ⟨6, by omega, by go_num, by rw [← FZ.out]; exact O2.out, Q3.out⟩
            case measure => simp [intOf]
          · obtain ⟨C, hC⟩ : ∃ C, C = 8 * n / 2 ^ (56 - 8 * 6) % 256 := ⟨_, rfl⟩
            have FZ := FY.out
            rw [← hC] at FZ
            have FZ := Lib.hid FZ
            have cC : (N8 : Int) / 256 % 256 = (C : Int) := by rw [hC]; have := HN8.out; omega
            clear hC FY
            go_wp2_with (at_builtin; (refine app_sl rfl _ _ rfl w.heap.size _ X rfl (rb_alloc HR.out _) _ 1 1 [C] rfl rfl (fun h => by cases h) (sl_new wr [C] _) (by simp; have := FL.out; omega) (by simp; have := HB.out.size; omega) ?_; intro v2 w2 o2 b2; have q2 := b2 _ _ (Nat.le_refl _) (HB.out.alloc HB.out.size _)))
            have O2 := Lib.hid o2
            have Q3 := Lib.hid q2
            clear o2 b2 q2
            go_wp2
            go_roundw
            case rel => exact ⟨7, by omega, by go_num, by rw [← FZ.out]; exact O2.out, Q3.out⟩
            case measure => simp [intOf]
          · obtain ⟨C, hC⟩ : ∃ C, C = 8 * n / 2 ^ (56 - 8 * 7) % 256 := ⟨_, rfl⟩
            have FZ := FY.out
            rw [← hC] at FZ
            have FZ := Lib.hid FZ
            have cC : (N8 : Int) % 256 = (C : Int) := by rw [hC]; have := HN8.out; omega
            clear hC FY
            go_wp2_with (at_builtin; (refine app_sl rfl _ _ rfl w.heap.size _ X rfl (rb_alloc HR.out _) _ 1 1 [C] rfl rfl (fun h => by cases h) (sl_new wr [C] _) (by simp; have := FL.out; omega) (by simp; have := HB.out.size; omega) ?_; intro v2 w2 o2 b2; have q2 := b2 _ _ (Nat.le_refl _) (HB.out.alloc HB.out.size _)))
            have O2 := Lib.hid o2
            have Q3 := Lib.hid q2
            clear o2 b2 q2
            go_wp2
            go_roundw
            case rel => exact ⟨8, by omega, by go_num, by rw [← FZ.out]; exact O2.out, Q3.out⟩
            case measure => simp [intOf]
        · obtain rfl : i = 8 := by omega
          have F8 := Lib.hid (fin_end l n)
          obtain ⟨ad, cp, rfl, hcp, hSl, h00, hx⟩ := rb_sl HR.out
          clear hcp hSl h00 hx FX
          generalize fin l n 8 = X at *
          go_wp2
          go_ret
          exact ⟨_, rfl, by rw [← F8.out]; exact HR.out, HB.out⟩

end Go.Proofs.YtmfkfpgomglplaaDoor.Pd
