/- The document's own answers on numbers and bytes (tikref2): Var, Get, Crc, Four: the same plain functions as the code's. -/
import Derived.Test.YtebfblpmihnndaaDoorGet
import Derived.Test.YtebfblpmihnndaaDoorBytes
import Derived.Test.YtebfblpmihnndaaDoorBytes
import Derived.Outline
set_option linter.unusedVariables false
namespace Go.Proofs.YtebfblpmihnndaaDoor.Ref2
open Go Go.RowKit Kit Crc Var Get

def bitStep (s : Nat) : Nat := if s % 2 = 1 then (s / 2) ^^^ 3988292384 else s / 2
theorem bitStep_xor (s t : Nat) : bitStep (s ^^^ t) = bitStep s ^^^ bitStep t := by
  have h1 : (s ^^^ t) / 2 = s / 2 ^^^ t / 2 := by
    have := Nat.shiftRight_xor_distrib (a := s) (b := t) (i := 1)
    simpa [Nat.shiftRight_eq_div_pow] using this
  have h2 : (s ^^^ t) % 2 = (s % 2) ^^^ (t % 2) := Nat.xor_mod_two_pow (n := 1)
  unfold bitStep
  rw [h1, h2]
  rcases Nat.mod_two_eq_zero_or_one s with a | a <;> rcases Nat.mod_two_eq_zero_or_one t with b | b <;> rw [a, b] <;> simp
  · ac_rfl
  · ac_rfl
  · generalize 3988292384 = m
    have : s / 2 ^^^ m ^^^ (t / 2 ^^^ m) = s / 2 ^^^ t / 2 ^^^ (m ^^^ m) := by ac_rfl
    rw [this]; simp
theorem bitStep_even (q : Nat) : bitStep (2 * q) = q := by
  unfold bitStep; rw [if_neg (by omega)]; omega
theorem split16 (s : Nat) : s = (16 * (s / 16)) ^^^ (s % 16) := by
  apply Nat.eq_of_testBit_eq; intro i
  rw [Nat.testBit_xor, show (16 : Nat) = 2 ^ 4 from rfl, Nat.testBit_two_pow_mul, Nat.testBit_mod_two_pow, Nat.testBit_div_two_pow]
  by_cases hi : i < 4
  · have : ¬ 4 ≤ i := by omega
    simp [hi, this]
  · have : 4 ≤ i := by omega
    simp [hi, this, show i - 4 + 4 = i by omega]
theorem half_bits (s : Nat) : half s = bitStep (bitStep (bitStep (bitStep s))) := by
  have e := split16 s
  have small : ∀ r, r < 16 → bitStep (bitStep (bitStep (bitStep r))) = tabAt r := by decide
  conv => rhs; rw [e]
  simp only [bitStep_xor]
  rw [small (s % 16) (by omega), show 16 * (s / 16) = 2 * (2 * (2 * (2 * (s / 16)))) by omega, bitStep_even, bitStep_even, bitStep_even, bitStep_even]
  rfl
theorem bitStep_lt {s : Nat} (h : s < 4294967296) : bitStep s < 4294967296 := by
  unfold bitStep; split
  · exact Nat.xor_lt_two_pow (n := 32) (by omega) (by decide)
  · omega

def bitN : Nat → Nat → Nat
  | 0, s => s
  | j + 1, s => bitStep (bitN j s)
theorem bitN_8 (s c : Nat) : bitN 8 (s ^^^ c) = crcByte s c := by
  unfold crcByte
  rw [half_bits (half _), half_bits]
  rfl
theorem bitN_lt {j s : Nat} (h : s < 4294967296) : bitN j s < 4294967296 := by
  induction j with
  | zero => exact h
  | succ j ih => exact bitStep_lt ih
theorem step_odd {s : Nat} (h : s % 2 = 1) : bitStep s = (s / 2) ^^^ 3988292384 := by unfold bitStep; rw [if_pos h]
theorem step_even {s : Nat} (h : s % 2 = 0) : bitStep s = s / 2 := by unfold bitStep; rw [if_neg (by omega)]
theorem and1 {a : Nat} (ha : a < 4294967296) : bits .and .u32 (a : Int) 1 = ((a % 2 : Nat) : Int) := by
  have := u32_and_nat a 1 ha (by decide)
  rw [show ((1 : Nat) : Int) = 1 from rfl] at this
  rw [this, show (1 : Nat) = 2 ^ 1 - 1 from rfl, Nat.and_two_pow_sub_one_eq_mod]
set_option maxRecDepth 100000 in
set_option maxHeartbeats 2000000 in
theorem rCrcRow (b off cap : Nat) (l : List Nat) (w : World) (hl : ∀ c ∈ l, c < 256) (hm : l.length ≤ 9223372036854775807) (hc : Cells w b off l) :
    Calls Tryd.prog 20 #[.slice (some ⟨b, off, none⟩) l.length cap] w fun e w' => e = .returned (.int .u32 ((crc l : Nat) : Int)) ∧ w = w' := by
  go_enter Tryd.func20, Tryd.ntmps20
  go_wp2
  go_loop [3, 4] (fun s i => ∃ k : Nat, k ≤ l.length ∧ i = .int .i64 k ∧ s = .int .u32 ((run (l.take k) 4294967295 : Nat) : Int)) (fun _ i => l.length - (intOf i).toNat)
  case atStart => exact ⟨0, Nat.zero_le _, rfl, rfl⟩
  case round =>
    obtain ⟨k, hk, rfl, rfl⟩ := hrel
    have hS := run_lt (l := l.take k) (fun c h => hl c (List.mem_of_mem_take h)) (s := 4294967295) (by decide)
    by_cases hlt : k < l.length
    · have hcell := hc k hlt
      have hb := hl l[k] (List.getElem_mem hlt)
      have hsn := Lib.hid (run_snoc l 4294967295 k hlt)
      generalize hs : run (l.take k) 4294967295 = S at hS ⊢ hsn
      generalize hcv : l[k] = c at hb hcell hsn
      obtain ⟨X, hX⟩ : ∃ X, X = S ^^^ c := ⟨_, rfl⟩
      have lX : X < 4294967296 := by rw [hX]; exact Nat.xor_lt_two_pow (n := 32) hS (by omega)
      have e0 : (c : Int) % 4294967296 = c := by omega
      have e1 : bits .xor .u32 (S : Int) (c : Int) = (X : Int) := by rw [hX]; exact xorU hS (by omega)
      have fin := Lib.hid (show bitN 8 X = run (l.take (k + 1)) 4294967295 from by rw [hsn.out, hX]; exact bitN_8 _ _)
      clear hX hsn hs hcv
      go_wp2
      go_loop [3, 5] (fun s j => ∃ i : Nat, i ≤ 8 ∧ j = .int .i64 i ∧ s = .int .u32 ((bitN i X : Nat) : Int)) (fun _ j => 8 - (intOf j).toNat)
      case atStart => exact ⟨0, by decide, rfl, rfl⟩
      case round =>
        obtain ⟨i, hi, rfl, rfl⟩ := hrel
        have lY := bitN_lt (j := i) lX
        have hst := Lib.hid (show bitN (i + 1) X = bitStep (bitN i X) from rfl)
        by_cases h8 : i < 8
        · generalize bitN i X = Y at lY hst ⊢
          have e2 := and1 lY
          rcases Nat.mod_two_eq_zero_or_one Y with h2 | h2
          · rw [h2] at e2
            have e2' : bits .and .u32 (Y : Int) 1 = 0 := e2
            clear e2
            have hz := Lib.hid (show bitN (i + 1) X = Y / 2 from by rw [hst.out, step_even h2])
            clear h2 hst
            go_wp2
            go_round
            case rel => exact ⟨i + 1, by omega, by go_num, by rw [hz.out]; go_num⟩
            case measure => simp [intOf]; omega
          · rw [h2] at e2
            have e2' : bits .and .u32 (Y : Int) 1 = 1 := e2
            clear e2
            have e3 := xorU (a := Y / 2) (b := 3988292384) (by omega) (by decide)
            rw [show ((Y / 2 : Nat) : Int) = (Y : Int) / 2 from by omega, show ((3988292384 : Nat) : Int) = 3988292384 from rfl] at e3
            have hz := Lib.hid (show bitN (i + 1) X = (Y / 2) ^^^ 3988292384 from by rw [hst.out, step_odd h2])
            generalize (Y / 2) ^^^ 3988292384 = Z at e3 hz
            clear h2 hst
            go_wp2
            go_round
            case rel => exact ⟨i + 1, by omega, by go_num, by rw [hz.out]⟩
            case measure => simp [intOf]; omega
        · obtain rfl : i = 8 := by omega
          generalize bitN 8 X = Y at fin ⊢
          clear hst lY
          go_wp2
          go_round
          case rel => exact ⟨k + 1, by omega, by go_num, by rw [fin.out]⟩
          case measure => simp [intOf]; omega
    · have : k = l.length := by omega
      subst this
      go_wp2
      go_ret
      rw [List.take_length] at hS
      exact ⟨ret_int (xorU (by decide) hS), rfl⟩
set_option maxRecDepth 100000 in
theorem rCrcEmpty (a : Option Addr) (cap : Nat) (w : World) :
    Calls Tryd.prog 20 #[.slice a 0 cap] w fun e w' => e = .returned (.int .u32 ((crc [] : Nat) : Int)) ∧ w = w' := by
  have e1 : bits .xor .u32 IntKind.u32.max 4294967295 = 0 := by decide
  go_enter Tryd.func20, Tryd.ntmps20
  go_wp2
  refine wp_loop_rounds 1 ?_
  rw [rounds_succ]
  go_wp2
  go_ret
  exact ⟨rfl, rfl⟩
theorem rCrcC (a : Option Addr) (cap : Nat) (l : List Nat) (w : World) (hl : ∀ c ∈ l, c < 256) (hm : l.length ≤ 9223372036854775807) (hc : Sl w a l) :
    Calls Tryd.prog 20 #[.slice a l.length cap] w fun e w' => e = .returned (.int .u32 ((crc l : Nat) : Int)) ∧ w = w' := by
  rcases hc with rfl | ⟨b, off, rfl, hc⟩
  · exact rCrcEmpty a cap w
  · exact rCrcRow b off cap l w hl hm hc
theorem and127 (m : Nat) (hm : m < 18446744073709551616) : bits .and .u64 (m : Int) 127 = (m : Int) % 128 := by
  have := u64_and_nat m 127 hm (by decide)
  rw [show ((127 : Nat) : Int) = 127 from rfl] at this
  rw [this, show (127 : Nat) = 2 ^ 7 - 1 from rfl, Nat.and_two_pow_sub_one_eq_mod]; omega
theorem or127 (m V : Nat) (hV : V = m % 128 + 128) : bits .or .u64 ((m : Int) % 128) 128 = (V : Int) := by
  have := u64_or_nat (m % 128) 128 (by omega) (by decide)
  rw [show ((128 : Nat) : Int) = 128 from rfl, show ((m % 128 : Nat) : Int) = (m : Int) % 128 from by omega] at this
  rw [this, Nat.or_comm, nat_join 7 128 (m % 128) (by decide) (by omega)]; omega
set_option maxRecDepth 100000 in
set_option maxHeartbeats 800000 in
theorem rVarC (n : Nat) (w : World) (hn : n < 18446744073709551616) :
    Calls Tryd.prog 26 #[.int .u64 n] w (Ans n w) := by
  have hten := varL_ten hn
  obtain ⟨i0, hi, hz0, hz1, hz2⟩ := info_parts info5
  have HN := Lib.hid (show ∀ m, m ≤ n → m < 18446744073709551616 from fun m h => by omega)
  clear hn
  go_enter Tryd.func26, Tryd.ntmps26
  go_wp2
  go_loopw [0, 3] (fun s0 s3 wr => Rel n w s0 s3 wr) (fun s0 _ _ => (intOf s0).toNat)
  case atStart => exact ⟨[], n, rfl, Nat.le_refl _, (by rw [cellsOf_nil]; exact World.ownsRow_nil _ _ _ _), rfl, Below.refl _ _⟩
  case round =>
    obtain ⟨L, m, rfl, hmn, hown, hL, hb⟩ := hrel
    have hlen : L.length + 1 ≤ 10 := by
      have h1 : (varL n).length = L.length + (varL m).length := by rw [hL, List.length_append]
      have h2 : 1 ≤ (varL m).length := by by_cases hs : m < 128; rw [varL_small hs]; simp; rw [varL_more hs]; simp
      omega
    have hH := Lib.hid hL
    clear hL
    have hbz := hb.size
    by_cases hs : m < 128
    · have e1 : (m : Int) % 256 = m := by omega
      go_wp2_with (at_builtin; refine wpList_append_own _ rfl _ _ 23 rfl w.heap.size 5 i0 (.int .u8 0) 1 1 Tryd.underlying23 hi hz0 hz1 hz2 rfl (by decide) _ _ _ rfl (hown.alloc _) ⟨wr.heap.size, 0, none⟩ 1 1 [.int .u8 (m : Int)] rfl rfl (cell_one_new _ _ _) (fun x hx => by simp at hx; subst hx; rfl) (by unfold maxLen; omega) (by omega) (by simp; omega) ?_; intro v' w3 hown' hgrow3 hnil3)
      go_ret
      refine ⟨v', rfl, ?_, ?_⟩
      · rw [hH.out, varL_small hs, List.length_append, ← cellsOf_snoc]; exact hown'
      · exact (hb.alloc hbz _).grown hgrow3 (by simp; omega) (fun j hj => (hown.lt j hj).1)
    · have eo := and127 m (HN.out m hmn)
      obtain ⟨V, hV⟩ : ∃ V, V = m % 128 + 128 := ⟨_, rfl⟩
      have eo2 := or127 m V hV
      have hV2 : V < 256 := by omega
      have HV := Lib.hid hV
      clear hV
      have hge : (128 : Int) ≤ (m : Int) := by omega
      go_wp2_with (at_builtin; refine wpList_append_own _ rfl _ _ 23 rfl w.heap.size 5 i0 (.int .u8 0) 1 1 Tryd.underlying23 hi hz0 hz1 hz2 rfl (by decide) _ _ _ rfl (hown.alloc _) ⟨wr.heap.size, 0, none⟩ 1 1 [.int .u8 (V : Int)] rfl rfl (cell_one_new _ _ _) (fun x hx => by simp at hx; subst hx; rfl) (by unfold maxLen; omega) (by omega) (by simp; omega) ?_; intro v' w3 hown' hgrow3 hnil3)
      refine ⟨⟨L ++ [V], m / 128, by congr 1, by omega, ?_, ?_, ?_⟩, ?_⟩
      · rw [List.length_append, ← cellsOf_snoc]; exact hown'
      · rw [hH.out, varL_more hs, HV.out]; simp
      · exact (hb.alloc hbz _).grown hgrow3 (by simp; omega) (fun j hj => (hown.lt j hj).1)
      · simp only [intOf]; omega
end Go.Proofs.YtebfblpmihnndaaDoor.Ref2
