/- The document's own answers on numbers and bytes (tikref2): Var, Get, Crc, Four: the same plain functions as the code's. -/
import Derived.Test.YtellhkcleicfbaaGet
import Derived.Test.YtellhkcleicfbaaBytes
import Derived.Test.YtellhkcleicfbaaBytes
import Derived.Outline
set_option linter.unusedVariables false
namespace Go.Proofs.Ytellhkcleicfbaa.Ref2
open Go Go.RowKit Kit Crc Var Get

def bitStep (s : Nat) : Nat := if s % 2 = 1 then (s / 2) ^^^ 3988292384 else s / 2
theorem bitStep_xor (s t : Nat) : bitStep (s ^^^ t) = bitStep s ^^^ bitStep t := by
  have h1 : (s ^^^ t) / 2 = s / 2 ^^^ t / 2 := by
    have := Nat.shiftRight_xor_distrib (a := s) (b := t) (i := 1)
    simpa [Nat.shiftRight_eq_div_pow] using this
  have h2 : (s ^^^ t) % 2 = (s % 2) ^^^ (t % 2) := Nat.xor_mod_two_pow (n := 1)
  unfold bitStep
  rw [h1, h2]
  rcases Nat.mod_two_eq_zero_or_one s with a | a <;> rcases Nat.mod_two_eq_zero_or_one t with b | b <;> rw [a, b] <;> simp
  · ac_rfl
  · ac_rfl
  · generalize 3988292384 = m
    have : s / 2 ^^^ m ^^^ (t / 2 ^^^ m) = s / 2 ^^^ t / 2 ^^^ (m ^^^ m) := by ac_rfl
    rw [this]; simp
theorem bitStep_even (q : Nat) : bitStep (2 * q) = q := by
  unfold bitStep; rw [if_neg (by omega)]; omega
theorem split16 (s : Nat) : s = (16 * (s / 16)) ^^^ (s % 16) := by
  apply Nat.eq_of_testBit_eq; intro i
  rw [Nat.testBit_xor, show (16 : Nat) = 2 ^ 4 from rfl, Nat.testBit_two_pow_mul, Nat.testBit_mod_two_pow, Nat.testBit_div_two_pow]
  by_cases hi : i < 4
  · have : ¬ 4 ≤ i := by omega
    simp [hi, this]
  · have : 4 ≤ i := by omega
    simp [hi, this, show i - 4 + 4 = i by omega]
theorem half_bits (s : Nat) : half s = bitStep (bitStep (bitStep (bitStep s))) := by
  have e := split16 s
  have small : ∀ r, r < 16 → bitStep (bitStep (bitStep (bitStep r))) = tabAt r := by decide
  conv => rhs; rw [e]
  simp only [bitStep_xor]
  rw [small (s % 16) (by omega), show 16 * (s / 16) = 2 * (2 * (2 * (2 * (s / 16)))) by omega, bitStep_even, bitStep_even, bitStep_even, bitStep_even]
  rfl
theorem bitStep_lt {s : Nat} (h : s < 4294967296) : bitStep s < 4294967296 := by
  unfold bitStep; split
  · exact Nat.xor_lt_two_pow (n := 32) (by omega) (by decide)
  · omega

def bitN : Nat → Nat → Nat
  | 0, s => s
  | j + 1, s => bitStep (bitN j s)
theorem bitN_8 (s c : Nat) : bitN 8 (s ^^^ c) = crcByte s c := by
  unfold crcByte
  rw [half_bits (half _), half_bits]
  rfl
theorem bitN_lt {j s : Nat} (h : s < 4294967296) : bitN j s < 4294967296 := by
  induction j with
  | zero => exact h
  | succ j ih => exact bitStep_lt ih
theorem step_odd {s : Nat} (h : s % 2 = 1) : bitStep s = (s / 2) ^^^ 3988292384 := by unfold bitStep; rw [if_pos h]
theorem step_even {s : Nat} (h : s % 2 = 0) : bitStep s = s / 2 := by unfold bitStep; rw [if_neg (by omega)]
theorem and1 {a : Nat} (ha : a < 4294967296) : bits .and .u32 (a : Int) 1 = ((a % 2 : Nat) : Int) := by
  have := u32_and_nat a 1 ha (by decide)
  rw [show ((1 : Nat) : Int) = 1 from rfl] at this
  rw [this, show (1 : Nat) = 2 ^ 1 - 1 from rfl, Nat.and_two_pow_sub_one_eq_mod]
theorem and127 (m : Nat) (hm : m < 18446744073709551616) : bits .and .u64 (m : Int) 127 = (m : Int) % 128 := by
  have := u64_and_nat m 127 hm (by decide)
  rw [show ((127 : Nat) : Int) = 127 from rfl] at this
  rw [this, show (127 : Nat) = 2 ^ 7 - 1 from rfl, Nat.and_two_pow_sub_one_eq_mod]; omega
theorem or127 (m V : Nat) (hV : V = m % 128 + 128) : bits .or .u64 ((m : Int) % 128) 128 = (V : Int) := by
  have := u64_or_nat (m % 128) 128 (by omega) (by decide)
  rw [show ((128 : Nat) : Int) = 128 from rfl, show ((m % 128 : Nat) : Int) = (m : Int) % 128 from by omega] at this
  rw [this, Nat.or_comm, nat_join 7 128 (m % 128) (by decide) (by omega)]; omega
set_option maxRecDepth 100000 in
set_option maxHeartbeats 800000 in
theorem rVarC (n : Nat) (w : World) (hn : n < 18446744073709551616) :
    Calls Try.prog 18 #[.int .u64 n] w (Ans n w) := by
  have hten := varL_ten hn
  obtain ⟨i0, hi, hz0, hz1, hz2⟩ := info_parts info5
  have HN := Lib.hid (show ∀ m, m ≤ n → m < 18446744073709551616 from fun m h => by omega)
  clear hn
  go_enter Try.func18, Try.ntmps18
  go_wp2
  go_loopw [0, 3] (fun s0 s3 wr => Rel n w s0 s3 wr) (fun s0 _ _ => (intOf s0).toNat)
  case atStart => exact ⟨[], n, rfl, Nat.le_refl _, (by rw [cellsOf_nil]; exact World.ownsRow_nil _ _ _ _), rfl, Below.refl _ _⟩
  case round =>
    obtain ⟨L, m, rfl, hmn, hown, hL, hb⟩ := hrel
    have hlen : L.length + 1 ≤ 10 := by
      have h1 : (varL n).length = L.length + (varL m).length := by rw [hL, List.length_append]
      have h2 : 1 ≤ (varL m).length := by by_cases hs : m < 128; rw [varL_small hs]; simp; rw [varL_more hs]; simp
      omega
    have hH := Lib.hid hL
    clear hL
    have hbz := hb.size
    by_cases hs : m < 128
    · have e1 : (m : Int) % 256 = m := by omega
      go_wp2_with (at_builtin; refine wpList_append_own _ rfl _ _ 23 rfl w.heap.size 5 i0 (.int .u8 0) 1 1 Try.underlying23 hi hz0 hz1 hz2 rfl (by decide) _ _ _ rfl (hown.alloc _) ⟨wr.heap.size, 0, none⟩ 1 1 [.int .u8 (m : Int)] rfl rfl (cell_one_new _ _ _) (fun x hx => by simp at hx; subst hx; rfl) (by unfold maxLen; omega) (by omega) (by simp; omega) ?_; intro v' w3 hown' hgrow3 hnil3)
      go_ret
      refine ⟨v', rfl, ?_, ?_⟩
      · rw [hH.out, varL_small hs, List.length_append, ← cellsOf_snoc]; exact hown'
      · exact (hb.alloc hbz _).grown hgrow3 (by simp; omega) (fun j hj => (hown.lt j hj).1)
    · have eo := and127 m (HN.out m hmn)
      obtain ⟨V, hV⟩ : ∃ V, V = m % 128 + 128 := ⟨_, rfl⟩
      have eo2 := or127 m V hV
      have hV2 : V < 256 := by omega
      have HV := Lib.hid hV
      clear hV
      have hge : (128 : Int) ≤ (m : Int) := by omega
      go_wp2_with (at_builtin; refine wpList_append_own _ rfl _ _ 23 rfl w.heap.size 5 i0 (.int .u8 0) 1 1 Try.underlying23 hi hz0 hz1 hz2 rfl (by decide) _ _ _ rfl (hown.alloc _) ⟨wr.heap.size, 0, none⟩ 1 1 [.int .u8 (V : Int)] rfl rfl (cell_one_new _ _ _) (fun x hx => by simp at hx; subst hx; rfl) (by unfold maxLen; omega) (by omega) (by simp; omega) ?_; intro v' w3 hown' hgrow3 hnil3)
      refine ⟨⟨L ++ [V], m / 128, by congr 1, by omega, ?_, ?_, ?_⟩, ?_⟩
      · rw [List.length_append, ← cellsOf_snoc]; exact hown'
      · rw [hH.out, varL_more hs, HV.out]; simp
      · exact (hb.alloc hbz _).grown hgrow3 (by simp; omega) (fun j hj => (hown.lt j hj).1)
      · simp only [intOf]; omega
end Go.Proofs.Ytellhkcleicfbaa.Ref2
