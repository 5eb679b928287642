/- Bits of bytes and signs. -/
import Derived.Test.YtlhapnnepcnfbabWords
set_option linter.unusedVariables false
namespace Go.Proofs.Ytlhapnnepcnfbab.UBits
open Go Go.RowKit Words

theorem and31' : ∀ c : Fin 256, bits .and .u8 (c.1 : Int) 31 = (c.1 : Int) % 32 := by decide +kernel
theorem and15' : ∀ c : Fin 256, bits .and .u8 (c.1 : Int) 15 = (c.1 : Int) % 16 := by decide +kernel
theorem and7' : ∀ c : Fin 256, bits .and .u8 (c.1 : Int) 7 = (c.1 : Int) % 8 := by decide +kernel
theorem and63' : ∀ c : Fin 256, bits .and .u8 (c.1 : Int) 63 = (c.1 : Int) % 64 := by decide +kernel
theorem of_byte {P : Int → Prop} (h : ∀ c : Fin 256, P (c.1 : Int)) (c : Int) (h0 : 0 ≤ c) (h1 : c ≤ 255) : P c := by
  obtain ⟨n, rfl⟩ := Int.eq_ofNat_of_zero_le h0
  exact h ⟨n, by omega⟩
theorem and31 (c : Int) (h0 : 0 ≤ c) (h1 : c ≤ 255) : bits .and .u8 c 31 = c % 32 := of_byte (P := fun c => bits .and .u8 c 31 = c % 32) and31' c h0 h1
theorem and15 (c : Int) (h0 : 0 ≤ c) (h1 : c ≤ 255) : bits .and .u8 c 15 = c % 16 := of_byte (P := fun c => bits .and .u8 c 15 = c % 16) and15' c h0 h1
theorem and7 (c : Int) (h0 : 0 ≤ c) (h1 : c ≤ 255) : bits .and .u8 c 7 = c % 8 := of_byte (P := fun c => bits .and .u8 c 7 = c % 8) and7' c h0 h1
theorem and63 (c : Int) (h0 : 0 ≤ c) (h1 : c ≤ 255) : bits .and .u8 c 63 = c % 64 := of_byte (P := fun c => bits .and .u8 c 63 = c % 64) and63' c h0 h1
theorem or128' : ∀ c : Fin 64, bits .or .u8 128 (c.1 : Int) = 128 + (c.1 : Int) := by decide +kernel
theorem or192' : ∀ c : Fin 32, bits .or .u8 192 (c.1 : Int) = 192 + (c.1 : Int) := by decide +kernel
theorem or224' : ∀ c : Fin 16, bits .or .u8 224 (c.1 : Int) = 224 + (c.1 : Int) := by decide +kernel
theorem or240' : ∀ c : Fin 8, bits .or .u8 240 (c.1 : Int) = 240 + (c.1 : Int) := by decide +kernel
theorem or128 (c : Int) (h0 : 0 ≤ c) (h1 : c < 64) : bits .or .u8 128 c = 128 + c := by
  obtain ⟨n, rfl⟩ := Int.eq_ofNat_of_zero_le h0; exact or128' ⟨n, by omega⟩
theorem or192 (c : Int) (h0 : 0 ≤ c) (h1 : c < 32) : bits .or .u8 192 c = 192 + c := by
  obtain ⟨n, rfl⟩ := Int.eq_ofNat_of_zero_le h0; exact or192' ⟨n, by omega⟩
theorem or224 (c : Int) (h0 : 0 ≤ c) (h1 : c < 16) : bits .or .u8 224 c = 224 + c := by
  obtain ⟨n, rfl⟩ := Int.eq_ofNat_of_zero_le h0; exact or224' ⟨n, by omega⟩
theorem or240 (c : Int) (h0 : 0 ≤ c) (h1 : c < 8) : bits .or .u8 240 c = 240 + c := by
  obtain ⟨n, rfl⟩ := Int.eq_ofNat_of_zero_le h0; exact or240' ⟨n, by omega⟩
/-- six bits behind a sign so far. -/
theorem or32 (s b : Int) (h0 : 0 ≤ s) (h1 : s < 131072) (h2 : 0 ≤ b) (h3 : b < 64) : bits .or .i32 (s * 64) b = s * 64 + b := by
  obtain ⟨m, rfl⟩ := Int.eq_ofNat_of_zero_le h0
  obtain ⟨n, rfl⟩ := Int.eq_ofNat_of_zero_le h2
  have e1 : (BitVec.ofInt 32 ((m : Int) * 64)).toNat = 64 * m := by rw [BitVec.toNat_ofInt]; omega
  have e2 : (BitVec.ofInt 32 (n : Int)).toNat = n := by rw [BitVec.toNat_ofInt]; omega
  have e3 : 64 * m ||| n = 64 * m + n := (Nat.two_pow_add_eq_or_of_lt (i := 6) (by omega) m).symm
  show IntKind.i32.wrap ((BitVec.ofInt 32 ((m : Int) * 64) ||| BitVec.ofInt 32 (n : Int)).toNat : Nat) = _
  rw [BitVec.toNat_or, e1, e2, e3, IntKind.wrap_i32]
  omega
end Go.Proofs.Ytlhapnnepcnfbab.UBits
