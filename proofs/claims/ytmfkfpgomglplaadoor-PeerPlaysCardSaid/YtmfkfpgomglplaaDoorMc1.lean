/- A word's turn in both codes; bytes as words. -/
import Derived.Test.YtmfkfpgomglplaaDoorMb
import Derived.Test.YtmfkfpgomglplaaDoorSha
set_option linter.unusedVariables false
namespace Go.Proofs.YtmfkfpgomglplaaDoor.Mc1
open Go Go.RowKit Kit Mb Sha

theorem or_comm32 (a b : Int) : bits .or .u32 a b = bits .or .u32 b a := by
  simp [bits, Nat.or_comm]
set_option maxRecDepth 100000 in
/-- the program's turn: left by minus n. -/
theorem rotC (x : Int) (n : Nat) (h1 : 1 ≤ n) (h2 : n ≤ 31) (w : World) : Calls Tryd.prog 59 #[.int .u32 x, .int .i64 (-(n : Int))] w fun e w' => e = .returned (.int .u32 (turnW x n)) ∧ w = w' := by
  have s1 : IntKind.u64.wrap (-(n : Int)) = 18446744073709551616 - (n : Int) := by rw [IntKind.wrap_u64]; omega
  have s2 : bits .and .u64 (18446744073709551616 - (n : Int)) 31 = ((32 - n : Nat) : Int) := by
    have : ∀ m : Fin 32, 1 ≤ m.1 → bits .and .u64 (18446744073709551616 - (m.1 : Int)) 31 = ((32 - m.1 : Nat) : Int) := by decide +kernel
    exact this ⟨n, by omega⟩ h1
  have s3 : IntKind.u64.wrap (32 - ((32 - n : Nat) : Int)) = (n : Int) := by rw [IntKind.wrap_u64]; omega
  have hn : turnW x n = bits .or .u32 (x * 2 ^ (32 - n) % 4294967296) (x / 2 ^ n) := rfl
  generalize turnW x n = X at *
  go_enter Tryd.func59, Tryd.ntmps59
  go_wp2
  go_ret
  exact ⟨by rw [hn]; rfl, rfl⟩
set_option maxRecDepth 100000 in
/-- the document's turn. -/
theorem turnC (x : Int) (n : Nat) (h1 : 1 ≤ n) (h2 : n ≤ 31) (w : World) : Calls Tryd.prog 60 #[.int .u32 x, .int .u64 (n : Int)] w fun e w' => e = .returned (.int .u32 (turnW x n)) ∧ w = w' := by
  have s3 : IntKind.u64.wrap (32 - (n : Int)) = ((32 - n : Nat) : Int) := by rw [IntKind.wrap_u64]; omega
  have hn : turnW x n = bits .or .u32 (x / 2 ^ n) (x * 2 ^ (32 - n) % 4294967296) := or_comm32 _ _
  generalize turnW x n = X at *
  go_enter Tryd.func60, Tryd.ntmps60
  go_wp2
  go_ret
  exact ⟨by rw [hn]; rfl, rfl⟩
theorem rotN (x : Int) (n : Nat) (m : Int) (hm : m = -(n : Int)) (h1 : 1 ≤ n) (h2 : n ≤ 31) (w : World) : Calls Tryd.prog 59 #[.int .u32 x, .int .i64 m] w fun e w' => e = .returned (.int .u32 (turnW x n)) ∧ w = w' := by
  subst hm; exact rotC x n h1 h2 w
theorem turnN (x : Int) (n : Nat) (m : Int) (hm : m = (n : Int)) (h1 : 1 ≤ n) (h2 : n ≤ 31) (w : World) : Calls Tryd.prog 60 #[.int .u32 x, .int .u64 m] w fun e w' => e = .returned (.int .u32 (turnW x n)) ∧ w = w' := by
  subst hm; exact turnC x n h1 h2 w
theorem rotM (x m : Int) (h : 1 ≤ (-m).toNat ∧ (-m).toNat ≤ 31 ∧ m = -((-m).toNat : Int)) (w : World) : Calls Tryd.prog 59 #[.int .u32 x, .int .i64 m] w fun e w' => e = .returned (.int .u32 (turnW x (-m).toNat)) ∧ w = w' :=
  rotN x _ m h.2.2 h.1 h.2.1 w
theorem turnM (x m : Int) (h : 1 ≤ m.toNat ∧ m.toNat ≤ 31 ∧ m = (m.toNat : Int)) (w : World) : Calls Tryd.prog 60 #[.int .u32 x, .int .u64 m] w fun e w' => e = .returned (.int .u32 (turnW x m.toNat)) ∧ w = w' :=
  turnN x _ m h.2.2 h.1 h.2.1 w
/-- four bytes, one behind the other, as a word: or is a sum. -/
theorem or_shift (k a b : Nat) (h : b < 2 ^ k) : (a * 2 ^ k) ||| b = a * 2 ^ k + b := by
  rw [Nat.mul_comm]; exact (Nat.two_pow_add_eq_or_of_lt h a).symm
theorem four (a b c d : Nat) (ha : a < 256) (hb : b < 256) (hc : c < 256) (hd : d < 256) :
    bits .or .u32 (bits .or .u32 (bits .or .u32 ((a : Int) * 16777216) ((b : Int) * 65536)) ((c : Int) * 256)) (d : Int) = ((((a * 256 + b) * 256 + c) * 256 + d : Nat) : Int) := by
  have g1 : (a * 16777216) ||| (b * 65536) = a * 16777216 + b * 65536 := or_shift 24 a (b * 65536) (by show b * 65536 < 16777216; omega)
  have g2 : ((a * 256 + b) * 65536) ||| (c * 256) = (a * 256 + b) * 65536 + c * 256 := or_shift 16 (a * 256 + b) (c * 256) (by show c * 256 < 65536; omega)
  have g3 : (((a * 256 + b) * 256 + c) * 256) ||| d = ((a * 256 + b) * 256 + c) * 256 + d := or_shift 8 ((a * 256 + b) * 256 + c) d (by show d < 256; omega)
  have h1 := u32_or_nat (a * 16777216) (b * 65536) (by omega) (by omega)
  have h2 := u32_or_nat ((a * 256 + b) * 65536) (c * 256) (by omega) (by omega)
  have h3 := u32_or_nat (((a * 256 + b) * 256 + c) * 256) d (by omega) (by omega)
  rw [g1, show a * 16777216 + b * 65536 = (a * 256 + b) * 65536 by omega] at h1
  rw [g2, show (a * 256 + b) * 65536 + c * 256 = ((a * 256 + b) * 256 + c) * 256 by omega] at h2
  rw [g3] at h3
  rw [show (a : Int) * 16777216 = ((a * 16777216 : Nat) : Int) from (Int.natCast_mul _ _).symm, show (b : Int) * 65536 = ((b * 65536 : Nat) : Int) from (Int.natCast_mul _ _).symm,
    show (c : Int) * 256 = ((c * 256 : Nat) : Int) from (Int.natCast_mul _ _).symm, h1, h2, h3]
/-- a byte more: n * 256 or c. -/
theorem or64 (n c : Nat) (hn : n < 72057594037927936) (hc : c < 256) : bits .or .u64 ((n : Int) * 256) (c : Int) = ((n * 256 + c : Nat) : Int) := by
  have h := u64_or_nat (n * 256) c (by omega) (by omega)
  have g : (n * 256) ||| c = n * 256 + c := or_shift 8 n c (by show c < 256; omega)
  rw [g] at h
  rw [show (n : Int) * 256 = ((n * 256 : Nat) : Int) from (Int.natCast_mul _ _).symm, h]

end Go.Proofs.YtmfkfpgomglplaaDoor.Mc1
