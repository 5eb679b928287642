/- tikref2: number. -/
import Derived.Test.YtlhapnnepcnfbabURef2
set_option linter.unusedVariables false
namespace Go.Proofs.Ytlhapnnepcnfbab.URef2
open Go Go.RowKit Words UMath UDec

theorem or12 (s b : Int) (h0 : 0 ≤ s) (h1 : s < 2048) (h2 : 0 ≤ b) (h3 : b < 64) : bits .or .i32 (s * 4096) (b * 64) = (s * 64 + b) * 64 := by
  obtain ⟨m, rfl⟩ := Int.eq_ofNat_of_zero_le h0
  obtain ⟨n, rfl⟩ := Int.eq_ofNat_of_zero_le h2
  have e1 : (BitVec.ofInt 32 ((m : Int) * 4096)).toNat = 4096 * m := by rw [BitVec.toNat_ofInt]; omega
  have e2 : (BitVec.ofInt 32 ((n : Int) * 64)).toNat = 64 * n := by rw [BitVec.toNat_ofInt]; omega
  have e3 : 4096 * m ||| 64 * n = 4096 * m + 64 * n := (Nat.two_pow_add_eq_or_of_lt (i := 12) (by omega) m).symm
  show IntKind.i32.wrap ((BitVec.ofInt 32 ((m : Int) * 4096) ||| BitVec.ofInt 32 ((n : Int) * 64)).toNat : Nat) = _
  rw [BitVec.toNat_or, e1, e2, e3, IntKind.wrap_i32]
  omega
theorem or18 (s b : Int) (h0 : 0 ≤ s) (h1 : s < 32) (h2 : 0 ≤ b) (h3 : b < 64) : bits .or .i32 (s * 262144) (b * 4096) = (s * 64 + b) * 4096 := by
  obtain ⟨m, rfl⟩ := Int.eq_ofNat_of_zero_le h0
  obtain ⟨n, rfl⟩ := Int.eq_ofNat_of_zero_le h2
  have e1 : (BitVec.ofInt 32 ((m : Int) * 262144)).toNat = 262144 * m := by rw [BitVec.toNat_ofInt]; omega
  have e2 : (BitVec.ofInt 32 ((n : Int) * 4096)).toNat = 4096 * n := by rw [BitVec.toNat_ofInt]; omega
  have e3 : 262144 * m ||| 4096 * n = 262144 * m + 4096 * n := (Nat.two_pow_add_eq_or_of_lt (i := 18) (by omega) m).symm
  show IntKind.i32.wrap ((BitVec.ofInt 32 ((m : Int) * 262144) ||| BitVec.ofInt 32 ((n : Int) * 4096)).toNat : Nat) = _
  rw [BitVec.toNat_or, e1, e2, e3, IntKind.wrap_i32]
  omega
theorem in32 (x : Int) (h0 : 0 ≤ x) (h1 : x ≤ 2147483647) : IntKind.i32.wrap x = x := by rw [IntKind.wrap_i32]; omega
theorem sl (b off : Nat) (l : List Int) (w : World) (hr : Row .u8 w (some ⟨b, off, none⟩) l) (i : Nat) (hi : i < l.length) (x : Int) (hx : l[i] = x) : w.cell? ⟨b, off + i, none⟩ = some (.int .u8 x) := by rw [← hx]; exact hr.at_ i hi
set_option maxRecDepth 100000 in
set_option maxHeartbeats 2000000 in
theorem number1 (a : Option Addr) (c : Int) (cap : Nat) (w : World) (hr : Row .u8 w a [c]) (h0 : 0 ≤ c) (h1 : c ≤ 255) :
    Calls Try.prog 24 #[.slice a 1 cap] w fun e w' => e = .returned (.int .i32 c) ∧ w = w' := by
  obtain ⟨b, off, rfl⟩ := hr.addr (by simp)
  have c0 : w.cell? ⟨b, off, none⟩ = some (.int .u8 c) := hr.at_ 0 (by simp)
  have k0 := in32 c h0 (by omega)
  go_enter Try.func24, Try.ntmps24
  go_wp2
  go_ret
  exact ⟨rfl, rfl⟩
set_option maxRecDepth 100000 in
set_option maxHeartbeats 2000000 in
theorem number2 (a : Option Addr) (c x : Int) (cap : Nat) (w : World) (hr : Row .u8 w a [c, x]) (h0 : 0 ≤ c) (h1 : c ≤ 255) (x0 : 0 ≤ x) (x1 : x ≤ 255) :
    Calls Try.prog 24 #[.slice a 2 cap] w fun e w' => e = .returned (.int .i32 (c % 32 * 64 + x % 64)) ∧ ∃ n, w.drewN n = w' := by
  obtain ⟨b, off, rfl⟩ := hr.addr (by simp)
  have c0 : w.cell? ⟨b, off, none⟩ = some (.int .u8 c) := hr.at_ 0 (by simp)
  have c1 : w.cell? ⟨b, off + 1, none⟩ = some (.int .u8 x) := hr.at_ 1 (by simp)
  have q1 : 0 ≤ c % 32 := by omega
  have q2 : c % 32 < 32 := by omega
  have q3 : 0 ≤ x % 64 := by omega
  have q4 : x % 64 < 64 := by omega
  have a1 := UBits.and31 c h0 h1
  have a2 := UBits.and63 x x0 x1
  have o1 := UBits.or32 (c % 32) (x % 64) q1 (by omega) q3 q4
  have k1 := in32 (c % 32) q1 (by omega)
  have k2 := in32 (x % 64) q3 (by omega)
  have k3 := in32 (c % 32 * 64) (by omega) (by omega)
  go_enter Try.func24, Try.ntmps24
  go_wp2_with fail
  go_quiet (fail)
  go_wp2
  go_ret
  exact ⟨rfl, _, rfl⟩
set_option maxRecDepth 100000 in
set_option maxHeartbeats 2000000 in
theorem number3 (a : Option Addr) (c x y : Int) (cap : Nat) (w : World) (hr : Row .u8 w a [c, x, y]) (h0 : 0 ≤ c) (h1 : c ≤ 255) (x0 : 0 ≤ x) (x1 : x ≤ 255) (y0 : 0 ≤ y) (y1 : y ≤ 255) :
    Calls Try.prog 24 #[.slice a 3 cap] w fun e w' => e = .returned (.int .i32 ((c % 16 * 64 + x % 64) * 64 + y % 64)) ∧ ∃ n, w.drewN n = w' := by
  obtain ⟨b, off, rfl⟩ := hr.addr (by simp)
  have c0 : w.cell? ⟨b, off, none⟩ = some (.int .u8 c) := hr.at_ 0 (by simp)
  have c1 : w.cell? ⟨b, off + 1, none⟩ = some (.int .u8 x) := hr.at_ 1 (by simp)
  have c2 : w.cell? ⟨b, off + 2, none⟩ = some (.int .u8 y) := hr.at_ 2 (by simp)
  have q1 : 0 ≤ c % 16 := by omega
  have q2 : c % 16 < 16 := by omega
  have q3 : 0 ≤ x % 64 := by omega
  have q4 : x % 64 < 64 := by omega
  have q5 : 0 ≤ y % 64 := by omega
  have q6 : y % 64 < 64 := by omega
  have a1 := UBits.and15 c h0 h1
  have a2 := UBits.and63 x x0 x1
  have a3 := UBits.and63 y y0 y1
  have o1 := or12 (c % 16) (x % 64) q1 (by omega) q3 q4
  have o2 := UBits.or32 (c % 16 * 64 + x % 64) (y % 64) (by omega) (by omega) q5 q6
  have k1 := in32 (c % 16) q1 (by omega)
  have k2 := in32 (x % 64) q3 (by omega)
  have k3 := in32 (y % 64) q5 (by omega)
  have k4 := in32 (c % 16 * 4096) (by omega) (by omega)
  have k5 := in32 (x % 64 * 64) (by omega) (by omega)
  go_enter Try.func24, Try.ntmps24
  go_wp2_with fail
  go_quiet (fail)
  go_wp2
  go_ret
  exact ⟨rfl, _, rfl⟩
set_option maxRecDepth 100000 in
set_option maxHeartbeats 2000000 in
theorem number4 (a : Option Addr) (c x y z : Int) (cap : Nat) (w : World) (hr : Row .u8 w a [c, x, y, z]) (h0 : 0 ≤ c) (h1 : c ≤ 255) (x0 : 0 ≤ x) (x1 : x ≤ 255) (y0 : 0 ≤ y) (y1 : y ≤ 255) (z0 : 0 ≤ z) (z1 : z ≤ 255) :
    Calls Try.prog 24 #[.slice a 4 cap] w fun e w' => e = .returned (.int .i32 (((c % 8 * 64 + x % 64) * 64 + y % 64) * 64 + z % 64)) ∧ ∃ n, w.drewN n = w' := by
  obtain ⟨b, off, rfl⟩ := hr.addr (by simp)
  have c0 : w.cell? ⟨b, off, none⟩ = some (.int .u8 c) := hr.at_ 0 (by simp)
  have c1 : w.cell? ⟨b, off + 1, none⟩ = some (.int .u8 x) := hr.at_ 1 (by simp)
  have c2 : w.cell? ⟨b, off + 2, none⟩ = some (.int .u8 y) := hr.at_ 2 (by simp)
  have c3 : w.cell? ⟨b, off + 3, none⟩ = some (.int .u8 z) := hr.at_ 3 (by simp)
  have q1 : 0 ≤ c % 8 := by omega
  have q2 : c % 8 < 8 := by omega
  have q3 : 0 ≤ x % 64 := by omega
  have q4 : x % 64 < 64 := by omega
  have q5 : 0 ≤ y % 64 := by omega
  have q6 : y % 64 < 64 := by omega
  have q7 : 0 ≤ z % 64 := by omega
  have q8 : z % 64 < 64 := by omega
  have a1 := UBits.and7 c h0 h1
  have a2 := UBits.and63 x x0 x1
  have a3 := UBits.and63 y y0 y1
  have a4 := UBits.and63 z z0 z1
  have o1 := or18 (c % 8) (x % 64) q1 (by omega) q3 q4
  have o2 := or12 (c % 8 * 64 + x % 64) (y % 64) (by omega) (by omega) q5 q6
  have o3 := UBits.or32 ((c % 8 * 64 + x % 64) * 64 + y % 64) (z % 64) (by omega) (by omega) q7 q8
  have k1 := in32 (c % 8) q1 (by omega)
  have k2 := in32 (x % 64) q3 (by omega)
  have k3 := in32 (y % 64) q5 (by omega)
  have k4 := in32 (c % 8 * 262144) (by omega) (by omega)
  have k5 := in32 (x % 64 * 4096) (by omega) (by omega)
  have k6 := in32 (y % 64 * 64) (by omega) (by omega)
  have k7 := in32 (z % 64) q7 (by omega)
  go_enter Try.func24, Try.ntmps24
  go_wp2_with fail
  go_quiet (fail)
  go_wp2
  go_ret
  exact ⟨rfl, _, rfl⟩
theorem siz_head (c : Int) : (sizB c = 1 → headB c = c) ∧ (sizB c = 2 → headB c = c % 32) ∧ (sizB c = 3 → headB c = c % 16) ∧ (sizB c = 4 → headB c = c % 8) := by
  unfold sizB headB
  refine ⟨fun h => ?_, fun h => ?_, fun h => ?_, fun h => ?_⟩
  all_goals repeat' split at h
  all_goals first | omega | skip
  all_goals repeat' split
  all_goals first | rfl | omega
/-- number: the sign of whole bytes. -/
theorem numberRC (a : Option Addr) (c : Int) (t : List Int) (cap : Nat) (w : World) (hk : sizB c = t.length + 1) (hr : Row .u8 w a (c :: t)) (hb : ∀ x ∈ c :: t, 0 ≤ x ∧ x ≤ 255) :
    Calls Try.prog 24 #[.slice a (t.length + 1) cap] w fun e w' => e = .returned (.int .i32 (numL (headB c) t)) ∧ ∃ n, w.drewN n = w' := by
  have h4 := siz4 c
  have hc := hb c (by simp)
  obtain ⟨s1, s2, s3, s4⟩ := siz_head c
  match t, hk, hr, hb with
  | [], hk, hr, hb =>
    have := (number1 a c cap w hr hc.1 hc.2).mono fun e w' h => (⟨h.1, 0, h.2⟩ : e = .returned (.int .i32 c) ∧ ∃ n, w.drewN n = w')
    rw [s1 hk]; exact this
  | [x], hk, hr, hb =>
    have hx := hb x (by simp)
    rw [s2 hk]
    exact number2 a c x cap w hr hc.1 hc.2 hx.1 hx.2
  | [x, y], hk, hr, hb =>
    have hx := hb x (by simp)
    have hy := hb y (by simp)
    rw [s3 hk]
    exact number3 a c x y cap w hr hc.1 hc.2 hx.1 hx.2 hy.1 hy.2
  | [x, y, z], hk, hr, hb =>
    have hx := hb x (by simp)
    have hy := hb y (by simp)
    have hz := hb z (by simp)
    rw [s4 hk]
    exact number4 a c x y z cap w hr hc.1 hc.2 hx.1 hx.2 hy.1 hy.2 hz.1 hz.2
  | x :: y :: z :: u :: t, hk, hr, hb => simp at hk; omega
end Go.Proofs.Ytlhapnnepcnfbab.URef2
