/- rate.Scale and Float: the code's and the document's contracts. -/
import Derived.Test.YthihkbnkbajglaaGreatDoorScale
set_option linter.unusedVariables false
namespace Go.Proofs.YthihkbnkbajglaaGreatDoor.Scale2
open Go Go.RowKit Kit Nums Rate1 Scale

set_option maxRecDepth 100000 in
set_option maxHeartbeats 1000000 in
theorem mulBig (x n : Nat) (w : World) (X A B C L H : Int) (m1 : bits .and .u64 (x : Int) 4294967295 = X) (m2 : bits .and .u64 (n : Int) 4294967295 = (n : Int)) (m3 : (n : Int) / 4294967296 = 0)
    (e1 : IntKind.u64.wrap (X * (n : Int)) = A) (e2 : IntKind.u64.wrap ((x : Int) / 4294967296 * (n : Int)) = B) (hA0 : 0 ≤ A) (hA : A < 4611686018427387904) (hB0 : 0 ≤ B) (hB : B < 4611686018427387904)
    (m4 : bits .and .u64 (B + A / 4294967296) 4294967295 = C) (hC0 : 0 ≤ C) (hC : C < 4294967296) (e3 : IntKind.u64.wrap ((x : Int) * (n : Int)) = L) (eH : (B + A / 4294967296) / 4294967296 = H) :
    Calls Tryz.prog 100 #[.int .u64 x, .int .u64 n] w fun e w' => e = .returned (.tuple #[.int .u64 H, .int .u64 L]) ∧ w = w' := by
  have hc : C / 4294967296 = 0 := by omega
  go_enter Tryz.func100, Tryz.ntmps100
  go_wp2
  go_ret2
  exact ⟨rfl, rfl⟩
theorem mulC (x n : Nat) (w : World) (hx : x < 18446744073709551616) (hn : n ≤ 1073741824) :
    Calls Tryz.prog 100 #[.int .u64 x, .int .u64 n] w fun e w' => e = .returned (.tuple #[.int .u64 ((x * n / 18446744073709551616 : Nat) : Int), .int .u64 ((x * n % 18446744073709551616 : Nat) : Int)]) ∧ w = w' := by
  have b1 : x % 4294967296 * n ≤ 4294967295 * 1073741824 := Nat.mul_le_mul (by omega) hn
  have b2 : x / 4294967296 * n ≤ 4294967295 * 1073741824 := Nat.mul_le_mul (by omega) hn
  have hsum : x * n = (x / 4294967296 * n) * 4294967296 + x % 4294967296 * n := by
    conv => lhs; rw [← Nat.div_add_mod x 4294967296]
    rw [Nat.add_mul, Nat.mul_assoc, Nat.mul_comm 4294967296]
  have c1 : ((x : Int) % 4294967296 * (n : Int)) = ((x % 4294967296 * n : Nat) : Int) := by rw [Int.natCast_mul, Int.natCast_emod]; rfl
  have c2 : ((x : Int) / 4294967296 * (n : Int)) = ((x / 4294967296 * n : Nat) : Int) := by rw [Int.natCast_mul, Int.natCast_ediv]; rfl
  have c3 : ((x : Int) * (n : Int)) = ((x * n : Nat) : Int) := by rw [Int.natCast_mul]
  generalize x % 4294967296 * n = A at *
  generalize x / 4294967296 * n = B at *
  generalize hP : x * n = P at *
  have hm := mask32 (B + A / 4294967296) (by omega)
  rw [show ((B + A / 4294967296 : Nat) : Int) = (B : Int) + (A : Int) / 4294967296 from by omega] at hm
  have hmn : bits .and .u64 (n : Int) 4294967295 = (n : Int) := by rw [mask32 n (by omega)]; omega
  refine mulBig x n w ((x : Int) % 4294967296) A B (((B : Int) + (A : Int) / 4294967296) % 4294967296) _ _ (mask32 x hx) hmn (by omega) (by rw [c1, wu]; omega) (by rw [c2, wu]; omega) (by omega) (by omega) (by omega) (by omega) hm (by omega) (by omega) (by rw [c3, wu]; omega) (by omega)
theorem add64 (a b : Nat) (w : World) : (callFunc 105 #[.int .u64 (a : Int), .int .u64 (b : Int), .int .u64 0]).run Tryz.prog w = .ok (.value (.tuple #[.int .u64 (((a + b + 0) % 18446744073709551616 : Nat) : Int), .int .u64 (((a + b + 0) / 18446744073709551616 : Nat) : Int)])) w := by
  kernel_rfl
set_option maxRecDepth 100000 in
theorem div0 (lo d : Nat) (w : World) (h1 : 1 ≤ d) (hd : d ≤ 1048576) (Q R : Int) (eQ : (lo : Int) / (d : Int) = Q) (eR : (lo : Int) % (d : Int) = R) (hW : IntKind.u64.wrap Q = Q) :
    Calls Tryz.prog 103 #[.int .u64 0, .int .u64 lo, .int .u64 (d : Int)] w fun e w' => e = .returned (.tuple #[.int .u64 Q, .int .u64 R]) ∧ ∃ n, w.drewN n = w' := by
  have hd0 : ((d : Int) == 0) = false := by simp; omega
  have hd1 : ¬ (d : Int) = 0 := by omega
  have hdh : ¬ (d : Int) ≤ 0 := by omega
  go_enter Tryz.func103, Tryz.ntmps103
  go_wp2
  go_quiet (fail)
  go_wp2
  go_ret2
  exact ⟨two _ _ _ _ rfl eR, _, rfl⟩
theorem divAny (hi lo k : Nat) (w : World) (hk : k ≤ 20) (hh : hi < 2 ^ k) (hl : lo < 18446744073709551616) :
    Calls Tryz.prog 103 #[.int .u64 hi, .int .u64 lo, .int .u64 ((2 ^ k : Nat) : Int)] w fun e w' => e = .returned (.tuple #[.int .u64 (((hi * 18446744073709551616 + lo) / 2 ^ k : Nat) : Int), .int .u64 (((hi * 18446744073709551616 + lo) % 2 ^ k : Nat) : Int)]) ∧ ∃ n, w.drewN n = w' := by
  by_cases h0 : 0 < hi
  · have hk1 : 1 ≤ k := by
      rcases Nat.eq_zero_or_pos k with rfl | h
      · simp at hh; omega
      · exact h
    exact (divC hi lo k w hk hk1 hh hl h0).mono fun _ _ ⟨h, g⟩ => ⟨h, 0, g⟩
  · obtain rfl : hi = 0 := by omega
    rw [Nat.zero_mul, Nat.zero_add]
    have hp : 2 ^ k ≤ 2 ^ 20 := Nat.pow_le_pow_right (by decide) hk
    exact div0 lo (2 ^ k) w (Nat.two_pow_pos k) hp _ _ (by rw [Int.natCast_ediv]) (by rw [Int.natCast_emod]) (by rw [wu]; have := Nat.div_le_self lo (2 ^ k); generalize lo / 2 ^ k = q at *; omega)
def ScP (r : Nat × Nat × Nat) (w : World) (e : Ending) (w' : World) : Prop := e = .returned (.tuple #[.int .u64 (r.1 : Int), .int .u64 (r.2.1 : Int), .int .i64 (r.2.2 : Int)]) ∧ Below w.heap.size w w'
theorem sc_no {t r n d : Nat} (h : mayN n d = false ∨ d ≤ r) : scaleN t r n d = (0, 0, 1) := by
  unfold scaleN; rw [if_neg]; rcases h with h | h
  · simp [h]
  · intro ⟨_, g⟩; omega
theorem sc_big {t r n d : Nat} (h : 4611686018427387904 < (t * n + r) / d) : scaleN t r n d = (0, 0, 1) := by
  unfold scaleN; split
  · rw [if_neg (by omega)]
  · rfl
theorem sc_ok {t r n d : Nat} (h1 : mayN n d = true) (h2 : r < d) (h : (t * n + r) / d ≤ 4611686018427387904) : scaleN t r n d = ((t * n + r) / d, (t * n + r) % d, 0) := by
  unfold scaleN; rw [if_pos ⟨h1, h2⟩, if_pos h]
set_option maxRecDepth 100000 in
set_option maxHeartbeats 1000000 in
theorem scaleC (t r n d : Nat) (w : World) (ht : t < 18446744073709551616) (hr : r < 18446744073709551616) (hn : n < 18446744073709551616) (hd : d < 18446744073709551616) :
    Calls Tryz.prog 104 #[.int .u64 t, .int .u64 r, .agg #[.int .u64 n, .int .u64 d]] w (ScP (scaleN t r n d) w) := by
  have hm := fun w => mayC n d w hn hd
  by_cases hno : mayN n d = false ∨ d ≤ r
  · have HE := Lib.hid (sc_no (t := t) hno)
    generalize scaleN t r n d = S at HE
    cases hB : mayN n d
    · rw [hB] at hm
      have HM := Lib.hid hm
      clear hm hB hno ht hr hn hd
      go_enter Tryz.func104, Tryz.ntmps104
      go_wp2_with fail
      refine (HM.out _).mono ?_
      rintro e w' ⟨rfl, rfl⟩
      go_wp2_with fail
      go_ret3
      rw [HE.out]
      exact ⟨rfl, ((Below.refl _ _).alloc (Nat.le_refl _) _).alloc (by simp) _⟩
    · rw [hB] at hm
      have HM := Lib.hid hm
      have hdr : (d : Int) ≤ r := by rw [hB] at hno; simp at hno; omega
      clear hm hB hno ht hr hn hd
      go_enter Tryz.func104, Tryz.ntmps104
      go_wp2_with fail
      refine (HM.out _).mono ?_
      rintro e w' ⟨rfl, rfl⟩
      go_wp2_with fail
      go_ret3
      rw [HE.out]
      exact ⟨rfl, ((Below.refl _ _).alloc (Nat.le_refl _) _).alloc (by simp) _⟩
  · have hB : mayN n d = true := by cases h : mayN n d <;> simp_all
    have hrd : r < d := by rw [hB] at hno; simp at hno; omega
    obtain ⟨k, hk, hdk, hnk, _⟩ := may_pow hB
    have hp : 2 ^ k ≤ 2 ^ 20 := Nat.pow_le_pow_right (by decide) hk
    have h20 : (2 : Nat) ^ 20 = 1048576 := by decide
    have hn30 : n ≤ 1073741824 := by omega
    have hdr : ¬ (d : Int) ≤ r := by omega
    have HU := fun w => mulC t n w ht hn30
    have bP : t * n ≤ 18446744073709551615 * 1073741824 := Nat.mul_le_mul (by omega) hn30
    have HS1 := @sc_big t r n d
    have HS2 := @sc_ok t r n d hB hrd
    generalize scaleN t r n d = S at HS1 HS2 ⊢
    generalize t * n = P at *
    obtain ⟨hi, hhi⟩ : ∃ hi, hi = P / 18446744073709551616 := ⟨_, rfl⟩
    obtain ⟨lo, hlo⟩ : ∃ lo, lo = P % 18446744073709551616 := ⟨_, rfl⟩
    obtain ⟨l2, hl2⟩ : ∃ l2, l2 = (lo + r + 0) % 18446744073709551616 := ⟨_, rfl⟩
    obtain ⟨cy, hcy⟩ : ∃ cy, cy = (lo + r + 0) / 18446744073709551616 := ⟨_, rfl⟩
    obtain ⟨h2, hh2⟩ : ∃ h2, h2 = hi + cy := ⟨_, rfl⟩
    have hV : h2 * 18446744073709551616 + l2 = P + r := by omega
    have hA := fun w => add64 lo r w
    rw [← hl2, ← hcy] at hA
    rw [← hhi, ← hlo] at HU
    have eH : (hi : Int) + (cy : Int) = (h2 : Int) := by omega
    have bh : hi < 9223372036854775807 := by omega
    have bc : cy < 9223372036854775807 := by omega
    have hl2b : l2 < 18446744073709551616 := by omega
    rw [hB] at hm
    have HM := Lib.hid hm
    have HUU := Lib.hid HU
    by_cases hbig : d ≤ h2
    · have HE := Lib.hid (HS1 (by
        rw [← hV, Nat.lt_div_iff_mul_lt (by omega)]
        have : d * 18446744073709551616 ≤ h2 * 18446744073709551616 := Nat.mul_le_mul_right _ hbig
        omega))
      have hbig' : (d : Int) ≤ h2 := by omega
      clear hm hB hno ht hr hn hd HS1 HS2 HU hhi hlo hl2 hcy hh2 hV bP hl2b hdk hnk hp h20 hn30
      go_enter Tryz.func104, Tryz.ntmps104
      go_wp2_with fail
      refine (HM.out _).mono ?_
      rintro e w' ⟨rfl, rfl⟩
      go_wp2_with fail
      refine (HUU.out _).mono ?_
      rintro e w' ⟨rfl, rfl⟩
      go_wp2_with fail
      go_ret3
      rw [HE.out]
      exact ⟨rfl, ((Below.refl _ _).alloc (Nat.le_refl _) _).alloc (by simp) _⟩
    · have HD := fun w => divAny h2 l2 k w hk (by omega) hl2b
      rw [← hdk, hV] at HD
      have hbig' : ¬ (d : Int) ≤ h2 := by omega
      generalize (P + r) / d = Q at HD HS1 HS2
      generalize (P + r) % d = R at HD HS2
      have HDD := Lib.hid HD
      by_cases hq : Q ≤ 4611686018427387904
      · have HE := Lib.hid (HS2 hq)
        have hq' : (Q : Int) ≤ 4611686018427387904 := by omega
        clear hm hB hno ht hr hn hd HS1 HS2 HU hhi hlo hl2 hcy hh2 hV bP hl2b hdk hnk hp h20 hn30 HD
        go_enter Tryz.func104, Tryz.ntmps104
        go_wp2_with fail
        refine (HM.out _).mono ?_
        rintro e w' ⟨rfl, rfl⟩
        go_wp2_with fail
        refine (HUU.out _).mono ?_
        rintro e w' ⟨rfl, rfl⟩
        go_wp2_with fail
        refine (HDD.out _).mono ?_
        rintro e w' ⟨rfl, nd, rfl⟩
        go_wp2_with fail
        go_ret3
        rw [HE.out]
        exact ⟨rfl, below_drewN (((Below.refl _ _).alloc (Nat.le_refl _) _).alloc (by simp) _) _⟩
      · have HE := Lib.hid (HS1 (by omega))
        have hq' : (4611686018427387904 : Int) < Q := by omega
        clear hm hB hno ht hr hn hd HS1 HS2 HU hhi hlo hl2 hcy hh2 hV bP hl2b hdk hnk hp h20 hn30 HD
        go_enter Tryz.func104, Tryz.ntmps104
        go_wp2_with fail
        refine (HM.out _).mono ?_
        rintro e w' ⟨rfl, rfl⟩
        go_wp2_with fail
        refine (HUU.out _).mono ?_
        rintro e w' ⟨rfl, rfl⟩
        go_wp2_with fail
        refine (HDD.out _).mono ?_
        rintro e w' ⟨rfl, nd, rfl⟩
        go_wp2_with fail
        go_ret3
        rw [HE.out]
        exact ⟨rfl, below_drewN (((Below.refl _ _).alloc (Nat.le_refl _) _).alloc (by simp) _) _⟩
end Go.Proofs.YthihkbnkbajglaaGreatDoor.Scale2
