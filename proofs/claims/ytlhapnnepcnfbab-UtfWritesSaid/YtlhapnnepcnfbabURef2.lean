/- tikref2: the document's own decoder: size, next, front, number. -/
import Derived.Test.YtlhapnnepcnfbabUWr
import Derived.Test.YtlhapnnepcnfbabUMath3
import Derived.Deep.CutRange
set_option linter.unusedVariables false
namespace Go.Proofs.Ytlhapnnepcnfbab.URef2
open Go Go.RowKit Words UMath UDec

theorem sizeRC (c : Int) (w : World) (h0 : 0 ≤ c) (h1 : c ≤ 255) : Calls Try.prog 31 #[.int .u8 c] w fun e w' => e = .returned (.int .i64 (sizB c : Nat)) ∧ w = w' := by
  have hz : c < 128 ∧ Hid (sizB c = 1) ∨ (128 ≤ c ∧ c < 194) ∧ Hid (sizB c = 0) ∨ (194 ≤ c ∧ c < 224) ∧ Hid (sizB c = 2) ∨ (224 ≤ c ∧ c < 240) ∧ Hid (sizB c = 3) ∨ (240 ≤ c ∧ c < 245) ∧ Hid (sizB c = 4) ∨ 245 ≤ c ∧ Hid (sizB c = 0) := by
    by_cases a : c < 128
    · exact .inl ⟨a, Lib.hid (by unfold sizB; rw [if_pos a])⟩
    by_cases b : c < 194
    · exact .inr (.inl ⟨by omega, Lib.hid (by unfold sizB; rw [if_neg a, if_neg (by omega), if_neg (by omega), if_neg (by omega)])⟩)
    by_cases d : c < 224
    · exact .inr (.inr (.inl ⟨by omega, Lib.hid (by unfold sizB; rw [if_neg a, if_pos (by omega)])⟩))
    by_cases e : c < 240
    · exact .inr (.inr (.inr (.inl ⟨by omega, Lib.hid (by unfold sizB; rw [if_neg a, if_neg (by omega), if_pos (by omega)])⟩)))
    by_cases f : c < 245
    · exact .inr (.inr (.inr (.inr (.inl ⟨by omega, Lib.hid (by unfold sizB; rw [if_neg a, if_neg (by omega), if_neg (by omega), if_pos (by omega)])⟩))))
    · exact .inr (.inr (.inr (.inr (.inr ⟨by omega, Lib.hid (by unfold sizB; rw [if_neg a, if_neg (by omega), if_neg (by omega), if_neg (by omega)])⟩))))
  generalize sizB c = K at *
  rcases hz with ⟨z, hz⟩ | ⟨⟨z, z'⟩, hz⟩ | ⟨⟨z, z'⟩, hz⟩ | ⟨⟨z, z'⟩, hz⟩ | ⟨⟨z, z'⟩, hz⟩ | ⟨z, hz⟩
  all_goals
    go_enter Try.func31, Try.ntmps31
    go_wp2
    go_ret
    exact ⟨ret_int (by rw [hz.out]; rfl), rfl⟩
theorem nxt_parts (c x : Int) (n : Nat) : ∃ lo hi : Int, Hid (∀ b b' : Bool, decide (lo ≤ x) = b → decide (x ≤ hi) = b' → nxtB c n x = (b && b')) ∧
    ((n = 1 ∧ c = 224 ∧ lo = 160 ∧ hi = 191) ∨ (n = 1 ∧ c = 237 ∧ lo = 128 ∧ hi = 159) ∨ (n = 1 ∧ c = 240 ∧ lo = 144 ∧ hi = 191) ∨ (n = 1 ∧ c = 244 ∧ lo = 128 ∧ hi = 143) ∨
      (n = 1 ∧ (c ≠ 224 ∧ c ≠ 237 ∧ c ≠ 240 ∧ c ≠ 244) ∧ lo = 128 ∧ hi = 191) ∨ (n ≠ 1 ∧ lo = 128 ∧ hi = 191)) := by
  refine ⟨loB c n, hiB c n, Lib.hid (fun b b' h1 h2 => by unfold nxtB; rw [h1, h2]), ?_⟩
  unfold loB hiB
  by_cases h : n = 1
  · rw [if_pos h, if_pos h]
    by_cases a : c = 224
    · subst a; exact .inl ⟨h, rfl, rfl, rfl⟩
    by_cases b : c = 237
    · subst b; exact .inr (.inl ⟨h, rfl, rfl, rfl⟩)
    by_cases d : c = 240
    · subst d; exact .inr (.inr (.inl ⟨h, rfl, rfl, rfl⟩))
    by_cases e : c = 244
    · subst e; exact .inr (.inr (.inr (.inl ⟨h, rfl, rfl, rfl⟩)))
    · exact .inr (.inr (.inr (.inr (.inl ⟨h, ⟨a, b, d, e⟩, by rw [if_neg a, if_neg d], by rw [if_neg b, if_neg e]⟩))))
  · rw [if_neg h, if_neg h]
    exact .inr (.inr (.inr (.inr (.inr ⟨h, rfl, rfl⟩))))
theorem nextRC (c x : Int) (n : Nat) (w : World) (hn : n ≤ 4) : Calls Try.prog 32 #[.int .u8 c, .int .i64 n, .int .u8 x] w fun e w' => e = .returned (.bool (nxtB c n x)) ∧ w = w' := by
  obtain ⟨lo, hi, HX, hc⟩ := nxt_parts c x n
  generalize nxtB c n x = R at *
  rcases hc with ⟨rfl, rfl, rfl, rfl⟩ | ⟨rfl, rfl, rfl, rfl⟩ | ⟨rfl, rfl, rfl, rfl⟩ | ⟨rfl, rfl, rfl, rfl⟩ | ⟨rfl, ⟨n1, n2, n3, n4⟩, rfl, rfl⟩ | ⟨hn1, rfl, rfl⟩
  ·
    cases h1 : decide ((160 : Int) ≤ x) <;> cases h2 : decide (x ≤ 191)
    all_goals
      have HR := Lib.hid (HX.out _ _ h1 h2)
      go_enter Try.func32, Try.ntmps32
      go_wp2
      go_ret
      exact ⟨ret_bool (by rw [HR.out]; rfl), rfl⟩
  ·
    cases h1 : decide ((128 : Int) ≤ x) <;> cases h2 : decide (x ≤ 159)
    all_goals
      have HR := Lib.hid (HX.out _ _ h1 h2)
      go_enter Try.func32, Try.ntmps32
      go_wp2
      go_ret
      exact ⟨ret_bool (by rw [HR.out]; rfl), rfl⟩
  ·
    cases h1 : decide ((144 : Int) ≤ x) <;> cases h2 : decide (x ≤ 191)
    all_goals
      have HR := Lib.hid (HX.out _ _ h1 h2)
      go_enter Try.func32, Try.ntmps32
      go_wp2
      go_ret
      exact ⟨ret_bool (by rw [HR.out]; rfl), rfl⟩
  ·
    cases h1 : decide ((128 : Int) ≤ x) <;> cases h2 : decide (x ≤ 143)
    all_goals
      have HR := Lib.hid (HX.out _ _ h1 h2)
      go_enter Try.func32, Try.ntmps32
      go_wp2
      go_ret
      exact ⟨ret_bool (by rw [HR.out]; rfl), rfl⟩
  ·
    have q1 : (c == 224) = false := by simpa using n1
    have q2 : (c == 237) = false := by simpa using n2
    have q3 : (c == 240) = false := by simpa using n3
    have q4 : (c == 244) = false := by simpa using n4
    cases h1 : decide ((128 : Int) ≤ x) <;> cases h2 : decide (x ≤ 191)
    all_goals
      have HR := Lib.hid (HX.out _ _ h1 h2)
      go_enter Try.func32, Try.ntmps32
      go_wp2
      go_ret
      exact ⟨ret_bool (by rw [HR.out]; rfl), rfl⟩
  ·
    have q1 : ((n : Int) == 1) = false := by rw [beq_eq_false_iff_ne]; omega
    cases h1 : decide ((128 : Int) ≤ x) <;> cases h2 : decide (x ≤ 191)
    all_goals
      have HR := Lib.hid (HX.out _ _ h1 h2)
      go_enter Try.func32, Try.ntmps32
      go_wp2
      go_ret
      exact ⟨ret_bool (by rw [HR.out]; rfl), rfl⟩
/-- what front answers. -/
def FrP (w : World) (c : Int) (t : List Int) (e : Ending) (w' : World) : Prop :=
  e = .returned (.tuple #[.int .i64 (if sizB c = 0 then 1 else frontN c (sizB c) 1 t : Nat), .int .i64 (sizB c : Nat)]) ∧ ∃ m, w.drewN m = w'
theorem ret_two {a b c d : Int} (h : a = c) (g : b = d) : Ending.returned (.tuple #[.int .i64 a, .int .i64 b]) = .returned (.tuple #[.int .i64 c, .int .i64 d]) := by rw [h, g]
theorem front_step (c : Int) (k n : Nat) (t : List Int) (x : Int) (h1 : 1 ≤ n) (hn : n - 1 < t.length) (hk : n < k) (hx : t[n - 1] = x) :
    frontN c k n (t.drop (n - 1)) = if nxtB c n x = true then frontN c k (n + 1) (t.drop (n + 1 - 1)) else n := by
  rw [List.drop_eq_getElem_cons hn, frontN, hx]
  have e : n - 1 + 1 = n + 1 - 1 := by omega
  rw [e]
  by_cases h : nxtB c n x = true
  · rw [if_pos ⟨hk, h⟩, if_pos h]
  · rw [if_neg (by simp [h]), if_neg h]
theorem front_end (c : Int) (k n : Nat) (t : List Int) (h : k ≤ n) : frontN c k n t = n := by
  cases t with
  | nil => rfl
  | cons x t => rw [frontN, if_neg (by omega)]
set_option maxRecDepth 100000 in
set_option maxHeartbeats 2000000 in
theorem frontRC (a : Option Addr) (c : Int) (t : List Int) (len cap : Nat) (w : World) (hlen : len = t.length + 1) (hr : Row .u8 w a (c :: t)) (h0 : 0 ≤ c) (h1 : c ≤ 255) (hl : len ≤ 100000) :
    Calls Try.prog 23 #[.slice a len cap] w (FrP w c t) := by
  obtain ⟨b, off, rfl⟩ := hr.addr (by simp)
  have c0 : w.cell? ⟨b, off, none⟩ = some (.int .u8 c) := hr.at_ 0 (by simp)
  have HR := Lib.hid hr
  have HL := Lib.hid hlen
  have hln : 1 ≤ len := by omega
  clear hr hlen
  by_cases hk : sizB c = 0
  · go_enter Try.func23, Try.ntmps23
    go_wp2_with fail
    refine (sizeRC c w h0 h1).mono ?_
    rw [hk]
    rintro e w1 ⟨rfl, rfl⟩
    go_wp2
    go_ret2
    refine ⟨?_, 0, rfl⟩
    rw [if_pos hk, hk]; rfl
  · have HF : Hid ((if sizB c = 0 then 1 else frontN c (sizB c) 1 t : Nat) = frontN c (sizB c) 1 t) := Lib.hid (by rw [if_neg hk])
    have hk4 := siz4 c
    have HS := Lib.hid (sizeRC c w h0 h1)
    generalize hK : sizB c = K at *
    have HK := Lib.hid hK
    clear hK
    have hkb : ((K : Int) == 0) = false := by rw [beq_eq_false_iff_ne]; omega
    have HST := Lib.hid (front_step c K)
    have HEN := Lib.hid (front_end c K)
    have HLE := Lib.hid (front_le c K t 1)
    go_enter Try.func23, Try.ntmps23
    go_wp2_with fail
    refine HS.out.mono ?_
    rintro e w1 ⟨rfl, rfl⟩
    go_wp2
    go_loopw [5] (fun s5 wr => ∃ n m : Nat, s5 = .int .i64 (n : Int) ∧ (1 ≤ n ∧ n ≤ K ∧ n ≤ len) ∧ Hid (frontN c K n (t.drop (n - 1)) = frontN c K 1 t) ∧ Hid (w.drewN m = wr)) (fun s5 _ => K - (intOf s5).toNat)
    case atStart => exact ⟨1, 0, rfl, ⟨Nat.le_refl _, by omega, by omega⟩, Lib.hid rfl, Lib.hid rfl⟩
    case round =>
      obtain ⟨n, m, rfl, ⟨n1, n2, n3⟩, HN, HW⟩ := hrel
      have c1 : wr.cell? ⟨b, off, none⟩ = some (.int .u8 c) := by rw [← HW.out]; exact c0
      have hi0 : 0 < len := by omega
      by_cases hA : n < K
      · by_cases hB : n < len
        · have hl1 : n < (c :: t).length := by have := HL.out; simp; omega
          have hl2 : n - 1 < t.length := by have := HL.out; omega
          have hcell : wr.cell? ⟨b, off + n, none⟩ = some (.int .u8 (c :: t)[n]) := by rw [← HW.out]; exact HR.out.at_ n hl1
          have hx : (c :: t)[n] = t[n - 1] := by
            clear hcell
            obtain ⟨j, rfl⟩ : ∃ j, n = j + 1 := ⟨n - 1, by omega⟩
            simp
          rw [hx] at hcell
          have HS1 := Lib.hid (HST.out n t _ n1 hl2 hA rfl)
          generalize t[n - 1] = x at hcell HS1

          cases hnx : nxtB c n x
          · have HC : Hid (∀ W, Calls Try.prog 32 #[.int .u8 c, .int .i64 n, .int .u8 x] W fun e w' => e = .returned (.bool false) ∧ W = w') := Lib.hid (fun W => by have h := nextRC c x n W (by omega); rw [hnx] at h; exact h)
            rw [hnx] at HS1
            clear hnx hx hl1 hl2
            go_wp2_with fail
            go_quiet ((go_at_call 32; exact Calls.quiet_of_same ((HC.out _).mono fun _ _ h => ⟨h.1, h.2.symm⟩)))
            go_wp2
            go_ret2
            refine ⟨?_, _, by rw [← HW.out]; exact (World.drewN_drewN _ _ _).symm⟩
            rw [HK.out, HF.out, ← HN.out, HS1.out]; rfl
          · have HC : Hid (∀ W, Calls Try.prog 32 #[.int .u8 c, .int .i64 n, .int .u8 x] W fun e w' => e = .returned (.bool true) ∧ W = w') := Lib.hid (fun W => by have h := nextRC c x n W (by omega); rw [hnx] at h; exact h)
            rw [hnx] at HS1
            clear hnx hx hl1 hl2
            go_wp2_with fail
            go_quiet ((go_at_call 32; exact Calls.quiet_of_same ((HC.out _).mono fun _ _ h => ⟨h.1, h.2.symm⟩)))
            go_wp2
            go_roundw
            case rel => exact ⟨n + 1, _, by go_num, ⟨by omega, by omega, by omega⟩, Lib.hid (by rw [← HN.out, HS1.out]; rfl), Lib.hid (by rw [← HW.out]; exact (World.drewN_drewN _ _ _).symm)⟩
            case measure => simp [intOf]; omega
        · have hd : decide ((n : Int) < (len : Int)) = false := by simp; omega
          go_wp2_with fail
          go_quiet (fail)
          go_wp2
          go_ret2
          refine ⟨?_, _, by rw [← HW.out]; exact (World.drewN_drewN _ _ _).symm⟩
          rw [HK.out, HF.out, ← HN.out, List.drop_eq_nil_of_le (by have := HL.out; omega)]; rfl
      · have hd : decide ((n : Int) < (K : Int)) = false := by simp; omega
        go_wp2_with fail
        go_quiet (fail)
        go_wp2
        go_ret2
        refine ⟨?_, _, by rw [← HW.out]; exact (World.drewN_drewN _ _ _).symm⟩
        rw [HK.out, HF.out, ← HN.out, HEN.out _ _ (by omega)]; rfl
end Go.Proofs.Ytlhapnnepcnfbab.URef2
