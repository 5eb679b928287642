/- The document's Encode, and Sign. -/
import Derived.Test.YtnaiefjbfpejbaaUm
set_option linter.unusedVariables false
namespace Go.Proofs.Ytnaiefjbfpejbaa.Jy
open Go Go.RowKit Words Um

theorem info5 : (Try.prog.info? 5).map (fun i => (i.zero, i.size, i.bytes)) = some (some (.int .u8 0), 1, 1) := by kernel_rfl
/-- what Encode answers. -/
def EnP (w : World) (l : List Int) (e : Ending) (w' : World) : Prop :=
  ∃ v, e = .returned v ∧ w'.ownsRow w.heap.size 5 1 v (encL l).length (cellsK .u8 (encL l)) ∧ Below w.heap.size w w'
theorem and63i (n : Int) : bits .and .i32 n 63 = n % 64 := by
  have h63 : (BitVec.ofInt 32 63).toNat = 2 ^ 6 - 1 := by decide
  have key : (BitVec.ofInt 32 n &&& BitVec.ofInt 32 63).toNat = (n % ((2 ^ 32 : Nat) : Int)).toNat % 2 ^ 6 := by
    rw [BitVec.toNat_and, BitVec.toNat_ofInt, h63, Nat.and_two_pow_sub_one_eq_mod]
  show IntKind.i32.wrap ((BitVec.ofInt 32 n &&& BitVec.ofInt 32 63).toNat : Nat) = n % 64
  rw [key, IntKind.wrap_i32]
  omega
theorem or128i' : ∀ c : Fin 64, bits .or .i32 128 (c.1 : Int) = 128 + (c.1 : Int) := by decide +kernel
theorem or192i' : ∀ c : Fin 32, bits .or .i32 192 (c.1 : Int) = 192 + (c.1 : Int) := by decide +kernel
theorem or224i' : ∀ c : Fin 16, bits .or .i32 224 (c.1 : Int) = 224 + (c.1 : Int) := by decide +kernel
theorem or240i' : ∀ c : Fin 8, bits .or .i32 240 (c.1 : Int) = 240 + (c.1 : Int) := by decide +kernel
theorem or128i (c : Int) (h0 : 0 ≤ c) (h1 : c < 64) : bits .or .i32 128 c = 128 + c := by
  obtain ⟨n, rfl⟩ := Int.eq_ofNat_of_zero_le h0; exact or128i' ⟨n, by omega⟩
theorem or192i (c : Int) (h0 : 0 ≤ c) (h1 : c < 32) : bits .or .i32 192 c = 192 + c := by
  obtain ⟨n, rfl⟩ := Int.eq_ofNat_of_zero_le h0; exact or192i' ⟨n, by omega⟩
theorem or224i (c : Int) (h0 : 0 ≤ c) (h1 : c < 16) : bits .or .i32 224 c = 224 + c := by
  obtain ⟨n, rfl⟩ := Int.eq_ofNat_of_zero_le h0; exact or224i' ⟨n, by omega⟩
theorem or240i (c : Int) (h0 : 0 ≤ c) (h1 : c < 8) : bits .or .i32 240 c = 240 + c := by
  obtain ⟨n, rfl⟩ := Int.eq_ofNat_of_zero_le h0; exact or240i' ⟨n, by omega⟩
theorem w8 (x : Int) (h0 : 0 ≤ x) (h1 : x ≤ 255) : IntKind.u8.wrap x = x := by rw [wrap8]; omega
theorem signRefC (r : Int) (w : World) : Calls Try.prog 40 #[.int .i32 r] w fun e w' => e = .returned (.bool (signB r)) ∧ w = w' := by
  have HS : Hid (∀ b1 b2 b3 b4 : Bool, decide (0 ≤ r) = b1 → decide (r ≤ 1114111) = b2 → decide (r < 55296) = b3 → decide (57343 < r) = b4 → signB r = (b1 && b2 && (b3 || b4))) := fun b1 b2 b3 b4 h1 h2 h3 h4 => by unfold signB; rw [h1, h2, h3, h4]
  generalize signB r = R at *
  by_cases a1 : 0 ≤ r <;> by_cases a2 : r ≤ 1114111 <;> by_cases a3 : r < 55296 <;> by_cases a4 : 57343 < r
  all_goals try omega
  all_goals
    have HX := Lib.hid (HS.out _ _ _ _ rfl rfl rfl rfl)
    go_enter Try.func40, Try.ntmps40
    go_wp2
    go_ret
    refine ⟨ret_bool ?_, rfl⟩
    rw [HX.out]; simp [*]
set_option maxRecDepth 100000 in
set_option maxHeartbeats 4000000 in
theorem encRefC (a : Option Addr) (l : List Int) (cap : Nat) (w : World) (hl : l.length ≤ 10000) (hr : Row .i32 w a l) :
    Calls Try.prog 38 #[.slice a l.length cap] w (EnP w l) := by
  obtain ⟨i0, hi, hz0, hz1, hz2⟩ := info_parts info5
  have HR := Lib.hid hr
  clear hr
  go_enter Try.func38, Try.ntmps38
  go_wp2
  go_loopw [3, 4, 5] (fun s3 s4 s5 wr => ∃ k : Nat, k ≤ l.length ∧ s4 = .int .i64 (k : Int) ∧ wr.ownsRow w.heap.size 5 1 s3 (encL (l.take k)).length (cellsK .u8 (encL (l.take k))) ∧ Below w.heap.size w wr) (fun _ s4 _ _ => l.length - (intOf s4).toNat)
  case atStart => exact ⟨0, Nat.zero_le _, rfl, World.ownsRow_nil _ _ _ _, Below.refl _ _⟩
  case round =>
    obtain ⟨k, hk, rfl, hown, hb⟩ := hrel
    by_cases hlt : k < l.length
    · have hlen := encL_len (l.take k)
      obtain ⟨b, off, rfl⟩ := HR.out.addr (by omega)
      have hcell := Row.at_ (HR.out.then_ hb (Nat.le_refl _)) k hlt
      have HS := Lib.hid (take_snoc_enc l k hlt)
      have hlt' : (l.take k).length ≤ 10000 := by simp; omega
      generalize encL (l.take k) = O at *
      generalize l[k] = r at hcell HS
      have hsz := hb.size
      cases hs : signB r
      · have hf : fixZ r = 65533 := by unfold fixZ; rw [hs]; rfl
        have HSS := Lib.hid hs
        clear hs
        have HE := Lib.hid (show encZ r = [239, 191, 189] by unfold encZ; rw [hf]; decide)
        clear hf
        have o1 : bits .or .i32 224 15 = 239 := by decide
        have m1 : bits .and .i32 1023 63 = 63 := by decide
        have m2 : bits .and .i32 65533 63 = 61 := by decide
        have o2 : bits .or .i32 128 63 = 191 := by decide
        have o3 : bits .or .i32 128 61 = 189 := by decide
        go_wp2_with fail
        refine (signRefC r wr).mono ?_
        rw [HSS.out]
        rintro e w1 ⟨rfl, rfl⟩
        go_wp2_with (at_builtin; refine wpList_append_own _ rfl _ _ 46 rfl w.heap.size 5 i0 (.int .u8 0) 1 1 Try.underlying46 hi hz0 hz1 hz2 rfl (by decide) _ _ _ rfl (World.ownsRow.alloc hown _) ⟨wr.heap.size, 0, none⟩ 3 3 (cellsK .u8 [239, 191, 189]) rfl rfl (Row.cells (Row.new (n := wr.heap.size) rfl rfl 5)) cellsK_one (by unfold maxLen; omega) (by omega) (by simp; omega) ?_; intro v2 w2 hown2 hgrow2 hnil2)
        have hb2 : Below w.heap.size wr w2 := ((Below.refl _ _).alloc hsz _).grown hgrow2 (by simp; omega) (fun j hj => (hown.lt j hj).1)
        go_roundw
        case rel => exact ⟨k + 1, by omega, by go_num, by rw [HS.out, HE.out, List.length_append, ← cellsK_app]; exact hown2, hb.trans hb2⟩
        case measure => simp [intOf]; omega
      · have hsi := sign_in hs
        have hf : fixZ r = r := by unfold fixZ; rw [hs]; rfl
        have HSS := Lib.hid hs
        clear hs
        obtain ⟨si0, si1, si2⟩ := hsi
        by_cases x1 : r < 128
        · have HE := Lib.hid (show encZ r = [r] by unfold encZ; rw [hf, if_pos (by omega)]; try (first | rfl | simp [tailZ]))
          clear hf
          have k1 := w8 r (by omega) (by omega)
          go_wp2_with fail
          refine (signRefC r wr).mono ?_
          rw [HSS.out]
          rintro e w1 ⟨rfl, rfl⟩
          go_wp2_with (at_builtin; refine wpList_append_own _ rfl _ _ 46 rfl w.heap.size 5 i0 (.int .u8 0) 1 1 Try.underlying46 hi hz0 hz1 hz2 rfl (by decide) _ _ _ rfl (World.ownsRow.alloc hown _) ⟨wr.heap.size, 0, none⟩ 1 1 (cellsK .u8 [r]) rfl rfl (Row.cells (Row.new (n := wr.heap.size) rfl rfl 5)) cellsK_one (by unfold maxLen; omega) (by omega) (by simp; omega) ?_; intro v2 w2 hown2 hgrow2 hnil2)
          have hb2 : Below w.heap.size wr w2 := ((Below.refl _ _).alloc hsz _).grown hgrow2 (by simp; omega) (fun j hj => (hown.lt j hj).1)
          go_roundw
          case rel => exact ⟨k + 1, by omega, by go_num, by rw [HS.out, HE.out, List.length_append, ← cellsK_app]; exact hown2, hb.trans hb2⟩
          case measure => simp [intOf]; omega
        by_cases x2 : r < 2048
        · have HE := Lib.hid (show encZ r = [192 + r / 64, 128 + r % 64] by unfold encZ; rw [hf, if_neg (by omega), if_pos (by omega)]; try (first | rfl | simp [tailZ]))
          clear hf
          have q0 : 0 ≤ r / 64 := by omega
          have q1 : r / 64 < 32 := by omega
          have q2 : 0 ≤ r % 64 := by omega
          have q3 : r % 64 < 64 := by omega
          have o1 := or192i (r / 64) q0 q1
          have m1 := and63i r
          have o2 := or128i (r % 64) q2 q3
          have k1 := w8 (192 + r / 64) (by omega) (by omega)
          have k2 := w8 (128 + r % 64) (by omega) (by omega)
          go_wp2_with fail
          refine (signRefC r wr).mono ?_
          rw [HSS.out]
          rintro e w1 ⟨rfl, rfl⟩
          go_wp2_with (at_builtin; refine wpList_append_own _ rfl _ _ 46 rfl w.heap.size 5 i0 (.int .u8 0) 1 1 Try.underlying46 hi hz0 hz1 hz2 rfl (by decide) _ _ _ rfl (World.ownsRow.alloc hown _) ⟨wr.heap.size, 0, none⟩ 2 2 (cellsK .u8 [192 + r / 64, 128 + r % 64]) rfl rfl (Row.cells (Row.new (n := wr.heap.size) rfl rfl 5)) cellsK_one (by unfold maxLen; omega) (by omega) (by simp; omega) ?_; intro v2 w2 hown2 hgrow2 hnil2)
          have hb2 : Below w.heap.size wr w2 := ((Below.refl _ _).alloc hsz _).grown hgrow2 (by simp; omega) (fun j hj => (hown.lt j hj).1)
          go_roundw
          case rel => exact ⟨k + 1, by omega, by go_num, by rw [HS.out, HE.out, List.length_append, ← cellsK_app]; exact hown2, hb.trans hb2⟩
          case measure => simp [intOf]; omega
        by_cases x3 : r < 65536
        · have HE := Lib.hid (show encZ r = [224 + r / 4096, 128 + r / 64 % 64, 128 + r % 64] by unfold encZ; rw [hf, if_neg (by omega), if_neg (by omega), if_pos (by omega)]; try (first | rfl | simp [tailZ]))
          clear hf
          have q0 : 0 ≤ r / 4096 := by omega
          have q1 : r / 4096 < 16 := by omega
          have q2 : 0 ≤ r % 64 := by omega
          have q3 : r % 64 < 64 := by omega
          have q4 : 0 ≤ r / 64 % 64 := by omega
          have q5 : r / 64 % 64 < 64 := by omega
          have o1 := or224i (r / 4096) q0 q1
          have m1 := and63i r
          have m2 := and63i (r / 64)
          have o2 := or128i (r % 64) q2 q3
          have o3 := or128i (r / 64 % 64) q4 q5
          have k1 := w8 (224 + r / 4096) (by omega) (by omega)
          have k2 := w8 (128 + r % 64) (by omega) (by omega)
          have k3 := w8 (128 + r / 64 % 64) (by omega) (by omega)
          go_wp2_with fail
          refine (signRefC r wr).mono ?_
          rw [HSS.out]
          rintro e w1 ⟨rfl, rfl⟩
          go_wp2_with (at_builtin; refine wpList_append_own _ rfl _ _ 46 rfl w.heap.size 5 i0 (.int .u8 0) 1 1 Try.underlying46 hi hz0 hz1 hz2 rfl (by decide) _ _ _ rfl (World.ownsRow.alloc hown _) ⟨wr.heap.size, 0, none⟩ 3 3 (cellsK .u8 [224 + r / 4096, 128 + r / 64 % 64, 128 + r % 64]) rfl rfl (Row.cells (Row.new (n := wr.heap.size) rfl rfl 5)) cellsK_one (by unfold maxLen; omega) (by omega) (by simp; omega) ?_; intro v2 w2 hown2 hgrow2 hnil2)
          have hb2 : Below w.heap.size wr w2 := ((Below.refl _ _).alloc hsz _).grown hgrow2 (by simp; omega) (fun j hj => (hown.lt j hj).1)
          go_roundw
          case rel => exact ⟨k + 1, by omega, by go_num, by rw [HS.out, HE.out, List.length_append, ← cellsK_app]; exact hown2, hb.trans hb2⟩
          case measure => simp [intOf]; omega
        · have HE := Lib.hid (show encZ r = [240 + r / 262144, 128 + r / 4096 % 64, 128 + r / 64 % 64, 128 + r % 64] by unfold encZ; rw [hf, if_neg (by omega), if_neg (by omega), if_neg (by omega)]; try (first | rfl | simp [tailZ]))
          clear hf
          have q0 : 0 ≤ r / 262144 := by omega
          have q1 : r / 262144 < 8 := by omega
          have q2 : 0 ≤ r % 64 := by omega
          have q3 : r % 64 < 64 := by omega
          have q4 : 0 ≤ r / 64 % 64 := by omega
          have q5 : r / 64 % 64 < 64 := by omega
          have q6 : 0 ≤ r / 4096 % 64 := by omega
          have q7 : r / 4096 % 64 < 64 := by omega
          have o1 := or240i (r / 262144) q0 q1
          have m1 := and63i r
          have m2 := and63i (r / 64)
          have m3 := and63i (r / 4096)
          have o2 := or128i (r % 64) q2 q3
          have o3 := or128i (r / 64 % 64) q4 q5
          have o4 := or128i (r / 4096 % 64) q6 q7
          have k1 := w8 (240 + r / 262144) (by omega) (by omega)
          have k2 := w8 (128 + r % 64) (by omega) (by omega)
          have k3 := w8 (128 + r / 64 % 64) (by omega) (by omega)
          have k4 := w8 (128 + r / 4096 % 64) (by omega) (by omega)
          go_wp2_with fail
          refine (signRefC r wr).mono ?_
          rw [HSS.out]
          rintro e w1 ⟨rfl, rfl⟩
          go_wp2_with (at_builtin; refine wpList_append_own _ rfl _ _ 46 rfl w.heap.size 5 i0 (.int .u8 0) 1 1 Try.underlying46 hi hz0 hz1 hz2 rfl (by decide) _ _ _ rfl (World.ownsRow.alloc hown _) ⟨wr.heap.size, 0, none⟩ 4 4 (cellsK .u8 [240 + r / 262144, 128 + r / 4096 % 64, 128 + r / 64 % 64, 128 + r % 64]) rfl rfl (Row.cells (Row.new (n := wr.heap.size) rfl rfl 5)) cellsK_one (by unfold maxLen; omega) (by omega) (by simp; omega) ?_; intro v2 w2 hown2 hgrow2 hnil2)
          have hb2 : Below w.heap.size wr w2 := ((Below.refl _ _).alloc hsz _).grown hgrow2 (by simp; omega) (fun j hj => (hown.lt j hj).1)
          go_roundw
          case rel => exact ⟨k + 1, by omega, by go_num, by rw [HS.out, HE.out, List.length_append, ← cellsK_app]; exact hown2, hb.trans hb2⟩
          case measure => simp [intOf]; omega
    · obtain rfl : k = l.length := by omega
      rw [List.take_of_length_le (Nat.le_refl _)] at hown
      have HO := Lib.hid hown
      clear hown
      go_wp2
      go_ret
      exact ⟨_, rfl, HO.out, hb⟩

theorem conv_own (v : Value) (l : List Int) (w : World) (base : Nat) (h : w.ownsRow base 5 1 v l.length (cellsK .u8 l)) : (convert 46 9 v).run Try.prog w = .ok (.string (strOfNums l)) w := by
  rcases own_form h with ⟨rfl, rfl⟩ | ⟨g, cap, rfl, hr, _, _⟩
  · rw [run_convert_bytes_nil (P := Try.prog) w 46 5 Try.underlying46 Try.underlying5 0 0 9 Try.underlying9]; rfl
  · refine run_convert_bytes_arg (P := Try.prog) w 46 5 Try.underlying46 Try.underlying5 g 0 l.length cap l rfl (fun i hi => ?_) 9 Try.underlying9
    rcases hr with h0 | ⟨b, off, e, hc⟩
    · rw [h0] at hi; exact absurd hi (Nat.not_lt_zero _)
    · injection e with e; injection e with e1 e2
      rw [e1, e2, hc i hi]
      simp [List.getD, hi]
end Go.Proofs.Ytnaiefjbfpejbaa.Jy
