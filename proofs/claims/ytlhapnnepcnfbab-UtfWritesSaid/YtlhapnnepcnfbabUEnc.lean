/- Package utf: Encode; tikref.Bytes. -/
import Derived.Test.YtlhapnnepcnfbabUWr
set_option linter.unusedVariables false
namespace Go.Proofs.Ytlhapnnepcnfbab.UDec
open Go Go.RowKit Words UMath

theorem info5 : (Try.prog.info? 5).map (fun i => (i.zero, i.size, i.bytes)) = some (some (.int .u8 0), 1, 1) := by kernel_rfl
theorem wrap8 (r : Int) : IntKind.u8.wrap r = r % 256 := by simp [IntKind.wrap, IntKind.bits, IntKind.signed]
theorem tailC (r : Int) (w : World) (h0 : 0 ≤ r) (h1 : r ≤ 1114111) : Calls Try.prog 33 #[.int .i32 r] w fun e w' => e = .returned (.int .u8 (tailZ r)) ∧ w = w' := by
  have e1 := wrap8 r
  have e2 := UBits.and63 (r % 256) (by omega) (by omega)
  have e3 : r % 256 % 64 = r % 64 := by omega
  have e4 := UBits.or128 (r % 64) (by omega) (by omega)
  go_enter Try.func33, Try.ntmps33
  go_wp2
  go_ret
  exact ⟨rfl, rfl⟩
/-- what add leaves. -/
def AdP (w : World) (base : Nat) (v : Value) (xs out : List Int) (e : Ending) (w' : World) : Prop :=
  ∃ v', e = .returned v' ∧ w'.ownsRow base 5 1 v' (xs ++ out).length (cellsK .u8 (xs ++ out)) ∧ w.grownBy w' v.ownBlock
set_option maxRecDepth 100000 in
set_option maxHeartbeats 1000000 in
theorem add1 (base : Nat) (v : Value) (xs : List Int) (r : Int) (w : World) (hown : w.ownsRow base 5 1 v xs.length (cellsK .u8 xs)) (hb : base ≤ w.heap.size) (hx : xs.length ≤ 100000) (h0 : 0 ≤ r) (h1 : r < 128) :
    Calls Try.prog 27 #[v, .int .i32 r] w (AdP w base v xs (encZ r)) := by
  obtain ⟨i0, hi, hz0, hz1, hz2⟩ := info_parts info5
  have hs : signB r = true := by simp [signB]; omega
  have HS := Lib.hid hs
  have hf : fixZ r = r := by unfold fixZ; rw [hs]; rfl
  clear hs
  have HZ := Lib.hid (show sizeZ r = 1 by unfold sizeZ; rw [hf, if_pos (by omega)])
  have HE := Lib.hid (show encZ r = [r] by unfold encZ; rw [hf, if_pos (by omega)])
  clear hf
  have e1 := wrap8 r
  have e2 : r % 256 = r := by omega
  go_enter Try.func27, Try.ntmps27
  go_wp2_with fail
  refine (isSignC r w).mono ?_
  rw [HS.out]
  rintro e w1 ⟨rfl, rfl⟩
  go_wp2_with fail
  refine (sizeC r w).mono ?_
  rw [HZ.out]
  rintro e w1 ⟨rfl, rfl⟩
  go_wp2_with (at_builtin; refine wpList_append_own _ rfl _ _ 22 rfl base 5 i0 (.int .u8 0) 1 1 Try.underlying22 hi hz0 hz1 hz2 rfl (by decide) _ _ _ rfl (World.ownsRow.alloc hown _) ⟨w.heap.size, 0, none⟩ 1 1 (cellsK .u8 [r]) rfl rfl (Row.cells (Row.new (n := w.heap.size) rfl rfl 5)) cellsK_one (by unfold maxLen; omega) (by omega) (by simp; omega) ?_; intro v2 w2 hown2 hgrow2 hnil2)
  go_ret
  rw [HE.out]
  refine ⟨v2, rfl, ?_, grownBy_trans (grown_of_below (below_one _ _) _) hgrow2⟩
  rw [List.length_append, ← cellsK_app]; exact hown2
set_option maxRecDepth 100000 in
set_option maxHeartbeats 1000000 in
theorem add2 (base : Nat) (v : Value) (xs : List Int) (r : Int) (w : World) (hown : w.ownsRow base 5 1 v xs.length (cellsK .u8 xs)) (hb : base ≤ w.heap.size) (hx : xs.length ≤ 100000) (h0 : 128 ≤ r) (h1 : r < 2048) :
    Calls Try.prog 27 #[v, .int .i32 r] w (AdP w base v xs (encZ r)) := by
  obtain ⟨i0, hi, hz0, hz1, hz2⟩ := info_parts info5
  have hs : signB r = true := by simp [signB]; omega
  have HS := Lib.hid hs
  have hf : fixZ r = r := by unfold fixZ; rw [hs]; rfl
  clear hs
  have HZ := Lib.hid (show sizeZ r = 2 by unfold sizeZ; rw [hf, if_neg (by omega), if_pos (by omega)])
  have HE := Lib.hid (show encZ r = [192 + r / 64,tailZ r] by unfold encZ; rw [hf, if_neg (by omega), if_pos (by omega)])
  clear hf
  have q0 : 0 ≤ r / 64 := by omega
  have q1 : r / 64 < 32 := by omega
  have e1 := UBits.or192 (r / 64) q0 q1
  have e2 := wrap8 (r / 64)
  have e3 : r / 64 % 256 = r / 64 := by omega
  go_enter Try.func27, Try.ntmps27
  go_wp2_with fail
  refine (isSignC r w).mono ?_
  rw [HS.out]
  rintro e w1 ⟨rfl, rfl⟩
  go_wp2_with fail
  refine (sizeC r w).mono ?_
  rw [HZ.out]
  rintro e w1 ⟨rfl, rfl⟩
  go_wp2_with fail
  refine (tailC (r) w (by omega) (by omega)).mono ?_
  rintro e w1 ⟨rfl, rfl⟩
  go_wp2_with (at_builtin; refine wpList_append_own _ rfl _ _ 22 rfl base 5 i0 (.int .u8 0) 1 1 Try.underlying22 hi hz0 hz1 hz2 rfl (by decide) _ _ _ rfl (World.ownsRow.alloc hown _) ⟨w.heap.size, 0, none⟩ 2 2 (cellsK .u8 [192 + r / 64,tailZ r]) rfl rfl (Row.cells (Row.new (n := w.heap.size) rfl rfl 5)) cellsK_one (by unfold maxLen; omega) (by omega) (by simp; omega) ?_; intro v2 w2 hown2 hgrow2 hnil2)
  go_ret
  rw [HE.out]
  refine ⟨v2, rfl, ?_, grownBy_trans (grown_of_below (below_one _ _) _) hgrow2⟩
  rw [List.length_append, ← cellsK_app]; exact hown2
set_option maxRecDepth 100000 in
set_option maxHeartbeats 1000000 in
theorem add3 (base : Nat) (v : Value) (xs : List Int) (r : Int) (w : World) (hown : w.ownsRow base 5 1 v xs.length (cellsK .u8 xs)) (hb : base ≤ w.heap.size) (hx : xs.length ≤ 100000) (h0 : 2048 ≤ r) (h1 : r < 65536) (h2 : r < 55296 ∨ 57343 < r) :
    Calls Try.prog 27 #[v, .int .i32 r] w (AdP w base v xs (encZ r)) := by
  obtain ⟨i0, hi, hz0, hz1, hz2⟩ := info_parts info5
  have hs : signB r = true := by simp [signB]; omega
  have HS := Lib.hid hs
  have hf : fixZ r = r := by unfold fixZ; rw [hs]; rfl
  clear hs
  have HZ := Lib.hid (show sizeZ r = 3 by unfold sizeZ; rw [hf, if_neg (by omega), if_neg (by omega), if_pos (by omega)])
  have HE := Lib.hid (show encZ r = [224 + r / 4096,tailZ (r / 64),tailZ r] by unfold encZ; rw [hf, if_neg (by omega), if_neg (by omega), if_pos (by omega)])
  clear hf
  have q0 : 0 ≤ r / 4096 := by omega
  have q1 : r / 4096 < 16 := by omega
  have e1 := UBits.or224 (r / 4096) q0 q1
  have e2 := wrap8 (r / 4096)
  have e3 : r / 4096 % 256 = r / 4096 := by omega
  clear h2
  go_enter Try.func27, Try.ntmps27
  go_wp2_with fail
  refine (isSignC r w).mono ?_
  rw [HS.out]
  rintro e w1 ⟨rfl, rfl⟩
  go_wp2_with fail
  refine (sizeC r w).mono ?_
  rw [HZ.out]
  rintro e w1 ⟨rfl, rfl⟩
  go_wp2_with fail
  refine (tailC (r / 64) w (by omega) (by omega)).mono ?_
  rintro e w1 ⟨rfl, rfl⟩
  go_wp2_with fail
  refine (tailC (r) w (by omega) (by omega)).mono ?_
  rintro e w1 ⟨rfl, rfl⟩
  go_wp2_with (at_builtin; refine wpList_append_own _ rfl _ _ 22 rfl base 5 i0 (.int .u8 0) 1 1 Try.underlying22 hi hz0 hz1 hz2 rfl (by decide) _ _ _ rfl (World.ownsRow.alloc hown _) ⟨w.heap.size, 0, none⟩ 3 3 (cellsK .u8 [224 + r / 4096,tailZ (r / 64),tailZ r]) rfl rfl (Row.cells (Row.new (n := w.heap.size) rfl rfl 5)) cellsK_one (by unfold maxLen; omega) (by omega) (by simp; omega) ?_; intro v2 w2 hown2 hgrow2 hnil2)
  go_ret
  rw [HE.out]
  refine ⟨v2, rfl, ?_, grownBy_trans (grown_of_below (below_one _ _) _) hgrow2⟩
  rw [List.length_append, ← cellsK_app]; exact hown2
set_option maxRecDepth 100000 in
set_option maxHeartbeats 1000000 in
theorem add4 (base : Nat) (v : Value) (xs : List Int) (r : Int) (w : World) (hown : w.ownsRow base 5 1 v xs.length (cellsK .u8 xs)) (hb : base ≤ w.heap.size) (hx : xs.length ≤ 100000) (h0 : 65536 ≤ r) (h1 : r ≤ 1114111) :
    Calls Try.prog 27 #[v, .int .i32 r] w (AdP w base v xs (encZ r)) := by
  obtain ⟨i0, hi, hz0, hz1, hz2⟩ := info_parts info5
  have hs : signB r = true := by simp [signB]; omega
  have HS := Lib.hid hs
  have hf : fixZ r = r := by unfold fixZ; rw [hs]; rfl
  clear hs
  have HZ := Lib.hid (show sizeZ r = 4 by unfold sizeZ; rw [hf, if_neg (by omega), if_neg (by omega), if_neg (by omega)])
  have HE := Lib.hid (show encZ r = [240 + r / 262144,tailZ (r / 4096),tailZ (r / 64),tailZ r] by unfold encZ; rw [hf, if_neg (by omega), if_neg (by omega), if_neg (by omega)])
  clear hf
  have q0 : 0 ≤ r / 262144 := by omega
  have q1 : r / 262144 < 8 := by omega
  have e1 := UBits.or240 (r / 262144) q0 q1
  have e2 := wrap8 (r / 262144)
  have e3 : r / 262144 % 256 = r / 262144 := by omega
  go_enter Try.func27, Try.ntmps27
  go_wp2_with fail
  refine (isSignC r w).mono ?_
  rw [HS.out]
  rintro e w1 ⟨rfl, rfl⟩
  go_wp2_with fail
  refine (sizeC r w).mono ?_
  rw [HZ.out]
  rintro e w1 ⟨rfl, rfl⟩
  go_wp2_with fail
  refine (tailC (r / 4096) w (by omega) (by omega)).mono ?_
  rintro e w1 ⟨rfl, rfl⟩
  go_wp2_with fail
  refine (tailC (r / 64) w (by omega) (by omega)).mono ?_
  rintro e w1 ⟨rfl, rfl⟩
  go_wp2_with fail
  refine (tailC (r) w (by omega) (by omega)).mono ?_
  rintro e w1 ⟨rfl, rfl⟩
  go_wp2_with (at_builtin; refine wpList_append_own _ rfl _ _ 22 rfl base 5 i0 (.int .u8 0) 1 1 Try.underlying22 hi hz0 hz1 hz2 rfl (by decide) _ _ _ rfl (World.ownsRow.alloc hown _) ⟨w.heap.size, 0, none⟩ 4 4 (cellsK .u8 [240 + r / 262144,tailZ (r / 4096),tailZ (r / 64),tailZ r]) rfl rfl (Row.cells (Row.new (n := w.heap.size) rfl rfl 5)) cellsK_one (by unfold maxLen; omega) (by omega) (by simp; omega) ?_; intro v2 w2 hown2 hgrow2 hnil2)
  go_ret
  rw [HE.out]
  refine ⟨v2, rfl, ?_, grownBy_trans (grown_of_below (below_one _ _) _) hgrow2⟩
  rw [List.length_append, ← cellsK_app]; exact hown2
set_option maxRecDepth 100000 in
set_option maxHeartbeats 1000000 in
theorem addBad (base : Nat) (v : Value) (xs : List Int) (r : Int) (w : World) (hown : w.ownsRow base 5 1 v xs.length (cellsK .u8 xs)) (hb : base ≤ w.heap.size) (hx : xs.length ≤ 100000) (hs : signB r = false) :
    Calls Try.prog 27 #[v, .int .i32 r] w (AdP w base v xs (encZ r)) := by
  obtain ⟨i0, hi, hz0, hz1, hz2⟩ := info_parts info5
  have HS := Lib.hid hs
  have hf : fixZ r = 65533 := by unfold fixZ; rw [hs]; rfl
  clear hs
  have HZ := Lib.hid (show sizeZ 65533 = 3 by decide)
  have HE := Lib.hid (show encZ r = [239,tailZ 1023,tailZ 65533] by unfold encZ; rw [hf]; decide)
  clear hf
  have e1 : bits .or .u8 224 15 = 239 := by decide
  go_enter Try.func27, Try.ntmps27
  go_wp2_with fail
  refine (isSignC r w).mono ?_
  rw [HS.out]
  rintro e w1 ⟨rfl, rfl⟩
  go_wp2_with fail
  refine (sizeC 65533 w).mono ?_
  rw [HZ.out]
  rintro e w1 ⟨rfl, rfl⟩
  go_wp2_with fail
  refine (tailC (1023) w (by omega) (by omega)).mono ?_
  rintro e w1 ⟨rfl, rfl⟩
  go_wp2_with fail
  refine (tailC (65533) w (by omega) (by omega)).mono ?_
  rintro e w1 ⟨rfl, rfl⟩
  go_wp2_with (at_builtin; refine wpList_append_own _ rfl _ _ 22 rfl base 5 i0 (.int .u8 0) 1 1 Try.underlying22 hi hz0 hz1 hz2 rfl (by decide) _ _ _ rfl (World.ownsRow.alloc hown _) ⟨w.heap.size, 0, none⟩ 3 3 (cellsK .u8 [239,tailZ 1023,tailZ 65533]) rfl rfl (Row.cells (Row.new (n := w.heap.size) rfl rfl 5)) cellsK_one (by unfold maxLen; omega) (by omega) (by simp; omega) ?_; intro v2 w2 hown2 hgrow2 hnil2)
  go_ret
  rw [HE.out]
  refine ⟨v2, rfl, ?_, grownBy_trans (grown_of_below (below_one _ _) _) hgrow2⟩
  rw [List.length_append, ← cellsK_app]; exact hown2
theorem addC (base : Nat) (v : Value) (xs : List Int) (r : Int) (w : World) (hown : w.ownsRow base 5 1 v xs.length (cellsK .u8 xs)) (hb : base ≤ w.heap.size) (hx : xs.length ≤ 100000) :
    Calls Try.prog 27 #[v, .int .i32 r] w (AdP w base v xs (encZ r)) := by
  cases hs : signB r
  · exact addBad base v xs r w hown hb hx hs
  · have h := sign_in hs
    by_cases a : r < 128
    · exact add1 base v xs r w hown hb hx (by omega) a
    by_cases b : r < 2048
    · exact add2 base v xs r w hown hb hx (by omega) b
    by_cases c : r < 65536
    · exact add3 base v xs r w hown hb hx (by omega) c (by omega)
    · exact add4 base v xs r w hown hb hx (by omega) (by omega)
/-- what Encode answers. -/
def EnP (w : World) (l : List Int) (e : Ending) (w' : World) : Prop :=
  ∃ v, e = .returned v ∧ w'.ownsRow w.heap.size 5 1 v (encL l).length (cellsK .u8 (encL l)) ∧ Below w.heap.size w w'
theorem take_snoc_enc (l : List Int) (k : Nat) (hk : k < l.length) : encL (l.take (k + 1)) = encL (l.take k) ++ encZ l[k] := by
  rw [List.take_succ_eq_append_getElem hk, encL_snoc]
set_option maxRecDepth 100000 in
set_option maxHeartbeats 1000000 in
theorem encC (a : Option Addr) (l : List Int) (cap : Nat) (w : World) (hl : l.length ≤ 10000) (hr : Row .i32 w a l) :
    Calls Try.prog 20 #[.slice a l.length cap] w (EnP w l) := by
  have HR := Lib.hid hr
  clear hr
  go_enter Try.func20, Try.ntmps20
  go_wp2
  go_loopw [3, 8] (fun s3 s8 wr => ∃ k : Nat, k ≤ l.length ∧ s8 = .int .i64 (k : Int) ∧ wr.ownsRow w.heap.size 5 1 s3 (encL (l.take k)).length (cellsK .u8 (encL (l.take k))) ∧ Below w.heap.size w wr) (fun _ s8 _ => l.length - (intOf s8).toNat)
  case atStart => exact ⟨0, Nat.zero_le _, rfl, World.ownsRow_nil _ _ _ _, Below.refl _ _⟩
  case round =>
    obtain ⟨k, hk, rfl, hown, hb⟩ := hrel
    by_cases hlt : k < l.length
    · have hlen := encL_len (l.take k)
      obtain ⟨b, off, rfl⟩ := HR.out.addr (by omega)
      have hcell := Row.at_ (HR.out.then_ hb (Nat.le_refl _)) k hlt
      have HS := Lib.hid (take_snoc_enc l k hlt)
      have hlt' : (l.take k).length ≤ 10000 := by simp; omega
      generalize encL (l.take k) = r at *
      generalize l[k] = c at hcell HS
      have hsz := hb.size
      go_wp2_with fail
      refine (addC w.heap.size u3 r c wr hown hsz (by omega)).mono ?_
      rintro e w1 ⟨v1, rfl, ho1, hg1⟩
      have hb1 : Below w.heap.size w w1 := hb.grown hg1 hsz (fun j hj => (hown.lt j hj).1)
      go_wp2
      go_roundw
      case rel => exact ⟨k + 1, by omega, by go_num, by rw [HS.out]; exact ho1, hb1⟩
      case measure => simp [intOf]; omega
    · obtain rfl : k = l.length := by omega
      rw [List.take_of_length_le (Nat.le_refl _)] at hown
      have HO := Lib.hid hown
      clear hown
      go_wp2
      go_ret
      exact ⟨_, rfl, HO.out, hb⟩
end Go.Proofs.Ytlhapnnepcnfbab.UDec
