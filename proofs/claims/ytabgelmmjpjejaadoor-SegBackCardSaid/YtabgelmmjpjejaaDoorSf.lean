/- The examples of segments. -/
import Derived.Test.YtabgelmmjpjejaaDoorSr
set_option linter.unusedVariables false
namespace Go.Proofs.YtabgelmmjpjejaaDoor.Sf
open Go Go.RowKit Kit Crc Var Get Ref3 Copy Bytes Bx Py Py2 Ry Rz Dn Df Dd Da Dc Rs Rf Rg Ar Bg Np Go.Proofs.YtabgelmmjpjejaaDoor.Nm Hd Sn Rh Sr


theorem nm7 : nameB 7 = { data := #[115, 48, 48, 48, 48, 48, 55] } := by decide
theorem name7 (w : World) (hT : TabP w) : Calls Tryd.prog 31 #[.int .i64 7] w fun e w' => e = .returned (.string { data := #[115, 48, 48, 48, 48, 48, 55] }) ∧ Below w.heap.size w w' := by
  have := nameIn 7 w (by decide) (by decide) hT
  rw [nm7] at this; exact this
theorem num7 (w : World) (hT : TabP w) : Calls Tryd.prog 25 #[.string { data := #[115, 48, 48, 48, 48, 48, 55] }] w fun e w' => e = .returned (.tuple #[.int .i64 7, .bool true]) ∧ Below w.heap.size w w' := by
  have := numYes 7 w (by decide) (by decide) hT
  rw [nm7] at this; exact this
theorem head7 (w : World) (hT : TabC w) : Calls Tryd.prog 27 #[.agg #[.int .i64 7, .int .u64 3]] w fun e w' => ∃ a c, e = .returned (.tuple #[.slice a 20 c, .int .i64 0]) ∧ Sl w' a (hdL 7 3) ∧ 20 ≤ c ∧ Below w.heap.size w w' := by
  refine (headYes 7 3 w (by decide) (by decide) (by decide) (by decide) hT).mono ?_
  rintro e w' ⟨a, c, rfl, hs, _, hc, _, b⟩
  rw [hdL_len] at hc ⊢
  exact ⟨a, c, rfl, hs, hc, b⟩
theorem n73 : hdN (hdL 7 3) = 7 := rfl
theorem v73 : hdV (hdL 7 3) = 3 := rfl
theorem y73 : hdY (hdL 7 3) := ⟨by rw [hdL_len]; decide, by rw [n73, v73]; decide, by rw [n73, v73]; exact List.take_of_length_le (by rw [hdL_len]; decide)⟩
theorem d73 : decA (hdL 7 3) 20 = bad 3 := by
  rw [decA, if_neg (by rw [hdL_len]; omega), show (20 : Int).toNat = 20 from rfl, List.drop_of_length_le (by rw [hdL_len]; decide)]
  rfl
theorem read7 (a : Option Addr) (c : Nat) (w : World) (hs : Sl w a (hdL 7 3)) (hc : 20 ≤ c) (hT : TabC w) : Calls Tryd.prog 29 #[.slice a 20 c] w fun e w' => e = .returned (.tuple #[.agg #[.int .i64 7, .int .u64 3, .slice none 0 0, .int .i64 20], .int .i64 0]) ∧ Below w.heap.size w w' :=
  readNone a 20 c (hdL 7 3) (bad 3) (endA (bad 3) 20) 7 3 w rfl hs (by rw [hdL_len]; exact hc) (hdL_lt 7 3) (by rw [hdL_len]; decide) hT y73 rfl rfl d73.symm rfl (by decide)
set_option maxRecDepth 100000 in
set_option maxHeartbeats 2000000 in
/-- the chapter's examples. -/
theorem first16 (w : World) (hT : TabC w) (hP : TabP w) : Calls Tryd.prog 24 #[] w fun e w' => e = .returned (.bool true) ∧ Below w.heap.size w w' := by
  have HT := Lib.hid hT
  have HP := Lib.hid hP
  clear hT hP
  go_enter Tryd.func24, Tryd.ntmps24
  go_wp2_with (first
    | (go_at_call 27; (with_reducible refine (head7 w HT.out).mono ?_); rintro e w1 ⟨xa, xc, rfl, xs, xl, b1⟩; have HS := Lib.hid xs; have HC := Lib.hid xl; have HB1 := Lib.hid b1; clear xs xl b1)
    | (go_at_call 29; (with_reducible refine (read7 xa xc w1 HS.out HC.out (tabC_then HB1.out (Nat.le_refl _) HT.out)).mono ?_); rintro e w2 ⟨rfl, b2⟩; obtain ⟨p0, p1, p2, p3, _, _, _, _⟩ := four_cells (heap_alloc_last w2 (.cells #[.int .i64 7, .int .u64 3, .slice none 0 0, .int .i64 20] 56)); have HPR := Lib.hid (heap_alloc_last w2 (.cells #[.int .i64 7, .int .u64 3, .slice none 0 0, .int .i64 20] 56)); have HB2 := Lib.hid (Below.alloc (below_then HB1.out b2 HB1.out.size) (below_then HB1.out b2 HB1.out.size).size (.cells #[.int .i64 7, .int .u64 3, .slice none 0 0, .int .i64 20] 56)); clear b2)
    | (go_at_call 25; (with_reducible refine (num7 _ (tabP_then HB2.out HP.out)).mono ?_); rintro e w4 ⟨rfl, b4⟩; have HB4 := Lib.hid (below_then HB2.out b4 HB2.out.size); have HPR4 := Lib.hid ((b4.block _ (Array.getElem?_eq_some_iff.1 HPR.out).1).trans HPR.out); clear b4)
    | (go_at_call 31; (with_reducible refine (name7 w4 (tabP_then HB4.out HP.out)).mono ?_); rintro e w5 ⟨rfl, b5⟩; have HB5 := Lib.hid (below_then HB4.out b5 HB4.out.size); clear p0 p1 p2 p3; obtain ⟨p0, p1, p2, p3, _, _, _, _⟩ := four_cells ((b5.block _ (Array.getElem?_eq_some_iff.1 HPR4.out).1).trans HPR4.out); clear b5))
  go_ret
  exact ⟨rfl, HB5.out⟩

end Go.Proofs.YtabgelmmjpjejaaDoor.Sf
