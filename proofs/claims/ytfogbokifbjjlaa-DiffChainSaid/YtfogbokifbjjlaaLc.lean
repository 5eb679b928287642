/- Screens as bytes (key.Encode). -/
import Derived.Test.YtfogbokifbjjlaaLb
set_option linter.unusedVariables false
namespace Go.Proofs.Ytfogbokifbjjlaa.Lc
open Go Go.RowKit Kit Gm Gv Crc Var Bytes WireFirst Copy Ap Sa Sb Sd La Lb

theorem cellsNil (a : Option Addr) (cap : Nat) (w : World) : Calls Try.prog 17 #[.slice a 0 cap] w (RbQ w []) := by
  go_enter Try.func17, Try.ntmps17
  go_wp2
  refine wp_loop_rounds 1 ?_
  rw [rounds_succ]
  go_wp2
  go_ret
  exact ⟨_, rfl, rb_nil _ _, Below.refl _ _⟩
/-- key.Cells. -/
theorem cellsC (a : Option Addr) (n cap : Nat) (L : List Ce) (w : World) (hn : n = L.length) (hm : n ≤ 12000) (hs : n = 0 ∨ (n ≤ cap ∧ ∃ b off, a = some ⟨b, off, none⟩ ∧ Sc w b off L)) :
    Calls Try.prog 17 #[.slice a n cap] w (RbQ w (cellsB L)) := by
  rcases hs with h | ⟨hc, b, off, rfl, hs⟩
  · subst h
    obtain rfl : L = [] := List.eq_nil_of_length_eq_zero hn.symm
    rw [cellsB_nil]; exact cellsNil a cap w
  · exact cellsSome b off n cap L w hn hm hc hs
def numB (b : Bool) : Int := if b then 1 else 0
theorem numberC (b : Bool) (w : World) : Calls Try.prog 39 #[.bool b] w fun e w' => e = .returned (.int .i64 (numB b)) ∧ w = w' := by
  cases b
  · go_enter Try.func39, Try.ntmps39
    go_wp2
    go_ret
    exact ⟨rfl, rfl⟩
  · go_enter Try.func39, Try.ntmps39
    go_wp2
    go_ret
    exact ⟨rfl, rfl⟩
/-- the six numbers ahead. -/
def six (s : Scr) (k : Nat) : Int := [s.R, s.C, s.row, s.col, numB s.hid, (s.ti.size : Int)].getD k 0
def headP (s : Scr) : Nat → List Nat
  | 0 => []
  | k + 1 => headP s k ++ varL (un (six s k))
abbrev headL (s : Scr) : List Nat := headP s 6
def encL (s : Scr) (L : List Ce) : List Nat := headL s ++ byL s.ti ++ cellsB L
theorem head_len (s : Scr) (k : Nat) : (headP s k).length ≤ 10 * k := by
  induction k with
  | zero => simp [headP]
  | succ k ih => have := var_le (six s k); simp only [headP, List.length_append]; omega
theorem idx65 (s : Scr) (k : Nat) (h : k < 6) (w : World) : (Instr.index 65 (.agg #[.int .i64 s.R, .int .i64 s.C, .int .i64 s.row, .int .i64 s.col, .int .i64 (numB s.hid), .int .i64 (s.ti.size : Int)]) (.int .i64 (k : Int))).run Try.prog w = .ok (.int .i64 (six s k)) w := by
  match k, h with
  | 0, _ => exact (show (Instr.index 65 (.agg #[.int .i64 s.R, .int .i64 s.C, .int .i64 s.row, .int .i64 s.col, .int .i64 (numB s.hid), .int .i64 (s.ti.size : Int)]) (.int .i64 0)).run Try.prog w = .ok (.int .i64 s.R) w by kernel_rfl)
  | 1, _ => exact (show (Instr.index 65 (.agg #[.int .i64 s.R, .int .i64 s.C, .int .i64 s.row, .int .i64 s.col, .int .i64 (numB s.hid), .int .i64 (s.ti.size : Int)]) (.int .i64 1)).run Try.prog w = .ok (.int .i64 s.C) w by kernel_rfl)
  | 2, _ => exact (show (Instr.index 65 (.agg #[.int .i64 s.R, .int .i64 s.C, .int .i64 s.row, .int .i64 s.col, .int .i64 (numB s.hid), .int .i64 (s.ti.size : Int)]) (.int .i64 2)).run Try.prog w = .ok (.int .i64 s.row) w by kernel_rfl)
  | 3, _ => exact (show (Instr.index 65 (.agg #[.int .i64 s.R, .int .i64 s.C, .int .i64 s.row, .int .i64 s.col, .int .i64 (numB s.hid), .int .i64 (s.ti.size : Int)]) (.int .i64 3)).run Try.prog w = .ok (.int .i64 s.col) w by kernel_rfl)
  | 4, _ => exact (show (Instr.index 65 (.agg #[.int .i64 s.R, .int .i64 s.C, .int .i64 s.row, .int .i64 s.col, .int .i64 (numB s.hid), .int .i64 (s.ti.size : Int)]) (.int .i64 4)).run Try.prog w = .ok (.int .i64 (numB s.hid)) w by kernel_rfl)
  | 5, _ => exact (show (Instr.index 65 (.agg #[.int .i64 s.R, .int .i64 s.C, .int .i64 s.row, .int .i64 s.col, .int .i64 (numB s.hid), .int .i64 (s.ti.size : Int)]) (.int .i64 5)).run Try.prog w = .ok (.int .i64 (s.ti.size : Int)) w by kernel_rfl)
set_option maxRecDepth 100000 in
set_option maxHeartbeats 4000000 in
/-- Encode, of a screen that may not be. -/
theorem encNo (s : Scr) (a : Option Addr) (n cap : Nat) (w : World) (h : ∀ w1, Below w.heap.size w w1 → Calls Try.prog 28 #[svA s a n cap] w1 fun e w' => e = .returned (.bool false) ∧ Below w1.heap.size w1 w') :
    Calls Try.prog 14 #[svA s a n cap] w fun e w' => e = .returned (.tuple #[.slice none 0 0, .int .i64 1]) ∧ Below w.heap.size w w' := by
  obtain ⟨R, C, row, col, hid, ti⟩ := s
  have hb := below_one w (svO ⟨R, C, row, col, hid, ti⟩ a n cap)
  obtain ⟨c0, c1, c2, c3, c4, c5, c6⟩ := seven (heap_alloc_last w (svO ⟨R, C, row, col, hid, ti⟩ a n cap))
  dsimp only [svO] at hb c0 c1 c2 c3 c4 c5 c6
  generalize hw1 : w.alloc (.cells #[.int .i64 R, .int .i64 C, .slice a n cap, .int .i64 row, .int .i64 col, .bool hid, .string ti] 24) = w1 at *
  have HM := Lib.hid (h w1 hb)
  have HB := Lib.hid hb
  clear h hb
  go_enter Try.func14, Try.ntmps14
  go_wp2_with (go_at_call 28; (with_reducible refine HM.out.mono ?_); rintro e w2 ⟨rfl, hb⟩; have HB2 := Lib.hid (below_then HB.out hb HB.out.size); clear hb)
  go_ret2
  exact ⟨rfl, HB2.out⟩
set_option maxRecDepth 100000 in
set_option maxHeartbeats 4000000 in
/-- Encode, of a screen that may be. -/
theorem encYes (s : Scr) (a : Option Addr) (n cap : Nat) (L : List Ce) (w : World) (h : ∀ w1, Below w.heap.size w w1 → Calls Try.prog 28 #[svA s a n cap] w1 fun e w' => e = .returned (.bool true) ∧ Below w1.heap.size w1 w')
    (hn : n = L.length) (hm : n ≤ 12000) (ht : s.ti.size ≤ 100000) (hs : n = 0 ∨ (n ≤ cap ∧ ∃ b off, a = some ⟨b, off, none⟩ ∧ Sc w b off L)) :
    Calls Try.prog 14 #[svA s a n cap] w fun e w' => ∃ v, e = .returned (.tuple #[v, .int .i64 0]) ∧ Rb w' w.heap.size v (encL s L) ∧ Below w.heap.size w w' := by
  have HC := Lib.hid (fun w1 (hb : Below w.heap.size w w1) => cellsC a n cap L w1 hn hm (hs.imp id fun ⟨h1, b, off, h2, h3⟩ => ⟨h1, b, off, h2, h3.then_ hb (Nat.le_refl _)⟩))
  have HI := Lib.hid (fun (k : Nat) (h : k < 6) => idx65 s k h)
  have HV := Lib.hid (fun n w => varR n w)
  have HN := Lib.hid (fun k => (show headP s (k + 1) = headP s k ++ varL (un (six s k)) from rfl))
  have HH := Lib.hid (head_len s)
  have H0 := Lib.hid (show headP s 0 = [] from rfl)
  have HE := Lib.hid (show encL s L = headP s 6 ++ byL s.ti ++ cellsB L from rfl)
  have HCL := Lib.hid (cellsB_len L.length L (Nat.le_refl _) (by omega))
  have HLN := Lib.hid hn
  have HNM := Lib.hid hm
  have HTI := Lib.hid ht
  have HNB := Lib.hid (fun w1 => (numberC s.hid w1).mono fun e w' (h : _ ∧ _) => (⟨h.1, h.2.symm⟩ : e = .returned (.int .i64 (numB s.hid)) ∧ w' = w1))
  obtain ⟨F, hF⟩ : ∃ F, F = six s := ⟨_, rfl⟩
  obtain ⟨O, hO⟩ : ∃ O, O = headP s := ⟨_, rfl⟩
  obtain ⟨E, hE⟩ : ∃ E, E = encL s L := ⟨_, rfl⟩
  rw [← hF] at HI HN
  rw [← hO] at HN HH H0 HE
  rw [← hE] at HE ⊢
  clear hF hO hE hs hn hm ht
  obtain ⟨R, C, row, col, hid, ti⟩ := s
  dsimp only at HI HN HE HNB HTI
  generalize hnb : numB hid = nb at *
  have hb := below_one w (svO ⟨R, C, row, col, hid, ti⟩ a n cap)
  obtain ⟨c0, c1, c2, c3, c4, c5, c6⟩ := seven (heap_alloc_last w (svO ⟨R, C, row, col, hid, ti⟩ a n cap))
  dsimp only [svO] at hb c0 c1 c2 c3 c4 c5 c6
  generalize hw1 : w.alloc (.cells #[.int .i64 R, .int .i64 C, .slice a n cap, .int .i64 row, .int .i64 col, .bool hid, .string ti] 24) = w1 at *
  have HM := Lib.hid (h w1 hb)
  have HB := Lib.hid hb
  clear h hb hnb
  go_enter Try.func14, Try.ntmps14
  go_wp2_with (go_at_call 28; (with_reducible refine HM.out.mono ?_); rintro e w2 ⟨rfl, hb⟩; have HB2 := Lib.hid (below_then HB.out hb HB.out.size); replace c0 := cell_then hb (Nat.le_refl _) c0; replace c1 := cell_then hb (Nat.le_refl _) c1; replace c2 := cell_then hb (Nat.le_refl _) c2; replace c3 := cell_then hb (Nat.le_refl _) c3; replace c4 := cell_then hb (Nat.le_refl _) c4; replace c5 := cell_then hb (Nat.le_refl _) c5; replace c6 := cell_then hb (Nat.le_refl _) c6; clear hb)
  go_quiet ((go_at_call 39; exact Calls.quiet_of_same (HNB.out _)))
  go_wp2
  have HB3 := Lib.hid (show Below w.heap.size w (w2.drewN nq) from ⟨HB2.out.os, HB2.out.tape, HB2.out.output, HB2.out.size, HB2.out.block⟩)
  have HC2 := Lib.hid (show (w2.drewN nq).cell? ⟨w.heap.size, 2, none⟩ = some (.slice a n cap) from c2)
  have HC6 := Lib.hid (show (w2.drewN nq).cell? ⟨w.heap.size, 6, none⟩ = some (.string ti) from c6)
  generalize w2.drewN nq = w3 at *
  clear c0 c1 c2 c3 c4 c5 c6 HB HB2 HM hw1
  go_loopw [4, 25] (fun s4 s25 wr => ∃ k : Nat, k ≤ 6 ∧ s25 = .int .i64 k ∧ Hid (Rb wr w3.heap.size s4 (O k)) ∧ Hid (Below w3.heap.size w3 wr)) (fun _ s25 _ => 6 - (intOf s25).toNat)
  case atStart => exact ⟨0, Nat.zero_le _, rfl, Lib.hid (by rw [H0.out]; exact rb_nil _ _), Lib.hid (Below.refl _ _)⟩
  case round =>
    obtain ⟨k, hk, rfl, HR, HBr⟩ := hrel
    by_cases hlt : k < 6
    · have HKk := Lib.hid (show k + 1 ≤ 6 ∧ 6 - (k + 1) < 6 - k by omega)
      have hkI : (k : Int) < 6 := by omega
      have hi := HI.out k hlt
      have HNX := Lib.hid (HN.out k)
      have HL := Lib.hid (show (O k).length + (varL (un (F k))).length ≤ 1000000 by have := HH.out k; have := var_le (F k); omega)
      have hw1 : IntKind.i64.wrap ((k : Int) + 1) = (k : Int) + 1 := IntWalk.i64_in _ (by omega)
      clear hk
      generalize F k = x at *
      go_wp2_with (first
        | (go_at_call 40; (with_reducible refine (HV.out _ _).mono ?_); rintro e w4 ⟨v2, rfl, hr, hb⟩; obtain ⟨a2, c2, rfl, hc2, hs2, ha2, hx2⟩ := rb_sl hr; have HB4 := Lib.hid (below_then HBr.out hb HBr.out.size); have HR4 := Lib.hid (rb_then HR.out hb (Nat.le_refl _)); have HSL := Lib.hid hs2; have HA2 := Lib.hid ha2; clear hr hb hs2 hx2 ha2 hc2)
        | (at_builtin; refine app_sl rfl _ _ rfl w3.heap.size _ (O k) rfl HR4.out a2 _ c2 (varL (un x)) rfl rfl HA2.out HSL.out HL.out HB4.out.size ?_; intro v5 w5 hr5 hb5; have HR5 := Lib.hid (show Rb w5 w3.heap.size v5 (O (k + 1)) by rw [HNX.out]; exact hr5); have HB5 := Lib.hid (hb5 _ _ (Nat.le_refl _) HB4.out); clear hr5 hb5))
      first
        | exact ⟨⟨k + 1, HKk.out.1, by go_num, HR5, HB5⟩, by simp only [intOf]; exact HKk.out.2⟩
        | (go_roundw
           · exact ⟨k + 1, HKk.out.1, by go_num, HR5, HB5⟩
           · simp only [intOf]; exact HKk.out.2)
    · obtain rfl : k = 6 := by omega
      have y2 := cell_then HBr.out (Nat.le_refl _) HC2.out
      have y6 := cell_then HBr.out (Nat.le_refl _) HC6.out
      have HL6 := Lib.hid (show (O 6).length + ti.size ≤ 1000000 by have := HH.out 6; have := HTI.out; omega)
      have HL7 := Lib.hid (show (O 6 ++ byL ti).length + (cellsB L).length ≤ 1000000 by have := HH.out 6; have := HTI.out; have := HCL.out; have := HLN.out; have := HNM.out; rw [List.length_append, byL_len]; omega)
      clear hk hlt
      go_wp2_with (first
        | (at_builtin; refine app_str rfl _ _ rfl w3.heap.size _ (O 6) rfl HR.out ti rfl HL6.out HBr.out.size ?_; intro v7 w7 hr7 hb7; have HR7 := Lib.hid hr7; have HB7 := Lib.hid (hb7 _ _ (Nat.le_refl _) HBr.out); have z2 := cell_then HB7.out (Nat.le_refl _) HC2.out; clear hr7 hb7)
        | (go_at_call 17; (with_reducible refine (HC.out _ (below_then HB3.out HB7.out HB3.out.size)).mono ?_); rintro e w8 ⟨v8, rfl, hr, hb⟩; obtain ⟨a8, c8, rfl, hc8, hs8, ha8, hx8⟩ := rb_sl hr; have HB8 := Lib.hid (below_then HB7.out hb HB7.out.size); have HR8 := Lib.hid (rb_then HR7.out hb (Nat.le_refl _)); have HSL8 := Lib.hid hs8; have HA8 := Lib.hid ha8; clear hr hb hs8 hx8 ha8 hc8)
        | (at_builtin; refine app_sl rfl _ _ rfl w3.heap.size _ (O 6 ++ byL ti) rfl HR8.out a8 _ c8 (cellsB L) rfl rfl HA8.out HSL8.out HL7.out HB8.out.size ?_; intro v9 w9 hr9 hb9; have HR9 := Lib.hid (show Rb w9 w.heap.size v9 E by rw [HE.out]; exact rb_base hr9 HB3.out.size); have HB9 := Lib.hid (below_then HB3.out (hb9 _ _ (Nat.le_refl _) HB8.out) HB3.out.size); clear hr9 hb9))
      go_ret2
      exact ⟨_, rfl, HR9.out, HB9.out⟩
end Go.Proofs.Ytfogbokifbjjlaa.Lc
