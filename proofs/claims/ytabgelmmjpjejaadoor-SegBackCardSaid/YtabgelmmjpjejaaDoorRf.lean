/- The first example of records. -/
import Derived.Test.YtabgelmmjpjejaaDoorRs
set_option linter.unusedVariables false
namespace Go.Proofs.YtabgelmmjpjejaaDoor.Rf
open Go Go.RowKit Kit Crc Var Get Ref3 Copy Bytes Bx Py Py2 Ry Rz Dn Df Dd Da Dc Rs


theorem may0 (w : World) : Calls Tryd.prog 18 #[.agg #[.int .i64 0, .int .u64 0, .int .u64 0, .slice none 0 0]] w fun e w' => e = .returned (.bool false) ∧ Below w.heap.size w w' := mayE 0 0 0 none 0 0 [] w false rfl (by decide)
theorem enc1 (w : World) (hT : TabC w) : Calls Tryd.prog 11 #[.agg #[.int .i64 1, .int .u64 1, .int .u64 0, .slice none 0 0]] w fun e w' => ∃ b o c, e = .returned (.tuple #[.slice (some ⟨b, o, none⟩) 10 c, .int .i64 0]) ∧ Cells w' b o (recL 1 1 0 []) ∧ 10 ≤ c ∧ Below w.heap.size w w' := by
  refine (encYes 1 1 0 none 0 [] w may_first (.inl rfl) (fun _ => rfl) (Nat.le_refl _) (fun c hc => by cases hc) (by decide) hT).mono ?_
  rintro e w' ⟨a, c, rfl, hs, _, hc, _, b⟩
  obtain ⟨xb, xo, rfl, hx⟩ := sl_at hs (by rw [rec_ten]; decide)
  rw [rec_ten] at hc ⊢
  exact ⟨xb, xo, c, rfl, hx, hc, b⟩
theorem dec1 (b o c : Nat) (w : World) (h : Cells w b o (recL 1 1 0 [])) (hc : 10 ≤ c) (hT : TabC w) : Calls Tryd.prog 14 #[.slice (some ⟨b, o, none⟩) 10 c, .int .i64 0] w fun e w' => ∃ a c, e = .returned (.tuple #[.agg #[.int .i64 1, .int .u64 1, .int .u64 0, .slice a 0 c], .int .i64 10, .int .i64 0]) ∧ Below w.heap.size w w' := by
  refine (decAll (some ⟨b, o, none⟩) 10 c (recL 1 1 0 []) 0 ⟨0, 1, 1, 0, [], 10⟩ 10 w rec_ten.symm dec_first.symm (by rw [endA, if_pos rfl]; rfl) (sl_of h) (by rw [rec_ten]; exact hc) (recL_lt (by decide) (fun c hc => by cases hc)) (by rw [rec_ten]; decide) hT).mono ?_
  rintro e w' ⟨a, c, rfl, _, _, _, _, b⟩
  exact ⟨a, c, rfl, b⟩
theorem first_cells {w : World} {b o : Nat} (h : Cells w b o (recL 1 1 0 [])) : w.cell? ⟨b, o, none⟩ = some (.int .u8 167) ∧ w.cell? ⟨b, o + 1, none⟩ = some (.int .u8 92) := by
  rw [crc_first] at h
  exact ⟨h 0 (by decide), h 1 (by decide)⟩
set_option maxRecDepth 100000 in
set_option maxHeartbeats 1000000 in
theorem firstC (w : World) (hT : TabC w) : Calls Tryd.prog 10 #[] w fun e w' => e = .returned (.bool true) ∧ Below w.heap.size w w' := by
  have HT := Lib.hid hT
  clear hT
  go_enter Tryd.func10, Tryd.ntmps10
  go_wp2_with (first
    | (go_at_call 11; (with_reducible refine (enc1 w HT.out).mono ?_); rintro e w1 ⟨xb, xo, xc, rfl, hx, hxc, b1⟩; have HX := Lib.hid hx; have HC := Lib.hid hxc; have HB1 := Lib.hid b1; clear hx hxc b1)
    | (go_at_call 14; (with_reducible refine (dec1 xb xo xc w1 HX.out HC.out (tabC_then HB1.out (Nat.le_refl _) HT.out)).mono ?_); rintro e w2 ⟨ya, yc, rfl, b2⟩; obtain ⟨d0, d1⟩ := first_cells (cells_then (b2.alloc b2.size (.cells #[.int .i64 1, .int .u64 1, .int .u64 0, .slice ya 0 yc] 25)) (Nat.le_refl _) HX.out); have HB2 := Lib.hid (below_then HB1.out b2 HB1.out.size); have h10 := HC.out; clear b2)
    | (go_at_call 18; (with_reducible refine (may0 _).mono ?_); rintro e w3 ⟨rfl, b3⟩; have HB3 := Lib.hid (stepB HB2.out (.cells #[.int .i64 1, .int .u64 1, .int .u64 0, .slice ya 0 yc] 25) b3); clear b3))
  go_ret
  exact ⟨rfl, HB3.out⟩

end Go.Proofs.YtabgelmmjpjejaaDoor.Rf
