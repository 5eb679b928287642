/- A segment whose beginning is not good, read. -/
import Derived.Test.YtabgelmmjpjejaaDoorSl2
set_option linter.unusedVariables false
namespace Go.Proofs.YtabgelmmjpjejaaDoor.Sl3
open Go Go.RowKit Kit Crc Var Get Ref3 Copy Bytes Bx Py Py2 Ry Rz Dn Df Dd Da Dc Rs Rf Rg Ar Bg Hd Sn Rh Sr So Sp Sq Sl2


set_option maxRecDepth 100000 in
set_option maxHeartbeats 2000000 in
/-- a segment whose beginning is not good. -/
theorem readNo (a : Option Addr) (n cap : Nat) (l : List Nat) (w : World) (hn : n = l.length) (hs : Sl w a l) (hcap : l.length ≤ cap) (hl : ∀ c ∈ l, c < 256) (hT : TabC w) (hY : ¬ hdY l) :
    Calls Tryd.prog 29 #[.slice a n cap] w fun e w' => e = .returned (.tuple #[.agg #[.int .i64 0, .int .u64 0, .slice none 0 0, .int .i64 0], .int .i64 2]) ∧ Below w.heap.size w w' := by
  subst hn
  have HEQ := Lib.hid (show ((if hdY l then hdN l else 0 : Nat) : Int) = 0 ∧ ((if hdY l then hdV l else 0 : Nat) : Int) = 0 ∧ decide (hdY l) = false by rw [if_neg hY, if_neg hY, decide_eq_false hY]; exact ⟨rfl, rfl, rfl⟩)
  have HL := Lib.hid hl
  have HC := Lib.hid hcap
  have HB0 := Lib.hid ((Below.refl w.heap.size w).alloc (Nat.le_refl _) (.cells #[.int .i64 0, .int .u64 0, .slice none 0 0, .int .i64 0] 56))
  have HR0 := Lib.hid (heap_alloc_last w (.cells #[.int .i64 0, .int .u64 0, .slice none 0 0, .int .i64 0] 56))
  have HS1 := Lib.hid (sl_then HB0.out (Nat.le_refl _) hs)
  have HT1 := Lib.hid (tabC_then HB0.out (Nat.le_refl _) hT)
  clear hl hcap hY hs hT
  go_enter Tryd.func29, Tryd.ntmps29
  go_wp2_with fail
  generalize w.alloc (.cells #[.int .i64 0, .int .u64 0, .slice none 0 0, .int .i64 0] 56) = w1 at *
  go_wp2_with (go_at_call 48; (with_reducible refine (rhK a l.length cap l w1 rfl HS1.out HC.out HL.out HT1.out).mono ?_); rintro e w2 ⟨rfl, b2⟩; rw [HEQ.out.1, HEQ.out.2.1, HEQ.out.2.2]; have HB2 := Lib.hid (below_then HB0.out b2 HB0.out.size); have HRL := Lib.hid (Array.getElem?_eq_some_iff.1 HR0.out).1; have HR2 := Lib.hid ((b2.block _ HRL.out).trans HR0.out); have HB3 := Lib.hid (HB2.out.alloc HB2.out.size (.cells #[.int .i64 0, .int .u64 0] 49)); have HR3 := Lib.hid (alloc_row HR2.out (.cells #[.int .i64 0, .int .u64 0] 49)); obtain ⟨r0, r1, r2, r3, f0, f1, f2, f3⟩ := four_cells HR3.out; clear b2)
  clear r0 r1 r2 r3 f0 f1 f2 f3
  obtain ⟨q0, q1, q2, q3, _, _, _, _⟩ := four_cells (four_set HR3.out (.int .i64 0) (.int .u64 0) (.slice none 0 0) (.int .i64 0))
  exact bodyPost_ret (v := .tuple #[.agg #[.int .i64 0, .int .u64 0, .slice none 0 0, .int .i64 0], .int .i64 2]) (by simp [results, Tryd.results29, go_sem, q0, q1, q2, q3]) rfl ⟨rfl, four_below HB3.out (Nat.le_refl _) _ _ _ _⟩

end Go.Proofs.YtabgelmmjpjejaaDoor.Sl3
