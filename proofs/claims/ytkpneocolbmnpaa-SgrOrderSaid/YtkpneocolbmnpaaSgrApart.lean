/- SgrApart: the walk of the law. -/
import Derived.Test.YtkpneocolbmnpaaSgrFirst
import Derived.Deep.DeepCutAuto
set_option linter.unusedVariables false
namespace Go.Proofs.Ytkpneocolbmnpaa.SgrApart
open Go Go.RowKit Kit Sgr Col Apply Cell Params SgrFirst

theorem of_wrap (x : BitVec 64) : BitVec.ofInt 64 (IntKind.i64.wrap (x.toNat : Int)) = x := by
  have e : IntKind.i64.wrap (x.toNat : Int) = x.toInt := by
    rw [BitVec.toInt_eq_toNat_cond]
    unfold IntKind.wrap
    have h := x.isLt
    generalize x.toNat = n at h
    simp only [IntKind.bits, IntKind.signed]
    have e1 : (2 : Nat) ^ 64 = 18446744073709551616 := by decide
    have e2 : (2 : Int) ^ 64 = 18446744073709551616 := by decide
    have e3 : (2 : Int) ^ (64 - 1) = 9223372036854775808 := by decide
    simp only [e1, e2, e3] at *
    simp only [Bool.true_and, decide_eq_true_eq]
    rw [show ((18446744073709551616 : Nat) : Int) = 18446744073709551616 from rfl]
    split <;> split <;> omega
  rw [e, BitVec.ofInt_toInt]
theorem wrap_int (x : BitVec 64) : IntKind.i64.wrap (x.toNat : Int) = x.toInt := by
    rw [BitVec.toInt_eq_toNat_cond]
    unfold IntKind.wrap
    have h := x.isLt
    generalize x.toNat = n at h
    simp only [IntKind.bits, IntKind.signed]
    have e1 : (2 : Nat) ^ 64 = 18446744073709551616 := by decide
    have e2 : (2 : Int) ^ 64 = 18446744073709551616 := by decide
    have e3 : (2 : Int) ^ (64 - 1) = 9223372036854775808 := by decide
    simp only [e1, e2, e3] at *
    simp only [Bool.true_and, decide_eq_true_eq]
    rw [show ((18446744073709551616 : Nat) : Int) = 18446744073709551616 from rfl]
    split <;> split <;> omega
theorem bv_set (F S : BitVec 64) : (((F &&& ~~~(0#64)) ||| S) &&& ~~~(0#64)) ||| S = (F &&& ~~~(0#64)) ||| S := by
  rw [show ~~~(0#64) = BitVec.allOnes 64 from by decide, BitVec.and_allOnes, BitVec.and_allOnes, BitVec.or_assoc, BitVec.or_self]
theorem bv_clear (F C : BitVec 64) : (((F &&& ~~~C) ||| 0#64) &&& ~~~C) ||| 0#64 = (F &&& ~~~C) ||| 0#64 := by
  rw [BitVec.or_zero, BitVec.or_zero, BitVec.and_assoc, BitVec.and_self]
/-- flags, cleared and set once, and once more. -/
theorem flag_twice (f c s : Int) (h : c = 0 ∨ s = 0) : bits .or .i64 (bits .andNot .i64 (bits .or .i64 (bits .andNot .i64 f c) s) c) s = bits .or .i64 (bits .andNot .i64 f c) s := by
  simp only [bits]
  rw [show IntKind.i64.bits = 64 from rfl]
  simp only [of_wrap]
  generalize BitVec.ofInt 64 f = F
  rcases h with rfl | rfl
  · generalize BitVec.ofInt 64 s = S
    rw [show BitVec.ofInt 64 0 = 0#64 from rfl, bv_set]
  · generalize BitVec.ofInt 64 c = C
    rw [show BitVec.ofInt 64 0 = 0#64 from rfl, bv_clear]

theorem one_of (n : Int) : clearedZ n = 0 ∨ setZ n = 0 := by
  by_cases h : n < 10
  · left; unfold clearedZ; repeat (rw [if_neg (by omega)])
  · right; unfold setZ; repeat (rw [if_neg (by omega)])
theorem oneF_twice (f n : Int) : oneF (oneF f n) n = oneF f n := by
  unfold oneF
  split
  · rfl
  · split
    · rfl
    · exact flag_twice f _ _ (one_of n)
theorem oneFg_twice (f n : Int) : oneFg (oneFg f n) n = oneFg f n := by unfold oneFg; repeat (first | rfl | split)
theorem oneBg_twice (f n : Int) : oneBg (oneBg f n) n = oneBg f n := by unfold oneBg; repeat (first | rfl | split)
theorem apply_one (s : Int × Int × Int) (n : Int) (h1 : n ≠ 38) (h2 : n ≠ 48) : applyL s [n] = (oneF s.1 n, oneFg s.2.1 n, oneBg s.2.2 n) := by
  rw [applyL_cons, Apply.step, if_neg h1, if_neg h2, applyL_nil]
theorem fg_same (fg n : Int) (h1 : 1 ≤ n) (h : ¬(30 ≤ n ∧ n ≤ 39)) (h2 : ¬(90 ≤ n ∧ n ≤ 97)) : oneFg fg n = fg := by
  unfold oneFg; repeat (rw [if_neg (by omega)])
theorem bg_same (bg n : Int) (h1 : 1 ≤ n) (h3 : n ≤ 107) (h : ¬(40 ≤ n ∧ n ≤ 49)) (h2 : ¬(100 ≤ n)) : oneBg bg n = bg := by
  unfold oneBg; repeat (rw [if_neg (by omega)])
theorem or_none {f : Int} (h : (Lit.int .i64 f).wf = true) : bits .or .i64 (bits .andNot .i64 f 0) 0 = f := by
  have h1 : IntKind.i64.min = -9223372036854775808 := by decide
  have h2 : IntKind.i64.max = 9223372036854775807 := by decide
  simp only [Lit.wf, Bool.and_eq_true, decide_eq_true_eq] at h
  rw [h1, h2] at h
  simp only [bits]
  rw [show IntKind.i64.bits = 64 from rfl]
  simp only [of_wrap]
  rw [show BitVec.ofInt 64 0 = 0#64 from rfl, BitVec.or_zero, show ~~~(0#64) = BitVec.allOnes 64 from by decide, BitVec.and_allOnes, wrap_int, BitVec.toInt_ofInt]
  obtain ⟨a, b⟩ := h
  rw [Int.bmod_eq_of_le (by simpa using a) (by simp; omega)]
theorem f_same {f : Int} (n : Int) (h : (Lit.int .i64 f).wf = true) (h1 : 29 < n) : oneF f n = f := by
  unfold oneF
  rw [if_neg (by omega)]
  split
  · rfl
  · have c0 : clearedZ n = 0 := by unfold clearedZ; repeat (rw [if_neg (by omega)])
    have s0 : setZ n = 0 := by unfold setZ; repeat (rw [if_neg (by omega)])
    rw [c0, s0]
    exact or_none h
theorem past_alloc {w : World} {a : Addr} {v : Value} {o : Obj} (h : w.cell? a = some v) : (w.alloc o).cell? a = some v := by
  rw [World.cell?_alloc_lt _ _ _ (World.block_lt_of_cell? w a h)]; exact h
theorem past_drew {w : World} {a : Addr} {v : Value} (h : w.cell? a = some v) : w.drew.cell? a = some v := h
theorem below_next {w W W1 : World} (h : Below w.heap.size w W) (k : Below W.heap.size W W1) : Below w.heap.size w W1 := below_then h k h.size
theorem below_al {w W : World} {o : Obj} (h : Below w.heap.size w W) : Below w.heap.size w (W.alloc o) := h.alloc h.size _
/-- Apply of one param. -/
theorem apply1 (F FG BG n : Int) (k : Nat) (w : World) (R : Int × Int × Int) (hk : Ints w (some ⟨k, 0, none⟩) [n]) (hT : Hid (applyL (F, FG, BG) [n] = R)) :
    Calls Try.prog 23 #[.agg #[.int .i64 F, .int .i64 FG, .int .i64 BG], .slice (some ⟨k, 0, none⟩) 1 1] w fun e w' => e = .returned (.agg #[.int .i64 R.1, .int .i64 R.2.1, .int .i64 R.2.2]) ∧ Below w.heap.size w w' := by
  have := applyC F FG BG (some ⟨k, 0, none⟩) [n] 1 w (by simp) (by decide) (by simp) hk (by simp)
  rw [hT.out] at this
  exact this
set_option maxRecDepth 100000 in
theorem walkOut (f fg bg n : Int) (w : World) (h : n < 1 ∨ 107 < n ∨ n = 38 ∨ n = 48) :
    Calls Try.prog 7 #[.agg #[.int .i64 f, .int .i64 fg, .int .i64 bg], .int .i64 n] w fun e w' => e = .returned (.bool true) ∧ Below w.heap.size w w' := by
  go_enter Try.func7, Try.ntmps7
  go_wp2_with fail
  refine (SgrFirst.first _).mono ?_
  rintro e w1 ⟨rfl, hb1⟩
  have h1 : Below w.heap.size w w1 := below_then ((Below.refl _ _).alloc (Nat.le_refl _) _) hb1 (by simp)
  rcases h with h | h | rfl | rfl
  · go_wp2_with fail
    refine (SgrFirst.first _).mono ?_
    rintro e w2 ⟨rfl, hb2⟩
    go_wp2
    go_ret
    exact ⟨rfl, below_then h1 hb2 h1.size⟩
  · have h0 : ¬ n < 1 := by omega
    go_wp2_with fail
    refine (SgrFirst.first _).mono ?_
    rintro e w2 ⟨rfl, hb2⟩
    go_wp2
    go_ret
    exact ⟨rfl, below_then h1 hb2 h1.size⟩
  · go_wp2_with fail
    refine (SgrFirst.first _).mono ?_
    rintro e w2 ⟨rfl, hb2⟩
    go_wp2
    go_ret
    exact ⟨rfl, below_then h1 hb2 h1.size⟩
  · go_wp2_with fail
    refine (SgrFirst.first _).mono ?_
    rintro e w2 ⟨rfl, hb2⟩
    go_wp2
    go_ret
    exact ⟨rfl, below_then h1 hb2 h1.size⟩
end Go.Proofs.Ytkpneocolbmnpaa.SgrApart
