/- Plain facts on params: they make the looks that they came of; what may be stays so. -/
import Derived.Test.YtkpneocolbmnpaaSgrList
import Derived.Test.YtkpneocolbmnpaaSgrApart
set_option linter.unusedVariables false
namespace Go.Proofs.Ytkpneocolbmnpaa.SgrMath
open Go Go.RowKit Kit Sgr Col Apply Cell Params SgrFirst SgrList

/-- flags one behind the other. -/
theorem flags_fold : ∀ i : Fin 256, (flagsU ((i.1 : Nat) : Int) 10).foldl oneF 0 = ((i.1 : Nat) : Int) := by decide +kernel
theorem flagsU_mem {f : Int} {k : Nat} : ∀ c ∈ flagsU f k, 0 ≤ c ∧ c < k := by
  induction k with
  | zero => simp [flagsU]
  | succ k ih =>
    intro c hc
    rw [flagsU, List.mem_append] at hc
    rcases hc with hc | hc
    · have := ih c hc; omega
    · split at hc
      · simp at hc; omega
      · simp at hc
theorem flagsU_pos {f : Int} {k : Nat} : ∀ c ∈ flagsU f k, 1 ≤ c := by
  intro c hc
  have := flagsU_mem c hc
  rcases Int.lt_or_eq_of_le this.1 with h | h
  · omega
  · exfalso
    subst h
    have key : ∀ k, (0 : Int) ∉ flagsU f k := by
      intro k
      induction k with
      | zero => simp [flagsU]
      | succ k ih =>
        intro h0
        cases k with
        | zero => rw [flagsU_one] at h0; simp at h0
        | succ k =>
          rw [flagsU, List.mem_append] at h0
          rcases h0 with h0 | h0
          · exact ih h0
          · split at h0
            · simp at h0; omega
            · simp at h0
    exact key k hc
theorem apply_flags (F m : List Int) (hF : ∀ c ∈ F, 1 ≤ c ∧ c ≤ 9) (f fg bg : Int) : applyL (f, fg, bg) (F ++ m) = applyL (F.foldl oneF f, fg, bg) m := by
  induction F generalizing f with
  | nil => rfl
  | cons c F ih =>
    have hc := hF c (List.mem_cons_self ..)
    rw [List.cons_append, applyL_cons, Apply.step, if_neg (by omega), if_neg (by omega), List.foldl_cons]
    rw [SgrApart.fg_same fg c hc.1 (by omega) (by omega), SgrApart.bg_same bg c hc.1 (by omega) (by omega) (by omega)]
    exact ih (fun x hx => hF x (List.mem_cons_of_mem _ hx)) _
theorem okB_of {v : Int} (h1 : -1 ≤ v) (h2 : v ≤ 255) : Col.okB v = true := by simp [Col.okB]; omega
theorem col_back (k n : Int) (m : List Int) (hn : (1 ≤ n ∧ n ≤ 256) ∨ (16777216 ≤ n ∧ n < 33554432)) : ∃ t, colL k n = k :: t ∧ ∀ was, colZ was (t ++ m) = (n, m) := by
  rcases hn with ⟨h1, h2⟩ | ⟨h1, h2⟩
  · refine ⟨[5, n - 1], by rw [colL, if_neg (by omega), if_pos (by omega)], fun was => ?_⟩
    simp [colZ, okB_of (v := n - 1) (by omega) (by omega)]
    omega
  · refine ⟨[2, (n - 16777216) / 65536, (n - 16777216) / 256 % 256, (n - 16777216) % 256], by rw [colL, if_neg (by omega), if_neg (by omega)], fun was => ?_⟩
    simp [colZ, okB_of (v := (n - 16777216) / 65536) (by omega) (by omega), okB_of (v := (n - 16777216) / 256 % 256) (by omega) (by omega), okB_of (v := (n - 16777216) % 256) (by omega) (by omega)]
    omega
/-- params of looks make them of whatever was. -/
theorem back (f fg bg : Int) (s : Int × Int × Int) (h : attrB f fg bg = true) : applyL s (paramsL f fg bg) = (f, fg, bg) := by
  obtain ⟨hfg, hbg⟩ := attr_cols h
  have hf : 0 ≤ f ∧ f ≤ 255 := by simp [attrB] at h; exact h.1.1
  rw [paramsL, if_pos h, List.append_assoc, List.cons_append, applyL_cons]
  rw [show ∀ m, Apply.step s 0 m = ((0, 0, 0), m) from fun m => by simp [Apply.step, oneF, oneFg, oneBg]]
  rw [apply_flags _ _ (fun c hc => ⟨flagsU_pos c hc, by have := flagsU_mem c hc; omega⟩)]
  have e : (flagsU f 10).foldl oneF 0 = f := by
    have := flags_fold ⟨f.toNat, by omega⟩
    simp only at this
    rw [show ((f.toNat : Nat) : Int) = f by omega] at this
    exact this
  rw [e]
  have step1 : ∀ m, applyL (f, 0, 0) (colL 38 fg ++ m) = applyL (f, fg, 0) m := by
    intro m
    rcases hfg with rfl | hfg
    · rfl
    · obtain ⟨t, ht, hz⟩ := col_back 38 fg m hfg
      rw [ht, List.cons_append, applyL_cons]
      simp [Apply.step, hz]
  have step2 : applyL (f, fg, 0) (colL 48 bg) = (f, fg, bg) := by
    rcases hbg with rfl | hbg
    · rw [show colL 48 0 = [] from rfl, applyL_nil]
    · obtain ⟨t, ht, hz⟩ := col_back 48 bg [] hbg
      rw [ht, applyL_cons]
      rw [List.append_nil] at hz
      simp [Apply.step, hz, applyL_nil]
  rw [step1, step2]
theorem small_bits {a c s : Nat} (ha : a < 256) (hs : s < 256) : 0 ≤ bits .or .i64 (bits .andNot .i64 (a : Int) (c : Int)) (s : Int) ∧ bits .or .i64 (bits .andNot .i64 (a : Int) (c : Int)) (s : Int) ≤ 255 := by
  simp only [bits]
  rw [show IntKind.i64.bits = 64 from rfl]
  simp only [SgrApart.of_wrap]
  have e : ((BitVec.ofInt 64 (a : Int) &&& ~~~BitVec.ofInt 64 (c : Int)) ||| BitVec.ofInt 64 (s : Int)).toNat < 256 := by
    rw [BitVec.toNat_or, BitVec.toNat_and]
    refine Nat.or_lt_two_pow (n := 8) ?_ ?_
    · refine Nat.lt_of_le_of_lt Nat.and_le_left ?_
      rw [BitVec.ofInt_natCast, BitVec.toNat_ofNat]; omega
    · rw [BitVec.ofInt_natCast, BitVec.toNat_ofNat]; omega
  generalize ((BitVec.ofInt 64 (a : Int) &&& ~~~BitVec.ofInt 64 (c : Int)) ||| BitVec.ofInt 64 (s : Int)).toNat = x at e
  rw [IntKind.wrap_i64]
  omega
theorem setZ_in (n : Int) : 0 ≤ setZ n ∧ setZ n < 256 := by unfold setZ; repeat (first | (split; omega) | omega)
theorem clearedZ_in (n : Int) : 0 ≤ clearedZ n := by unfold clearedZ; repeat (first | (split; omega) | omega)
theorem oneF_in {f : Int} (n : Int) (h : 0 ≤ f ∧ f ≤ 255) : 0 ≤ oneF f n ∧ oneF f n ≤ 255 := by
  unfold oneF
  split
  · omega
  · split
    · exact h
    · have h1 := setZ_in n
      have h2 := clearedZ_in n
      obtain ⟨a, rfl⟩ := Int.eq_ofNat_of_zero_le h.1
      generalize setZ n = S at *
      generalize clearedZ n = C at *
      obtain ⟨s, rfl⟩ := Int.eq_ofNat_of_zero_le h1.1
      obtain ⟨c, rfl⟩ := Int.eq_ofNat_of_zero_le h2
      exact small_bits (by omega) (by omega)
def colP (n : Int) : Prop := (0 ≤ n ∧ n ≤ 256) ∨ (16777216 ≤ n ∧ n < 33554432)
theorem oneFg_in {fg : Int} (n : Int) (h : colP fg) : colP (oneFg fg n) := by
  unfold oneFg colP at *; repeat (first | (split; omega) | exact h | omega)
theorem oneBg_in {bg : Int} (n : Int) (h : colP bg) : colP (oneBg bg n) := by
  unfold oneBg colP at *; repeat (first | (split; omega) | exact h | omega)
theorem colZ_in {was : Int} (l : List Int) (h : colP was) : colP (colZ was l).1 := by
  unfold colZ
  split
  · exact h
  · split
    · split
      · exact h
      · split
        · rename_i hv
          have := okB_ok hv
          unfold colP; simp; omega
        · exact h
    · split
      · split
        · split
          · rename_i hv
            simp only [Bool.and_eq_true] at hv
            have h1 := okB_ok hv.1.1
            have h2 := okB_ok hv.1.2
            have h3 := okB_ok hv.2
            unfold colP; simp; omega
          · exact h
        · exact h
      · exact h
theorem attr_iff (f fg bg : Int) : attrB f fg bg = true ↔ (0 ≤ f ∧ f ≤ 255) ∧ colP fg ∧ colP bg := by
  simp [attrB, colB, colP, and_assoc]
theorem may_step {s : Int × Int × Int} (c : Int) (r : List Int) (h : (0 ≤ s.1 ∧ s.1 ≤ 255) ∧ colP s.2.1 ∧ colP s.2.2) : (0 ≤ (Apply.step s c r).1.1 ∧ (Apply.step s c r).1.1 ≤ 255) ∧ colP (Apply.step s c r).1.2.1 ∧ colP (Apply.step s c r).1.2.2 := by
  unfold Apply.step
  split
  · exact ⟨h.1, colZ_in r h.2.1, h.2.2⟩
  · split
    · exact ⟨h.1, h.2.1, colZ_in r h.2.2⟩
    · exact ⟨oneF_in c h.1, oneFg_in c h.2.1, oneBg_in c h.2.2⟩
theorem may_apply (n : Nat) : ∀ (s : Int × Int × Int) (l : List Int), l.length ≤ n → ((0 ≤ s.1 ∧ s.1 ≤ 255) ∧ colP s.2.1 ∧ colP s.2.2) → (0 ≤ (applyL s l).1 ∧ (applyL s l).1 ≤ 255) ∧ colP (applyL s l).2.1 ∧ colP (applyL s l).2.2 := by
  induction n with
  | zero =>
    intro s l hl h
    obtain rfl := List.eq_nil_of_length_eq_zero (by omega : l.length = 0)
    rw [applyL_nil]; exact h
  | succ n ih =>
    intro s l hl h
    cases l with
    | nil => rw [applyL_nil]; exact h
    | cons c r =>
      rw [applyL_cons]
      have := step_len s c r
      simp only [List.length_cons] at hl
      exact ih _ _ (by omega) (may_step c r h)
end Go.Proofs.Ytkpneocolbmnpaa.SgrMath
