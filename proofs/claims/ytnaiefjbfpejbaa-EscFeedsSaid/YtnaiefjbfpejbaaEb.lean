/- A sign behind an escape. -/
import Derived.Test.YtnaiefjbfpejbaaEp
set_option linter.unusedVariables false
namespace Go.Proofs.Ytnaiefjbfpejbaa.Eb
open Go Go.RowKit Kit Ep

def inEscapeM (r : Int) : Ps × Ev := if r < 32 then (bg 1, execE r) else if r < 48 then ({ bg 2 with it := r }, blankE) else if r = 91 then (bg 3, blankE) else if r = 93 then (bg 4, blankE) else if r = 80 ∨ r = 88 ∨ r = 94 ∨ r = 95 then (bg 5, blankE) else if r < 127 then (bg 0, escE 0 r) else if 127 < r then (bg 0, blankE) else (bg 1, blankE)
set_option maxRecDepth 100000 in
set_option maxHeartbeats 4000000 in
theorem inEscapeC (r : Int) (g : Nat) (v x : Value) (p : Ps) (w : World) (h : PrV w g v x p) (P : Ps) (E : Ev) (hPE : (P, E) = inEscapeM r) : Calls Try.prog 23 #[.pointer (some ⟨g, 0, none⟩), .int .i32 r] w (EvP g v x w P E) := by
  have HP0 := Lib.hid h
  have HB := Lib.hid (show Below w.heap.size w (w.alloc (.cells #[.int .i64 0, .int .i32 0, .slice none 0 0, .int .i32 0, .int .i32 0, .int .i32 0, .string ⟨#[]⟩] 40)) from (Below.refl _ w).alloc (Nat.le_refl _) _)
  have HP := Lib.hid (h.then_ HB.out (Nat.le_refl _))
  have HR := Lib.hid (heap_alloc_last w (.cells #[.int .i64 0, .int .i32 0, .slice none 0 0, .int .i32 0, .int .i32 0, .int .i32 0, .string ⟨#[]⟩] 40))
  have HG := Lib.hid h.lt
  have hne : g ≠ w.heap.size := Nat.ne_of_lt HG.out
  have hne' : w.heap.size ≠ g := Nat.ne_of_gt HG.out
  clear h
  by_cases h0 : r < 32
  · obtain ⟨rfl, rfl⟩ : P = bg 1 ∧ E = execE r := by
      unfold inEscapeM at hPE
      repeat (first | rw [if_pos (by omega)] at hPE | rw [if_neg (by omega)] at hPE)
      exact ⟨congrArg Prod.fst hPE, congrArg Prod.snd hPE⟩
    clear hPE
    go_enter Try.func23, Try.ntmps23
    go_wp2_with fail
    generalize w.alloc (.cells #[.int .i64 0, .int .i32 0, .slice none 0 0, .int .i32 0, .int .i32 0, .int .i32 0, .string ⟨#[]⟩] 40) = w0 at *
    go_wp2_with (first
      | (go_at_call 21; (with_reducible refine (beginK 1 1 g v x _ w0 rfl HP.out).mono ?_); rintro e w1 ⟨rfl, hs⟩; have HS1 := Lib.hid hs; have HR1 := Lib.hid (res_at HP.out HR.out hs); clear hs; obtain ⟨d0, d1, d2, d3, d4, d5, d6⟩ := seven HR1.out; obtain ⟨f0, f1, f2, f3, f4, f5, f6⟩ := thawed HR1.out))
    have HF := Lib.hid (seven (seven_set HR1.out (.int .i64 2) (.int .i32 r) (.slice none 0 0) (.int .i32 0) (.int .i32 0) (.int .i32 0) (.string ⟨#[]⟩)))
    clear d0 d1 d2 d3 d4 d5 d6
    obtain ⟨d0, d1, d2, d3, d4, d5, d6⟩ := HF.out
    exact bodyPost_ret (v := .agg #[.int .i64 2, .int .i32 r, .slice none 0 0, .int .i32 0, .int .i32 0, .int .i32 0, .string ⟨#[]⟩]) (by simp [results, Try.results23, go_sem, d0, d1, d2, d3, d4, d5, d6]) rfl ⟨rfl, _, _, (StP.past HB.out HS1.out).fin (Nat.le_refl _) HR1.out _ _ _ _ _ _ _⟩
  · by_cases h1 : r < 48
    · obtain ⟨rfl, rfl⟩ : P = { bg 2 with it := r } ∧ E = blankE := by
        unfold inEscapeM at hPE
        repeat (first | rw [if_pos (by omega)] at hPE | rw [if_neg (by omega)] at hPE)
        exact ⟨congrArg Prod.fst hPE, congrArg Prod.snd hPE⟩
      clear hPE
      go_enter Try.func23, Try.ntmps23
      go_wp2_with fail
      generalize w.alloc (.cells #[.int .i64 0, .int .i32 0, .slice none 0 0, .int .i32 0, .int .i32 0, .int .i32 0, .string ⟨#[]⟩] 40) = w0 at *
      go_wp2_with (first
        | (go_at_call 21; (with_reducible refine (beginK 1 1 g v x _ w0 rfl HP.out).mono ?_); rintro e w1 ⟨rfl, hs⟩; have HS1 := Lib.hid hs; have HR1 := Lib.hid (res_at HP.out HR.out hs); clear hs; obtain ⟨d0, d1, d2, d3, d4, d5, d6⟩ := seven HR1.out; obtain ⟨f0, f1, f2, f3, f4, f5, f6⟩ := thawed HR1.out)
        | (go_at_call 21; (with_reducible refine (beginK 2 2 g (.slice none 0 0) (.slice none 0 0) _ w1 rfl HS1.out.pr).mono ?_); rintro e w2 ⟨rfl, hs⟩; have HS2 := Lib.hid (HS1.out.trans hs); have HR2 := Lib.hid (res_at HS1.out.pr HR1.out hs); clear hs; clear d0 d1 d2 d3 d4 d5 d6 f0 f1 f2 f3 f4 f5 f6; obtain ⟨d0, d1, d2, d3, d4, d5, d6⟩ := seven HR2.out; obtain ⟨f0, f1, f2, f3, f4, f5, f6⟩ := thawed HR2.out; obtain ⟨k0, k1, k2, k3, k4, k5, k6⟩ := seven HS2.out.pr.row; obtain ⟨l0, l1, l2, l3, l4, l5, l6⟩ := thawed HS2.out.pr.row))
      have HS9 := Lib.hid (HS2.out.put (i := 3) (u := .int .i32 r) (p' := { bg 2 with it := r }) HP.out.lt rfl rfl rfl)
      have HR9 := Lib.hid (put_other (g := g) (i := 3) (u := .int .i32 r) HR2.out (Nat.ne_of_gt HG.out))
      have HF := Lib.hid (seven (seven_set HR9.out (.int .i64 0) (.int .i32 0) (.slice none 0 0) (.int .i32 0) (.int .i32 0) (.int .i32 0) (.string ⟨#[]⟩)))
      clear d0 d1 d2 d3 d4 d5 d6
      obtain ⟨d0, d1, d2, d3, d4, d5, d6⟩ := HF.out
      exact bodyPost_ret (v := .agg #[.int .i64 0, .int .i32 0, .slice none 0 0, .int .i32 0, .int .i32 0, .int .i32 0, .string ⟨#[]⟩]) (by simp [results, Try.results23, go_sem, d0, d1, d2, d3, d4, d5, d6]) rfl ⟨rfl, _, _, (StP.past HB.out HS9.out).fin (Nat.le_refl _) HR9.out _ _ _ _ _ _ _⟩
    · by_cases h2 : r = 91
      · obtain ⟨rfl, rfl⟩ : P = bg 3 ∧ E = blankE := by
          unfold inEscapeM at hPE
          repeat (first | rw [if_pos (by omega)] at hPE | rw [if_neg (by omega)] at hPE)
          exact ⟨congrArg Prod.fst hPE, congrArg Prod.snd hPE⟩
        clear hPE
        go_enter Try.func23, Try.ntmps23
        go_wp2_with fail
        generalize w.alloc (.cells #[.int .i64 0, .int .i32 0, .slice none 0 0, .int .i32 0, .int .i32 0, .int .i32 0, .string ⟨#[]⟩] 40) = w0 at *
        go_wp2_with (first
          | (go_at_call 21; (with_reducible refine (beginK 1 1 g v x _ w0 rfl HP.out).mono ?_); rintro e w1 ⟨rfl, hs⟩; have HS1 := Lib.hid hs; have HR1 := Lib.hid (res_at HP.out HR.out hs); clear hs; obtain ⟨d0, d1, d2, d3, d4, d5, d6⟩ := seven HR1.out; obtain ⟨f0, f1, f2, f3, f4, f5, f6⟩ := thawed HR1.out)
          | (go_at_call 21; (with_reducible refine (beginK 3 3 g (.slice none 0 0) (.slice none 0 0) _ w1 rfl HS1.out.pr).mono ?_); rintro e w2 ⟨rfl, hs⟩; have HS2 := Lib.hid (HS1.out.trans hs); have HR2 := Lib.hid (res_at HS1.out.pr HR1.out hs); clear hs; clear d0 d1 d2 d3 d4 d5 d6 f0 f1 f2 f3 f4 f5 f6; obtain ⟨d0, d1, d2, d3, d4, d5, d6⟩ := seven HR2.out; obtain ⟨f0, f1, f2, f3, f4, f5, f6⟩ := thawed HR2.out))
        have HF := Lib.hid (seven (seven_set HR2.out (.int .i64 0) (.int .i32 0) (.slice none 0 0) (.int .i32 0) (.int .i32 0) (.int .i32 0) (.string ⟨#[]⟩)))
        clear d0 d1 d2 d3 d4 d5 d6
        obtain ⟨d0, d1, d2, d3, d4, d5, d6⟩ := HF.out
        exact bodyPost_ret (v := .agg #[.int .i64 0, .int .i32 0, .slice none 0 0, .int .i32 0, .int .i32 0, .int .i32 0, .string ⟨#[]⟩]) (by simp [results, Try.results23, go_sem, d0, d1, d2, d3, d4, d5, d6]) rfl ⟨rfl, _, _, (StP.past HB.out HS2.out).fin (Nat.le_refl _) HR2.out _ _ _ _ _ _ _⟩
      · by_cases h3 : r = 93
        · obtain ⟨rfl, rfl⟩ : P = bg 4 ∧ E = blankE := by
            unfold inEscapeM at hPE
            repeat (first | rw [if_pos (by omega)] at hPE | rw [if_neg (by omega)] at hPE)
            exact ⟨congrArg Prod.fst hPE, congrArg Prod.snd hPE⟩
          clear hPE
          go_enter Try.func23, Try.ntmps23
          go_wp2_with fail
          generalize w.alloc (.cells #[.int .i64 0, .int .i32 0, .slice none 0 0, .int .i32 0, .int .i32 0, .int .i32 0, .string ⟨#[]⟩] 40) = w0 at *
          go_wp2_with (first
            | (go_at_call 21; (with_reducible refine (beginK 1 1 g v x _ w0 rfl HP.out).mono ?_); rintro e w1 ⟨rfl, hs⟩; have HS1 := Lib.hid hs; have HR1 := Lib.hid (res_at HP.out HR.out hs); clear hs; obtain ⟨d0, d1, d2, d3, d4, d5, d6⟩ := seven HR1.out; obtain ⟨f0, f1, f2, f3, f4, f5, f6⟩ := thawed HR1.out)
            | (go_at_call 21; (with_reducible refine (beginK 4 4 g (.slice none 0 0) (.slice none 0 0) _ w1 rfl HS1.out.pr).mono ?_); rintro e w2 ⟨rfl, hs⟩; have HS2 := Lib.hid (HS1.out.trans hs); have HR2 := Lib.hid (res_at HS1.out.pr HR1.out hs); clear hs; clear d0 d1 d2 d3 d4 d5 d6 f0 f1 f2 f3 f4 f5 f6; obtain ⟨d0, d1, d2, d3, d4, d5, d6⟩ := seven HR2.out; obtain ⟨f0, f1, f2, f3, f4, f5, f6⟩ := thawed HR2.out))
          have HF := Lib.hid (seven (seven_set HR2.out (.int .i64 0) (.int .i32 0) (.slice none 0 0) (.int .i32 0) (.int .i32 0) (.int .i32 0) (.string ⟨#[]⟩)))
          clear d0 d1 d2 d3 d4 d5 d6
          obtain ⟨d0, d1, d2, d3, d4, d5, d6⟩ := HF.out
          exact bodyPost_ret (v := .agg #[.int .i64 0, .int .i32 0, .slice none 0 0, .int .i32 0, .int .i32 0, .int .i32 0, .string ⟨#[]⟩]) (by simp [results, Try.results23, go_sem, d0, d1, d2, d3, d4, d5, d6]) rfl ⟨rfl, _, _, (StP.past HB.out HS2.out).fin (Nat.le_refl _) HR2.out _ _ _ _ _ _ _⟩
        · by_cases h4 : r = 80
          · obtain ⟨rfl, rfl⟩ : P = bg 5 ∧ E = blankE := by
              unfold inEscapeM at hPE
              repeat (first | rw [if_pos (by omega)] at hPE | rw [if_neg (by omega)] at hPE)
              exact ⟨congrArg Prod.fst hPE, congrArg Prod.snd hPE⟩
            clear hPE
            go_enter Try.func23, Try.ntmps23
            go_wp2_with fail
            generalize w.alloc (.cells #[.int .i64 0, .int .i32 0, .slice none 0 0, .int .i32 0, .int .i32 0, .int .i32 0, .string ⟨#[]⟩] 40) = w0 at *
            go_wp2_with (first
              | (go_at_call 21; (with_reducible refine (beginK 1 1 g v x _ w0 rfl HP.out).mono ?_); rintro e w1 ⟨rfl, hs⟩; have HS1 := Lib.hid hs; have HR1 := Lib.hid (res_at HP.out HR.out hs); clear hs; obtain ⟨d0, d1, d2, d3, d4, d5, d6⟩ := seven HR1.out; obtain ⟨f0, f1, f2, f3, f4, f5, f6⟩ := thawed HR1.out)
              | (go_at_call 21; (with_reducible refine (beginK 5 5 g (.slice none 0 0) (.slice none 0 0) _ w1 rfl HS1.out.pr).mono ?_); rintro e w2 ⟨rfl, hs⟩; have HS2 := Lib.hid (HS1.out.trans hs); have HR2 := Lib.hid (res_at HS1.out.pr HR1.out hs); clear hs; clear d0 d1 d2 d3 d4 d5 d6 f0 f1 f2 f3 f4 f5 f6; obtain ⟨d0, d1, d2, d3, d4, d5, d6⟩ := seven HR2.out; obtain ⟨f0, f1, f2, f3, f4, f5, f6⟩ := thawed HR2.out))
            have HF := Lib.hid (seven (seven_set HR2.out (.int .i64 0) (.int .i32 0) (.slice none 0 0) (.int .i32 0) (.int .i32 0) (.int .i32 0) (.string ⟨#[]⟩)))
            clear d0 d1 d2 d3 d4 d5 d6
            obtain ⟨d0, d1, d2, d3, d4, d5, d6⟩ := HF.out
            exact bodyPost_ret (v := .agg #[.int .i64 0, .int .i32 0, .slice none 0 0, .int .i32 0, .int .i32 0, .int .i32 0, .string ⟨#[]⟩]) (by simp [results, Try.results23, go_sem, d0, d1, d2, d3, d4, d5, d6]) rfl ⟨rfl, _, _, (StP.past HB.out HS2.out).fin (Nat.le_refl _) HR2.out _ _ _ _ _ _ _⟩
          · by_cases h5 : r = 88
            · obtain ⟨rfl, rfl⟩ : P = bg 5 ∧ E = blankE := by
                unfold inEscapeM at hPE
                repeat (first | rw [if_pos (by omega)] at hPE | rw [if_neg (by omega)] at hPE)
                exact ⟨congrArg Prod.fst hPE, congrArg Prod.snd hPE⟩
              clear hPE
              go_enter Try.func23, Try.ntmps23
              go_wp2_with fail
              generalize w.alloc (.cells #[.int .i64 0, .int .i32 0, .slice none 0 0, .int .i32 0, .int .i32 0, .int .i32 0, .string ⟨#[]⟩] 40) = w0 at *
              go_wp2_with (first
                | (go_at_call 21; (with_reducible refine (beginK 1 1 g v x _ w0 rfl HP.out).mono ?_); rintro e w1 ⟨rfl, hs⟩; have HS1 := Lib.hid hs; have HR1 := Lib.hid (res_at HP.out HR.out hs); clear hs; obtain ⟨d0, d1, d2, d3, d4, d5, d6⟩ := seven HR1.out; obtain ⟨f0, f1, f2, f3, f4, f5, f6⟩ := thawed HR1.out)
                | (go_at_call 21; (with_reducible refine (beginK 5 5 g (.slice none 0 0) (.slice none 0 0) _ w1 rfl HS1.out.pr).mono ?_); rintro e w2 ⟨rfl, hs⟩; have HS2 := Lib.hid (HS1.out.trans hs); have HR2 := Lib.hid (res_at HS1.out.pr HR1.out hs); clear hs; clear d0 d1 d2 d3 d4 d5 d6 f0 f1 f2 f3 f4 f5 f6; obtain ⟨d0, d1, d2, d3, d4, d5, d6⟩ := seven HR2.out; obtain ⟨f0, f1, f2, f3, f4, f5, f6⟩ := thawed HR2.out))
              have HF := Lib.hid (seven (seven_set HR2.out (.int .i64 0) (.int .i32 0) (.slice none 0 0) (.int .i32 0) (.int .i32 0) (.int .i32 0) (.string ⟨#[]⟩)))
              clear d0 d1 d2 d3 d4 d5 d6
              obtain ⟨d0, d1, d2, d3, d4, d5, d6⟩ := HF.out
              exact bodyPost_ret (v := .agg #[.int .i64 0, .int .i32 0, .slice none 0 0, .int .i32 0, .int .i32 0, .int .i32 0, .string ⟨#[]⟩]) (by simp [results, Try.results23, go_sem, d0, d1, d2, d3, d4, d5, d6]) rfl ⟨rfl, _, _, (StP.past HB.out HS2.out).fin (Nat.le_refl _) HR2.out _ _ _ _ _ _ _⟩
            · by_cases h6 : r = 94
              · obtain ⟨rfl, rfl⟩ : P = bg 5 ∧ E = blankE := by
                  unfold inEscapeM at hPE
                  repeat (first | rw [if_pos (by omega)] at hPE | rw [if_neg (by omega)] at hPE)
                  exact ⟨congrArg Prod.fst hPE, congrArg Prod.snd hPE⟩
                clear hPE
                go_enter Try.func23, Try.ntmps23
                go_wp2_with fail
                generalize w.alloc (.cells #[.int .i64 0, .int .i32 0, .slice none 0 0, .int .i32 0, .int .i32 0, .int .i32 0, .string ⟨#[]⟩] 40) = w0 at *
                go_wp2_with (first
                  | (go_at_call 21; (with_reducible refine (beginK 1 1 g v x _ w0 rfl HP.out).mono ?_); rintro e w1 ⟨rfl, hs⟩; have HS1 := Lib.hid hs; have HR1 := Lib.hid (res_at HP.out HR.out hs); clear hs; obtain ⟨d0, d1, d2, d3, d4, d5, d6⟩ := seven HR1.out; obtain ⟨f0, f1, f2, f3, f4, f5, f6⟩ := thawed HR1.out)
                  | (go_at_call 21; (with_reducible refine (beginK 5 5 g (.slice none 0 0) (.slice none 0 0) _ w1 rfl HS1.out.pr).mono ?_); rintro e w2 ⟨rfl, hs⟩; have HS2 := Lib.hid (HS1.out.trans hs); have HR2 := Lib.hid (res_at HS1.out.pr HR1.out hs); clear hs; clear d0 d1 d2 d3 d4 d5 d6 f0 f1 f2 f3 f4 f5 f6; obtain ⟨d0, d1, d2, d3, d4, d5, d6⟩ := seven HR2.out; obtain ⟨f0, f1, f2, f3, f4, f5, f6⟩ := thawed HR2.out))
                have HF := Lib.hid (seven (seven_set HR2.out (.int .i64 0) (.int .i32 0) (.slice none 0 0) (.int .i32 0) (.int .i32 0) (.int .i32 0) (.string ⟨#[]⟩)))
                clear d0 d1 d2 d3 d4 d5 d6
                obtain ⟨d0, d1, d2, d3, d4, d5, d6⟩ := HF.out
                exact bodyPost_ret (v := .agg #[.int .i64 0, .int .i32 0, .slice none 0 0, .int .i32 0, .int .i32 0, .int .i32 0, .string ⟨#[]⟩]) (by simp [results, Try.results23, go_sem, d0, d1, d2, d3, d4, d5, d6]) rfl ⟨rfl, _, _, (StP.past HB.out HS2.out).fin (Nat.le_refl _) HR2.out _ _ _ _ _ _ _⟩
              · by_cases h7 : r = 95
                · obtain ⟨rfl, rfl⟩ : P = bg 5 ∧ E = blankE := by
                    unfold inEscapeM at hPE
                    repeat (first | rw [if_pos (by omega)] at hPE | rw [if_neg (by omega)] at hPE)
                    exact ⟨congrArg Prod.fst hPE, congrArg Prod.snd hPE⟩
                  clear hPE
                  go_enter Try.func23, Try.ntmps23
                  go_wp2_with fail
                  generalize w.alloc (.cells #[.int .i64 0, .int .i32 0, .slice none 0 0, .int .i32 0, .int .i32 0, .int .i32 0, .string ⟨#[]⟩] 40) = w0 at *
                  go_wp2_with (first
                    | (go_at_call 21; (with_reducible refine (beginK 1 1 g v x _ w0 rfl HP.out).mono ?_); rintro e w1 ⟨rfl, hs⟩; have HS1 := Lib.hid hs; have HR1 := Lib.hid (res_at HP.out HR.out hs); clear hs; obtain ⟨d0, d1, d2, d3, d4, d5, d6⟩ := seven HR1.out; obtain ⟨f0, f1, f2, f3, f4, f5, f6⟩ := thawed HR1.out)
                    | (go_at_call 21; (with_reducible refine (beginK 5 5 g (.slice none 0 0) (.slice none 0 0) _ w1 rfl HS1.out.pr).mono ?_); rintro e w2 ⟨rfl, hs⟩; have HS2 := Lib.hid (HS1.out.trans hs); have HR2 := Lib.hid (res_at HS1.out.pr HR1.out hs); clear hs; clear d0 d1 d2 d3 d4 d5 d6 f0 f1 f2 f3 f4 f5 f6; obtain ⟨d0, d1, d2, d3, d4, d5, d6⟩ := seven HR2.out; obtain ⟨f0, f1, f2, f3, f4, f5, f6⟩ := thawed HR2.out))
                  have HF := Lib.hid (seven (seven_set HR2.out (.int .i64 0) (.int .i32 0) (.slice none 0 0) (.int .i32 0) (.int .i32 0) (.int .i32 0) (.string ⟨#[]⟩)))
                  clear d0 d1 d2 d3 d4 d5 d6
                  obtain ⟨d0, d1, d2, d3, d4, d5, d6⟩ := HF.out
                  exact bodyPost_ret (v := .agg #[.int .i64 0, .int .i32 0, .slice none 0 0, .int .i32 0, .int .i32 0, .int .i32 0, .string ⟨#[]⟩]) (by simp [results, Try.results23, go_sem, d0, d1, d2, d3, d4, d5, d6]) rfl ⟨rfl, _, _, (StP.past HB.out HS2.out).fin (Nat.le_refl _) HR2.out _ _ _ _ _ _ _⟩
                · by_cases h8 : r < 127
                  · obtain ⟨rfl, rfl⟩ : P = bg 0 ∧ E = escE 0 r := by
                      unfold inEscapeM at hPE
                      repeat (first | rw [if_pos (by omega)] at hPE | rw [if_neg (by omega)] at hPE)
                      exact ⟨congrArg Prod.fst hPE, congrArg Prod.snd hPE⟩
                    clear hPE
                    go_enter Try.func23, Try.ntmps23
                    go_wp2_with fail
                    generalize w.alloc (.cells #[.int .i64 0, .int .i32 0, .slice none 0 0, .int .i32 0, .int .i32 0, .int .i32 0, .string ⟨#[]⟩] 40) = w0 at *
                    go_wp2_with (first
                      | (go_at_call 21; (with_reducible refine (beginK 1 1 g v x _ w0 rfl HP.out).mono ?_); rintro e w1 ⟨rfl, hs⟩; have HS1 := Lib.hid hs; have HR1 := Lib.hid (res_at HP.out HR.out hs); clear hs; obtain ⟨d0, d1, d2, d3, d4, d5, d6⟩ := seven HR1.out; obtain ⟨f0, f1, f2, f3, f4, f5, f6⟩ := thawed HR1.out)
                      | (go_at_call 34; (with_reducible refine (endC 3 0 none 0 0 0 0 r ⟨#[]⟩ g (.slice none 0 0) (.slice none 0 0) _ w1 HS1.out.pr (.agg #[.int .i64 3, .int .i32 0, .slice none 0 0, .int .i32 0, .int .i32 0, .int .i32 r, .string ⟨#[]⟩]) rfl).mono ?_); rintro e w2 ⟨rfl, v2, x2, hs⟩; have HS2 := Lib.hid (HS1.out.trans hs); have HR2 := Lib.hid (res_at HS1.out.pr HR1.out hs); clear hs; clear d0 d1 d2 d3 d4 d5 d6 f0 f1 f2 f3 f4 f5 f6; obtain ⟨d0, d1, d2, d3, d4, d5, d6⟩ := seven HR2.out; obtain ⟨f0, f1, f2, f3, f4, f5, f6⟩ := thawed HR2.out))
                    have HF := Lib.hid (seven (seven_set HR2.out (.int .i64 3) (.int .i32 0) (.slice none 0 0) (.int .i32 0) (.int .i32 0) (.int .i32 r) (.string ⟨#[]⟩)))
                    clear d0 d1 d2 d3 d4 d5 d6
                    obtain ⟨d0, d1, d2, d3, d4, d5, d6⟩ := HF.out
                    exact bodyPost_ret (v := .agg #[.int .i64 3, .int .i32 0, .slice none 0 0, .int .i32 0, .int .i32 0, .int .i32 r, .string ⟨#[]⟩]) (by simp [results, Try.results23, go_sem, d0, d1, d2, d3, d4, d5, d6]) rfl ⟨rfl, _, _, (StP.past HB.out HS2.out).fin (Nat.le_refl _) HR2.out _ _ _ _ _ _ _⟩
                  · by_cases h9 : 127 < r
                    · obtain ⟨rfl, rfl⟩ : P = bg 0 ∧ E = blankE := by
                        unfold inEscapeM at hPE
                        repeat (first | rw [if_pos (by omega)] at hPE | rw [if_neg (by omega)] at hPE)
                        exact ⟨congrArg Prod.fst hPE, congrArg Prod.snd hPE⟩
                      clear hPE
                      go_enter Try.func23, Try.ntmps23
                      go_wp2_with fail
                      generalize w.alloc (.cells #[.int .i64 0, .int .i32 0, .slice none 0 0, .int .i32 0, .int .i32 0, .int .i32 0, .string ⟨#[]⟩] 40) = w0 at *
                      go_wp2_with (first
                        | (go_at_call 21; (with_reducible refine (beginK 1 1 g v x _ w0 rfl HP.out).mono ?_); rintro e w1 ⟨rfl, hs⟩; have HS1 := Lib.hid hs; have HR1 := Lib.hid (res_at HP.out HR.out hs); clear hs; obtain ⟨d0, d1, d2, d3, d4, d5, d6⟩ := seven HR1.out; obtain ⟨f0, f1, f2, f3, f4, f5, f6⟩ := thawed HR1.out)
                        | (go_at_call 21; (with_reducible refine (beginK 0 0 g (.slice none 0 0) (.slice none 0 0) _ w1 rfl HS1.out.pr).mono ?_); rintro e w2 ⟨rfl, hs⟩; have HS2 := Lib.hid (HS1.out.trans hs); have HR2 := Lib.hid (res_at HS1.out.pr HR1.out hs); clear hs; clear d0 d1 d2 d3 d4 d5 d6 f0 f1 f2 f3 f4 f5 f6; obtain ⟨d0, d1, d2, d3, d4, d5, d6⟩ := seven HR2.out; obtain ⟨f0, f1, f2, f3, f4, f5, f6⟩ := thawed HR2.out))
                      have HF := Lib.hid (seven (seven_set HR2.out (.int .i64 0) (.int .i32 0) (.slice none 0 0) (.int .i32 0) (.int .i32 0) (.int .i32 0) (.string ⟨#[]⟩)))
                      clear d0 d1 d2 d3 d4 d5 d6
                      obtain ⟨d0, d1, d2, d3, d4, d5, d6⟩ := HF.out
                      exact bodyPost_ret (v := .agg #[.int .i64 0, .int .i32 0, .slice none 0 0, .int .i32 0, .int .i32 0, .int .i32 0, .string ⟨#[]⟩]) (by simp [results, Try.results23, go_sem, d0, d1, d2, d3, d4, d5, d6]) rfl ⟨rfl, _, _, (StP.past HB.out HS2.out).fin (Nat.le_refl _) HR2.out _ _ _ _ _ _ _⟩
                    · obtain ⟨rfl, rfl⟩ : P = bg 1 ∧ E = blankE := by
                        unfold inEscapeM at hPE
                        repeat (first | rw [if_pos (by omega)] at hPE | rw [if_neg (by omega)] at hPE)
                        exact ⟨congrArg Prod.fst hPE, congrArg Prod.snd hPE⟩
                      clear hPE
                      go_enter Try.func23, Try.ntmps23
                      go_wp2_with fail
                      generalize w.alloc (.cells #[.int .i64 0, .int .i32 0, .slice none 0 0, .int .i32 0, .int .i32 0, .int .i32 0, .string ⟨#[]⟩] 40) = w0 at *
                      go_wp2_with (first
                        | (go_at_call 21; (with_reducible refine (beginK 1 1 g v x _ w0 rfl HP.out).mono ?_); rintro e w1 ⟨rfl, hs⟩; have HS1 := Lib.hid hs; have HR1 := Lib.hid (res_at HP.out HR.out hs); clear hs; obtain ⟨d0, d1, d2, d3, d4, d5, d6⟩ := seven HR1.out; obtain ⟨f0, f1, f2, f3, f4, f5, f6⟩ := thawed HR1.out))
                      have HF := Lib.hid (seven (seven_set HR1.out (.int .i64 0) (.int .i32 0) (.slice none 0 0) (.int .i32 0) (.int .i32 0) (.int .i32 0) (.string ⟨#[]⟩)))
                      clear d0 d1 d2 d3 d4 d5 d6
                      obtain ⟨d0, d1, d2, d3, d4, d5, d6⟩ := HF.out
                      exact bodyPost_ret (v := .agg #[.int .i64 0, .int .i32 0, .slice none 0 0, .int .i32 0, .int .i32 0, .int .i32 0, .string ⟨#[]⟩]) (by simp [results, Try.results23, go_sem, d0, d1, d2, d3, d4, d5, d6]) rfl ⟨rfl, _, _, (StP.past HB.out HS1.out).fin (Nat.le_refl _) HR1.out _ _ _ _ _ _ _⟩

end Go.Proofs.Ytnaiefjbfpejbaa.Eb
