/- A sign between. -/
import Derived.Test.YtnaiefjbfpejbaaEb
set_option linter.unusedVariables false
namespace Go.Proofs.Ytnaiefjbfpejbaa.Er
open Go Go.RowKit Kit Ep Eb


theorem alloc_st {w : World} {g : Nat} {v x : Value} {p : Ps} (h : PrV w g v x p) (O : Obj) : StP g v x w p v x (w.alloc O) :=
  StP.past ((Below.refl w.heap.size w).alloc (Nat.le_refl _) O) (stP_refl (h.then_ ((Below.refl w.heap.size w).alloc (Nat.le_refl _) O) (Nat.le_refl _)))
theorem endT (k r : Int) (ea : Option Addr) (el ec : Nat) (a b c : Int) (s : ByteArray) (g : Nat) (v x : Value) (p : Ps) (w : World) (h : PrV w g v x p) (hs : p.sp = true) : Calls Try.prog 34 #[.pointer (some ⟨g, 0, none⟩), .agg #[.int .i64 k, .int .i32 r, .slice ea el ec, .int .i32 a, .int .i32 b, .int .i32 c, .string s]] w fun e w' => e = .returned (.agg #[.int .i64 0, .int .i32 0, .slice none 0 0, .int .i32 0, .int .i32 0, .int .i32 0, .string ⟨#[]⟩]) ∧ ∃ v' x', StP g v x w (bg 0) v' x' w' :=
  endC k r ea el ec a b c s g v x p w h _ (by rw [hs]; rfl)
theorem endF (k r : Int) (ea : Option Addr) (el ec : Nat) (a b c : Int) (s : ByteArray) (g : Nat) (v x : Value) (p : Ps) (w : World) (h : PrV w g v x p) (hs : p.sp = false) : Calls Try.prog 34 #[.pointer (some ⟨g, 0, none⟩), .agg #[.int .i64 k, .int .i32 r, .slice ea el ec, .int .i32 a, .int .i32 b, .int .i32 c, .string s]] w fun e w' => e = .returned (.agg #[.int .i64 k, .int .i32 r, .slice ea el ec, .int .i32 a, .int .i32 b, .int .i32 c, .string s]) ∧ ∃ v' x', StP g v x w (bg 0) v' x' w' :=
  endC k r ea el ec a b c s g v x p w h _ (by rw [hs]; rfl)
def endM (p : Ps) (E : Ev) : Ps × Ev := (bg 0, if p.sp = true then blankE else E)
def inBetweenM (p : Ps) (r : Int) : Ps × Ev := if r < 32 then (p, execE r) else if r < 48 then ({ p with sp := true }, blankE) else if r < 127 then endM p (escE p.it r) else if 127 < r then (bg 0, blankE) else (p, blankE)

set_option maxRecDepth 100000 in
set_option maxHeartbeats 4000000 in
theorem inBetweenC (r : Int) (g : Nat) (v x : Value) (p : Ps) (w : World) (h : PrV w g v x p) (P : Ps) (E : Ev) (hPE : (P, E) = inBetweenM p r) : Calls Try.prog 24 #[.pointer (some ⟨g, 0, none⟩), .int .i32 r] w (EvP g v x w P E) := by
  have HP0 := Lib.hid h
  have HB := Lib.hid (show Below w.heap.size w (w.alloc (.cells #[.int .i64 0, .int .i32 0, .slice none 0 0, .int .i32 0, .int .i32 0, .int .i32 0, .string ⟨#[]⟩] 40)) from (Below.refl _ w).alloc (Nat.le_refl _) _)
  have HP := Lib.hid (h.then_ HB.out (Nat.le_refl _))
  have HR := Lib.hid (heap_alloc_last w (.cells #[.int .i64 0, .int .i32 0, .slice none 0 0, .int .i32 0, .int .i32 0, .int .i32 0, .string ⟨#[]⟩] 40))
  have HG := Lib.hid h.lt
  have hne : g ≠ w.heap.size := Nat.ne_of_lt HG.out
  have hne' : w.heap.size ≠ g := Nat.ne_of_gt HG.out
  obtain ⟨va, vc, rfl⟩ := own_slice h.pa
  obtain ⟨xa, xc, rfl⟩ := own_slice h.tx
  obtain ⟨k0, k1, k2, k3, k4, k5, k6⟩ := seven HP.out.row
  obtain ⟨l0, l1, l2, l3, l4, l5, l6⟩ := thawed HP.out.row
  clear h
  by_cases h0 : r < 32
  · obtain ⟨rfl, rfl⟩ : P = p ∧ E = execE r := by
      unfold inBetweenM at hPE
      repeat (first | rw [if_pos (by omega)] at hPE | rw [if_neg (by omega)] at hPE)
      exact ⟨congrArg Prod.fst hPE, congrArg Prod.snd hPE⟩
    clear hPE
    go_enter Try.func24, Try.ntmps24
    go_wp2
    go_returns
    exact ⟨rfl, _, _, alloc_st HP0.out _⟩
  by_cases h1 : r < 48
  · obtain ⟨rfl, rfl⟩ : P = { p with sp := true } ∧ E = blankE := by
      unfold inBetweenM at hPE
      repeat (first | rw [if_pos (by omega)] at hPE | rw [if_neg (by omega)] at hPE)
      exact ⟨congrArg Prod.fst hPE, congrArg Prod.snd hPE⟩
    clear hPE
    go_enter Try.func24, Try.ntmps24
    go_wp2
    go_returns
    exact ⟨rfl, _, _, (StP.past HB.out ((stP_refl HP.out).put (i := 1) (u := .bool true) (p' := { p with sp := true }) HP.out.lt rfl rfl rfl)).fin (Nat.le_refl _) (put_other HR.out hne') _ _ _ _ _ _ _⟩
  by_cases h2 : r < 127
  · obtain ⟨q, hq⟩ : ∃ q, q = p.sp := ⟨_, rfl⟩
    cases q with
    | true =>
      obtain ⟨rfl, rfl⟩ : P = bg 0 ∧ E = blankE := by
        unfold inBetweenM at hPE
        repeat (first | rw [if_pos (by omega)] at hPE | rw [if_neg (by omega)] at hPE)
        unfold endM at hPE
        rw [← hq] at hPE
        exact ⟨congrArg Prod.fst hPE, congrArg Prod.snd hPE⟩
      clear hPE
      have HSP := Lib.hid hq.symm
      clear hq
      go_enter Try.func24, Try.ntmps24
      go_wp2_with (first
        | (go_at_call 34; (with_reducible refine (endT 3 0 none 0 0 0 p.it r ⟨#[]⟩ g _ _ p _ HP.out HSP.out).mono ?_); rintro e w1 ⟨rfl, v1, x1, hs⟩; have HS1 := Lib.hid hs; have HR1 := Lib.hid (res_at HP.out HR.out hs); clear hs; clear k0 k1 k2 k3 k4 k5 k6 l0 l1 l2 l3 l4 l5 l6; obtain ⟨d0, d1, d2, d3, d4, d5, d6⟩ := seven HR1.out; obtain ⟨f0, f1, f2, f3, f4, f5, f6⟩ := thawed HR1.out))
      have HF := Lib.hid (seven (seven_set HR1.out (.int .i64 0) (.int .i32 0) (.slice none 0 0) (.int .i32 0) (.int .i32 0) (.int .i32 0) (.string ⟨#[]⟩)))
      clear d0 d1 d2 d3 d4 d5 d6
      obtain ⟨d0, d1, d2, d3, d4, d5, d6⟩ := HF.out
      exact bodyPost_ret (v := .agg #[.int .i64 0, .int .i32 0, .slice none 0 0, .int .i32 0, .int .i32 0, .int .i32 0, .string ⟨#[]⟩]) (by simp [results, Try.results24, go_sem, d0, d1, d2, d3, d4, d5, d6]) rfl ⟨rfl, _, _, (StP.past HB.out HS1.out).fin (Nat.le_refl _) HR1.out _ _ _ _ _ _ _⟩
    | false =>
      obtain ⟨rfl, rfl⟩ : P = bg 0 ∧ E = escE p.it r := by
        unfold inBetweenM at hPE
        repeat (first | rw [if_pos (by omega)] at hPE | rw [if_neg (by omega)] at hPE)
        unfold endM at hPE
        rw [← hq] at hPE
        exact ⟨congrArg Prod.fst hPE, congrArg Prod.snd hPE⟩
      clear hPE
      have HSP := Lib.hid hq.symm
      clear hq
      go_enter Try.func24, Try.ntmps24
      go_wp2_with (first
        | (go_at_call 34; (with_reducible refine (endF 3 0 none 0 0 0 p.it r ⟨#[]⟩ g _ _ p _ HP.out HSP.out).mono ?_); rintro e w1 ⟨rfl, v1, x1, hs⟩; have HS1 := Lib.hid hs; have HR1 := Lib.hid (res_at HP.out HR.out hs); clear hs; clear k0 k1 k2 k3 k4 k5 k6 l0 l1 l2 l3 l4 l5 l6; obtain ⟨d0, d1, d2, d3, d4, d5, d6⟩ := seven HR1.out; obtain ⟨f0, f1, f2, f3, f4, f5, f6⟩ := thawed HR1.out))
      have HF := Lib.hid (seven (seven_set HR1.out (.int .i64 3) (.int .i32 0) (.slice none 0 0) (.int .i32 0) (.int .i32 p.it) (.int .i32 r) (.string ⟨#[]⟩)))
      clear d0 d1 d2 d3 d4 d5 d6
      obtain ⟨d0, d1, d2, d3, d4, d5, d6⟩ := HF.out
      exact bodyPost_ret (v := .agg #[.int .i64 3, .int .i32 0, .slice none 0 0, .int .i32 0, .int .i32 p.it, .int .i32 r, .string ⟨#[]⟩]) (by simp [results, Try.results24, go_sem, d0, d1, d2, d3, d4, d5, d6]) rfl ⟨rfl, _, _, (StP.past HB.out HS1.out).fin (Nat.le_refl _) HR1.out _ _ _ _ _ _ _⟩
  by_cases h3 : 127 < r
  · obtain ⟨rfl, rfl⟩ : P = bg 0 ∧ E = blankE := by
      unfold inBetweenM at hPE
      repeat (first | rw [if_pos (by omega)] at hPE | rw [if_neg (by omega)] at hPE)
      exact ⟨congrArg Prod.fst hPE, congrArg Prod.snd hPE⟩
    clear hPE
    go_enter Try.func24, Try.ntmps24
    go_wp2_with (first
      | (go_at_call 21; (with_reducible refine (beginK 0 0 g _ _ p _ rfl HP.out).mono ?_); rintro e w1 ⟨rfl, hs⟩; have HS1 := Lib.hid hs; have HR1 := Lib.hid (res_at HP.out HR.out hs); clear hs; clear k0 k1 k2 k3 k4 k5 k6 l0 l1 l2 l3 l4 l5 l6; obtain ⟨d0, d1, d2, d3, d4, d5, d6⟩ := seven HR1.out; obtain ⟨f0, f1, f2, f3, f4, f5, f6⟩ := thawed HR1.out))
    have HF := Lib.hid (seven (seven_set HR1.out (.int .i64 0) (.int .i32 0) (.slice none 0 0) (.int .i32 0) (.int .i32 0) (.int .i32 0) (.string ⟨#[]⟩)))
    clear d0 d1 d2 d3 d4 d5 d6
    obtain ⟨d0, d1, d2, d3, d4, d5, d6⟩ := HF.out
    exact bodyPost_ret (v := .agg #[.int .i64 0, .int .i32 0, .slice none 0 0, .int .i32 0, .int .i32 0, .int .i32 0, .string ⟨#[]⟩]) (by simp [results, Try.results24, go_sem, d0, d1, d2, d3, d4, d5, d6]) rfl ⟨rfl, _, _, (StP.past HB.out HS1.out).fin (Nat.le_refl _) HR1.out _ _ _ _ _ _ _⟩
  · obtain ⟨rfl, rfl⟩ : P = p ∧ E = blankE := by
      unfold inBetweenM at hPE
      repeat (first | rw [if_pos (by omega)] at hPE | rw [if_neg (by omega)] at hPE)
      exact ⟨congrArg Prod.fst hPE, congrArg Prod.snd hPE⟩
    clear hPE
    go_enter Try.func24, Try.ntmps24
    go_wp2
    go_returns
    exact ⟨rfl, _, _, alloc_st HP0.out _⟩
def commandM (p : Ps) : Ps × Ev := endM p (oscE p.tx)
set_option maxRecDepth 100000 in
theorem commandC (g : Nat) (v x : Value) (p : Ps) (w : World) (h : PrV w g v x p) (P : Ps) (E : Ev) (hPE : (P, E) = commandM p) : Calls Try.prog 27 #[.pointer (some ⟨g, 0, none⟩)] w (EvP g v x w P E) := by
  have HP0 := Lib.hid h
  have HB := Lib.hid (show Below w.heap.size w (w.alloc (.cells #[.int .i64 0, .int .i32 0, .slice none 0 0, .int .i32 0, .int .i32 0, .int .i32 0, .string ⟨#[]⟩] 40)) from (Below.refl _ w).alloc (Nat.le_refl _) _)
  have HP := Lib.hid (h.then_ HB.out (Nat.le_refl _))
  have HR := Lib.hid (heap_alloc_last w (.cells #[.int .i64 0, .int .i32 0, .slice none 0 0, .int .i32 0, .int .i32 0, .int .i32 0, .string ⟨#[]⟩] 40))
  have HG := Lib.hid h.lt
  have hne : g ≠ w.heap.size := Nat.ne_of_lt HG.out
  have hne' : w.heap.size ≠ g := Nat.ne_of_gt HG.out
  obtain ⟨va, vc, rfl⟩ := own_slice h.pa
  obtain ⟨xa, xc, rfl⟩ := own_slice h.tx
  obtain ⟨k0, k1, k2, k3, k4, k5, k6⟩ := seven HP.out.row
  obtain ⟨l0, l1, l2, l3, l4, l5, l6⟩ := thawed HP.out.row
  clear h
  have cv := conv_tx HP.out.tx
  obtain ⟨q, hq⟩ : ∃ q, q = p.sp := ⟨_, rfl⟩
  cases q with
  | true =>
    obtain ⟨rfl, rfl⟩ : P = bg 0 ∧ E = blankE := by
      unfold commandM at hPE
      repeat (first | rw [if_pos (by omega)] at hPE | rw [if_neg (by omega)] at hPE)
      unfold endM at hPE
      rw [← hq] at hPE
      exact ⟨congrArg Prod.fst hPE, congrArg Prod.snd hPE⟩
    clear hPE
    have HSP := Lib.hid hq.symm
    clear hq
    go_enter Try.func27, Try.ntmps27
    go_wp2_with (first
      | (go_at_call 34; (with_reducible refine (endT 5 0 none 0 0 0 0 0 (runesBytes p.tx) g _ _ p _ HP.out HSP.out).mono ?_); rintro e w1 ⟨rfl, v1, x1, hs⟩; have HS1 := Lib.hid hs; have HR1 := Lib.hid (res_at HP.out HR.out hs); clear hs; clear k0 k1 k2 k3 k4 k5 k6 l0 l1 l2 l3 l4 l5 l6 cv; obtain ⟨d0, d1, d2, d3, d4, d5, d6⟩ := seven HR1.out; obtain ⟨f0, f1, f2, f3, f4, f5, f6⟩ := thawed HR1.out))
    have HF := Lib.hid (seven (seven_set HR1.out (.int .i64 0) (.int .i32 0) (.slice none 0 0) (.int .i32 0) (.int .i32 0) (.int .i32 0) (.string ⟨#[]⟩)))
    clear d0 d1 d2 d3 d4 d5 d6
    obtain ⟨d0, d1, d2, d3, d4, d5, d6⟩ := HF.out
    exact bodyPost_ret (v := .agg #[.int .i64 0, .int .i32 0, .slice none 0 0, .int .i32 0, .int .i32 0, .int .i32 0, .string ⟨#[]⟩]) (by simp [results, Try.results27, go_sem, d0, d1, d2, d3, d4, d5, d6]) rfl ⟨rfl, _, _, (StP.past HB.out HS1.out).fin (Nat.le_refl _) HR1.out _ _ _ _ _ _ _⟩
  | false =>
    obtain ⟨rfl, rfl⟩ : P = bg 0 ∧ E = oscE p.tx := by
      unfold commandM at hPE
      repeat (first | rw [if_pos (by omega)] at hPE | rw [if_neg (by omega)] at hPE)
      unfold endM at hPE
      rw [← hq] at hPE
      exact ⟨congrArg Prod.fst hPE, congrArg Prod.snd hPE⟩
    clear hPE
    have HSP := Lib.hid hq.symm
    clear hq
    go_enter Try.func27, Try.ntmps27
    go_wp2_with (first
      | (go_at_call 34; (with_reducible refine (endF 5 0 none 0 0 0 0 0 (runesBytes p.tx) g _ _ p _ HP.out HSP.out).mono ?_); rintro e w1 ⟨rfl, v1, x1, hs⟩; have HS1 := Lib.hid hs; have HR1 := Lib.hid (res_at HP.out HR.out hs); clear hs; clear k0 k1 k2 k3 k4 k5 k6 l0 l1 l2 l3 l4 l5 l6 cv; obtain ⟨d0, d1, d2, d3, d4, d5, d6⟩ := seven HR1.out; obtain ⟨f0, f1, f2, f3, f4, f5, f6⟩ := thawed HR1.out))
    have HF := Lib.hid (seven (seven_set HR1.out (.int .i64 5) (.int .i32 0) (.slice none 0 0) (.int .i32 0) (.int .i32 0) (.int .i32 0) (.string (runesBytes p.tx))))
    clear d0 d1 d2 d3 d4 d5 d6
    obtain ⟨d0, d1, d2, d3, d4, d5, d6⟩ := HF.out
    exact bodyPost_ret (v := .agg #[.int .i64 5, .int .i32 0, .slice none 0 0, .int .i32 0, .int .i32 0, .int .i32 0, .string (runesBytes p.tx)]) (by simp [results, Try.results27, go_sem, d0, d1, d2, d3, d4, d5, d6]) rfl ⟨rfl, _, _, (StP.past HB.out HS1.out).fin (Nat.le_refl _) HR1.out _ _ _ _ _ _ _⟩
def interruptM (p : Ps) : Ps := if p.st = 4 then { p with st := 6 } else if p.st = 5 then { p with st := 7 } else bg 1
set_option maxRecDepth 100000 in
theorem interruptC (g : Nat) (v x : Value) (p : Ps) (w : World) (h : PrV w g v x p) (P : Ps) (hPE : P = interruptM p) : Calls Try.prog 22 #[.pointer (some ⟨g, 0, none⟩)] w fun e w' => e = .returned (.tuple #[]) ∧ ∃ v' x', StP g v x w P v' x' w' := by
  have HP := Lib.hid h
  obtain ⟨k0, k1, k2, k3, k4, k5, k6⟩ := seven HP.out.row
  obtain ⟨l0, l1, l2, l3, l4, l5, l6⟩ := thawed HP.out.row
  clear h
  unfold interruptM at hPE
  by_cases h4 : p.st = 4
  · rw [if_pos h4] at hPE
    subst hPE
    have j4 : ((p.st : Int) == 4) = true := by rw [beq_iff_eq]; omega
    have i4 : decide ((p.st : Int) = 4) = true := decide_eq_true (by omega)
    clear h4
    go_enter Try.func22, Try.ntmps22
    go_wp2
    go_end0
    exact ⟨rfl, _, _, (stP_refl HP.out).put (i := 0) (u := .int .i64 6) (p' := { p with st := 6 }) HP.out.lt rfl rfl rfl⟩
  rw [if_neg h4] at hPE
  have j4 : ((p.st : Int) == 4) = false := by rw [beq_eq_false_iff_ne]; omega
  have i4 : decide ((p.st : Int) = 4) = false := decide_eq_false (by omega)
  clear h4
  by_cases h5 : p.st = 5
  · rw [if_pos h5] at hPE
    subst hPE
    have j5 : ((p.st : Int) == 5) = true := by rw [beq_iff_eq]; omega
    have i5 : decide ((p.st : Int) = 5) = true := decide_eq_true (by omega)
    clear h5
    go_enter Try.func22, Try.ntmps22
    go_wp2
    go_end0
    exact ⟨rfl, _, _, (stP_refl HP.out).put (i := 0) (u := .int .i64 7) (p' := { p with st := 7 }) HP.out.lt rfl rfl rfl⟩
  rw [if_neg h5] at hPE
  subst hPE
  have j5 : ((p.st : Int) == 5) = false := by rw [beq_eq_false_iff_ne]; omega
  have i5 : decide ((p.st : Int) = 5) = false := decide_eq_false (by omega)
  clear h5
  go_enter Try.func22, Try.ntmps22
  go_wp2_with (go_at_call 21; (with_reducible refine (beginK 1 1 g _ _ p _ rfl HP.out).mono ?_); rintro e w1 ⟨rfl, hs⟩; have HS1 := Lib.hid hs; clear hs)
  go_end0
  exact ⟨rfl, _, _, HS1.out⟩

end Go.Proofs.Ytnaiefjbfpejbaa.Er
