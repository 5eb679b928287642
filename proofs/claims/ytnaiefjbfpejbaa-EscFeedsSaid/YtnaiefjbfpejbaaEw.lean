/- A sign of a control. -/
import Derived.Test.YtnaiefjbfpejbaaEk
import Derived.StillTailTactics
set_option linter.unusedVariables false
namespace Go.Proofs.Ytnaiefjbfpejbaa.Ew
open Go Go.RowKit Kit Ep Eb Er Ea Es Et Eu Ev Ek


def inControlM (p : Ps) (r : Int) : Ps × Ev := if r < 32 then (p, execE r) else if r < 48 then ({ p with sp := p.sp || decide (p.it ≠ 0), it := r }, blankE) else if p.it ≠ 0 ∧ r < 64 then ({ p with sp := true }, blankE) else if r ≤ 57 then (digitM p (r - 48), blankE) else if r ≤ 59 then (sepM p, blankE) else if r < 64 then ({ p with sp := p.sp || decide (p.pv ≠ 0) || decide (0 < p.pa.length), pv := r }, blankE) else if r < 127 then endM p (csiE p r) else if 127 < r then (bg 0, blankE) else (p, blankE)
set_option maxRecDepth 100000 in
set_option maxHeartbeats 8000000 in
theorem inControlC (r : Int) (g : Nat) (v x : Value) (p : Ps) (w : World) (h : PrV w g v x p) (ho : PaOk p) (hse : p.se ≤ 1000000) (P : Ps) (E : Ev) (hPE : (P, E) = inControlM p r) : Calls Try.prog 25 #[.pointer (some ⟨g, 0, none⟩), .int .i32 r] w (EvK g v x w P E) := by
  have HOK := Lib.hid ho
  have HSE := Lib.hid hse
  have HP0 := Lib.hid h
  have HB := Lib.hid (show Below w.heap.size w (w.alloc (.cells #[.int .i64 0, .int .i32 0, .slice none 0 0, .int .i32 0, .int .i32 0, .int .i32 0, .string ⟨#[]⟩] 40)) from (Below.refl _ w).alloc (Nat.le_refl _) _)
  have HP := Lib.hid (h.then_ HB.out (Nat.le_refl _))
  have HR := Lib.hid (heap_alloc_last w (.cells #[.int .i64 0, .int .i32 0, .slice none 0 0, .int .i32 0, .int .i32 0, .int .i32 0, .string ⟨#[]⟩] 40))
  have HG := Lib.hid h.lt
  have hne : g ≠ w.heap.size := Nat.ne_of_lt HG.out
  have hne' : w.heap.size ≠ g := Nat.ne_of_gt HG.out
  obtain ⟨va, vc, rfl⟩ := own_slice h.pa
  obtain ⟨xa, xc, rfl⟩ := own_slice h.tx
  obtain ⟨k0, k1, k2, k3, k4, k5, k6⟩ := seven HP.out.row
  obtain ⟨l0, l1, l2, l3, l4, l5, l6⟩ := thawed HP.out.row
  clear h
  clear ho hse
  by_cases h0 : r < 32
  · obtain ⟨rfl, rfl⟩ : P = p ∧ E = execE r := by
      unfold inControlM at hPE
      repeat (first | rw [if_pos (by first | omega | exact ⟨by assumption, by omega⟩)] at hPE | rw [if_neg (by first | omega | (intro hh; first | exact hh.1 (by assumption) | exact HID.out hh | exact absurd hh.1 (by assumption) | (have := hh.2; omega)))] at hPE)
      exact ⟨congrArg Prod.fst hPE, congrArg Prod.snd hPE⟩
    clear hPE
    go_enter Try.func25, Try.ntmps25
    go_wp2
    go_returns
    exact ⟨⟨rfl, _, _, alloc_st HP0.out _⟩, World.ownsRow_nil _ _ _ _⟩
  by_cases h1 : r < 48
  · obtain ⟨q, hq⟩ : ∃ q, q = p.sp := ⟨_, rfl⟩
    rw [← hq] at k1
    have HSP := Lib.hid hq.symm
    by_cases hi : p.it = 0
    · have y0 : (p.it == 0) = true := by rw [beq_iff_eq]; exact hi
      have y1 : (p.it != 0) = false := by rw [bne, y0]; rfl
      cases q with
      | true =>
        obtain ⟨rfl, rfl⟩ : P = { p with sp := true, it := r } ∧ E = blankE := by
          unfold inControlM at hPE
          repeat (first | rw [if_pos (by first | omega | exact ⟨by assumption, by omega⟩)] at hPE | rw [if_neg (by first | omega | (intro hh; first | exact hh.1 (by assumption) | exact HID.out hh | exact absurd hh.1 (by assumption) | (have := hh.2; omega)))] at hPE)
          rw [HSP.out, show ((true : Bool) || decide (p.it ≠ 0)) = true by simp [hi]] at hPE
          exact ⟨congrArg Prod.fst hPE, congrArg Prod.snd hPE⟩
        clear hPE
        clear hi hq
        have HT0 := Lib.hid (stP_refl HP.out)
        have HT1 := Lib.hid (StP.put (i := 1) (u := .bool true) (p' := { p with sp := true }) HT0.out HP.out.lt rfl rfl rfl)
        have HT2 := Lib.hid (StP.put (i := 3) (u := .int .i32 r) (p' := { p with sp := true, it := r }) HT1.out HP.out.lt rfl rfl rfl)
        go_enter Try.func25, Try.ntmps25
        go_wp2
        have HR1 := Lib.hid (put_other (g := g) (i := 3) (u := .int .i32 r) (put_other (g := g) (i := 1) (u := .bool true) HR.out hne') hne')
        have HF := Lib.hid (seven (seven_set HR1.out (.int .i64 0) (.int .i32 0) (.slice none 0 0) (.int .i32 0) (.int .i32 0) (.int .i32 0) (.string ⟨#[]⟩)))
        obtain ⟨d0, d1, d2, d3, d4, d5, d6⟩ := HF.out
        exact bodyPost_ret (v := .agg #[.int .i64 0, .int .i32 0, .slice none 0 0, .int .i32 0, .int .i32 0, .int .i32 0, .string ⟨#[]⟩]) (by simp [results, Try.results25, go_sem, d0, d1, d2, d3, d4, d5, d6]) rfl ⟨⟨rfl, _, _, StP.fin (StP.past HB.out HT2.out) (Nat.le_refl _) HR1.out _ _ _ _ _ _ _⟩, World.ownsRow_nil _ _ _ _⟩
      | false =>
        obtain ⟨rfl, rfl⟩ : P = { p with sp := false, it := r } ∧ E = blankE := by
          unfold inControlM at hPE
          repeat (first | rw [if_pos (by first | omega | exact ⟨by assumption, by omega⟩)] at hPE | rw [if_neg (by first | omega | (intro hh; first | exact hh.1 (by assumption) | exact HID.out hh | exact absurd hh.1 (by assumption) | (have := hh.2; omega)))] at hPE)
          rw [HSP.out, show ((false : Bool) || decide (p.it ≠ 0)) = false by simp [hi]] at hPE
          exact ⟨congrArg Prod.fst hPE, congrArg Prod.snd hPE⟩
        clear hPE
        clear hi hq
        have HT0 := Lib.hid (stP_refl HP.out)
        have HT1 := Lib.hid (StP.put (i := 1) (u := .bool false) (p' := { p with sp := false }) HT0.out HP.out.lt rfl rfl rfl)
        have HT2 := Lib.hid (StP.put (i := 3) (u := .int .i32 r) (p' := { p with sp := false, it := r }) HT1.out HP.out.lt rfl rfl rfl)
        go_enter Try.func25, Try.ntmps25
        go_wp2
        have HR1 := Lib.hid (put_other (g := g) (i := 3) (u := .int .i32 r) (put_other (g := g) (i := 1) (u := .bool false) HR.out hne') hne')
        have HF := Lib.hid (seven (seven_set HR1.out (.int .i64 0) (.int .i32 0) (.slice none 0 0) (.int .i32 0) (.int .i32 0) (.int .i32 0) (.string ⟨#[]⟩)))
        obtain ⟨d0, d1, d2, d3, d4, d5, d6⟩ := HF.out
        exact bodyPost_ret (v := .agg #[.int .i64 0, .int .i32 0, .slice none 0 0, .int .i32 0, .int .i32 0, .int .i32 0, .string ⟨#[]⟩]) (by simp [results, Try.results25, go_sem, d0, d1, d2, d3, d4, d5, d6]) rfl ⟨⟨rfl, _, _, StP.fin (StP.past HB.out HT2.out) (Nat.le_refl _) HR1.out _ _ _ _ _ _ _⟩, World.ownsRow_nil _ _ _ _⟩
    · have y0 : (p.it == 0) = false := by rw [beq_eq_false_iff_ne]; exact hi
      have y1 : (p.it != 0) = true := by rw [bne, y0]; rfl
      cases q with
      | true =>
        obtain ⟨rfl, rfl⟩ : P = { p with sp := true, it := r } ∧ E = blankE := by
          unfold inControlM at hPE
          repeat (first | rw [if_pos (by first | omega | exact ⟨by assumption, by omega⟩)] at hPE | rw [if_neg (by first | omega | (intro hh; first | exact hh.1 (by assumption) | exact HID.out hh | exact absurd hh.1 (by assumption) | (have := hh.2; omega)))] at hPE)
          rw [HSP.out, show ((true : Bool) || decide (p.it ≠ 0)) = true by simp [hi]] at hPE
          exact ⟨congrArg Prod.fst hPE, congrArg Prod.snd hPE⟩
        clear hPE
        clear hi hq
        have HT0 := Lib.hid (stP_refl HP.out)
        have HT1 := Lib.hid (StP.put (i := 1) (u := .bool true) (p' := { p with sp := true }) HT0.out HP.out.lt rfl rfl rfl)
        have HT2 := Lib.hid (StP.put (i := 3) (u := .int .i32 r) (p' := { p with sp := true, it := r }) HT1.out HP.out.lt rfl rfl rfl)
        go_enter Try.func25, Try.ntmps25
        go_wp2
        have HR1 := Lib.hid (put_other (g := g) (i := 3) (u := .int .i32 r) (put_other (g := g) (i := 1) (u := .bool true) HR.out hne') hne')
        have HF := Lib.hid (seven (seven_set HR1.out (.int .i64 0) (.int .i32 0) (.slice none 0 0) (.int .i32 0) (.int .i32 0) (.int .i32 0) (.string ⟨#[]⟩)))
        obtain ⟨d0, d1, d2, d3, d4, d5, d6⟩ := HF.out
        exact bodyPost_ret (v := .agg #[.int .i64 0, .int .i32 0, .slice none 0 0, .int .i32 0, .int .i32 0, .int .i32 0, .string ⟨#[]⟩]) (by simp [results, Try.results25, go_sem, d0, d1, d2, d3, d4, d5, d6]) rfl ⟨⟨rfl, _, _, StP.fin (StP.past HB.out HT2.out) (Nat.le_refl _) HR1.out _ _ _ _ _ _ _⟩, World.ownsRow_nil _ _ _ _⟩
      | false =>
        obtain ⟨rfl, rfl⟩ : P = { p with sp := true, it := r } ∧ E = blankE := by
          unfold inControlM at hPE
          repeat (first | rw [if_pos (by first | omega | exact ⟨by assumption, by omega⟩)] at hPE | rw [if_neg (by first | omega | (intro hh; first | exact hh.1 (by assumption) | exact HID.out hh | exact absurd hh.1 (by assumption) | (have := hh.2; omega)))] at hPE)
          rw [HSP.out, show ((false : Bool) || decide (p.it ≠ 0)) = true by simp [hi]] at hPE
          exact ⟨congrArg Prod.fst hPE, congrArg Prod.snd hPE⟩
        clear hPE
        clear hi hq
        have HT0 := Lib.hid (stP_refl HP.out)
        have HT1 := Lib.hid (StP.put (i := 1) (u := .bool true) (p' := { p with sp := true }) HT0.out HP.out.lt rfl rfl rfl)
        have HT2 := Lib.hid (StP.put (i := 3) (u := .int .i32 r) (p' := { p with sp := true, it := r }) HT1.out HP.out.lt rfl rfl rfl)
        go_enter Try.func25, Try.ntmps25
        go_wp2
        have HR1 := Lib.hid (put_other (g := g) (i := 3) (u := .int .i32 r) (put_other (g := g) (i := 1) (u := .bool true) HR.out hne') hne')
        have HF := Lib.hid (seven (seven_set HR1.out (.int .i64 0) (.int .i32 0) (.slice none 0 0) (.int .i32 0) (.int .i32 0) (.int .i32 0) (.string ⟨#[]⟩)))
        obtain ⟨d0, d1, d2, d3, d4, d5, d6⟩ := HF.out
        exact bodyPost_ret (v := .agg #[.int .i64 0, .int .i32 0, .slice none 0 0, .int .i32 0, .int .i32 0, .int .i32 0, .string ⟨#[]⟩]) (by simp [results, Try.results25, go_sem, d0, d1, d2, d3, d4, d5, d6]) rfl ⟨⟨rfl, _, _, StP.fin (StP.past HB.out HT2.out) (Nat.le_refl _) HR1.out _ _ _ _ _ _ _⟩, World.ownsRow_nil _ _ _ _⟩
  by_cases hi : p.it ≠ 0 ∧ r < 64
  · have y0 : (p.it == 0) = false := by rw [beq_eq_false_iff_ne]; exact hi.1
    have y1 : (p.it != 0) = true := by rw [bne, y0]; rfl
    have h64 := hi.2
    obtain ⟨rfl, rfl⟩ : P = { p with sp := true } ∧ E = blankE := by
      unfold inControlM at hPE
      repeat (first | rw [if_pos (by first | omega | exact hi)] at hPE | rw [if_neg (by first | omega | (intro hh; first | exact hh.1 (by assumption) | exact HID.out hh | exact absurd hh.1 (by assumption) | (have := hh.2; omega)))] at hPE)
      exact ⟨congrArg Prod.fst hPE, congrArg Prod.snd hPE⟩
    clear hPE
    clear hi
    have HT0 := Lib.hid (stP_refl HP.out)
    have HT1 := Lib.hid (StP.put (i := 1) (u := .bool true) (p' := { p with sp := true }) HT0.out HP.out.lt rfl rfl rfl)
    go_enter Try.func25, Try.ntmps25
    go_wp2
    have HR1 := Lib.hid (put_other (g := g) (i := 1) (u := .bool true) HR.out hne')
    have HF := Lib.hid (seven (seven_set HR1.out (.int .i64 0) (.int .i32 0) (.slice none 0 0) (.int .i32 0) (.int .i32 0) (.int .i32 0) (.string ⟨#[]⟩)))
    obtain ⟨d0, d1, d2, d3, d4, d5, d6⟩ := HF.out
    exact bodyPost_ret (v := .agg #[.int .i64 0, .int .i32 0, .slice none 0 0, .int .i32 0, .int .i32 0, .int .i32 0, .string ⟨#[]⟩]) (by simp [results, Try.results25, go_sem, d0, d1, d2, d3, d4, d5, d6]) rfl ⟨⟨rfl, _, _, StP.fin (StP.past HB.out HT1.out) (Nat.le_refl _) HR1.out _ _ _ _ _ _ _⟩, World.ownsRow_nil _ _ _ _⟩
  by_cases h2 : r ≤ 57
  · have hit : p.it = 0 := Decidable.byContradiction (fun hh => hi ⟨hh, by omega⟩)
    have y0 : (p.it == 0) = true := by rw [beq_iff_eq]; exact hit
    have y1 : (p.it != 0) = false := by rw [bne, y0]; rfl
    obtain ⟨rfl, rfl⟩ : P = digitM p (r - 48) ∧ E = blankE := by
      unfold inControlM at hPE
      repeat (first | rw [if_pos (by first | omega | exact ⟨by assumption, by omega⟩)] at hPE | rw [if_neg (by first | omega | (intro hh; first | exact hh.1 (by assumption) | exact HID.out hh | exact absurd hh.1 (by assumption) | (have := hh.2; omega)))] at hPE)
      exact ⟨congrArg Prod.fst hPE, congrArg Prod.snd hPE⟩
    clear hPE
    have hr0 : 0 ≤ r - 48 := by omega
    have hr9 : r - 48 ≤ 9 := by omega
    clear hi hit
    go_enter Try.func25, Try.ntmps25
    go_wp2_with (first
      | (go_at_call 35; (with_reducible refine (digitC (r - 48) g _ _ p _ HP.out HOK.out hr0 hr9 HSE.out _ rfl).mono ?_); rintro e w1 ⟨rfl, v1, x1, hs⟩; have HS1 := Lib.hid hs; have HR1 := Lib.hid (res_at HP.out HR.out hs); clear hs; clear k0 k1 k2 k3 k4 k5 k6 l0 l1 l2 l3 l4 l5 l6; obtain ⟨d0, d1, d2, d3, d4, d5, d6⟩ := seven HR1.out; obtain ⟨f0, f1, f2, f3, f4, f5, f6⟩ := thawed HR1.out))
    have HF := Lib.hid (seven (seven_set HR1.out (.int .i64 0) (.int .i32 0) (.slice none 0 0) (.int .i32 0) (.int .i32 0) (.int .i32 0) (.string ⟨#[]⟩)))
    clear d0 d1 d2 d3 d4 d5 d6
    obtain ⟨d0, d1, d2, d3, d4, d5, d6⟩ := HF.out
    exact bodyPost_ret (v := .agg #[.int .i64 0, .int .i32 0, .slice none 0 0, .int .i32 0, .int .i32 0, .int .i32 0, .string ⟨#[]⟩]) (by simp [results, Try.results25, go_sem, d0, d1, d2, d3, d4, d5, d6]) rfl ⟨⟨rfl, _, _, (StP.past HB.out HS1.out).fin (Nat.le_refl _) HR1.out _ _ _ _ _ _ _⟩, World.ownsRow_nil _ _ _ _⟩
  by_cases h3 : r ≤ 59
  · have hit : p.it = 0 := Decidable.byContradiction (fun hh => hi ⟨hh, by omega⟩)
    have y0 : (p.it == 0) = true := by rw [beq_iff_eq]; exact hit
    have y1 : (p.it != 0) = false := by rw [bne, y0]; rfl
    obtain ⟨rfl, rfl⟩ : P = sepM p ∧ E = blankE := by
      unfold inControlM at hPE
      repeat (first | rw [if_pos (by first | omega | exact ⟨by assumption, by omega⟩)] at hPE | rw [if_neg (by first | omega | (intro hh; first | exact hh.1 (by assumption) | exact HID.out hh | exact absurd hh.1 (by assumption) | (have := hh.2; omega)))] at hPE)
      exact ⟨congrArg Prod.fst hPE, congrArg Prod.snd hPE⟩
    clear hPE
    clear hi hit
    go_enter Try.func25, Try.ntmps25
    go_wp2_with (first
      | (go_at_call 36; (with_reducible refine (sepC g _ _ p _ HP.out HOK.out HSE.out _ rfl).mono ?_); rintro e w1 ⟨rfl, v1, x1, hs⟩; have HS1 := Lib.hid hs; have HR1 := Lib.hid (res_at HP.out HR.out hs); clear hs; clear k0 k1 k2 k3 k4 k5 k6 l0 l1 l2 l3 l4 l5 l6; obtain ⟨d0, d1, d2, d3, d4, d5, d6⟩ := seven HR1.out; obtain ⟨f0, f1, f2, f3, f4, f5, f6⟩ := thawed HR1.out))
    have HF := Lib.hid (seven (seven_set HR1.out (.int .i64 0) (.int .i32 0) (.slice none 0 0) (.int .i32 0) (.int .i32 0) (.int .i32 0) (.string ⟨#[]⟩)))
    clear d0 d1 d2 d3 d4 d5 d6
    obtain ⟨d0, d1, d2, d3, d4, d5, d6⟩ := HF.out
    exact bodyPost_ret (v := .agg #[.int .i64 0, .int .i32 0, .slice none 0 0, .int .i32 0, .int .i32 0, .int .i32 0, .string ⟨#[]⟩]) (by simp [results, Try.results25, go_sem, d0, d1, d2, d3, d4, d5, d6]) rfl ⟨⟨rfl, _, _, (StP.past HB.out HS1.out).fin (Nat.le_refl _) HR1.out _ _ _ _ _ _ _⟩, World.ownsRow_nil _ _ _ _⟩
  by_cases h4 : r < 64
  · have hit : p.it = 0 := Decidable.byContradiction (fun hh => hi ⟨hh, by omega⟩)
    have y0 : (p.it == 0) = true := by rw [beq_iff_eq]; exact hit
    have y1 : (p.it != 0) = false := by rw [bne, y0]; rfl
    obtain ⟨q, hq⟩ : ∃ q, q = p.sp := ⟨_, rfl⟩
    rw [← hq] at k1
    have HSP := Lib.hid hq.symm
    obtain ⟨S, hS⟩ : ∃ S, S = (p.sp || decide (p.pv ≠ 0) || decide (0 < p.pa.length)) := ⟨_, rfl⟩
    have HS := Lib.hid hS
    cases q with
    | true =>
      obtain rfl : S = true := by rw [hS, ← hq]; rfl
      clear hS hq
      obtain ⟨rfl, rfl⟩ : P = { p with sp := true, pv := r } ∧ E = blankE := by
        unfold inControlM at hPE
        repeat (first | rw [if_pos (by first | omega | exact ⟨by assumption, by omega⟩)] at hPE | rw [if_neg (by first | omega | (intro hh; first | exact hh.1 (by assumption) | exact HID.out hh | exact absurd hh.1 (by assumption) | (have := hh.2; omega)))] at hPE)
        rw [← HS.out] at hPE
        exact ⟨congrArg Prod.fst hPE, congrArg Prod.snd hPE⟩
      clear hPE
      clear hi hit
      have HT0 := Lib.hid (stP_refl HP.out)
      have HT1 := Lib.hid (StP.put (i := 1) (u := .bool true) (p' := { p with sp := true }) HT0.out HP.out.lt rfl rfl rfl)
      have HT2 := Lib.hid (StP.put (i := 2) (u := .int .i32 r) (p' := { p with sp := true, pv := r }) HT1.out HP.out.lt rfl rfl rfl)
      go_enter Try.func25, Try.ntmps25
      go_wp2
      have HR1 := Lib.hid (put_other (g := g) (i := 2) (u := .int .i32 r) (put_other (g := g) (i := 1) (u := .bool true) HR.out hne') hne')
      have HF := Lib.hid (seven (seven_set HR1.out (.int .i64 0) (.int .i32 0) (.slice none 0 0) (.int .i32 0) (.int .i32 0) (.int .i32 0) (.string ⟨#[]⟩)))
      obtain ⟨d0, d1, d2, d3, d4, d5, d6⟩ := HF.out
      exact bodyPost_ret (v := .agg #[.int .i64 0, .int .i32 0, .slice none 0 0, .int .i32 0, .int .i32 0, .int .i32 0, .string ⟨#[]⟩]) (by simp [results, Try.results25, go_sem, d0, d1, d2, d3, d4, d5, d6]) rfl ⟨⟨rfl, _, _, StP.fin (StP.past HB.out HT2.out) (Nat.le_refl _) HR1.out _ _ _ _ _ _ _⟩, World.ownsRow_nil _ _ _ _⟩
    | false =>
      by_cases hpv : p.pv = 0
      · have x0 : (p.pv == 0) = true := by rw [beq_iff_eq]; exact hpv
        have x1 : (p.pv != 0) = false := by rw [bne, x0]; rfl
        by_cases hpl : 0 < p.pa.length
        · have x2 : decide ((0 : Int) < (p.pa.length : Int)) = true := decide_eq_true (by omega)
          obtain rfl : S = true := by rw [hS, ← hq]; rw [decide_eq_true hpl, Bool.or_true]
          clear hS hq
          obtain ⟨rfl, rfl⟩ : P = { p with sp := true, pv := r } ∧ E = blankE := by
            unfold inControlM at hPE
            repeat (first | rw [if_pos (by first | omega | exact ⟨by assumption, by omega⟩)] at hPE | rw [if_neg (by first | omega | (intro hh; first | exact hh.1 (by assumption) | exact HID.out hh | exact absurd hh.1 (by assumption) | (have := hh.2; omega)))] at hPE)
            rw [← HS.out] at hPE
            exact ⟨congrArg Prod.fst hPE, congrArg Prod.snd hPE⟩
          clear hPE
          clear hi hit
          have HT0 := Lib.hid (stP_refl HP.out)
          have HT1 := Lib.hid (StP.put (i := 1) (u := .bool true) (p' := { p with sp := true }) HT0.out HP.out.lt rfl rfl rfl)
          have HT2 := Lib.hid (StP.put (i := 2) (u := .int .i32 r) (p' := { p with sp := true, pv := r }) HT1.out HP.out.lt rfl rfl rfl)
          go_enter Try.func25, Try.ntmps25
          go_wp2
          have HR1 := Lib.hid (put_other (g := g) (i := 2) (u := .int .i32 r) (put_other (g := g) (i := 1) (u := .bool true) HR.out hne') hne')
          have HF := Lib.hid (seven (seven_set HR1.out (.int .i64 0) (.int .i32 0) (.slice none 0 0) (.int .i32 0) (.int .i32 0) (.int .i32 0) (.string ⟨#[]⟩)))
          obtain ⟨d0, d1, d2, d3, d4, d5, d6⟩ := HF.out
          exact bodyPost_ret (v := .agg #[.int .i64 0, .int .i32 0, .slice none 0 0, .int .i32 0, .int .i32 0, .int .i32 0, .string ⟨#[]⟩]) (by simp [results, Try.results25, go_sem, d0, d1, d2, d3, d4, d5, d6]) rfl ⟨⟨rfl, _, _, StP.fin (StP.past HB.out HT2.out) (Nat.le_refl _) HR1.out _ _ _ _ _ _ _⟩, World.ownsRow_nil _ _ _ _⟩
        · have x2 : decide ((0 : Int) < (p.pa.length : Int)) = false := decide_eq_false (by omega)
          obtain rfl : S = false := by rw [hS, ← hq]; rw [decide_eq_false hpl, decide_eq_false (fun hh => hh hpv)]; rfl
          clear hS hq
          obtain ⟨rfl, rfl⟩ : P = { p with sp := false, pv := r } ∧ E = blankE := by
            unfold inControlM at hPE
            repeat (first | rw [if_pos (by first | omega | exact ⟨by assumption, by omega⟩)] at hPE | rw [if_neg (by first | omega | (intro hh; first | exact hh.1 (by assumption) | exact HID.out hh | exact absurd hh.1 (by assumption) | (have := hh.2; omega)))] at hPE)
            rw [← HS.out] at hPE
            exact ⟨congrArg Prod.fst hPE, congrArg Prod.snd hPE⟩
          clear hPE
          clear hi hit
          have HT0 := Lib.hid (stP_refl HP.out)
          have HT1 := Lib.hid (StP.put (i := 1) (u := .bool false) (p' := { p with sp := false }) HT0.out HP.out.lt rfl rfl rfl)
          have HT2 := Lib.hid (StP.put (i := 2) (u := .int .i32 r) (p' := { p with sp := false, pv := r }) HT1.out HP.out.lt rfl rfl rfl)
          go_enter Try.func25, Try.ntmps25
          go_wp2
          have HR1 := Lib.hid (put_other (g := g) (i := 2) (u := .int .i32 r) (put_other (g := g) (i := 1) (u := .bool false) HR.out hne') hne')
          have HF := Lib.hid (seven (seven_set HR1.out (.int .i64 0) (.int .i32 0) (.slice none 0 0) (.int .i32 0) (.int .i32 0) (.int .i32 0) (.string ⟨#[]⟩)))
          obtain ⟨d0, d1, d2, d3, d4, d5, d6⟩ := HF.out
          exact bodyPost_ret (v := .agg #[.int .i64 0, .int .i32 0, .slice none 0 0, .int .i32 0, .int .i32 0, .int .i32 0, .string ⟨#[]⟩]) (by simp [results, Try.results25, go_sem, d0, d1, d2, d3, d4, d5, d6]) rfl ⟨⟨rfl, _, _, StP.fin (StP.past HB.out HT2.out) (Nat.le_refl _) HR1.out _ _ _ _ _ _ _⟩, World.ownsRow_nil _ _ _ _⟩
      · have x0 : (p.pv == 0) = false := by rw [beq_eq_false_iff_ne]; exact hpv
        have x1 : (p.pv != 0) = true := by rw [bne, x0]; rfl
        obtain rfl : S = true := by rw [hS, ← hq]; rw [decide_eq_true hpv, Bool.false_or, Bool.true_or]
        clear hS hq
        obtain ⟨rfl, rfl⟩ : P = { p with sp := true, pv := r } ∧ E = blankE := by
          unfold inControlM at hPE
          repeat (first | rw [if_pos (by first | omega | exact ⟨by assumption, by omega⟩)] at hPE | rw [if_neg (by first | omega | (intro hh; first | exact hh.1 (by assumption) | exact HID.out hh | exact absurd hh.1 (by assumption) | (have := hh.2; omega)))] at hPE)
          rw [← HS.out] at hPE
          exact ⟨congrArg Prod.fst hPE, congrArg Prod.snd hPE⟩
        clear hPE
        clear hi hit
        have HT0 := Lib.hid (stP_refl HP.out)
        have HT1 := Lib.hid (StP.put (i := 1) (u := .bool true) (p' := { p with sp := true }) HT0.out HP.out.lt rfl rfl rfl)
        have HT2 := Lib.hid (StP.put (i := 2) (u := .int .i32 r) (p' := { p with sp := true, pv := r }) HT1.out HP.out.lt rfl rfl rfl)
        go_enter Try.func25, Try.ntmps25
        go_wp2
        have HR1 := Lib.hid (put_other (g := g) (i := 2) (u := .int .i32 r) (put_other (g := g) (i := 1) (u := .bool true) HR.out hne') hne')
        have HF := Lib.hid (seven (seven_set HR1.out (.int .i64 0) (.int .i32 0) (.slice none 0 0) (.int .i32 0) (.int .i32 0) (.int .i32 0) (.string ⟨#[]⟩)))
        obtain ⟨d0, d1, d2, d3, d4, d5, d6⟩ := HF.out
        exact bodyPost_ret (v := .agg #[.int .i64 0, .int .i32 0, .slice none 0 0, .int .i32 0, .int .i32 0, .int .i32 0, .string ⟨#[]⟩]) (by simp [results, Try.results25, go_sem, d0, d1, d2, d3, d4, d5, d6]) rfl ⟨⟨rfl, _, _, StP.fin (StP.past HB.out HT2.out) (Nat.le_refl _) HR1.out _ _ _ _ _ _ _⟩, World.ownsRow_nil _ _ _ _⟩
  have HID := Lib.hid hi
  by_cases h5 : r < 127
  · obtain ⟨q, hq⟩ : ∃ q, q = p.sp := ⟨_, rfl⟩
    rw [← hq] at k1
    have HSP := Lib.hid hq.symm
    have HPD := Lib.hid (show PrV (w.alloc (.cells #[.int .i64 0, .int .i32 0, .slice none 0 0, .int .i32 0, .int .i32 0, .int .i32 0, .string ⟨#[]⟩] 40)).drew g _ _ p from ⟨HP.out.row, HP.out.pa, HP.out.tx, HP.out.nil⟩)
    have HRD := Lib.hid (show (w.alloc (.cells #[.int .i64 0, .int .i32 0, .slice none 0 0, .int .i32 0, .int .i32 0, .int .i32 0, .string ⟨#[]⟩] 40)).drew.heap[w.heap.size]? = _ from HR.out)
    have HBD := Lib.hid (show Below w.heap.size w (w.alloc (.cells #[.int .i64 0, .int .i32 0, .slice none 0 0, .int .i32 0, .int .i32 0, .int .i32 0, .string ⟨#[]⟩] 40)).drew from ⟨HB.out.os, HB.out.tape, HB.out.output, HB.out.size, HB.out.block⟩)
    by_cases hit : p.it = 0
    · have y0 : (p.it == 0) = true := by rw [beq_iff_eq]; exact hit
      have y1 : (p.it != 0) = false := by rw [bne, y0]; rfl
      clear hi hit
      cases q with
      | true =>
        obtain ⟨rfl, rfl⟩ : P = bg 0 ∧ E = blankE := by
          unfold inControlM at hPE
          repeat (first | rw [if_pos (by first | omega | exact ⟨by assumption, by omega⟩)] at hPE | rw [if_neg (by first | omega | (intro hh; first | exact hh.1 (by assumption) | exact HID.out hh | exact absurd hh.1 (by assumption) | (have := hh.2; omega)))] at hPE)
          unfold endM at hPE
          rw [HSP.out] at hPE
          exact ⟨congrArg Prod.fst hPE, congrArg Prod.snd hPE⟩
        clear hPE
        clear hq
        go_enter Try.func25, Try.ntmps25
        go_wp2
        generalize (w.alloc (.cells #[.int .i64 0, .int .i32 0, .slice none 0 0, .int .i32 0, .int .i32 0, .int .i32 0, .string ⟨#[]⟩] 40)) = w0 at *
        go_still_tail 15, (by kernel_rfl)
        change wpList _ _ _ _ _ w0.drew
        go_wp2_with (go_at_call 34; (with_reducible refine (endT 4 0 va p.pa.length vc p.pv p.it r ⟨#[]⟩ g _ _ p _ HPD.out HSP.out).mono ?_); rintro e w1 ⟨rfl, v1, x1, hs⟩; have HS1 := Lib.hid hs; have HR1 := Lib.hid (res_at HPD.out HRD.out hs); clear hs; clear k0 k1 k2 k3 k4 k5 k6 l0 l1 l2 l3 l4 l5 l6; obtain ⟨d0, d1, d2, d3, d4, d5, d6⟩ := seven HR1.out; obtain ⟨f0, f1, f2, f3, f4, f5, f6⟩ := thawed HR1.out)
        have HF := Lib.hid (seven (seven_set HR1.out (.int .i64 0) (.int .i32 0) (.slice none 0 0) (.int .i32 0) (.int .i32 0) (.int .i32 0) (.string ⟨#[]⟩)))
        clear d0 d1 d2 d3 d4 d5 d6
        obtain ⟨d0, d1, d2, d3, d4, d5, d6⟩ := HF.out
        exact bodyPost_ret (v := .agg #[.int .i64 0, .int .i32 0, .slice none 0 0, .int .i32 0, .int .i32 0, .int .i32 0, .string ⟨#[]⟩]) (by simp [results, Try.results25, go_sem, d0, d1, d2, d3, d4, d5, d6]) rfl ⟨⟨rfl, _, _, (StP.past HBD.out HS1.out).fin (Nat.le_refl _) HR1.out _ _ _ _ _ _ _⟩, World.ownsRow_nil _ _ _ _⟩
      | false =>
        obtain ⟨rfl, rfl⟩ : P = bg 0 ∧ E = csiE p r := by
          unfold inControlM at hPE
          repeat (first | rw [if_pos (by first | omega | exact ⟨by assumption, by omega⟩)] at hPE | rw [if_neg (by first | omega | (intro hh; first | exact hh.1 (by assumption) | exact HID.out hh | exact absurd hh.1 (by assumption) | (have := hh.2; omega)))] at hPE)
          unfold endM at hPE
          rw [HSP.out] at hPE
          exact ⟨congrArg Prod.fst hPE, congrArg Prod.snd hPE⟩
        clear hPE
        clear hq
        go_enter Try.func25, Try.ntmps25
        go_wp2
        generalize (w.alloc (.cells #[.int .i64 0, .int .i32 0, .slice none 0 0, .int .i32 0, .int .i32 0, .int .i32 0, .string ⟨#[]⟩] 40)) = w0 at *
        go_still_tail 15, (by kernel_rfl)
        change wpList _ _ _ _ _ w0.drew
        go_wp2_with (go_at_call 34; (with_reducible refine (endS 4 0 va p.pa.length vc p.pv p.it r ⟨#[]⟩ g _ _ p _ HPD.out HSP.out).mono ?_); rintro e w1 ⟨rfl, v1, x1, hs, hkp⟩; have HKR := Lib.hid (fun a b c d e f z => keep_row HPD.out.pa hkp HPD.out.row (res_at HPD.out HRD.out hs) a b c d e f z); clear hkp; have HS1 := Lib.hid hs; have HR1 := Lib.hid (res_at HPD.out HRD.out hs); clear hs; clear k0 k1 k2 k3 k4 k5 k6 l0 l1 l2 l3 l4 l5 l6; obtain ⟨d0, d1, d2, d3, d4, d5, d6⟩ := seven HR1.out; obtain ⟨f0, f1, f2, f3, f4, f5, f6⟩ := thawed HR1.out)
        have HF := Lib.hid (seven (seven_set HR1.out (.int .i64 4) (.int .i32 0) (.slice va p.pa.length vc) (.int .i32 p.pv) (.int .i32 p.it) (.int .i32 r) (.string ⟨#[]⟩)))
        clear d0 d1 d2 d3 d4 d5 d6
        obtain ⟨d0, d1, d2, d3, d4, d5, d6⟩ := HF.out
        exact bodyPost_ret (v := .agg #[.int .i64 4, .int .i32 0, .slice va p.pa.length vc, .int .i32 p.pv, .int .i32 p.it, .int .i32 r, .string ⟨#[]⟩]) (by simp [results, Try.results25, go_sem, d0, d1, d2, d3, d4, d5, d6]) rfl ⟨⟨rfl, _, _, (StP.past HBD.out HS1.out).fin (Nat.le_refl _) HR1.out _ _ _ _ _ _ _⟩, HKR.out _ _ _ _ _ _ _⟩
    · have y0 : (p.it == 0) = false := by rw [beq_eq_false_iff_ne]; exact hit
      have y1 : (p.it != 0) = true := by rw [bne, y0]; rfl
      clear hi hit
      cases q with
      | true =>
        obtain ⟨rfl, rfl⟩ : P = bg 0 ∧ E = blankE := by
          unfold inControlM at hPE
          repeat (first | rw [if_pos (by first | omega | exact ⟨by assumption, by omega⟩)] at hPE | rw [if_neg (by first | omega | (intro hh; first | exact hh.1 (by assumption) | exact HID.out hh | exact absurd hh.1 (by assumption) | (have := hh.2; omega)))] at hPE)
          unfold endM at hPE
          rw [HSP.out] at hPE
          exact ⟨congrArg Prod.fst hPE, congrArg Prod.snd hPE⟩
        clear hPE
        clear hq
        go_enter Try.func25, Try.ntmps25
        go_wp2
        generalize (w.alloc (.cells #[.int .i64 0, .int .i32 0, .slice none 0 0, .int .i32 0, .int .i32 0, .int .i32 0, .string ⟨#[]⟩] 40)) = w0 at *
        go_still_tail 15, (by kernel_rfl)
        change wpList _ _ _ _ _ w0.drew
        go_wp2_with (go_at_call 34; (with_reducible refine (endT 4 0 va p.pa.length vc p.pv p.it r ⟨#[]⟩ g _ _ p _ HPD.out HSP.out).mono ?_); rintro e w1 ⟨rfl, v1, x1, hs⟩; have HS1 := Lib.hid hs; have HR1 := Lib.hid (res_at HPD.out HRD.out hs); clear hs; clear k0 k1 k2 k3 k4 k5 k6 l0 l1 l2 l3 l4 l5 l6; obtain ⟨d0, d1, d2, d3, d4, d5, d6⟩ := seven HR1.out; obtain ⟨f0, f1, f2, f3, f4, f5, f6⟩ := thawed HR1.out)
        have HF := Lib.hid (seven (seven_set HR1.out (.int .i64 0) (.int .i32 0) (.slice none 0 0) (.int .i32 0) (.int .i32 0) (.int .i32 0) (.string ⟨#[]⟩)))
        clear d0 d1 d2 d3 d4 d5 d6
        obtain ⟨d0, d1, d2, d3, d4, d5, d6⟩ := HF.out
        exact bodyPost_ret (v := .agg #[.int .i64 0, .int .i32 0, .slice none 0 0, .int .i32 0, .int .i32 0, .int .i32 0, .string ⟨#[]⟩]) (by simp [results, Try.results25, go_sem, d0, d1, d2, d3, d4, d5, d6]) rfl ⟨⟨rfl, _, _, (StP.past HBD.out HS1.out).fin (Nat.le_refl _) HR1.out _ _ _ _ _ _ _⟩, World.ownsRow_nil _ _ _ _⟩
      | false =>
        obtain ⟨rfl, rfl⟩ : P = bg 0 ∧ E = csiE p r := by
          unfold inControlM at hPE
          repeat (first | rw [if_pos (by first | omega | exact ⟨by assumption, by omega⟩)] at hPE | rw [if_neg (by first | omega | (intro hh; first | exact hh.1 (by assumption) | exact HID.out hh | exact absurd hh.1 (by assumption) | (have := hh.2; omega)))] at hPE)
          unfold endM at hPE
          rw [HSP.out] at hPE
          exact ⟨congrArg Prod.fst hPE, congrArg Prod.snd hPE⟩
        clear hPE
        clear hq
        go_enter Try.func25, Try.ntmps25
        go_wp2
        generalize (w.alloc (.cells #[.int .i64 0, .int .i32 0, .slice none 0 0, .int .i32 0, .int .i32 0, .int .i32 0, .string ⟨#[]⟩] 40)) = w0 at *
        go_still_tail 15, (by kernel_rfl)
        change wpList _ _ _ _ _ w0.drew
        go_wp2_with (go_at_call 34; (with_reducible refine (endS 4 0 va p.pa.length vc p.pv p.it r ⟨#[]⟩ g _ _ p _ HPD.out HSP.out).mono ?_); rintro e w1 ⟨rfl, v1, x1, hs, hkp⟩; have HKR := Lib.hid (fun a b c d e f z => keep_row HPD.out.pa hkp HPD.out.row (res_at HPD.out HRD.out hs) a b c d e f z); clear hkp; have HS1 := Lib.hid hs; have HR1 := Lib.hid (res_at HPD.out HRD.out hs); clear hs; clear k0 k1 k2 k3 k4 k5 k6 l0 l1 l2 l3 l4 l5 l6; obtain ⟨d0, d1, d2, d3, d4, d5, d6⟩ := seven HR1.out; obtain ⟨f0, f1, f2, f3, f4, f5, f6⟩ := thawed HR1.out)
        have HF := Lib.hid (seven (seven_set HR1.out (.int .i64 4) (.int .i32 0) (.slice va p.pa.length vc) (.int .i32 p.pv) (.int .i32 p.it) (.int .i32 r) (.string ⟨#[]⟩)))
        clear d0 d1 d2 d3 d4 d5 d6
        obtain ⟨d0, d1, d2, d3, d4, d5, d6⟩ := HF.out
        exact bodyPost_ret (v := .agg #[.int .i64 4, .int .i32 0, .slice va p.pa.length vc, .int .i32 p.pv, .int .i32 p.it, .int .i32 r, .string ⟨#[]⟩]) (by simp [results, Try.results25, go_sem, d0, d1, d2, d3, d4, d5, d6]) rfl ⟨⟨rfl, _, _, (StP.past HBD.out HS1.out).fin (Nat.le_refl _) HR1.out _ _ _ _ _ _ _⟩, HKR.out _ _ _ _ _ _ _⟩
  by_cases h6 : 127 < r
  · by_cases hit : p.it = 0
    · have y0 : (p.it == 0) = true := by rw [beq_iff_eq]; exact hit
      have y1 : (p.it != 0) = false := by rw [bne, y0]; rfl
      clear hi hit
      obtain ⟨rfl, rfl⟩ : P = bg 0 ∧ E = blankE := by
        unfold inControlM at hPE
        repeat (first | rw [if_pos (by first | omega | exact ⟨by assumption, by omega⟩)] at hPE | rw [if_neg (by first | omega | (intro hh; first | exact hh.1 (by assumption) | exact HID.out hh | exact absurd hh.1 (by assumption) | (have := hh.2; omega)))] at hPE)
        exact ⟨congrArg Prod.fst hPE, congrArg Prod.snd hPE⟩
      clear hPE
      go_enter Try.func25, Try.ntmps25
      go_wp2_with (first
        | (go_at_call 21; (with_reducible refine (beginK 0 0 g _ _ p _ rfl HP.out).mono ?_); rintro e w1 ⟨rfl, hs⟩; have HS1 := Lib.hid hs; have HR1 := Lib.hid (res_at HP.out HR.out hs); clear hs; clear k0 k1 k2 k3 k4 k5 k6 l0 l1 l2 l3 l4 l5 l6; obtain ⟨d0, d1, d2, d3, d4, d5, d6⟩ := seven HR1.out; obtain ⟨f0, f1, f2, f3, f4, f5, f6⟩ := thawed HR1.out))
      have HF := Lib.hid (seven (seven_set HR1.out (.int .i64 0) (.int .i32 0) (.slice none 0 0) (.int .i32 0) (.int .i32 0) (.int .i32 0) (.string ⟨#[]⟩)))
      clear d0 d1 d2 d3 d4 d5 d6
      obtain ⟨d0, d1, d2, d3, d4, d5, d6⟩ := HF.out
      exact bodyPost_ret (v := .agg #[.int .i64 0, .int .i32 0, .slice none 0 0, .int .i32 0, .int .i32 0, .int .i32 0, .string ⟨#[]⟩]) (by simp [results, Try.results25, go_sem, d0, d1, d2, d3, d4, d5, d6]) rfl ⟨⟨rfl, _, _, (StP.past HB.out HS1.out).fin (Nat.le_refl _) HR1.out _ _ _ _ _ _ _⟩, World.ownsRow_nil _ _ _ _⟩
    · have y0 : (p.it == 0) = false := by rw [beq_eq_false_iff_ne]; exact hit
      have y1 : (p.it != 0) = true := by rw [bne, y0]; rfl
      clear hi hit
      obtain ⟨rfl, rfl⟩ : P = bg 0 ∧ E = blankE := by
        unfold inControlM at hPE
        repeat (first | rw [if_pos (by first | omega | exact ⟨by assumption, by omega⟩)] at hPE | rw [if_neg (by first | omega | (intro hh; first | exact hh.1 (by assumption) | exact HID.out hh | exact absurd hh.1 (by assumption) | (have := hh.2; omega)))] at hPE)
        exact ⟨congrArg Prod.fst hPE, congrArg Prod.snd hPE⟩
      clear hPE
      go_enter Try.func25, Try.ntmps25
      go_wp2_with (first
        | (go_at_call 21; (with_reducible refine (beginK 0 0 g _ _ p _ rfl HP.out).mono ?_); rintro e w1 ⟨rfl, hs⟩; have HS1 := Lib.hid hs; have HR1 := Lib.hid (res_at HP.out HR.out hs); clear hs; clear k0 k1 k2 k3 k4 k5 k6 l0 l1 l2 l3 l4 l5 l6; obtain ⟨d0, d1, d2, d3, d4, d5, d6⟩ := seven HR1.out; obtain ⟨f0, f1, f2, f3, f4, f5, f6⟩ := thawed HR1.out))
      have HF := Lib.hid (seven (seven_set HR1.out (.int .i64 0) (.int .i32 0) (.slice none 0 0) (.int .i32 0) (.int .i32 0) (.int .i32 0) (.string ⟨#[]⟩)))
      clear d0 d1 d2 d3 d4 d5 d6
      obtain ⟨d0, d1, d2, d3, d4, d5, d6⟩ := HF.out
      exact bodyPost_ret (v := .agg #[.int .i64 0, .int .i32 0, .slice none 0 0, .int .i32 0, .int .i32 0, .int .i32 0, .string ⟨#[]⟩]) (by simp [results, Try.results25, go_sem, d0, d1, d2, d3, d4, d5, d6]) rfl ⟨⟨rfl, _, _, (StP.past HB.out HS1.out).fin (Nat.le_refl _) HR1.out _ _ _ _ _ _ _⟩, World.ownsRow_nil _ _ _ _⟩
  · by_cases hit : p.it = 0
    · have y0 : (p.it == 0) = true := by rw [beq_iff_eq]; exact hit
      have y1 : (p.it != 0) = false := by rw [bne, y0]; rfl
      clear hi hit
      obtain ⟨rfl, rfl⟩ : P = p ∧ E = blankE := by
        unfold inControlM at hPE
        repeat (first | rw [if_pos (by first | omega | exact ⟨by assumption, by omega⟩)] at hPE | rw [if_neg (by first | omega | (intro hh; first | exact hh.1 (by assumption) | exact HID.out hh | exact absurd hh.1 (by assumption) | (have := hh.2; omega)))] at hPE)
        exact ⟨congrArg Prod.fst hPE, congrArg Prod.snd hPE⟩
      clear hPE
      go_enter Try.func25, Try.ntmps25
      go_wp2
      go_returns
      exact ⟨⟨rfl, _, _, alloc_st HP0.out _⟩, World.ownsRow_nil _ _ _ _⟩
    · have y0 : (p.it == 0) = false := by rw [beq_eq_false_iff_ne]; exact hit
      have y1 : (p.it != 0) = true := by rw [bne, y0]; rfl
      clear hi hit
      obtain ⟨rfl, rfl⟩ : P = p ∧ E = blankE := by
        unfold inControlM at hPE
        repeat (first | rw [if_pos (by first | omega | exact ⟨by assumption, by omega⟩)] at hPE | rw [if_neg (by first | omega | (intro hh; first | exact hh.1 (by assumption) | exact HID.out hh | exact absurd hh.1 (by assumption) | (have := hh.2; omega)))] at hPE)
        exact ⟨congrArg Prod.fst hPE, congrArg Prod.snd hPE⟩
      clear hPE
      go_enter Try.func25, Try.ntmps25
      go_wp2
      go_returns
      exact ⟨⟨rfl, _, _, alloc_st HP0.out _⟩, World.ownsRow_nil _ _ _ _⟩

end Go.Proofs.Ytnaiefjbfpejbaa.Ew
