/- A sign is taken. -/
import Derived.Test.YtnaiefjbfpejbaaEw
set_option linter.unusedVariables false
namespace Go.Proofs.Ytnaiefjbfpejbaa.Ex
open Go Go.RowKit Kit Ep Eb Er Ea Es Et Eu Ev Ek Ew


def takeM (p : Ps) (r : Int) : Ps × Ev := if r = 24 then (bg 0, blankE) else if r = 26 then (bg 0, blankE) else if r = 27 then (interruptM p, blankE) else if p.st = 1 then inEscapeM r else if p.st = 2 then inBetweenM p r else if p.st = 3 then inControlM p r else if p.st = 4 then inCommandM p r else if p.st = 5 then (p, blankE) else if p.st = 6 then (if r = 92 then commandM p else inEscapeM r) else if p.st = 7 then (if r = 92 then (bg 0, blankE) else inEscapeM r) else (p, inGroundE r)
/-- an event with its cells told. -/
abbrev evA (E : Ev) (ea : Option Addr) (el ec : Nat) : Value := .agg #[.int .i64 (E.kind : Int), .int .i32 E.rune, .slice ea el ec, .int .i32 E.pv, .int .i32 E.it, .int .i32 E.fi, .string E.tx]
theorem evP_of {g : Nat} {v x : Value} {w w' : World} {P : Ps} {E : Ev} {e : Ending} {ea : Option Addr} {el ec : Nat} (h : EvP g v x w P E e w') (he : pvOf E v = .slice ea el ec) : e = .returned (evA E ea el ec) ∧ ∃ v' x', StP g v x w P v' x' w' := by
  obtain ⟨h1, h2⟩ := h
  refine ⟨?_, h2⟩
  rw [h1, evV, he]
theorem evK_row {g : Nat} {v x : Value} {w w' : World} {P : Ps} {E : Ev} {e : Ending} {ea : Option Addr} {el ec : Nat} (h : EvK g v x w P E e w') (he : pvOf E v = .slice ea el ec) : e = .returned (evA E ea el ec) ∧ ∃ v' x', StP g v x w P v' x' w' ∧ w'.ownsRow 0 3 1 (pvOf E v) E.pa.length (iv E.pa) := by
  obtain ⟨h1, v', x', h2⟩ := evP_of h.1 he
  exact ⟨h1, v', x', h2, h.2⟩
theorem row_set7 {w' : World} {k n : Nat} {v : Value} {xs : List Value} {cs2 : Array Value} (h2 : w'.ownsRow 0 3 1 v n xs) (hr : w'.heap[k]? = some (.cells cs2 40 (0, 0))) (a b c d e f z : Value) : (set7 w' k a b c d e f z).ownsRow 0 3 1 v n xs := by
  have ho := own_kind h2 hr (by decide)
  exact ownsRow_setCell_other (ownsRow_setCell_other (ownsRow_setCell_other (ownsRow_setCell_other (ownsRow_setCell_other (ownsRow_setCell_other (ownsRow_setCell_other h2 ho _) ho _) ho _) ho _) ho _) ho _) ho _
theorem esc_kind {r : Int} {P : Ps} {E : Ev} (h : (P, E) = inEscapeM r) : E.kind ≠ 4 ∧ E.pa = [] := by
  have e : E = (inEscapeM r).2 := congrArg Prod.snd h
  subst e
  unfold inEscapeM
  repeat' split
  all_goals exact ⟨Nat.ne_of_beq_eq_false rfl, rfl⟩
theorem between_kind {p : Ps} {r : Int} {P : Ps} {E : Ev} (h : (P, E) = inBetweenM p r) : E.kind ≠ 4 ∧ E.pa = [] := by
  have e : E = (inBetweenM p r).2 := congrArg Prod.snd h
  subst e
  unfold inBetweenM endM
  repeat' split
  all_goals first | exact ⟨Nat.ne_of_beq_eq_false rfl, rfl⟩ | (dsimp only; split <;> exact ⟨Nat.ne_of_beq_eq_false rfl, rfl⟩)
theorem end_kind {p : Ps} {P : Ps} {E : Ev} (h : (P, E) = commandM p) : E.kind ≠ 4 ∧ E.pa = [] := by
  have e : E = (commandM p).2 := congrArg Prod.snd h
  subst e
  unfold commandM endM
  dsimp only
  split <;> exact ⟨Nat.ne_of_beq_eq_false rfl, rfl⟩
theorem command_kind {p : Ps} {r : Int} {P : Ps} {E : Ev} (h : (P, E) = inCommandM p r) : E.kind ≠ 4 ∧ E.pa = [] := by
  have e : E = (inCommandM p r).2 := congrArg Prod.snd h
  subst e
  unfold inCommandM
  repeat' split
  · exact end_kind (P := (commandM p).1) rfl
  all_goals exact ⟨Nat.ne_of_beq_eq_false rfl, rfl⟩
theorem ground_kind (r : Int) : (inGroundE r).kind ≠ 4 ∧ (inGroundE r).pa = [] := by
  unfold inGroundE
  repeat' split
  all_goals exact ⟨Nat.ne_of_beq_eq_false rfl, rfl⟩
theorem pv_slice (E : Ev) (va : Option Addr) (n c : Nat) : ∃ ea el ec, pvOf E (.slice va n c) = .slice ea el ec := by
  unfold pvOf
  split
  · exact ⟨_, _, _, rfl⟩
  · exact ⟨_, _, _, rfl⟩
theorem ground_pv (r : Int) (v : Value) : pvOf (inGroundE r) v = .slice none 0 0 := by
  unfold inGroundE
  repeat' split
  all_goals rfl
theorem inGroundK (r : Int) (E : Ev) (hE : E = inGroundE r) (w : World) : Calls Try.prog 28 #[.int .i32 r] w fun e w' => e = .returned (evA E none 0 0) ∧ Below w.heap.size w w' := by
  subst hE
  exact (inGroundC r w).mono fun e w' h => ⟨h.1, h.2⟩
set_option maxRecDepth 100000 in
set_option maxHeartbeats 8000000 in
/-- a sign is taken. -/
theorem takeC (r : Int) (g : Nat) (v x : Value) (p : Ps) (w : World) (h : PrV w g v x p) (ho : PaOk p) (hse : p.se ≤ 1000000) (htx : p.tx.length ≤ 128) (P : Ps) (E : Ev) (hPE : (P, E) = takeM p r) : Calls Try.prog 17 #[.pointer (some ⟨g, 0, none⟩), .int .i32 r] w (EvK g v x w P E) := by
  have HOK := Lib.hid ho
  have HSE := Lib.hid hse
  have HTX := Lib.hid htx
  have HP0 := Lib.hid h
  have HB := Lib.hid (show Below w.heap.size w (w.alloc (.cells #[.int .i64 0, .int .i32 0, .slice none 0 0, .int .i32 0, .int .i32 0, .int .i32 0, .string ⟨#[]⟩] 40)) from (Below.refl _ w).alloc (Nat.le_refl _) _)
  have HP := Lib.hid (h.then_ HB.out (Nat.le_refl _))
  have HR := Lib.hid (heap_alloc_last w (.cells #[.int .i64 0, .int .i32 0, .slice none 0 0, .int .i32 0, .int .i32 0, .int .i32 0, .string ⟨#[]⟩] 40))
  have HG := Lib.hid h.lt
  have hne : g ≠ w.heap.size := Nat.ne_of_lt HG.out
  have hne' : w.heap.size ≠ g := Nat.ne_of_gt HG.out
  obtain ⟨va, vc, rfl⟩ := own_slice h.pa
  obtain ⟨xa, xc, rfl⟩ := own_slice h.tx
  obtain ⟨k0, k1, k2, k3, k4, k5, k6⟩ := seven HP.out.row
  obtain ⟨l0, l1, l2, l3, l4, l5, l6⟩ := thawed HP.out.row
  clear h
  clear ho hse htx
  obtain ⟨ea, el, ec, he⟩ := pv_slice E va p.pa.length vc
  have HE := Lib.hid he
  clear he
  unfold takeM at hPE
  by_cases h0 : r = 24
  · rw [if_pos h0] at hPE
    obtain ⟨rfl, rfl⟩ : P = bg 0 ∧ E = blankE := ⟨congrArg Prod.fst hPE, congrArg Prod.snd hPE⟩
    clear hPE
    subst h0
    go_enter Try.func17, Try.ntmps17
    go_wp2_with (first
      | (go_at_call 21; (with_reducible refine (beginK 0 0 g _ _ p _ rfl HP.out).mono ?_); rintro e w1 ⟨rfl, hs⟩; have HS1 := Lib.hid hs; have HR1 := Lib.hid (res_at HP.out HR.out hs); clear hs; clear k0 k1 k2 k3 k4 k5 k6 l0 l1 l2 l3 l4 l5 l6; obtain ⟨d0, d1, d2, d3, d4, d5, d6⟩ := seven HR1.out; obtain ⟨f0, f1, f2, f3, f4, f5, f6⟩ := thawed HR1.out))
    have HF := Lib.hid (seven (seven_set HR1.out (.int .i64 0) (.int .i32 0) (.slice none 0 0) (.int .i32 0) (.int .i32 0) (.int .i32 0) (.string ⟨#[]⟩)))
    clear d0 d1 d2 d3 d4 d5 d6
    obtain ⟨d0, d1, d2, d3, d4, d5, d6⟩ := HF.out
    exact bodyPost_ret (v := .agg #[.int .i64 0, .int .i32 0, .slice none 0 0, .int .i32 0, .int .i32 0, .int .i32 0, .string ⟨#[]⟩]) (by simp [results, Try.results17, go_sem, d0, d1, d2, d3, d4, d5, d6]) rfl ⟨⟨rfl, _, _, (StP.past HB.out HS1.out).fin (Nat.le_refl _) HR1.out _ _ _ _ _ _ _⟩, World.ownsRow_nil _ _ _ _⟩
  rw [if_neg h0] at hPE
  by_cases h1 : r = 26
  · rw [if_pos h1] at hPE
    obtain ⟨rfl, rfl⟩ : P = bg 0 ∧ E = blankE := ⟨congrArg Prod.fst hPE, congrArg Prod.snd hPE⟩
    clear hPE
    subst h1
    go_enter Try.func17, Try.ntmps17
    go_wp2_with (first
      | (go_at_call 21; (with_reducible refine (beginK 0 0 g _ _ p _ rfl HP.out).mono ?_); rintro e w1 ⟨rfl, hs⟩; have HS1 := Lib.hid hs; have HR1 := Lib.hid (res_at HP.out HR.out hs); clear hs; clear k0 k1 k2 k3 k4 k5 k6 l0 l1 l2 l3 l4 l5 l6; obtain ⟨d0, d1, d2, d3, d4, d5, d6⟩ := seven HR1.out; obtain ⟨f0, f1, f2, f3, f4, f5, f6⟩ := thawed HR1.out))
    have HF := Lib.hid (seven (seven_set HR1.out (.int .i64 0) (.int .i32 0) (.slice none 0 0) (.int .i32 0) (.int .i32 0) (.int .i32 0) (.string ⟨#[]⟩)))
    clear d0 d1 d2 d3 d4 d5 d6
    obtain ⟨d0, d1, d2, d3, d4, d5, d6⟩ := HF.out
    exact bodyPost_ret (v := .agg #[.int .i64 0, .int .i32 0, .slice none 0 0, .int .i32 0, .int .i32 0, .int .i32 0, .string ⟨#[]⟩]) (by simp [results, Try.results17, go_sem, d0, d1, d2, d3, d4, d5, d6]) rfl ⟨⟨rfl, _, _, (StP.past HB.out HS1.out).fin (Nat.le_refl _) HR1.out _ _ _ _ _ _ _⟩, World.ownsRow_nil _ _ _ _⟩
  rw [if_neg h1] at hPE
  by_cases h2 : r = 27
  · rw [if_pos h2] at hPE
    obtain ⟨rfl, rfl⟩ : P = interruptM p ∧ E = blankE := ⟨congrArg Prod.fst hPE, congrArg Prod.snd hPE⟩
    clear hPE
    subst h2
    go_enter Try.func17, Try.ntmps17
    go_wp2_with (first
      | (go_at_call 22; (with_reducible refine (interruptC g _ _ p _ HP.out _ rfl).mono ?_); rintro e w1 ⟨rfl, v1, x1, hs⟩; have HS1 := Lib.hid hs; have HR1 := Lib.hid (res_at HP.out HR.out hs); clear hs; clear k0 k1 k2 k3 k4 k5 k6 l0 l1 l2 l3 l4 l5 l6; obtain ⟨d0, d1, d2, d3, d4, d5, d6⟩ := seven HR1.out; obtain ⟨f0, f1, f2, f3, f4, f5, f6⟩ := thawed HR1.out))
    have HF := Lib.hid (seven (seven_set HR1.out (.int .i64 0) (.int .i32 0) (.slice none 0 0) (.int .i32 0) (.int .i32 0) (.int .i32 0) (.string ⟨#[]⟩)))
    clear d0 d1 d2 d3 d4 d5 d6
    obtain ⟨d0, d1, d2, d3, d4, d5, d6⟩ := HF.out
    exact bodyPost_ret (v := .agg #[.int .i64 0, .int .i32 0, .slice none 0 0, .int .i32 0, .int .i32 0, .int .i32 0, .string ⟨#[]⟩]) (by simp [results, Try.results17, go_sem, d0, d1, d2, d3, d4, d5, d6]) rfl ⟨⟨rfl, _, _, (StP.past HB.out HS1.out).fin (Nat.le_refl _) HR1.out _ _ _ _ _ _ _⟩, World.ownsRow_nil _ _ _ _⟩
  rw [if_neg h2] at hPE
  by_cases h3 : p.st = 1
  · rw [if_pos h3] at hPE
    rw [h3] at k0
    have HPE := Lib.hid hPE
    clear hPE
    go_enter Try.func17, Try.ntmps17
    go_wp2_with (first
      | (go_at_call 23; (with_reducible refine (((inEscapeC r g _ _ p _ HP.out P E HPE.out).mono (fun _ _ h => evK_of h (esc_kind HPE.out).1 (esc_kind HPE.out).2)).mono (fun _ _ h => evK_row h HE.out)).mono ?_); rintro e w1 ⟨rfl, v1, x1, hs, hkr⟩; have HKR := Lib.hid hkr; clear hkr; have HS1 := Lib.hid hs; have HR1 := Lib.hid (res_at HP.out HR.out hs); clear hs; clear k0 k1 k2 k3 k4 k5 k6 l0 l1 l2 l3 l4 l5 l6; obtain ⟨d0, d1, d2, d3, d4, d5, d6⟩ := seven HR1.out; obtain ⟨f0, f1, f2, f3, f4, f5, f6⟩ := thawed HR1.out))
    have HF := Lib.hid (seven (seven_set HR1.out (.int .i64 (E.kind : Int)) (.int .i32 E.rune) (.slice ea el ec) (.int .i32 E.pv) (.int .i32 E.it) (.int .i32 E.fi) (.string E.tx)))
    clear d0 d1 d2 d3 d4 d5 d6
    obtain ⟨d0, d1, d2, d3, d4, d5, d6⟩ := HF.out
    exact bodyPost_ret (v := .agg #[.int .i64 (E.kind : Int), .int .i32 E.rune, .slice ea el ec, .int .i32 E.pv, .int .i32 E.it, .int .i32 E.fi, .string E.tx]) (by simp [results, Try.results17, go_sem, d0, d1, d2, d3, d4, d5, d6]) rfl ⟨⟨by rw [evV, HE.out], _, _, (StP.past HB.out HS1.out).fin (Nat.le_refl _) HR1.out _ _ _ _ _ _ _⟩, row_set7 HKR.out HR1.out _ _ _ _ _ _ _⟩
  rw [if_neg h3] at hPE
  by_cases h4 : p.st = 2
  · rw [if_pos h4] at hPE
    rw [h4] at k0
    have HPE := Lib.hid hPE
    clear hPE
    go_enter Try.func17, Try.ntmps17
    go_wp2_with (first
      | (go_at_call 24; (with_reducible refine (((inBetweenC r g _ _ p _ HP.out P E HPE.out).mono (fun _ _ h => evK_of h (between_kind HPE.out).1 (between_kind HPE.out).2)).mono (fun _ _ h => evK_row h HE.out)).mono ?_); rintro e w1 ⟨rfl, v1, x1, hs, hkr⟩; have HKR := Lib.hid hkr; clear hkr; have HS1 := Lib.hid hs; have HR1 := Lib.hid (res_at HP.out HR.out hs); clear hs; clear k0 k1 k2 k3 k4 k5 k6 l0 l1 l2 l3 l4 l5 l6; obtain ⟨d0, d1, d2, d3, d4, d5, d6⟩ := seven HR1.out; obtain ⟨f0, f1, f2, f3, f4, f5, f6⟩ := thawed HR1.out))
    have HF := Lib.hid (seven (seven_set HR1.out (.int .i64 (E.kind : Int)) (.int .i32 E.rune) (.slice ea el ec) (.int .i32 E.pv) (.int .i32 E.it) (.int .i32 E.fi) (.string E.tx)))
    clear d0 d1 d2 d3 d4 d5 d6
    obtain ⟨d0, d1, d2, d3, d4, d5, d6⟩ := HF.out
    exact bodyPost_ret (v := .agg #[.int .i64 (E.kind : Int), .int .i32 E.rune, .slice ea el ec, .int .i32 E.pv, .int .i32 E.it, .int .i32 E.fi, .string E.tx]) (by simp [results, Try.results17, go_sem, d0, d1, d2, d3, d4, d5, d6]) rfl ⟨⟨by rw [evV, HE.out], _, _, (StP.past HB.out HS1.out).fin (Nat.le_refl _) HR1.out _ _ _ _ _ _ _⟩, row_set7 HKR.out HR1.out _ _ _ _ _ _ _⟩
  rw [if_neg h4] at hPE
  by_cases h5 : p.st = 3
  · rw [if_pos h5] at hPE
    rw [h5] at k0
    have HPE := Lib.hid hPE
    clear hPE
    go_enter Try.func17, Try.ntmps17
    go_wp2_with (first
      | (go_at_call 25; (with_reducible refine ((inControlC r g _ _ p _ HP.out HOK.out HSE.out P E HPE.out).mono (fun _ _ h => evK_row h HE.out)).mono ?_); rintro e w1 ⟨rfl, v1, x1, hs, hkr⟩; have HKR := Lib.hid hkr; clear hkr; have HS1 := Lib.hid hs; have HR1 := Lib.hid (res_at HP.out HR.out hs); clear hs; clear k0 k1 k2 k3 k4 k5 k6 l0 l1 l2 l3 l4 l5 l6; obtain ⟨d0, d1, d2, d3, d4, d5, d6⟩ := seven HR1.out; obtain ⟨f0, f1, f2, f3, f4, f5, f6⟩ := thawed HR1.out))
    have HF := Lib.hid (seven (seven_set HR1.out (.int .i64 (E.kind : Int)) (.int .i32 E.rune) (.slice ea el ec) (.int .i32 E.pv) (.int .i32 E.it) (.int .i32 E.fi) (.string E.tx)))
    clear d0 d1 d2 d3 d4 d5 d6
    obtain ⟨d0, d1, d2, d3, d4, d5, d6⟩ := HF.out
    exact bodyPost_ret (v := .agg #[.int .i64 (E.kind : Int), .int .i32 E.rune, .slice ea el ec, .int .i32 E.pv, .int .i32 E.it, .int .i32 E.fi, .string E.tx]) (by simp [results, Try.results17, go_sem, d0, d1, d2, d3, d4, d5, d6]) rfl ⟨⟨by rw [evV, HE.out], _, _, (StP.past HB.out HS1.out).fin (Nat.le_refl _) HR1.out _ _ _ _ _ _ _⟩, row_set7 HKR.out HR1.out _ _ _ _ _ _ _⟩
  rw [if_neg h5] at hPE
  by_cases h6 : p.st = 4
  · rw [if_pos h6] at hPE
    rw [h6] at k0
    have HPE := Lib.hid hPE
    clear hPE
    go_enter Try.func17, Try.ntmps17
    go_wp2_with (first
      | (go_at_call 26; (with_reducible refine (((inCommandC r g _ _ p _ HP.out HTX.out P E HPE.out).mono (fun _ _ h => evK_of h (command_kind HPE.out).1 (command_kind HPE.out).2)).mono (fun _ _ h => evK_row h HE.out)).mono ?_); rintro e w1 ⟨rfl, v1, x1, hs, hkr⟩; have HKR := Lib.hid hkr; clear hkr; have HS1 := Lib.hid hs; have HR1 := Lib.hid (res_at HP.out HR.out hs); clear hs; clear k0 k1 k2 k3 k4 k5 k6 l0 l1 l2 l3 l4 l5 l6; obtain ⟨d0, d1, d2, d3, d4, d5, d6⟩ := seven HR1.out; obtain ⟨f0, f1, f2, f3, f4, f5, f6⟩ := thawed HR1.out))
    have HF := Lib.hid (seven (seven_set HR1.out (.int .i64 (E.kind : Int)) (.int .i32 E.rune) (.slice ea el ec) (.int .i32 E.pv) (.int .i32 E.it) (.int .i32 E.fi) (.string E.tx)))
    clear d0 d1 d2 d3 d4 d5 d6
    obtain ⟨d0, d1, d2, d3, d4, d5, d6⟩ := HF.out
    exact bodyPost_ret (v := .agg #[.int .i64 (E.kind : Int), .int .i32 E.rune, .slice ea el ec, .int .i32 E.pv, .int .i32 E.it, .int .i32 E.fi, .string E.tx]) (by simp [results, Try.results17, go_sem, d0, d1, d2, d3, d4, d5, d6]) rfl ⟨⟨by rw [evV, HE.out], _, _, (StP.past HB.out HS1.out).fin (Nat.le_refl _) HR1.out _ _ _ _ _ _ _⟩, row_set7 HKR.out HR1.out _ _ _ _ _ _ _⟩
  rw [if_neg h6] at hPE
  by_cases h7 : p.st = 5
  · rw [if_pos h7] at hPE
    rw [h7] at k0
    obtain ⟨rfl, rfl⟩ : P = p ∧ E = blankE := ⟨congrArg Prod.fst hPE, congrArg Prod.snd hPE⟩
    clear hPE
    go_enter Try.func17, Try.ntmps17
    go_wp2
    go_returns
    exact ⟨⟨rfl, _, _, alloc_st HP0.out _⟩, World.ownsRow_nil _ _ _ _⟩
  rw [if_neg h7] at hPE
  by_cases h8 : p.st = 6
  · rw [if_pos h8] at hPE
    rw [h8] at k0
    by_cases h92 : r = 92
    · rw [if_pos h92] at hPE
      have HPE := Lib.hid hPE
      clear hPE
      subst h92
      go_enter Try.func17, Try.ntmps17
      go_wp2_with (first
        | (go_at_call 27; (with_reducible refine (((commandC g _ _ p _ HP.out P E HPE.out).mono (fun _ _ h => evK_of h (end_kind HPE.out).1 (end_kind HPE.out).2)).mono (fun _ _ h => evK_row h HE.out)).mono ?_); rintro e w1 ⟨rfl, v1, x1, hs, hkr⟩; have HKR := Lib.hid hkr; clear hkr; have HS1 := Lib.hid hs; have HR1 := Lib.hid (res_at HP.out HR.out hs); clear hs; clear k0 k1 k2 k3 k4 k5 k6 l0 l1 l2 l3 l4 l5 l6; obtain ⟨d0, d1, d2, d3, d4, d5, d6⟩ := seven HR1.out; obtain ⟨f0, f1, f2, f3, f4, f5, f6⟩ := thawed HR1.out))
      have HF := Lib.hid (seven (seven_set HR1.out (.int .i64 (E.kind : Int)) (.int .i32 E.rune) (.slice ea el ec) (.int .i32 E.pv) (.int .i32 E.it) (.int .i32 E.fi) (.string E.tx)))
      clear d0 d1 d2 d3 d4 d5 d6
      obtain ⟨d0, d1, d2, d3, d4, d5, d6⟩ := HF.out
      exact bodyPost_ret (v := .agg #[.int .i64 (E.kind : Int), .int .i32 E.rune, .slice ea el ec, .int .i32 E.pv, .int .i32 E.it, .int .i32 E.fi, .string E.tx]) (by simp [results, Try.results17, go_sem, d0, d1, d2, d3, d4, d5, d6]) rfl ⟨⟨by rw [evV, HE.out], _, _, (StP.past HB.out HS1.out).fin (Nat.le_refl _) HR1.out _ _ _ _ _ _ _⟩, row_set7 HKR.out HR1.out _ _ _ _ _ _ _⟩
    · rw [if_neg h92] at hPE
      have HPE := Lib.hid hPE
      clear hPE
      have j92 : (r == 92) = false := by rw [beq_eq_false_iff_ne]; exact h92
      go_enter Try.func17, Try.ntmps17
      go_wp2_with (first
        | (go_at_call 23; (with_reducible refine (((inEscapeC r g _ _ p _ HP.out P E HPE.out).mono (fun _ _ h => evK_of h (esc_kind HPE.out).1 (esc_kind HPE.out).2)).mono (fun _ _ h => evK_row h HE.out)).mono ?_); rintro e w1 ⟨rfl, v1, x1, hs, hkr⟩; have HKR := Lib.hid hkr; clear hkr; have HS1 := Lib.hid hs; have HR1 := Lib.hid (res_at HP.out HR.out hs); clear hs; clear k0 k1 k2 k3 k4 k5 k6 l0 l1 l2 l3 l4 l5 l6; obtain ⟨d0, d1, d2, d3, d4, d5, d6⟩ := seven HR1.out; obtain ⟨f0, f1, f2, f3, f4, f5, f6⟩ := thawed HR1.out))
      have HF := Lib.hid (seven (seven_set HR1.out (.int .i64 (E.kind : Int)) (.int .i32 E.rune) (.slice ea el ec) (.int .i32 E.pv) (.int .i32 E.it) (.int .i32 E.fi) (.string E.tx)))
      clear d0 d1 d2 d3 d4 d5 d6
      obtain ⟨d0, d1, d2, d3, d4, d5, d6⟩ := HF.out
      exact bodyPost_ret (v := .agg #[.int .i64 (E.kind : Int), .int .i32 E.rune, .slice ea el ec, .int .i32 E.pv, .int .i32 E.it, .int .i32 E.fi, .string E.tx]) (by simp [results, Try.results17, go_sem, d0, d1, d2, d3, d4, d5, d6]) rfl ⟨⟨by rw [evV, HE.out], _, _, (StP.past HB.out HS1.out).fin (Nat.le_refl _) HR1.out _ _ _ _ _ _ _⟩, row_set7 HKR.out HR1.out _ _ _ _ _ _ _⟩
  rw [if_neg h8] at hPE
  by_cases h9 : p.st = 7
  · rw [if_pos h9] at hPE
    rw [h9] at k0
    by_cases h92 : r = 92
    · rw [if_pos h92] at hPE
      obtain ⟨rfl, rfl⟩ : P = bg 0 ∧ E = blankE := ⟨congrArg Prod.fst hPE, congrArg Prod.snd hPE⟩
      clear hPE
      subst h92
      go_enter Try.func17, Try.ntmps17
      go_wp2_with (first
        | (go_at_call 21; (with_reducible refine (beginK 0 0 g _ _ p _ rfl HP.out).mono ?_); rintro e w1 ⟨rfl, hs⟩; have HS1 := Lib.hid hs; have HR1 := Lib.hid (res_at HP.out HR.out hs); clear hs; clear k0 k1 k2 k3 k4 k5 k6 l0 l1 l2 l3 l4 l5 l6; obtain ⟨d0, d1, d2, d3, d4, d5, d6⟩ := seven HR1.out; obtain ⟨f0, f1, f2, f3, f4, f5, f6⟩ := thawed HR1.out))
      have HF := Lib.hid (seven (seven_set HR1.out (.int .i64 0) (.int .i32 0) (.slice none 0 0) (.int .i32 0) (.int .i32 0) (.int .i32 0) (.string ⟨#[]⟩)))
      clear d0 d1 d2 d3 d4 d5 d6
      obtain ⟨d0, d1, d2, d3, d4, d5, d6⟩ := HF.out
      exact bodyPost_ret (v := .agg #[.int .i64 0, .int .i32 0, .slice none 0 0, .int .i32 0, .int .i32 0, .int .i32 0, .string ⟨#[]⟩]) (by simp [results, Try.results17, go_sem, d0, d1, d2, d3, d4, d5, d6]) rfl ⟨⟨rfl, _, _, (StP.past HB.out HS1.out).fin (Nat.le_refl _) HR1.out _ _ _ _ _ _ _⟩, World.ownsRow_nil _ _ _ _⟩
    · rw [if_neg h92] at hPE
      have HPE := Lib.hid hPE
      clear hPE
      have j92 : (r == 92) = false := by rw [beq_eq_false_iff_ne]; exact h92
      go_enter Try.func17, Try.ntmps17
      go_wp2_with (first
        | (go_at_call 23; (with_reducible refine (((inEscapeC r g _ _ p _ HP.out P E HPE.out).mono (fun _ _ h => evK_of h (esc_kind HPE.out).1 (esc_kind HPE.out).2)).mono (fun _ _ h => evK_row h HE.out)).mono ?_); rintro e w1 ⟨rfl, v1, x1, hs, hkr⟩; have HKR := Lib.hid hkr; clear hkr; have HS1 := Lib.hid hs; have HR1 := Lib.hid (res_at HP.out HR.out hs); clear hs; clear k0 k1 k2 k3 k4 k5 k6 l0 l1 l2 l3 l4 l5 l6; obtain ⟨d0, d1, d2, d3, d4, d5, d6⟩ := seven HR1.out; obtain ⟨f0, f1, f2, f3, f4, f5, f6⟩ := thawed HR1.out))
      have HF := Lib.hid (seven (seven_set HR1.out (.int .i64 (E.kind : Int)) (.int .i32 E.rune) (.slice ea el ec) (.int .i32 E.pv) (.int .i32 E.it) (.int .i32 E.fi) (.string E.tx)))
      clear d0 d1 d2 d3 d4 d5 d6
      obtain ⟨d0, d1, d2, d3, d4, d5, d6⟩ := HF.out
      exact bodyPost_ret (v := .agg #[.int .i64 (E.kind : Int), .int .i32 E.rune, .slice ea el ec, .int .i32 E.pv, .int .i32 E.it, .int .i32 E.fi, .string E.tx]) (by simp [results, Try.results17, go_sem, d0, d1, d2, d3, d4, d5, d6]) rfl ⟨⟨by rw [evV, HE.out], _, _, (StP.past HB.out HS1.out).fin (Nat.le_refl _) HR1.out _ _ _ _ _ _ _⟩, row_set7 HKR.out HR1.out _ _ _ _ _ _ _⟩
  rw [if_neg h9] at hPE
  have j1 : ((p.st : Int) == 1) = false := by rw [beq_eq_false_iff_ne]; omega
  have i1 : decide ((p.st : Int) = 1) = false := decide_eq_false (by omega)
  have j2 : ((p.st : Int) == 2) = false := by rw [beq_eq_false_iff_ne]; omega
  have i2 : decide ((p.st : Int) = 2) = false := decide_eq_false (by omega)
  have j3 : ((p.st : Int) == 3) = false := by rw [beq_eq_false_iff_ne]; omega
  have i3 : decide ((p.st : Int) = 3) = false := decide_eq_false (by omega)
  have j4 : ((p.st : Int) == 4) = false := by rw [beq_eq_false_iff_ne]; omega
  have i4 : decide ((p.st : Int) = 4) = false := decide_eq_false (by omega)
  have j5 : ((p.st : Int) == 5) = false := by rw [beq_eq_false_iff_ne]; omega
  have i5 : decide ((p.st : Int) = 5) = false := decide_eq_false (by omega)
  have j6 : ((p.st : Int) == 6) = false := by rw [beq_eq_false_iff_ne]; omega
  have i6 : decide ((p.st : Int) = 6) = false := decide_eq_false (by omega)
  have j7 : ((p.st : Int) == 7) = false := by rw [beq_eq_false_iff_ne]; omega
  have i7 : decide ((p.st : Int) = 7) = false := decide_eq_false (by omega)
  clear h3 h4 h5 h6 h7 h8 h9
  obtain ⟨rfl, rfl⟩ : P = p ∧ E = inGroundE r := ⟨congrArg Prod.fst hPE, congrArg Prod.snd hPE⟩
  clear hPE
  obtain ⟨E, hE⟩ : ∃ E, E = inGroundE r := ⟨_, rfl⟩
  rw [← hE] at HE ⊢
  have HEE := Lib.hid hE
  have HE0 := Lib.hid (show pvOf E (.slice va P.pa.length vc) = .slice none 0 0 by rw [hE]; exact ground_pv r _)
  clear hE HE
  go_enter Try.func17, Try.ntmps17
  go_wp2_with (first
    | (go_at_call 28; (with_reducible refine (inGroundK r E HEE.out _).mono ?_); rintro e w1 ⟨rfl, bq⟩; have HS1 := Lib.hid (show StP g _ _ _ P _ _ w1 from ⟨HP.out.then_ bq (Nat.le_refl _), Fr.of bq, New.refl _ _, New.refl _ _⟩); have HR1 := Lib.hid ((bq.block _ (lt_of HR.out)).trans HR.out); clear bq; clear k0 k1 k2 k3 k4 k5 k6 l0 l1 l2 l3 l4 l5 l6; obtain ⟨d0, d1, d2, d3, d4, d5, d6⟩ := seven HR1.out; obtain ⟨f0, f1, f2, f3, f4, f5, f6⟩ := thawed HR1.out))
  have HF := Lib.hid (seven (seven_set HR1.out (.int .i64 (E.kind : Int)) (.int .i32 E.rune) (.slice none 0 0) (.int .i32 E.pv) (.int .i32 E.it) (.int .i32 E.fi) (.string E.tx)))
  clear d0 d1 d2 d3 d4 d5 d6
  obtain ⟨d0, d1, d2, d3, d4, d5, d6⟩ := HF.out
  exact bodyPost_ret (v := .agg #[.int .i64 (E.kind : Int), .int .i32 E.rune, .slice none 0 0, .int .i32 E.pv, .int .i32 E.it, .int .i32 E.fi, .string E.tx]) (by simp [results, Try.results17, go_sem, d0, d1, d2, d3, d4, d5, d6]) rfl (evK_of ⟨by rw [evV, HE0.out], _, _, (StP.past HB.out HS1.out).fin (Nat.le_refl _) HR1.out _ _ _ _ _ _ _⟩ (by rw [HEE.out]; exact (ground_kind r).1) (by rw [HEE.out]; exact (ground_kind r).2))

end Go.Proofs.Ytnaiefjbfpejbaa.Ex
