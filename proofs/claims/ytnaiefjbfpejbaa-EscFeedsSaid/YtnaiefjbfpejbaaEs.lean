/- A sign of a command. -/
import Derived.Test.YtnaiefjbfpejbaaEa
set_option linter.unusedVariables false
namespace Go.Proofs.Ytnaiefjbfpejbaa.Es
open Go Go.RowKit Kit Ep Eb Er Ea


theorem commandT (g : Nat) (v x : Value) (p : Ps) (w : World) (h : PrV w g v x p) (hs : p.sp = true) : Calls Try.prog 27 #[.pointer (some ⟨g, 0, none⟩)] w fun e w' => e = .returned (.agg #[.int .i64 0, .int .i32 0, .slice none 0 0, .int .i32 0, .int .i32 0, .int .i32 0, .string ⟨#[]⟩]) ∧ ∃ v' x', StP g v x w (bg 0) v' x' w' :=
  commandC g v x p w h (bg 0) blankE (by unfold commandM endM; rw [hs]; rfl)
theorem commandF (g : Nat) (v x : Value) (p : Ps) (w : World) (h : PrV w g v x p) (hs : p.sp = false) : Calls Try.prog 27 #[.pointer (some ⟨g, 0, none⟩)] w fun e w' => e = .returned (.agg #[.int .i64 5, .int .i32 0, .slice none 0 0, .int .i32 0, .int .i32 0, .int .i32 0, .string (runesBytes p.tx)]) ∧ ∃ v' x', StP g v x w (bg 0) v' x' w' :=
  commandC g v x p w h (bg 0) (oscE p.tx) (by unfold commandM endM; rw [hs]; rfl)
theorem alloc_at {w : World} {k : Nat} {o : Obj} (h : w.heap[k]? = some o) (x : Obj) : (w.alloc x).heap[k]? = some o := (Below.heap_alloc w x k (lt_of h)).trans h
def inCommandM (p : Ps) (r : Int) : Ps × Ev := if r = 7 then commandM p else if r < 32 then (p, blankE) else if r = 127 then (p, blankE) else if p.tx.length < 128 then ({ p with tx := p.tx ++ [r] }, blankE) else (p, blankE)
set_option maxRecDepth 100000 in
set_option maxHeartbeats 4000000 in
theorem inCommandC (r : Int) (g : Nat) (v x : Value) (p : Ps) (w : World) (h : PrV w g v x p) (htx : p.tx.length ≤ 128) (P : Ps) (E : Ev) (hPE : (P, E) = inCommandM p r) : Calls Try.prog 26 #[.pointer (some ⟨g, 0, none⟩), .int .i32 r] w (EvP g v x w P E) := by
  have HP0 := Lib.hid h
  have HB := Lib.hid (show Below w.heap.size w (w.alloc (.cells #[.int .i64 0, .int .i32 0, .slice none 0 0, .int .i32 0, .int .i32 0, .int .i32 0, .string ⟨#[]⟩] 40)) from (Below.refl _ w).alloc (Nat.le_refl _) _)
  have HP := Lib.hid (h.then_ HB.out (Nat.le_refl _))
  have HR := Lib.hid (heap_alloc_last w (.cells #[.int .i64 0, .int .i32 0, .slice none 0 0, .int .i32 0, .int .i32 0, .int .i32 0, .string ⟨#[]⟩] 40))
  have HG := Lib.hid h.lt
  have hne : g ≠ w.heap.size := Nat.ne_of_lt HG.out
  have hne' : w.heap.size ≠ g := Nat.ne_of_gt HG.out
  obtain ⟨va, vc, rfl⟩ := own_slice h.pa
  obtain ⟨xa, xc, rfl⟩ := own_slice h.tx
  obtain ⟨k0, k1, k2, k3, k4, k5, k6⟩ := seven HP.out.row
  obtain ⟨l0, l1, l2, l3, l4, l5, l6⟩ := thawed HP.out.row
  clear h
  by_cases h0 : r = 7
  · obtain ⟨q, hq⟩ : ∃ q, q = p.sp := ⟨_, rfl⟩
    cases q with
    | true =>
      obtain ⟨rfl, rfl⟩ : P = bg 0 ∧ E = blankE := by
        unfold inCommandM at hPE
        repeat (first | rw [if_pos (by omega)] at hPE | rw [if_neg (by omega)] at hPE)
        unfold commandM endM at hPE
        rw [← hq] at hPE
        exact ⟨congrArg Prod.fst hPE, congrArg Prod.snd hPE⟩
      clear hPE
      have HSP := Lib.hid hq.symm
      clear hq
      go_enter Try.func26, Try.ntmps26
      go_wp2_with (first
        | (go_at_call 27; (with_reducible refine (commandT g _ _ p _ HP.out HSP.out).mono ?_); rintro e w1 ⟨rfl, v1, x1, hs⟩; have HS1 := Lib.hid hs; have HR1 := Lib.hid (res_at HP.out HR.out hs); clear hs; clear k0 k1 k2 k3 k4 k5 k6 l0 l1 l2 l3 l4 l5 l6; obtain ⟨d0, d1, d2, d3, d4, d5, d6⟩ := seven HR1.out; obtain ⟨f0, f1, f2, f3, f4, f5, f6⟩ := thawed HR1.out))
      have HF := Lib.hid (seven (seven_set HR1.out (.int .i64 0) (.int .i32 0) (.slice none 0 0) (.int .i32 0) (.int .i32 0) (.int .i32 0) (.string ⟨#[]⟩)))
      clear d0 d1 d2 d3 d4 d5 d6
      obtain ⟨d0, d1, d2, d3, d4, d5, d6⟩ := HF.out
      exact bodyPost_ret (v := .agg #[.int .i64 0, .int .i32 0, .slice none 0 0, .int .i32 0, .int .i32 0, .int .i32 0, .string ⟨#[]⟩]) (by simp [results, Try.results26, go_sem, d0, d1, d2, d3, d4, d5, d6]) rfl ⟨rfl, _, _, (StP.past HB.out HS1.out).fin (Nat.le_refl _) HR1.out _ _ _ _ _ _ _⟩
    | false =>
      obtain ⟨rfl, rfl⟩ : P = bg 0 ∧ E = oscE p.tx := by
        unfold inCommandM at hPE
        repeat (first | rw [if_pos (by omega)] at hPE | rw [if_neg (by omega)] at hPE)
        unfold commandM endM at hPE
        rw [← hq] at hPE
        exact ⟨congrArg Prod.fst hPE, congrArg Prod.snd hPE⟩
      clear hPE
      have HSP := Lib.hid hq.symm
      clear hq
      go_enter Try.func26, Try.ntmps26
      go_wp2_with (first
        | (go_at_call 27; (with_reducible refine (commandF g _ _ p _ HP.out HSP.out).mono ?_); rintro e w1 ⟨rfl, v1, x1, hs⟩; have HS1 := Lib.hid hs; have HR1 := Lib.hid (res_at HP.out HR.out hs); clear hs; clear k0 k1 k2 k3 k4 k5 k6 l0 l1 l2 l3 l4 l5 l6; obtain ⟨d0, d1, d2, d3, d4, d5, d6⟩ := seven HR1.out; obtain ⟨f0, f1, f2, f3, f4, f5, f6⟩ := thawed HR1.out))
      have HF := Lib.hid (seven (seven_set HR1.out (.int .i64 5) (.int .i32 0) (.slice none 0 0) (.int .i32 0) (.int .i32 0) (.int .i32 0) (.string (runesBytes p.tx))))
      clear d0 d1 d2 d3 d4 d5 d6
      obtain ⟨d0, d1, d2, d3, d4, d5, d6⟩ := HF.out
      exact bodyPost_ret (v := .agg #[.int .i64 5, .int .i32 0, .slice none 0 0, .int .i32 0, .int .i32 0, .int .i32 0, .string (runesBytes p.tx)]) (by simp [results, Try.results26, go_sem, d0, d1, d2, d3, d4, d5, d6]) rfl ⟨rfl, _, _, (StP.past HB.out HS1.out).fin (Nat.le_refl _) HR1.out _ _ _ _ _ _ _⟩
  by_cases h1 : r < 32
  · obtain ⟨rfl, rfl⟩ : P = p ∧ E = blankE := by
      unfold inCommandM at hPE
      repeat (first | rw [if_pos (by omega)] at hPE | rw [if_neg (by omega)] at hPE)
      exact ⟨congrArg Prod.fst hPE, congrArg Prod.snd hPE⟩
    clear hPE
    go_enter Try.func26, Try.ntmps26
    go_wp2
    go_returns
    exact ⟨rfl, _, _, alloc_st HP0.out _⟩
  by_cases h2 : r = 127
  · obtain ⟨rfl, rfl⟩ : P = p ∧ E = blankE := by
      unfold inCommandM at hPE
      repeat (first | rw [if_pos (by omega)] at hPE | rw [if_neg (by omega)] at hPE)
      exact ⟨congrArg Prod.fst hPE, congrArg Prod.snd hPE⟩
    clear hPE
    go_enter Try.func26, Try.ntmps26
    go_wp2
    go_returns
    exact ⟨rfl, _, _, alloc_st HP0.out _⟩
  by_cases h3 : p.tx.length < 128
  · obtain ⟨rfl, rfl⟩ : P = { p with tx := p.tx ++ [r] } ∧ E = blankE := by
      unfold inCommandM at hPE
      repeat (first | rw [if_pos (by omega)] at hPE | rw [if_neg (by omega)] at hPE)
      exact ⟨congrArg Prod.fst hPE, congrArg Prod.snd hPE⟩
    clear hPE
    have HTX := Lib.hid (HP.out.tx.alloc (.cells #[.int .i32 r] 21))
    have HP2 := Lib.hid (HP.out.then_ ((Below.refl (w.alloc (.cells #[.int .i64 0, .int .i32 0, .slice none 0 0, .int .i32 0, .int .i32 0, .int .i32 0, .string ⟨#[]⟩] 40)).heap.size (w.alloc (.cells #[.int .i64 0, .int .i32 0, .slice none 0 0, .int .i32 0, .int .i32 0, .int .i32 0, .string ⟨#[]⟩] 40))).alloc (Nat.le_refl _) (.cells #[.int .i32 r] 21)) (Nat.le_refl _))
    have HS2 := Lib.hid (StP.past HB.out (alloc_st HP.out (.cells #[.int .i32 r] 21)))
    have HK := Lib.hid (show ((w.alloc (.cells #[.int .i64 0, .int .i32 0, .slice none 0 0, .int .i32 0, .int .i32 0, .int .i32 0, .string ⟨#[]⟩] 40)).alloc (.cells #[.int .i32 r] 21)).cell? ⟨w.heap.size + 1, 0, none⟩ = some (.int .i32 r) by
      rw [show w.heap.size + 1 = (w.alloc (.cells #[.int .i64 0, .int .i32 0, .slice none 0 0, .int .i32 0, .int .i32 0, .int .i32 0, .string ⟨#[]⟩] 40)).heap.size by simp, cell_of_row _ _ 0 _ 21 (0, 0) (heap_alloc_last (w.alloc (.cells #[.int .i64 0, .int .i32 0, .slice none 0 0, .int .i32 0, .int .i32 0, .int .i32 0, .string ⟨#[]⟩] 40)) (.cells #[.int .i32 r] 21))]; rfl)
    have HR2 := Lib.hid (alloc_at HR.out (.cells #[.int .i32 r] 21))
    have HN := Lib.hid (show p.tx.length + 1 ≤ 100000 by omega)
    go_enter Try.func26, Try.ntmps26
    go_wp2_with (at_builtin; (refine app_one rfl _ _ rfl info21 Try.underlying22 rfl (by decide) (.slice xa p.tx.length xc) p.tx.length (rv p.tx) rfl HTX.out (w.heap.size + 1) rfl HK.out rfl HN.out ?_; intro v4 w4 o4 b4 n4; obtain ⟨na, nc, rfl⟩ := own_slice o4; have HS4 := Lib.hid (show StP g _ _ w { p with tx := p.tx ++ [r] } _ _ _ from StP.text HS2.out o4 b4 n4 HG.out rfl); have HR4 := Lib.hid ((b4.block _ (lt_of HR2.out) (fun e => own_kind HTX.out HR2.out (by decide) e.symm)).trans HR2.out); have HG4 := Lib.hid ((b4.block _ (lt_of HP2.out.row) (fun e => HP2.out.other.2 e.symm)).trans HP2.out.row); clear k0 k1 k2 k3 k4 k5 k6 l0 l1 l2 l3 l4 l5 l6; obtain ⟨k0, k1, k2, k3, k4, k5, k6⟩ := seven HG4.out; obtain ⟨l0, l1, l2, l3, l4, l5, l6⟩ := thawed HG4.out; obtain ⟨d0, d1, d2, d3, d4, d5, d6⟩ := seven HR4.out; obtain ⟨f0, f1, f2, f3, f4, f5, f6⟩ := thawed HR4.out; clear o4 b4 n4))
    have HR5 := Lib.hid (put_other (g := g) (i := 6) (u := .slice na (p.tx.length + 1) nc) HR4.out hne')
    have HF := Lib.hid (seven (seven_set HR5.out (.int .i64 0) (.int .i32 0) (.slice none 0 0) (.int .i32 0) (.int .i32 0) (.int .i32 0) (.string ⟨#[]⟩)))
    clear d0 d1 d2 d3 d4 d5 d6
    obtain ⟨d0, d1, d2, d3, d4, d5, d6⟩ := HF.out
    exact bodyPost_ret (v := .agg #[.int .i64 0, .int .i32 0, .slice none 0 0, .int .i32 0, .int .i32 0, .int .i32 0, .string ⟨#[]⟩]) (by simp [results, Try.results26, go_sem, d0, d1, d2, d3, d4, d5, d6]) rfl ⟨rfl, _, _, StP.fin HS4.out (Nat.le_refl _) HR5.out _ _ _ _ _ _ _⟩
  · obtain ⟨rfl, rfl⟩ : P = p ∧ E = blankE := by
      unfold inCommandM at hPE
      repeat (first | rw [if_pos (by omega)] at hPE | rw [if_neg (by omega)] at hPE)
      exact ⟨congrArg Prod.fst hPE, congrArg Prod.snd hPE⟩
    clear hPE
    go_enter Try.func26, Try.ntmps26
    go_wp2
    go_returns
    exact ⟨rfl, _, _, alloc_st HP0.out _⟩

end Go.Proofs.Ytnaiefjbfpejbaa.Es
