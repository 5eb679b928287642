/- Screens: Same. -/
import Derived.Test.YtfogbokifbjjlaaSd
import Derived.Lib.SlicesS
set_option linter.unusedVariables false
namespace Go.Proofs.Ytfogbokifbjjlaa.Se
open Go Go.RowKit Kit Gm Gv Sa Sb Sd

set_option maxRecDepth 100000 in
set_option maxHeartbeats 2000000 in
/-- screen.Same. -/
theorem sameC (s1 s2 : Scr) (b1 o1 b2 o2 n1 n2 c1 c2 : Nat) (L1 L2 : List Ce) (w : World) (e1 : n1 = L1.length) (e2 : n2 = L2.length) (h1 : Sc w b1 o1 L1) (h2 : Sc w b2 o2 L2) (m1 : n1 ≤ 1000000) :
    Calls Try.prog 29 #[svA s1 (some ⟨b1, o1, none⟩) n1 c1, svA s2 (some ⟨b2, o2, none⟩) n2 c2] w fun e w' => (∃ r : Bool, e = .returned (.bool r) ∧ (r = true ↔ (s1 = s2 ∧ L1 = L2))) ∧ Below w.heap.size w w' := by
  obtain ⟨R1, C1, row1, col1, hid1, ti1⟩ := s1
  obtain ⟨R2, C2, row2, col2, hid2, ti2⟩ := s2
  obtain ⟨hA, hZ⟩ := two_heap w (svO ⟨R1, C1, row1, col1, hid1, ti1⟩ (some ⟨b1, o1, none⟩) n1 c1) (svO ⟨R2, C2, row2, col2, hid2, ti2⟩ (some ⟨b2, o2, none⟩) n2 c2)
  have hb := below_two w (svO ⟨R1, C1, row1, col1, hid1, ti1⟩ (some ⟨b1, o1, none⟩) n1 c1) (svO ⟨R2, C2, row2, col2, hid2, ti2⟩ (some ⟨b2, o2, none⟩) n2 c2)
  dsimp only [svO] at hA hZ hb
  generalize hw2 : (w.alloc (.cells #[.int .i64 R1, .int .i64 C1, .slice (some ⟨b1, o1, none⟩) n1 c1, .int .i64 row1, .int .i64 col1, .bool hid1, .string ti1] 24)).alloc (.cells #[.int .i64 R2, .int .i64 C2, .slice (some ⟨b2, o2, none⟩) n2 c2, .int .i64 row2, .int .i64 col2, .bool hid2, .string ti2] 24) = w2 at *
  obtain ⟨c0, c1', c2', c3, c4, c5, c6⟩ := seven (s := ⟨R1, C1, row1, col1, hid1, ti1⟩) hA
  obtain ⟨d0, d1, d2, d3, d4, d5, d6⟩ := seven (s := ⟨R2, C2, row2, col2, hid2, ti2⟩) hZ
  dsimp only at c0 c1' c2' c3 c4 c5 c6 d0 d1 d2 d3 d4 d5 d6
  have HC := Lib.hid (equalC b1 o1 b2 o2 n1 n2 c1 c2 L1 L2 w2 e1 e2 (h1.then_ hb (Nat.le_refl _)) (h2.then_ hb (Nat.le_refl _)) m1)
  have HB := Lib.hid hb
  clear e1 e2 h1 h2 m1 hA hZ hb
  by_cases eR : R1 = R2
  · subst eR
    by_cases eC : C1 = C2
    · subst eC
      by_cases erow : row1 = row2
      · subst erow
        by_cases ecol : col1 = col2
        · subst ecol
          by_cases ehid : hid1 = hid2
          · subst ehid
            by_cases eti : ti1 = ti2
            · subst eti
              go_enter Try.func29, Try.ntmps29
              go_wp2_with (go_at_call 58; (with_reducible refine HC.out.mono ?_); rintro e w3 ⟨rfl, k3, hk3⟩; have HB3 := Lib.hid (show Below w.heap.size w w3 by rw [← hk3]; exact ⟨HB.out.os, HB.out.tape, HB.out.output, HB.out.size, HB.out.block⟩); clear hk3)
              go_ret
              exact ⟨⟨_, rfl, by simp⟩, HB3.out⟩
            · have x1 : ((ti1.toList == ti2.toList) = false) := by rw [← Bool.not_eq_true, Go.Lib.bytes_beq_iff]; exact eti
              go_enter Try.func29, Try.ntmps29
              go_wp2_with (go_at_call 58; (with_reducible refine HC.out.mono ?_); rintro e w3 ⟨rfl, k3, hk3⟩; have HB3 := Lib.hid (show Below w.heap.size w w3 by rw [← hk3]; exact ⟨HB.out.os, HB.out.tape, HB.out.output, HB.out.size, HB.out.block⟩); clear hk3)
              go_ret
              exact ⟨⟨false, rfl, by simp [eti]⟩, HB.out⟩
          · have x1 : (hid1 == hid2) = false := by rw [beq_eq_false_iff_ne]; exact ehid
            go_enter Try.func29, Try.ntmps29
            go_wp2_with (go_at_call 58; (with_reducible refine HC.out.mono ?_); rintro e w3 ⟨rfl, k3, hk3⟩; have HB3 := Lib.hid (show Below w.heap.size w w3 by rw [← hk3]; exact ⟨HB.out.os, HB.out.tape, HB.out.output, HB.out.size, HB.out.block⟩); clear hk3)
            go_ret
            exact ⟨⟨false, rfl, by simp [ehid]⟩, HB.out⟩
        · have x1 : (col1 == col2) = false := by rw [beq_eq_false_iff_ne]; exact ecol
          go_enter Try.func29, Try.ntmps29
          go_wp2_with (go_at_call 58; (with_reducible refine HC.out.mono ?_); rintro e w3 ⟨rfl, k3, hk3⟩; have HB3 := Lib.hid (show Below w.heap.size w w3 by rw [← hk3]; exact ⟨HB.out.os, HB.out.tape, HB.out.output, HB.out.size, HB.out.block⟩); clear hk3)
          go_ret
          exact ⟨⟨false, rfl, by simp [ecol]⟩, HB.out⟩
      · have x1 : (row1 == row2) = false := by rw [beq_eq_false_iff_ne]; exact erow
        go_enter Try.func29, Try.ntmps29
        go_wp2_with (go_at_call 58; (with_reducible refine HC.out.mono ?_); rintro e w3 ⟨rfl, k3, hk3⟩; have HB3 := Lib.hid (show Below w.heap.size w w3 by rw [← hk3]; exact ⟨HB.out.os, HB.out.tape, HB.out.output, HB.out.size, HB.out.block⟩); clear hk3)
        go_ret
        exact ⟨⟨false, rfl, by simp [erow]⟩, HB.out⟩
    · have x1 : (C1 == C2) = false := by rw [beq_eq_false_iff_ne]; exact eC
      go_enter Try.func29, Try.ntmps29
      go_wp2_with (go_at_call 58; (with_reducible refine HC.out.mono ?_); rintro e w3 ⟨rfl, k3, hk3⟩; have HB3 := Lib.hid (show Below w.heap.size w w3 by rw [← hk3]; exact ⟨HB.out.os, HB.out.tape, HB.out.output, HB.out.size, HB.out.block⟩); clear hk3)
      go_ret
      exact ⟨⟨false, rfl, by simp [eC]⟩, HB.out⟩
  · have x1 : (R1 == R2) = false := by rw [beq_eq_false_iff_ne]; exact eR
    go_enter Try.func29, Try.ntmps29
    go_wp2_with (go_at_call 58; (with_reducible refine HC.out.mono ?_); rintro e w3 ⟨rfl, k3, hk3⟩; have HB3 := Lib.hid (show Below w.heap.size w w3 by rw [← hk3]; exact ⟨HB.out.os, HB.out.tape, HB.out.output, HB.out.size, HB.out.block⟩); clear hk3)
    go_ret
    exact ⟨⟨false, rfl, by simp [eR]⟩, HB.out⟩
end Go.Proofs.Ytfogbokifbjjlaa.Se
