/- Package grid: mend. -/
import Derived.Test.YtfdjmlncdbpkgaaFl
set_option linter.unusedVariables false
namespace Go.Proofs.Ytfdjmlncdbpkgaa.Me
open Go Go.RowKit Kit Gm Gv Fl

/-- what stands at place |A| + k of the row is M[k]. -/
theorem at_mid {w : World} {b : Nat} {A Z : List Ce} {c : Ce} (h : RB w b (A ++ c :: Z)) (q : Nat) (hq : q = A.length * 5) :
    w.cell? ⟨b, q, none⟩ = some (.int .i32 c.r) ∧ w.cell? ⟨b, q + 1, none⟩ = some (.int .i64 c.fl) ∧ w.cell? ⟨b, q + 2, none⟩ = some (.int .i64 c.fg) ∧ w.cell? ⟨b, q + 3, none⟩ = some (.int .i64 c.bg) ∧ w.cell? ⟨b, q + 4, none⟩ = some (.int .i64 c.wd) := by
  subst hq
  have hl : A.length < (A ++ c :: Z).length := by simp
  have hc : (A ++ c :: Z)[A.length] = c := by simp
  have e := fun i hi => h.cell A.length hl i hi
  rw [hc] at e
  exact ⟨e 0 (by omega), e 1 (by omega), e 2 (by omega), e 3 (by omega), e 4 (by omega)⟩
theorem mid_put {w w2 : World} {b : Nat} {A D R Z : List Ce} {c : Ce} (h : RB w b ((A ++ D) ++ c :: (R ++ Z))) (x : Ce) (hw : putR w b ((A ++ D) ++ x :: (R ++ Z)) = w2) : RB w2 b (A ++ (D ++ [x]) ++ R ++ Z) := by
  rw [show A ++ (D ++ [x]) ++ R ++ Z = (A ++ D) ++ x :: (R ++ Z) by simp, ← hw]
  exact h.put _
set_option maxRecDepth 100000 in
set_option maxHeartbeats 2000000 in
theorem mendC (b : Nat) (A M Z : List Ce) (cap : Nat) (w : World) (h : RB w b (A ++ M ++ Z)) (hn : M.length ≤ 1000000) :
    Calls Try.prog 46 #[.slice (some ⟨b, A.length * 5, none⟩) M.length cap] w (RowP b (A ++ mend M ++ Z) w) := by
  obtain ⟨n, hnM⟩ : ∃ n, n = M.length := ⟨_, rfl⟩
  rw [← hnM]
  have HM := Lib.hid hnM
  have hn : n ≤ 1000000 := by omega
  have HR0 := Lib.hid h
  clear h hnM
  go_enter Try.func46, Try.ntmps46
  go_wp2
  go_loopw [2] (fun s2 wr => ∃ (k : Nat) (D R : List Ce), k + R.length = n ∧ s2 = .int .i64 k ∧ Hid (D.length = k) ∧ Hid (mend M = D ++ mend R) ∧ Hid (RB wr b (A ++ D ++ R ++ Z)) ∧ Hid (Kp b b w wr)) (fun s2 _ => n - (intOf s2).toNat)
  case atStart => exact ⟨0, [], M, by have := HM.out; omega, rfl, Lib.hid rfl, Lib.hid rfl, Lib.hid (by simpa using HR0.out), Lib.hid (Kp.refl _ _ _)⟩
  case round =>
    obtain ⟨k, D, R, hk, rfl, HD, HE, HR, HK⟩ := hrel
    cases R with
    | nil =>
      obtain rfl : k = n := by simpa using hk
      go_wp2
      go_end0
      exact ⟨rfl, by have := HR.out; have e := HE.out; rw [e]; simpa [mend] using this, HK.out⟩
    | cons c t =>
      have hlt : k < n := by simp only [List.length_cons] at hk; omega
      have HR2 := Lib.hid (show RB wr b ((A ++ D) ++ c :: (t ++ Z)) by have := HR.out; simpa using this)
      have HQ := Lib.hid (show A.length * 5 + k * 5 = (A ++ D).length * 5 by rw [List.length_append, HD.out]; omega)
      obtain ⟨c0, c1, c2, c3, c4⟩ := at_mid HR2.out _ HQ.out
      by_cases hw0 : c.wd = 0
      · rw [hw0] at c4
        have HE2 := Lib.hid (show mend M = (D ++ [c]) ++ mend t by rw [HE.out, mend_zero hw0]; simp)
        have HR3 := Lib.hid (show RB wr b (A ++ (D ++ [c]) ++ t ++ Z) by have := HR.out; simpa using this)
        have HD2 := Lib.hid (show (D ++ [c]).length = k + 1 by rw [List.length_append, HD.out]; rfl)
        have hk2 : k + 1 + t.length = n := by simp only [List.length_cons] at hk; omega
        clear hk hw0
        go_wp2
        exact ⟨⟨k + 1, D ++ [c], t, hk2, by go_num, HD2, HE2, HR3, HK⟩, by simp only [intOf]; omega⟩
      · have z0 : (c.wd == 0) = false := by simpa using hw0
        have HD2 := Lib.hid (show (D ++ [(⟨32, c.fl, c.fg, c.bg, 0⟩ : Ce)]).length = k + 1 by rw [List.length_append, HD.out]; rfl)
        cases t with
        | nil =>
          have HE2 := Lib.hid (show mend M = (D ++ [(⟨32, c.fl, c.fg, c.bg, 0⟩ : Ce)]) ++ mend [] by rw [HE.out, mend_last hw0]; simp [mend, spaceC])
          obtain rfl : n = k + 1 := by simp only [List.length_cons, List.length_nil] at hk; omega
          have hk2 : k + 1 + ([] : List Ce).length = k + 1 := by simp
          have s1 : decide (k + 1 < k + 1) = false := by simp
          clear hk hw0
          rcases (show ((c.wd == 1) = true) ∨ ((c.wd == 1) = false) by cases (c.wd == 1) <;> simp) with z1 | z1
          all_goals
            go_wp2_with (with_reducible refine wpList_store_cell rfl _ _ rfl b (A.length * 5 + k * 5) ⟨32, c.fl, c.fg, c.bg, 0⟩ rfl rfl HR2.out HQ.out ?_; intro w2 hw2)
            have HR3 := Lib.hid (show RB w2 b (A ++ (D ++ [⟨32, c.fl, c.fg, c.bg, 0⟩]) ++ [] ++ Z) from mid_put HR2.out ⟨32, c.fl, c.fg, c.bg, 0⟩ hw2)
            have HK3 := Lib.hid (show Kp b b w w2 by rw [← hw2]; exact HK.out.put _)
            clear hw2
            exact ⟨⟨k + 1, D ++ [⟨32, c.fl, c.fg, c.bg, 0⟩], [], hk2, by go_num, HD2, HE2, HR3, HK3⟩, by simp only [intOf]; omega⟩
        | cons d t =>
          have s1 : k + 1 < n := by simp only [List.length_cons] at hk; omega
          have HR4 := Lib.hid (show RB wr b ((A ++ D ++ [c]) ++ d :: (t ++ Z)) by have := HR.out; simpa using this)
          have HQ4 := Lib.hid (show A.length * 5 + (k + 1) * 5 = (A ++ D ++ [c]).length * 5 by rw [List.length_append, List.length_append, HD.out, List.length_singleton]; omega)
          obtain ⟨d0, d1, d2, d3, d4⟩ := at_mid HR4.out _ HQ4.out
          by_cases hp : c.wd = 1 ∧ d.wd = 2
          · obtain ⟨e1, e2⟩ := hp
            have HE2 := Lib.hid (show mend M = (D ++ [c, d]) ++ mend t by rw [HE.out, mend_pair e1 e2]; simp)
            have HR3 := Lib.hid (show RB wr b (A ++ (D ++ [c, d]) ++ t ++ Z) by have := HR.out; simpa using this)
            have HD3 := Lib.hid (show (D ++ [c, d]).length = k + 1 + 1 by rw [List.length_append, HD.out]; rfl)
            have hk2 : k + 1 + 1 + t.length = n := by simp only [List.length_cons] at hk; omega
            rw [e1] at c4
            rw [e2] at d4
            clear hk hw0 z0 e1 e2
            go_wp2
            exact ⟨⟨k + 1 + 1, D ++ [c, d], t, hk2, by go_num, HD3, HE2, HR3, HK⟩, by simp only [intOf]; omega⟩
          · have HE2 := Lib.hid (show mend M = (D ++ [(⟨32, c.fl, c.fg, c.bg, 0⟩ : Ce)]) ++ mend (d :: t) by rw [HE.out, mend_lone hw0 hp]; simp [spaceC])
            have hk2 : k + 1 + (d :: t).length = n := by simp only [List.length_cons] at hk ⊢; omega
            have hz : ((c.wd == 1) = false) ∨ ((c.wd == 1) = true ∧ (d.wd == 2) = false) := by
              cases h1 : (c.wd == 1)
              · exact .inl rfl
              · refine .inr ⟨rfl, ?_⟩
                have h1 : c.wd = 1 := by simpa using h1
                simpa [h1] using hp
            clear hk hw0 hp
            rcases hz with z1 | ⟨z1, z2⟩
            all_goals
              go_wp2_with (with_reducible refine wpList_store_cell rfl _ _ rfl b (A.length * 5 + k * 5) ⟨32, c.fl, c.fg, c.bg, 0⟩ rfl rfl HR2.out HQ.out ?_; intro w2 hw2)
              have HR3 := Lib.hid (show RB w2 b (A ++ (D ++ [⟨32, c.fl, c.fg, c.bg, 0⟩]) ++ (d :: t) ++ Z) from mid_put HR2.out ⟨32, c.fl, c.fg, c.bg, 0⟩ hw2)
              have HK3 := Lib.hid (show Kp b b w w2 by rw [← hw2]; exact HK.out.put _)
              clear hw2
              exact ⟨⟨k + 1, D ++ [⟨32, c.fl, c.fg, c.bg, 0⟩], (d :: t), hk2, by go_num, HD2, HE2, HR3, HK3⟩, by simp only [intOf]; omega⟩
end Go.Proofs.Ytfdjmlncdbpkgaa.Me
