/- seg.Name, seg.Number. -/
import Derived.Test.YtabgelmmjpjejaaDoorNp
set_option linter.unusedVariables false
namespace Go.Proofs.YtabgelmmjpjejaaDoor.Nm
open Go Go.RowKit Kit Ly Np

theorem cat3 (A B C : List UInt8) : (⟨A.toArray⟩ ++ ⟨B.toArray⟩ ++ ⟨C.toArray⟩ : ByteArray) = ⟨(A ++ B ++ C).toArray⟩ := by
  apply ByteArray.ext; simp
/-- the numbers that a numeral's length is told by. -/
def TabP (w : World) : Prop := Lib.TabIs Tryd.prog w "internal/strconv.uint64pow10" .u64 Lib.pow10Tab
set_option maxRecDepth 100000 in
theorem nameOut (n : Int) (w : World) (h : ¬ (1 ≤ n ∧ n ≤ 999999)) : Calls Tryd.prog 31 #[.int .i64 n] w fun e w' => e = .returned (.string ⟨#[]⟩) ∧ Below w.heap.size w w' := by
  by_cases h1 : n < 1
  · clear h
    go_enter Tryd.func31, Tryd.ntmps31
    go_wp2
    go_ret
    exact ⟨rfl, Below.refl _ _⟩
  · have h2 : 999999 < n := by omega
    clear h
    go_enter Tryd.func31, Tryd.ntmps31
    go_wp2
    go_ret
    exact ⟨rfl, Below.refl _ _⟩
set_option maxRecDepth 100000 in
theorem nameIn (n : Nat) (w : World) (h1 : 1 ≤ n) (h2 : n ≤ 999999) (hT : TabP w) : Calls Tryd.prog 31 #[.int .i64 (n : Int)] w fun e w' => e = .returned (.string (nameB n)) ∧ Below w.heap.size w w' := by
  have HI := Lib.hid (itoaC (n : Int) (by omega) (by omega) w hT)
  obtain ⟨D, hD⟩ : ∃ D, D = Lib.itoa (n : Int) := ⟨_, rfl⟩
  have hd : D = Lib.decDigits n := by rw [hD, Lib.itoa, if_neg (by omega)]; rfl
  obtain ⟨e1, e2⟩ := six_is h1 h2
  have hl : D.length = Lib.nDigits n := by rw [hd, Lib.decDigits_length]
  obtain ⟨K, hK⟩ : ∃ K, K = 6 - Lib.nDigits n := ⟨_, rfl⟩
  have z1 : (6 : Int) - (D.length : Int) = (K : Int) := by omega
  have z2 : K ≤ 100000 := by omega
  obtain ⟨RL, hRL⟩ : ∃ R, R = Lib.repeatL [48] K := ⟨_, rfl⟩
  have HE := Lib.hid (show RL ++ D = six n by rw [hRL, hK, hd]; exact e1)
  have hrl : RL.length = K := by rw [hRL, Lib.repeatL_length]; simp
  have s1 : ¬ 9223372036854775807 < 1 + RL.length := by omega
  have s2 : ¬ 9223372036854775807 < 1 + RL.length + D.length := by omega
  rw [← hD] at HI
  have g1 : ¬ (n : Int) < 1 := by omega
  have g2 : ¬ 999999 < (n : Int) := by omega
  have HR := Lib.hid (fun w1 => show Calls Tryd.prog 51 #[.string ⟨#[48]⟩, .int .i64 (K : Int)] w1 fun e w' => e = .returned (.string ⟨RL.toArray⟩) ∧ Below w1.heap.size w1 w' from (repeatC ⟨#[48]⟩ K w1 (by omega) (by show 1 * K ≤ _; omega)).mono fun e w' h => ⟨by rw [h.1, hRL], h.2⟩)
  clear hD hd e1 e2 hl hK hT h1 h2 hRL hrl
  go_enter Tryd.func31, Tryd.ntmps31
  go_wp2_with (first
    | (go_at_call 50; (with_reducible refine (HI.out).mono ?_); rintro e w1 ⟨rfl, b1⟩; have HB1 := Lib.hid b1; clear b1)
    | (go_at_call 51; (refine (HR.out w1).mono ?_); rintro e w2 ⟨rfl, b2⟩; have HB2 := Lib.hid (below_then HB1.out b2 HB1.out.size); clear b2))
  go_ret
  refine ⟨?_, HB2.out⟩
  show Ending.returned (.string (⟨[115].toArray⟩ ++ ⟨RL.toArray⟩ ++ ⟨D.toArray⟩)) = _
  rw [cat3, List.append_assoc, HE.out]; rfl
theorem nameC (n : Int) (w : World) (hT : TabP w) : Calls Tryd.prog 31 #[.int .i64 n] w fun e w' => e = .returned (.string (nameS n)) ∧ Below w.heap.size w w' := by
  by_cases h : 1 ≤ n ∧ n ≤ 999999
  · obtain ⟨k, rfl⟩ := Int.eq_ofNat_of_zero_le (a := n) (by omega)
    have e : nameS ((k : Nat) : Int) = nameB k := nameS_in (by omega) (by omega)
    rw [e]
    exact nameIn k w (by omega) (by omega) hT
  · rw [nameS_out h]
    exact nameOut n w h
theorem tabP_then {W w1 : World} (hb : Below W.heap.size W w1) (h : TabP W) : TabP w1 := by
  unfold TabP Lib.TabIs at *
  exact Joins.var_stays (g := 3) (by kernel_rfl) h hb (Nat.le_refl _)
/-- the errors of a numeral that is none. -/
def ErrV (w : World) : Prop := (∃ tp p, w.var? Tryd.prog "strconv.ErrSyntax" = some #[.iface tp p]) ∧ ∃ tq q, w.var? Tryd.prog "strconv.ErrRange" = some #[.iface tq q]
theorem str_eq (l : List UInt8) (s : ByteArray) : ((⟨l.toArray⟩ : ByteArray).toList == s.toList) = decide (s.data.toList = l) := by
  rw [ByteArray.toList_eq, ByteArray.toList_eq]
  by_cases h : s.data.toList = l
  · rw [h]; simp
  · rw [decide_eq_false h, beq_eq_false_iff_ne]
    intro e; exact h e.symm
theorem errV_then {W w1 : World} (hb : Below W.heap.size W w1) (h : ErrV W) : ErrV w1 := by
  obtain ⟨⟨tp, p, h1⟩, ⟨tq, q, h2⟩⟩ := h
  exact ⟨⟨tp, p, Joins.var_stays (g := 1) (by kernel_rfl) h1 hb (Nat.le_refl _)⟩, ⟨tq, q, Joins.var_stays (g := 2) (by kernel_rfl) h2 hb (Nat.le_refl _)⟩⟩
theorem cut_yes (l : List UInt8) : Lib.hasPrefix (115 :: l) [115] = true ∧ Lib.trimPrefix (115 :: l) [115] = l := by
  have h : Lib.hasPrefix (115 :: l) [115] = true := by simp [Lib.hasPrefix]
  refine ⟨h, ?_⟩
  unfold Lib.trimPrefix; rw [if_pos h]; rfl
set_option maxRecDepth 100000 in
/-- a name is its number's. -/
theorem numYes (v : Nat) (w : World) (h1 : 1 ≤ v) (h2 : v ≤ 999999) (hT : TabP w) : Calls Tryd.prog 25 #[.string (nameB v)] w fun e w' => e = .returned (.tuple #[.int .i64 (v : Int), .bool true]) ∧ Below w.heap.size w w' := by
  have HC := Lib.hid (cutC (nameB v) ⟨#[115]⟩ w)
  rw [nameB_list, (cut_yes (six v)).1, (cut_yes (six v)).2] at HC
  have HA := Lib.hid (atoiOk ⟨(six v).toArray⟩ (show (6 : Nat) ≤ 9223372036854775806 by decide) (v : Int) (six_num h2) w)
  have HN := Lib.hid (fun w1 (hb : Below w.heap.size w w1) => nameIn v w1 h1 h2 (tabP_then hb hT))
  obtain ⟨B, hB⟩ : ∃ B, B = nameB v := ⟨_, rfl⟩
  have HE := Lib.hid (show (B.toList == B.toList) = true by simp)
  rw [← hB] at HC HN ⊢
  clear hB h1 h2 hT
  go_enter Tryd.func25, Tryd.ntmps25
  go_wp2_with (first
    | (go_at_call 45; (with_reducible refine (HC.out).mono ?_); rintro e w1 ⟨rfl, rfl⟩)
    | (go_at_call 46; (with_reducible refine (HA.out).mono ?_); rintro e w1 ⟨rfl, b1⟩; have HB1 := Lib.hid b1; clear b1)
    | (go_at_call 31; (with_reducible refine (HN.out _ HB1.out).mono ?_); rintro e w2 ⟨rfl, b2⟩; have HB2 := Lib.hid (below_then HB1.out b2 HB1.out.size); clear b2))
  go_ret2
  exact ⟨rfl, HB2.out⟩
set_option maxRecDepth 100000 in
/-- what is no name is none. -/
theorem numNo (s : ByteArray) (w : World) (hs : s.size ≤ 281474976710656) (h : ∀ v : Nat, 1 ≤ v → v ≤ 999999 → s ≠ nameB v) (hT : TabP w) (hE : ErrV w) : Calls Tryd.prog 25 #[.string s] w fun e w' => e = .returned (.tuple #[.int .i64 0, .bool false]) ∧ Below w.heap.size w w' := by
  have HC := Lib.hid (cutC s ⟨#[115]⟩ w)
  obtain ⟨t, ht⟩ : ∃ t, t = Lib.trimPrefix s.data.toList [115] := ⟨_, rfl⟩
  have e1 : (⟨#[115]⟩ : ByteArray).data.toList = [115] := rfl
  rw [e1, ← ht] at HC
  cases hp : Lib.hasPrefix s.data.toList [115]
  · rw [hp] at HC
    clear ht hs h hT hE e1 hp
    go_enter Tryd.func25, Tryd.ntmps25
    go_wp2_with (go_at_call 45; (with_reducible refine (HC.out).mono ?_); rintro e w1 ⟨rfl, rfl⟩)
    go_ret2
    exact ⟨rfl, Below.refl _ _⟩
  · rw [hp] at HC
    have hl : t.length ≤ s.data.toList.length := by rw [ht]; unfold Lib.trimPrefix; split <;> simp
    have hsz : (⟨t.toArray⟩ : ByteArray).size ≤ 281474976710656 := by
      show t.toArray.size ≤ _
      have e2 : s.data.toList.length = s.size := rfl
      rw [List.size_toArray]
      exact Nat.le_trans hl (e2 ▸ hs)
    by_cases hv : ∃ v, Lib.atoiAll t = .ok v
    · obtain ⟨v, hv⟩ := hv
      have HA := Lib.hid (atoiOk ⟨t.toArray⟩ (Nat.le_trans hsz (show 281474976710656 ≤ 9223372036854775806 by decide)) v hv w)
      have HN := Lib.hid (fun w1 (hb : Below w.heap.size w w1) => nameC v w1 (tabP_then hb hT))
      have hne : nameS v ≠ s := by
        intro e
        by_cases hr : 1 ≤ v ∧ v ≤ 999999
        · obtain ⟨k, rfl⟩ := Int.eq_ofNat_of_zero_le (a := v) (by omega)
          exact h k (by omega) (by omega) (by rw [← e]; exact nameS_in (by omega) (by omega))
        · rw [nameS_out hr] at e
          rw [← e] at hp
          simp [Lib.hasPrefix] at hp
      have q1 : ((nameS v).toList == s.toList) = false := by
        rw [beq_eq_false_iff_ne, ByteArray.toList_eq, ByteArray.toList_eq]
        intro e
        exact hne (ByteArray.ext (Array.toList_inj.1 e))
      generalize nameS v = N at *
      clear ht hs h hT hE e1 hp hl hsz hv hne
      go_enter Tryd.func25, Tryd.ntmps25
      go_wp2_with (first
        | (go_at_call 45; (with_reducible refine (HC.out).mono ?_); rintro e w1 ⟨rfl, rfl⟩)
        | (go_at_call 46; (with_reducible refine (HA.out).mono ?_); rintro e w1 ⟨rfl, b1⟩; have HB1 := Lib.hid b1; clear b1)
        | (go_at_call 31; (with_reducible refine (HN.out _ HB1.out).mono ?_); rintro e w2 ⟨rfl, b2⟩; have HB2 := Lib.hid (below_then HB1.out b2 HB1.out.size); clear b2))
      go_ret2
      exact ⟨rfl, HB2.out⟩
    · obtain ⟨⟨tp, p, h1⟩, ⟨tq, q, h2⟩⟩ := hE
      have HA := Lib.hid (atoiNo ⟨t.toArray⟩ hsz (fun v e => hv ⟨v, e⟩) tp tq p q w h1 h2)
      clear ht hs h hT h1 h2 e1 hp hl hsz hv
      go_enter Tryd.func25, Tryd.ntmps25
      go_wp2_with (first
        | (go_at_call 45; (with_reducible refine (HC.out).mono ?_); rintro e w1 ⟨rfl, rfl⟩)
        | (go_at_call 46; (with_reducible refine (HA.out).mono ?_); rintro e w1 ⟨v, N, rfl, b1⟩; have HB1 := Lib.hid b1; clear b1))
      go_ret2
      exact ⟨rfl, HB1.out⟩
end Go.Proofs.YtabgelmmjpjejaaDoor.Nm
