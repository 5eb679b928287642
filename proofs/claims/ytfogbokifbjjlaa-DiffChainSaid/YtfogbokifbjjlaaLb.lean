/- Runs of cells as bytes (key.Cells). -/
import Derived.Test.YtfogbokifbjjlaaLa
set_option linter.unusedVariables false
namespace Go.Proofs.Ytfogbokifbjjlaa.Lb
open Go Go.RowKit Kit Gm Gv Crc Var Bytes WireFirst Copy Ap Sa Sb La

theorem one_lenL (c : Ce) : (oneL c).length ≤ 50 := one_len c 4
/-- cells as runs. -/
def cellsB (L : List Ce) : List Nat :=
  match L with
  | [] => []
  | c :: l => varL (runL (c :: l)) ++ oneL c ++ cellsB ((c :: l).drop (runL (c :: l)))
termination_by L.length
decreasing_by
  have := run_pos c l
  simp only [List.length_drop, List.length_cons]; omega
theorem cellsB_nil : cellsB [] = [] := by rw [cellsB]
theorem cellsB_cons (c : Ce) (l : List Ce) : cellsB (c :: l) = varL (runL (c :: l)) ++ oneL c ++ cellsB ((c :: l).drop (runL (c :: l))) := by rw [cellsB]
theorem cellsB_len : ∀ (n : Nat) (L : List Ce), L.length ≤ n → L.length < 18446744073709551616 → (cellsB L).length ≤ 60 * L.length := by
  intro n
  induction n with
  | zero => intro L h _; obtain rfl : L = [] := List.eq_nil_of_length_eq_zero (by omega); rw [cellsB_nil]; simp
  | succ n ih =>
    intro L h h2
    match L, h with
    | [], _ => rw [cellsB_nil]; simp
    | c :: l, h =>
      obtain ⟨p1, p2⟩ := run_pos c l
      rw [List.length_cons] at h h2
      rw [cellsB_cons]
      have h3 := ih ((c :: l).drop (runL (c :: l))) (by rw [List.length_drop, List.length_cons]; omega) (by rw [List.length_drop, List.length_cons]; omega)
      have h4 := varL_ten (n := runL (c :: l)) (by omega)
      have h5 := one_lenL c
      rw [List.length_drop, List.length_cons] at h3
      simp only [List.length_append, List.length_cons]
      omega
theorem drop_at {L : List Ce} {k : Nat} (h : k < L.length) : ∃ c l, L.drop k = c :: l ∧ l.length = L.length - (k + 1) := by
  refine ⟨L[k], L.drop (k + 1), List.drop_eq_getElem_cons h, ?_⟩
  rw [List.length_drop]
theorem sc_drop {w : World} {b off k : Nat} {L : List Ce} (h : Sc w b off L) : Sc w b (off + k * 5) (L.drop k) := by
  intro j hj i hi
  have hj' : k + j < L.length := by rw [List.length_drop] at hj; omega
  have := h (k + j) hj' i hi
  rw [show off + k * 5 + j * 5 + i = off + (k + j) * 5 + i by rw [Nat.add_mul]; omega, this, List.getElem_drop]
set_option maxRecDepth 100000 in
set_option maxHeartbeats 4000000 in
/-- key.Cells, of some cells. -/
theorem cellsSome (b off n cap : Nat) (L : List Ce) (w : World) (hn : n = L.length) (hm : n ≤ 12000) (hcap : n ≤ cap) (hs : Sc w b off L) :
    Calls Try.prog 17 #[.slice (some ⟨b, off, none⟩) n cap] w (RbQ w (cellsB L)) := by
  have HS := Lib.hid hs
  have HN := Lib.hid hn
  have HM := Lib.hid hm
  have HV := Lib.hid (fun n w => varR n w)
  have HONE := Lib.hid (fun c w => oneC c w)
  have HRUN := Lib.hid (fun (k : Nat) (cp : Nat) (c : Ce) (l : List Ce) (w1 : World) (hk : k < n) (h : L.drop k = c :: l) (hb : Below w.heap.size w w1) =>
    runC b (off + k * 5) (n - k) cp c l w1 (by have := congrArg List.length h; rw [List.length_drop, List.length_cons] at this; omega) (by omega) (by rw [← h]; exact sc_drop (hs.then_ hb (Nat.le_refl _))))
  clear hs hn hm
  go_enter Try.func17, Try.ntmps17
  go_wp2
  go_loopw [0, 3] (fun s0 s3 wr => ∃ (k : Nat) (ad : Option Addr) (cp : Nat) (p : List Nat), k ≤ n ∧ s0 = .slice ad (n - k) cp ∧ Hid (k < n → ad = some ⟨b, off + k * 5, none⟩ ∧ n - k ≤ cp) ∧ Hid (Rb wr w.heap.size s3 p) ∧ Hid (cellsB L = p ++ cellsB (L.drop k)) ∧ Hid (p.length ≤ 60 * k) ∧ Hid (Below w.heap.size w wr)) (fun s0 _ _ => match s0 with | .slice _ m _ => m | _ => 0)
  case atStart => exact ⟨0, _, _, [], Nat.zero_le _, rfl, Lib.hid (fun _ => ⟨rfl, hcap⟩), Lib.hid (rb_nil _ _), Lib.hid rfl, Lib.hid (Nat.zero_le _), Lib.hid (Below.refl _ _)⟩
  case round =>
    obtain ⟨k, ad, cp, p, hk, rfl, HA, HR, HC, HP, HB⟩ := hrel
    by_cases hlt : k < n
    · obtain ⟨rfl, hcp⟩ := HA.out hlt
      obtain ⟨c, l, hd, hl⟩ := drop_at (L := L) (k := k) (by rw [← HN.out]; exact hlt)
      have hmm : n - k = l.length + 1 := by rw [hl, ← HN.out]; omega
      have hsc := (show Sc w b (off + k * 5) (c :: l) by rw [← hd]; exact sc_drop HS.out)
      have HR1 := Lib.hid (fun w1 hb => HRUN.out k cp c l w1 hlt hd hb)
      have HX := Lib.hid (fun w1 (hb : Below w.heap.size w w1) => (hsc.then_ hb (Nat.le_refl _)).at_ 0 c rfl)
      obtain ⟨p1, p2⟩ := run_pos c l
      have HCC := Lib.hid (show cellsB L = p ++ varL (runL (c :: l)) ++ oneL c ++ cellsB (L.drop (k + runL (c :: l))) by rw [HC.out, hd, cellsB_cons, ← List.drop_drop, hd]; simp)
      generalize runL (c :: l) = r at *
      generalize hgm : n - k = m at *
      have HUN := Lib.hid (show un (r : Int) = r from un_nat r (by have := HM.out; omega))
      have HL1 := Lib.hid (show p.length + (varL r).length ≤ 1000000 by have := HP.out; have := HM.out; have := varL_ten (n := r) (by omega); omega)
      have HL2 := Lib.hid (show (p ++ varL r).length + (oneL c).length ≤ 1000000 by have := HP.out; have := HM.out; have := varL_ten (n := r) (by omega); have := one_lenL c; rw [List.length_append]; omega)
      have HP3 := Lib.hid (show (p ++ varL r ++ oneL c).length ≤ 60 * (k + r) by have := HP.out; have := HM.out; have := varL_ten (n := r) (by omega); have := one_lenL c; simp only [List.length_append]; omega)
      have HKk := Lib.hid (show k + r ≤ n ∧ n - (k + r) = m - r ∧ m - r < m by omega)
      have HAD := Lib.hid (show off + k * 5 + r * 5 = off + (k + r) * 5 by rw [Nat.add_mul]; omega)
      have HAA := Lib.hid (show k + r < n → cp ≠ r ∧ m - r ≤ cp - r by omega)
      have hm0 : (0 : Int) < (m : Int) := by omega
      have hm1 : 0 < m := by omega
      have g1 : r ≤ m := by omega
      have g2 : r ≤ cp := by omega
      have g3 : m ≤ cp := hcp
      obtain ⟨x0, x1, x2, x3, x4⟩ := HX.out wr HB.out
      rw [Nat.zero_mul, Nat.add_zero] at x0 x1 x2 x3 x4
      clear hd hl hmm hsc hcp hk hlt hgm p2
      rcases Classical.em (r = cp) with rfl | hcr'
      rotate_left
      · have hcr : ¬ cp = r := fun e => hcr' e.symm
        clear hcr'
        go_wp2_with (first
          | (go_at_call 44; (with_reducible refine (HR1.out _ HB.out).mono ?_); rintro e w1 ⟨rfl, kk, hkk⟩; have HB1 := Lib.hid (show Below w.heap.size w w1 by rw [← hkk]; exact ⟨HB.out.os, HB.out.tape, HB.out.output, HB.out.size, HB.out.block⟩); have HRR1 := Lib.hid (show Rb w1 w.heap.size u3 p by rw [← hkk]; exact HR.out); clear hkk)
          | (go_at_call 40; (with_reducible refine (HV.out _ _).mono ?_); rintro e w2 ⟨v2, rfl, hr, hb⟩; rw [HUN.out] at hr; obtain ⟨a2, c2, rfl, hc2, hs2, ha2, hx2⟩ := rb_sl hr; have HB2 := Lib.hid (below_then HB1.out hb HB1.out.size); have HR2 := Lib.hid (rb_then HRR1.out hb (Nat.le_refl _)); have HSL := Lib.hid hs2; have HA2 := Lib.hid ha2; clear hr hb hs2 hx2 ha2 hc2)
          | (at_builtin; refine app_sl rfl _ _ rfl w.heap.size _ p rfl HR2.out a2 _ c2 (varL r) rfl rfl HA2.out HSL.out HL1.out HB2.out.size ?_; intro v3 w3 hr3 hb3; have HR3 := Lib.hid hr3; have HB3 := Lib.hid (hb3 _ _ (Nat.le_refl _) HB2.out); obtain ⟨y0, y1, y2, y3, y4⟩ := HX.out w3 HB3.out; rw [Nat.zero_mul, Nat.add_zero] at y0 y1 y2 y3 y4; clear hr3 hb3)
          | (go_at_call 45; (with_reducible refine (HONE.out c _).mono ?_); rintro e w4 ⟨v4, rfl, hr, hb⟩; obtain ⟨a4, c4, rfl, hc4, hs4, ha4, hx4⟩ := rb_sl hr; have HB4 := Lib.hid (below_then HB3.out hb HB3.out.size); have HR4 := Lib.hid (rb_then HR3.out hb (Nat.le_refl _)); have HSL4 := Lib.hid hs4; have HA4 := Lib.hid ha4; clear hr hb hs4 hx4 ha4 hc4)
          | (at_builtin; refine app_sl rfl _ _ rfl w.heap.size _ (p ++ varL r) rfl HR4.out a4 _ c4 (oneL c) rfl rfl HA4.out HSL4.out HL2.out HB4.out.size ?_; intro v5 w5 hr5 hb5; have HR5 := Lib.hid hr5; have HB5 := Lib.hid (hb5 _ _ (Nat.le_refl _) HB4.out); clear hr5 hb5))
        first
          | exact ⟨⟨k + r, _, _, p ++ varL r ++ oneL c, HKk.out.1, by rw [HKk.out.2.1], Lib.hid (fun h => ⟨by rw [HAD.out], by rw [HKk.out.2.1]; exact (HAA.out h).2⟩), HR5, HCC, HP3, HB5⟩, HKk.out.2.2⟩
          | (go_roundw
             · exact ⟨k + r, _, _, p ++ varL r ++ oneL c, HKk.out.1, by rw [HKk.out.2.1], Lib.hid (fun h => ⟨by rw [HAD.out], by rw [HKk.out.2.1]; exact (HAA.out h).2⟩), HR5, HCC, HP3, HB5⟩
             · exact HKk.out.2.2)
      · have HZ := Lib.hid (show n - (k + r) = 0 by have := HKk.out; omega)
        have HM1 := Lib.hid hm1
        go_wp2_with (first
          | (go_at_call 44; (with_reducible refine (HR1.out _ HB.out).mono ?_); rintro e w1 ⟨rfl, kk, hkk⟩; have HB1 := Lib.hid (show Below w.heap.size w w1 by rw [← hkk]; exact ⟨HB.out.os, HB.out.tape, HB.out.output, HB.out.size, HB.out.block⟩); have HRR1 := Lib.hid (show Rb w1 w.heap.size u3 p by rw [← hkk]; exact HR.out); clear hkk)
          | (go_at_call 40; (with_reducible refine (HV.out _ _).mono ?_); rintro e w2 ⟨v2, rfl, hr, hb⟩; rw [HUN.out] at hr; obtain ⟨a2, c2, rfl, hc2, hs2, ha2, hx2⟩ := rb_sl hr; have HB2 := Lib.hid (below_then HB1.out hb HB1.out.size); have HR2 := Lib.hid (rb_then HRR1.out hb (Nat.le_refl _)); have HSL := Lib.hid hs2; have HA2 := Lib.hid ha2; clear hr hb hs2 hx2 ha2 hc2)
          | (at_builtin; refine app_sl rfl _ _ rfl w.heap.size _ p rfl HR2.out a2 _ c2 (varL r) rfl rfl HA2.out HSL.out HL1.out HB2.out.size ?_; intro v3 w3 hr3 hb3; have HR3 := Lib.hid hr3; have HB3 := Lib.hid (hb3 _ _ (Nat.le_refl _) HB2.out); obtain ⟨y0, y1, y2, y3, y4⟩ := HX.out w3 HB3.out; rw [Nat.zero_mul, Nat.add_zero] at y0 y1 y2 y3 y4; clear hr3 hb3)
          | (go_at_call 45; (with_reducible refine (HONE.out c _).mono ?_); rintro e w4 ⟨v4, rfl, hr, hb⟩; obtain ⟨a4, c4, rfl, hc4, hs4, ha4, hx4⟩ := rb_sl hr; have HB4 := Lib.hid (below_then HB3.out hb HB3.out.size); have HR4 := Lib.hid (rb_then HR3.out hb (Nat.le_refl _)); have HSL4 := Lib.hid hs4; have HA4 := Lib.hid ha4; clear hr hb hs4 hx4 ha4 hc4)
          | (at_builtin; refine app_sl rfl _ _ rfl w.heap.size _ (p ++ varL r) rfl HR4.out a4 _ c4 (oneL c) rfl rfl HA4.out HSL4.out HL2.out HB4.out.size ?_; intro v5 w5 hr5 hb5; have HR5 := Lib.hid hr5; have HB5 := Lib.hid (hb5 _ _ (Nat.le_refl _) HB4.out); clear hr5 hb5))
        first
          | exact ⟨⟨k + r, _, _, p ++ varL r ++ oneL c, HKk.out.1, by rw [HZ.out], Lib.hid (fun h => absurd rfl (HAA.out h).1), HR5, HCC, HP3, HB5⟩, HM1.out⟩
          | (go_roundw
             · exact ⟨k + r, _, _, p ++ varL r ++ oneL c, HKk.out.1, by rw [HZ.out], Lib.hid (fun h => absurd rfl (HAA.out h).1), HR5, HCC, HP3, HB5⟩
             · exact HM1.out)
    · obtain rfl : k = n := by omega
      have HE := Lib.hid (show cellsB L = p by have := HC.out; rwa [HN.out, List.drop_length, cellsB_nil, List.append_nil] at this)
      rw [Nat.sub_self]
      clear hk hlt
      go_wp2
      go_ret
      exact ⟨_, rfl, by rw [HE.out]; exact HR.out, HB.out⟩
end Go.Proofs.Ytfogbokifbjjlaa.Lb
