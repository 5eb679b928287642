/- What lies between two lists of cells (diff.count). -/
import Derived.Test.YtfogbokifbjjlaaPb
import Derived.Deep.CutRange
import Derived.Laws.AppendOwn
import Derived.Laws.OwnMore
set_option linter.unusedVariables false
namespace Go.Proofs.Ytfogbokifbjjlaa.Da
open Go Go.RowKit Kit Gm Gv Crc Var Bytes WireFirst Copy Ap Sa Sb Sd La Lb Pb

/-- how many cells from the front on are alike, or are not. -/
def cnt (al : Bool) : List Ce → List Ce → Nat
  | a :: A, b :: B => if decide (a = b) = al then cnt al A B + 1 else 0
  | _, _ => 0
theorem cnt_nil (al : Bool) (B : List Ce) : cnt al [] B = 0 := by unfold cnt; rfl
theorem cnt_cons (al : Bool) (a b : Ce) (A B : List Ce) : cnt al (a :: A) (b :: B) = if decide (a = b) = al then cnt al A B + 1 else 0 := by rw [cnt]
theorem cnt_le (al : Bool) : ∀ A B : List Ce, cnt al A B ≤ A.length
  | [], B => by rw [cnt_nil]; exact Nat.zero_le _
  | a :: A, [] => by simp [cnt]
  | a :: A, b :: B => by
    rw [cnt_cons]
    split
    · have := cnt_le al A B; simp; omega
    · exact Nat.zero_le _
theorem cnt_le2 (al : Bool) : ∀ A B : List Ce, cnt al A B ≤ B.length
  | [], B => by rw [cnt_nil]; exact Nat.zero_le _
  | a :: A, [] => by simp [cnt]
  | a :: A, b :: B => by
    rw [cnt_cons]
    split
    · have := cnt_le2 al A B; simp; omega
    · exact Nat.zero_le _
set_option maxRecDepth 100000 in
set_option maxHeartbeats 4000000 in
/-- diff.count. -/
theorem countC (al : Bool) (a1 a2 : Option Addr) (n1 n2 c1 c2 : Nat) (A B : List Ce) (w : World) (h1 : ScA w a1 n1 c1 A) (h2 : ScA w a2 n2 c2 B) (hle : n1 ≤ n2) (m1 : n1 ≤ 1000000) :
    Calls Try.prog 88 #[.slice a1 n1 c1, .slice a2 n2 c2, .bool al] w fun e w' => e = .returned (.int .i64 (cnt al A B : Int)) ∧ ∃ k, w.drewN k = w' := by
  have H1 := Lib.hid (fun m => (show ScA (w.drewN m) a1 n1 c1 A from ⟨h1.len, h1.cap, h1.sc⟩))
  have H2 := Lib.hid (fun m => (show ScA (w.drewN m) a2 n2 c2 B from ⟨h2.len, h2.cap, h2.sc⟩))
  have HM := Lib.hid m1
  have HLE := Lib.hid hle
  clear h1 h2 hle m1
  go_enter Try.func88, Try.ntmps88
  go_wp2
  go_loopw [7] (fun s7 wr => ∃ k : Nat, k ≤ n1 ∧ s7 = .int .i64 k ∧ Hid (cnt al (A.drop k) (B.drop k) + k = cnt al A B) ∧ ∃ m, wr = w.drewN m) (fun s7 _ => n1 - (intOf s7).toNat)
  case atStart => exact ⟨0, Nat.zero_le _, rfl, Lib.hid rfl, 0, rfl⟩
  case round =>
    obtain ⟨k, hk, rfl, HC, m, rfl⟩ := hrel
    by_cases hlt : k < n1
    · have hka : k < A.length := by rw [← (H1.out 0).len]; exact hlt
      have hkb : k < B.length := by rw [← (H2.out 0).len]; have := HLE.out; omega
      obtain ⟨b1, o1, rfl, hs1⟩ : ∃ b off, a1 = some ⟨b, off, none⟩ ∧ Sc (w.drewN m) b off A := by
        rcases (H1.out m).sc with h | h
        · omega
        · exact h
      obtain ⟨b2, o2, rfl, hs2⟩ : ∃ b off, a2 = some ⟨b, off, none⟩ ∧ Sc (w.drewN m) b off B := by
        rcases (H2.out m).sc with h | h
        · have := HLE.out; omega
        · exact h
      obtain ⟨x0, x1, x2, x3, x4⟩ := hs1.at_ k _ (List.getElem?_eq_getElem hka)
      obtain ⟨y0, y1, y2, y3, y4⟩ := hs2.at_ k _ (List.getElem?_eq_getElem hkb)
      have HN := Lib.hid (show cnt al (A.drop k) (B.drop k) = if decide (A[k] = B[k]) = al then cnt al (A.drop (k + 1)) (B.drop (k + 1)) + 1 else 0 by rw [List.drop_eq_getElem_cons hka, List.drop_eq_getElem_cons hkb, cnt_cons])
      generalize A[k] = a at *
      generalize B[k] = b at *
      have HKk := Lib.hid (show k + 1 ≤ n1 ∧ n1 - (k + 1) < n1 - k by omega)
      have hw1 : IntKind.i64.wrap ((k : Int) + 1) = (k : Int) + 1 := IntWalk.i64_in _ (by have := HM.out; omega)
      have hkI : (k : Int) < (n1 : Int) := by omega
      have hkI2 : (k : Int) < (n2 : Int) := by have := HLE.out; omega
      have hk2 : k < n2 := by have := HLE.out; omega
      generalize hwr : w.drewN m = wr at *
      have HW := Lib.hid hwr
      clear hwr hka hkb hs1 hs2
      by_cases hab : a = b
      · subst hab
        cases al
        · have HF := Lib.hid (show cnt false A B = k by
            have h1 := HN.out; have h2 := HC.out
            rw [decide_eq_true rfl, if_neg (by decide)] at h1; omega)
          obtain ⟨cr, cfl, cfg, cbg, cwd⟩ := a
          dsimp only at x0 x1 x2 x3 x4 y0 y1 y2 y3 y4
          clear hk hlt
          go_wp2
          go_quiet (fail)
          go_wp2
          go_ret
          exact ⟨by rw [HF.out]; rfl, m + nq, by rw [← HW.out, World.drewN_drewN]⟩
        · have HF := Lib.hid (show cnt true (A.drop (k + 1)) (B.drop (k + 1)) + (k + 1) = cnt true A B by
            have h1 := HN.out; have h2 := HC.out
            rw [decide_eq_true rfl, if_pos rfl] at h1; omega)
          obtain ⟨cr, cfl, cfg, cbg, cwd⟩ := a
          dsimp only at x0 x1 x2 x3 x4 y0 y1 y2 y3 y4
          clear hk hlt
          go_wp2
          go_quiet (fail)
          go_wp2
          first
            | exact ⟨⟨k + 1, HKk.out.1, by go_num, HF, m + nq, by rw [← HW.out, World.drewN_drewN]⟩, by simp only [intOf]; exact HKk.out.2⟩
            | (go_roundw
               · exact ⟨k + 1, HKk.out.1, by go_num, HF, m + nq, by rw [← HW.out, World.drewN_drewN]⟩
               · simp only [intOf]; exact HKk.out.2)
      · have hne := ce_ne hab
        cases al
        · have HF := Lib.hid (show cnt false (A.drop (k + 1)) (B.drop (k + 1)) + (k + 1) = cnt false A B by
            have h1 := HN.out; have h2 := HC.out
            rw [decide_eq_false hab, if_pos rfl] at h1; omega)
          obtain ⟨cr, cfl, cfg, cbg, cwd⟩ := a
          obtain ⟨dr, dfl, dfg, dbg, dwd⟩ := b
          dsimp only at x0 x1 x2 x3 x4 y0 y1 y2 y3 y4 hne
          clear hk hlt hab
          rcases hne with e | e | e | e | e
          all_goals
            go_wp2
            go_quiet (fail)
            go_wp2
            first
              | exact ⟨⟨k + 1, HKk.out.1, by go_num, HF, m + nq, by rw [← HW.out, World.drewN_drewN]⟩, by simp only [intOf]; exact HKk.out.2⟩
              | (go_roundw
                 · exact ⟨k + 1, HKk.out.1, by go_num, HF, m + nq, by rw [← HW.out, World.drewN_drewN]⟩
                 · simp only [intOf]; exact HKk.out.2)
        · have HF := Lib.hid (show cnt true A B = k by
            have h1 := HN.out; have h2 := HC.out
            rw [decide_eq_false hab, if_neg (by decide)] at h1; omega)
          obtain ⟨cr, cfl, cfg, cbg, cwd⟩ := a
          obtain ⟨dr, dfl, dfg, dbg, dwd⟩ := b
          dsimp only at x0 x1 x2 x3 x4 y0 y1 y2 y3 y4 hne
          clear hk hlt hab
          rcases hne with e | e | e | e | e
          all_goals
            go_wp2
            go_quiet (fail)
            go_wp2
            go_ret
            exact ⟨by rw [HF.out]; rfl, m + nq, by rw [← HW.out, World.drewN_drewN]⟩
    · obtain rfl : k = n1 := by omega
      have HF := Lib.hid (show cnt al A B = k by
        have h2 := HC.out
        rw [List.drop_of_length_le (by have := (H1.out 0).len; omega), cnt_nil] at h2; omega)
      have hkI : ¬ (k : Int) < (k : Int) := by omega
      generalize hwr : w.drewN m = wr at *
      have HW := Lib.hid hwr
      clear hwr hk hlt
      go_wp2
      go_quiet (fail)
      go_wp2
      go_ret
      exact ⟨by rw [HF.out]; rfl, m + nq, by rw [← HW.out, World.drewN_drewN]⟩
end Go.Proofs.Ytfogbokifbjjlaa.Da
/- Stretches of cells that differ, as bytes (diff.stretches). -/
set_option linter.unusedVariables false
namespace Go.Proofs.Ytfogbokifbjjlaa.Db
open Go Go.RowKit Kit Gm Gv Crc Var Bytes WireFirst Copy Ap Sa Sb Sd La Lb Lc Pb Da

/-- stretches of cells in which B differs from A. -/
def strF : Nat → List Ce → List Ce → List Nat
  | 0, _, _ => []
  | f + 1, A, B => if cnt true A B = A.length then [] else
      varL (cnt true A B) ++ varL (cnt false (A.drop (cnt true A B)) (B.drop (cnt true A B))) ++ cellsB ((B.drop (cnt true A B)).take (cnt false (A.drop (cnt true A B)) (B.drop (cnt true A B))))
        ++ strF f ((A.drop (cnt true A B)).drop (cnt false (A.drop (cnt true A B)) (B.drop (cnt true A B)))) ((B.drop (cnt true A B)).drop (cnt false (A.drop (cnt true A B)) (B.drop (cnt true A B))))
abbrev strS (A B : List Ce) : List Nat := strF (A.length + 1) A B
/-- where the alike ones end, one differs. -/
theorem cnt_next : ∀ A B : List Ce, A.length = B.length → cnt true A B < A.length → 1 ≤ cnt false (A.drop (cnt true A B)) (B.drop (cnt true A B))
  | [], B, _, h => by simp at h
  | a :: A, [], h, _ => by simp at h
  | a :: A, b :: B, h, hl => by
    by_cases hab : a = b
    · have e : cnt true (a :: A) (b :: B) = cnt true A B + 1 := by rw [cnt_cons, decide_eq_true hab, if_pos rfl]
      rw [e] at hl ⊢
      rw [List.drop_succ_cons, List.drop_succ_cons]
      exact cnt_next A B (by simpa using h) (by simpa using hl)
    · have e : cnt true (a :: A) (b :: B) = 0 := by rw [cnt_cons, decide_eq_false hab, if_neg (by decide)]
      rw [e, List.drop_zero, List.drop_zero, cnt_cons, decide_eq_false hab, if_pos rfl]; omega
theorem strF_end {f : Nat} {A B : List Ce} (h : cnt true A B = A.length) : strF f A B = [] := by
  cases f with
  | zero => rfl
  | succ f => rw [strF, if_pos h]
theorem strF_step {f g r : Nat} {A B : List Ce} (hg : cnt true A B = g) (hn : ¬ g = A.length) (hr : cnt false (A.drop g) (B.drop g) = r) :
    strF (f + 1) A B = varL g ++ varL r ++ cellsB ((B.drop g).take r) ++ strF f (A.drop (g + r)) (B.drop (g + r)) := by
  subst hg hr
  rw [strF, if_neg hn, ← List.drop_drop, ← List.drop_drop]
theorem sca_drop {w : World} {b off cap k m : Nat} {L : List Ce} (h : Sc w b off L) (hm : m = L.length - k) (hk : k ≤ L.length) (hc : m ≤ cap) : ScA w (some ⟨b, off + k * 5, none⟩) m cap (L.drop k) :=
  ⟨by rw [List.length_drop]; exact hm, hc, .inr ⟨b, _, rfl, sc_drop h⟩⟩
theorem sca_take {w : World} {b off r : Nat} {L : List Ce} (h : Sc w b off L) (hr : r ≤ L.length) : Sc w b off (L.take r) := by
  intro j hj i hi
  rw [List.length_take] at hj
  rw [List.getElem_take]; exact h j (by omega) i hi
set_option maxRecDepth 100000 in
set_option maxHeartbeats 8000000 in
/-- diff.stretches. -/
theorem stretchC (b1 o1 b2 o2 n c1 c2 : Nat) (A B : List Ce) (w : World) (e1 : n = A.length) (e2 : n = B.length) (hc1 : n ≤ c1) (hc2 : n ≤ c2) (h1 : Sc w b1 o1 A) (h2 : Sc w b2 o2 B) (hm : n ≤ 12000) (hpos : 1 ≤ n) :
    Calls Try.prog 65 #[.slice (some ⟨b1, o1, none⟩) n c1, .slice (some ⟨b2, o2, none⟩) n c2] w (RbQ w (strS A B)) := by
  have HS1 := Lib.hid h1
  have HS2 := Lib.hid h2
  have HN1 := Lib.hid e1
  have HN2 := Lib.hid e2
  have HM := Lib.hid hm
  have HV := Lib.hid (fun n w => varR n w)
  have HCNT := Lib.hid (fun (al : Bool) (k m q1 q2 : Nat) w1 (hb : Below w.heap.size w w1) (hk : k ≤ n) (hmm : m = n - k) (g1 : m ≤ q1) (g2 : m ≤ q2) => countC al (some ⟨b1, o1 + k * 5, none⟩) (some ⟨b2, o2 + k * 5, none⟩) m m q1 q2 (A.drop k) (B.drop k) w1 (sca_drop (h1.then_ hb (Nat.le_refl _)) (by omega) (by omega) g1) (sca_drop (h2.then_ hb (Nat.le_refl _)) (by omega) (by omega) g2) (Nat.le_refl _) (by omega))
  have HCEL := Lib.hid (fun (k r q : Nat) w1 (hb : Below w.heap.size w w1) (hk : k + r ≤ n) (hq : r ≤ q) => cellsC (some ⟨b2, o2 + k * 5, none⟩) r q ((B.drop k).take r) w1 (by rw [List.length_take, List.length_drop]; omega) (by omega) (.inr ⟨hq, b2, _, rfl, sca_take (sc_drop (h2.then_ hb (Nat.le_refl _))) (by rw [List.length_drop]; omega)⟩))
  have HSTEP := Lib.hid (fun (f k : Nat) => @strF_step f (cnt true (A.drop k) (B.drop k)) (cnt false ((A.drop k).drop (cnt true (A.drop k) (B.drop k))) ((B.drop k).drop (cnt true (A.drop k) (B.drop k)))) (A.drop k) (B.drop k) rfl)
  have HNEXT := Lib.hid (fun (k : Nat) (hk : k ≤ n) => cnt_next (A.drop k) (B.drop k) (by rw [List.length_drop, List.length_drop]; omega))
  have HLE := Lib.hid (fun (k : Nat) => cnt_le true (A.drop k) (B.drop k))
  have HLE2 := Lib.hid (fun (k : Nat) => cnt_le false ((A.drop k).drop (cnt true (A.drop k) (B.drop k))) ((B.drop k).drop (cnt true (A.drop k) (B.drop k))))
  have HEND := Lib.hid (fun (f k : Nat) => @strF_end f (A.drop k) (B.drop k))
  obtain ⟨T, hT⟩ : ∃ T, T = strS A B := ⟨_, rfl⟩
  have HT := Lib.hid (show strF (n + 1) (A.drop 0) (B.drop 0) = T by rw [hT, e1]; rfl)
  rw [← hT]
  clear h1 h2 e1 e2 hm hT
  go_enter Try.func65, Try.ntmps65
  go_wp2
  go_loopw [0, 1, 5] (fun s0 s1 s5 wr => ∃ (k f q1 q2 : Nat) (ad1 ad2 : Option Addr) (p : List Nat), k ≤ n ∧ s0 = .slice ad1 (n - k) q1 ∧ s1 = .slice ad2 (n - k) q2 ∧ Hid (k < n → ad1 = some ⟨b1, o1 + k * 5, none⟩ ∧ ad2 = some ⟨b2, o2 + k * 5, none⟩ ∧ n - k ≤ q1 ∧ n - k ≤ q2) ∧ Hid (n - k < f) ∧ Hid (Rb wr w.heap.size s5 p) ∧ Hid (p ++ strF f (A.drop k) (B.drop k) = T) ∧ Hid (p.length ≤ 80 * k) ∧ Hid (Below w.heap.size w wr)) (fun s0 _ _ _ => match s0 with | .slice _ m _ => m | _ => 0)
  case atStart => exact ⟨0, n + 1, c1, c2, _, _, [], Nat.zero_le _, rfl, rfl, Lib.hid (fun _ => ⟨rfl, rfl, hc1, hc2⟩), Lib.hid (by omega), Lib.hid (rb_nil _ _), Lib.hid (by rw [List.nil_append]; exact HT.out), Lib.hid (Nat.zero_le _), Lib.hid (Below.refl _ _)⟩
  case round =>
    obtain ⟨k, f, q1, q2, ad1, ad2, p, hk, rfl, rfl, HA, HF, HR, HC, HP, HB⟩ := hrel
    obtain ⟨f, rfl⟩ : ∃ f', f = f' + 1 := ⟨f - 1, by have := HF.out; omega⟩
    by_cases hlt : k < n
    · obtain ⟨rfl, rfl, hq1, hq2⟩ := HA.out hlt
      have hAl : (A.drop k).length = n - k := by rw [List.length_drop, ← HN1.out]
      have hle := HLE.out k
      have hst := HSTEP.out f k
      have hnx := HNEXT.out k hk
      have hle2 := HLE2.out k
      have hend := HEND.out (f + 1) k
      rw [hAl] at hle hst hnx hend
      have HCT := Lib.hid (HCNT.out true k (n - k) q1 q2 wr HB.out hk rfl hq1 hq2)
      have hcf := fun g => HCNT.out false (k + g) (n - k - g) (q1 - g) (q2 - g)
      have hcb := fun g r => HCEL.out (k + g) r (q2 - g)
      simp only [List.drop_drop] at hst hnx hle2
      generalize cnt true (A.drop k) (B.drop k) = g at *
      have hAl2 : (A.drop (k + g)).length = n - k - g := by rw [List.length_drop, ← HN1.out]; omega
      rw [hAl2] at hle2
      have hcf := hcf g
      have hcb := hcb g
      generalize cnt false (A.drop (k + g)) (B.drop (k + g)) = r at *
      have hcb := hcb r
      have hcbl : k + g + r ≤ n → (cellsB ((B.drop (k + g)).take r)).length ≤ 60 * r := fun h => by
        have e : ((B.drop (k + g)).take r).length = r := by rw [List.length_take, List.length_drop, ← HN2.out]; omega
        have := cellsB_len _ ((B.drop (k + g)).take r) (Nat.le_refl _) (by rw [e]; have := HM.out; omega)
        rw [e] at this; exact this
      have HCC := HC.out
      generalize cellsB ((B.drop (k + g)).take r) = CB at *
      by_cases hg : g = n - k
      · have HE := Lib.hid (show p = T by rw [← HCC, hend hg, List.append_nil])
        generalize n - k = m at *
        subst hg
        clear hst hnx hle2 hend hle hcf hcb hcbl HCC hq1 hq2 hk hlt hAl hAl2
        go_wp2_with (first
          | (go_at_call 88; (with_reducible refine HCT.out.mono ?_); rintro e w2 ⟨rfl, kk, hkk⟩; have HB2 := Lib.hid (show Below w.heap.size w w2 by rw [← hkk]; exact ⟨HB.out.os, HB.out.tape, HB.out.output, HB.out.size, HB.out.block⟩); have HR2 := Lib.hid (show Rb w2 w.heap.size u5 p by rw [← hkk]; exact HR.out); clear hkk))
        go_ret
        exact ⟨_, rfl, by rw [← HE.out]; exact HR2.out, HB2.out⟩
      · have hg1 : g < n - k := by omega
        have hr1 := hnx hg1
        have HTT := Lib.hid (show (p ++ varL g ++ varL r ++ CB) ++ strF f (A.drop (k + (g + r))) (B.drop (k + (g + r))) = T by
          have e := HCC
          rw [hst hg trivial] at e
          simp only [List.append_assoc] at e ⊢
          exact e)
        have HCF := Lib.hid (fun w1 hb => hcf w1 hb (by omega) (by omega) (by omega) (by omega))
        have HCBL := Lib.hid (hcbl (by omega))
        have HCB := Lib.hid (fun w1 hb => hcb w1 hb (by omega) (by omega))
        have HKk := Lib.hid (show k + (g + r) ≤ n ∧ n - (k + (g + r)) = n - k - g - r ∧ n - k - g - r < n - k by omega)
        have HFF := Lib.hid (show n - (k + (g + r)) < f by have := HF.out; omega)
        have HUG := Lib.hid (show un (g : Int) = g from un_nat g (by have := HM.out; omega))
        have HUR := Lib.hid (show un (r : Int) = r from un_nat r (by have := HM.out; omega))
        have HL1 := Lib.hid (show p.length + (varL g).length ≤ 1000000 by have := HP.out; have := HM.out; have := varL_ten (n := g) (by omega); omega)
        have HL2 := Lib.hid (show (p ++ varL g).length + (varL r).length ≤ 1000000 by have := HP.out; have := HM.out; have := varL_ten (n := g) (by omega); have := varL_ten (n := r) (by omega); rw [List.length_append]; omega)
        have HL3 := Lib.hid (show (p ++ varL g ++ varL r).length + CB.length ≤ 1000000 by have := HP.out; have := HM.out; have := HCBL.out; have := varL_ten (n := g) (by omega); have := varL_ten (n := r) (by omega); simp only [List.length_append]; omega)
        have HP3 := Lib.hid (show (p ++ varL g ++ varL r ++ CB).length ≤ 80 * (k + (g + r)) by have := HP.out; have := HM.out; have := HCBL.out; have := varL_ten (n := g) (by omega); have := varL_ten (n := r) (by omega); simp only [List.length_append]; omega)
        have HAD1 := Lib.hid (show o1 + k * 5 + g * 5 = o1 + (k + g) * 5 by omega)
        have HAD2 := Lib.hid (show o2 + k * 5 + g * 5 = o2 + (k + g) * 5 by omega)
        have HAD3 := Lib.hid (show o1 + (k + g) * 5 + r * 5 = o1 + (k + (g + r)) * 5 by omega)
        have HAD4 := Lib.hid (show o2 + (k + g) * 5 + r * 5 = o2 + (k + (g + r)) * 5 by omega)
        generalize n - k = m at *
        have i1 : ((g : Int) == (m : Int)) = false := by rw [beq_eq_false_iff_ne]; omega
        have g1 : g ≤ m := by omega
        have g2 : g ≤ q1 := by omega
        have g3 : g ≤ q2 := by omega
        have g4 : ¬ q1 = g := by omega
        have g5 : ¬ q2 = g := by omega
        have hgr : g + r ≤ m := by omega
        clear hst hnx hle2 hend hle hcf hcb hcbl HCC hk hlt hAl hAl2 hg hg1
        go_upto_region 5 with (first
          | (go_at_call 88; (with_reducible refine HCT.out.mono ?_); rintro e w1 ⟨rfl, kk, hkk⟩; have HB1 := Lib.hid (show Below w.heap.size w w1 by rw [← hkk]; exact ⟨HB.out.os, HB.out.tape, HB.out.output, HB.out.size, HB.out.block⟩); have HR1 := Lib.hid (show Rb w1 w.heap.size u5 p by rw [← hkk]; exact HR.out); clear hkk))
        go_quiet (fail)
        have HR2 := Lib.hid (show Rb (w1.drewN nq) w.heap.size u5 p from HR1.out)
        have HB2 := Lib.hid (show Below w.heap.size w (w1.drewN nq) from ⟨HB1.out.os, HB1.out.tape, HB1.out.output, HB1.out.size, HB1.out.block⟩)
        generalize w1.drewN nq = w2 at *
        rw [← HAD1.out, ← HAD2.out] at HCF
        rw [← HAD2.out] at HCB
        rw [← HAD1.out] at HAD3
        rw [← HAD2.out] at HAD4
        have g6 : r ≤ m - g := by omega
        have g7 : r ≤ q1 - g := by omega
        have g8 : r ≤ q2 - g := by omega
        have HQ := Lib.hid (show m - g ≤ q1 - g ∧ m - g ≤ q2 - g by omega)
        clear i1 g1 g2 g3 g4 g5 hgr hq1 hq2
        generalize o1 + k * 5 + g * 5 = A1 at *
        generalize o2 + k * 5 + g * 5 = A2 at *
        generalize hmg : m - g = mg at *
        generalize q1 - g = Q1 at *
        generalize q2 - g = Q2 at *
        go_upto_region 10 with (first
          | (go_at_call 88; (with_reducible refine (HCF.out _ HB2.out).mono ?_); rintro e w3 ⟨rfl, kk, hkk⟩; have HB3 := Lib.hid (show Below w.heap.size w w3 by rw [← hkk]; exact ⟨HB2.out.os, HB2.out.tape, HB2.out.output, HB2.out.size, HB2.out.block⟩); have HR3 := Lib.hid (show Rb w3 w.heap.size u5 p by rw [← hkk]; exact HR2.out); clear hkk)
          | (go_at_call 40; (with_reducible refine (HV.out _ _).mono ?_); rintro e w4 ⟨v4, rfl, hr, hb⟩; rw [HUG.out] at hr; obtain ⟨a4, c4, rfl, hc, hs, ha, hx⟩ := rb_sl hr; have HB4 := Lib.hid (below_then HB3.out hb HB3.out.size); have HR4 := Lib.hid (rb_then HR3.out hb (Nat.le_refl _)); have HSL4 := Lib.hid hs; have HA4 := Lib.hid ha; clear hr hb hs hx ha hc)
          | (at_builtin; refine app_sl rfl _ _ rfl w.heap.size _ p rfl HR4.out a4 _ c4 (varL g) rfl rfl HA4.out HSL4.out HL1.out HB4.out.size ?_; intro v5 w5 hr hb; have HR5 := Lib.hid hr; have HB5 := Lib.hid (hb _ _ (Nat.le_refl _) HB4.out); clear hr hb)
          | (go_at_call 40; (with_reducible refine (HV.out _ _).mono ?_); rintro e w6 ⟨v6, rfl, hr, hb⟩; rw [HUR.out] at hr; obtain ⟨a6, c6, rfl, hc, hs, ha, hx⟩ := rb_sl hr; have HB6 := Lib.hid (below_then HB5.out hb HB5.out.size); have HR6 := Lib.hid (rb_then HR5.out hb (Nat.le_refl _)); have HSL6 := Lib.hid hs; have HA6 := Lib.hid ha; clear hr hb hs hx ha hc)
          | (at_builtin; refine app_sl rfl _ _ rfl w.heap.size _ (p ++ varL g) rfl HR6.out a6 _ c6 (varL r) rfl rfl HA6.out HSL6.out HL2.out HB6.out.size ?_; intro v7 w7 hr hb; have HR7 := Lib.hid hr; have HB7 := Lib.hid (hb _ _ (Nat.le_refl _) HB6.out); clear hr hb)
          | (go_at_call 17; (with_reducible refine (HCB.out _ HB7.out).mono ?_); rintro e w8 ⟨v8, rfl, hr, hb⟩; obtain ⟨a8, c8, rfl, hc, hs, ha, hx⟩ := rb_sl hr; have HB8 := Lib.hid (below_then HB7.out hb HB7.out.size); have HR8 := Lib.hid (rb_then HR7.out hb (Nat.le_refl _)); have HSL8 := Lib.hid hs; have HA8 := Lib.hid ha; clear hr hb hs hx ha hc)
          | (at_builtin; refine app_sl rfl _ _ rfl w.heap.size _ (p ++ varL g ++ varL r) rfl HR8.out a8 _ c8 CB rfl rfl HA8.out HSL8.out HL3.out HB8.out.size ?_; intro v9 w9 hr hb; have HR9 := Lib.hid hr; have HB9 := Lib.hid (hb _ _ (Nat.le_refl _) HB8.out); clear hr hb))
        by_cases hlast : r = mg
        · have HZ := Lib.hid (show n - (k + (g + r)) = 0 by have := HKk.out; omega)
          have HADD := Lib.hid (fun (a1 a2 : Option Addr) (z1 z2 : Nat) => (show k + (g + r) < n → a1 = some ⟨b1, o1 + (k + (g + r)) * 5, none⟩ ∧ a2 = some ⟨b2, o2 + (k + (g + r)) * 5, none⟩ ∧ n - (k + (g + r)) ≤ z1 ∧ n - (k + (g + r)) ≤ z2 from fun h => by have := HZ.out; omega))
          rcases Classical.em (r = Q1) with h1 | h1
          · subst h1
            rcases Classical.em (r = Q2) with h2 | h2
            · subst h2
              go_quiet (fail)
              have HR10 := Lib.hid (show Rb (w9.drewN nq) w.heap.size v9 (p ++ varL g ++ varL r ++ CB) from HR9.out)
              have HB10 := Lib.hid (show Below w.heap.size w (w9.drewN nq) from ⟨HB9.out.os, HB9.out.tape, HB9.out.output, HB9.out.size, HB9.out.block⟩)
              generalize w9.drewN nq = w10 at *
              go_wp2
              first
                | exact ⟨⟨k + (g + r), f, _, _, _, _, p ++ varL g ++ varL r ++ CB, HKk.out.1, by rw [HZ.out], by rw [HZ.out], Lib.hid (fun h => HADD.out _ _ _ _ h), HFF, HR10, HTT, HP3, HB10⟩, (Nat.lt_of_le_of_lt (Nat.zero_le _) HKk.out.2.2)⟩
                | (go_roundw
                   · exact ⟨k + (g + r), f, _, _, _, _, p ++ varL g ++ varL r ++ CB, HKk.out.1, by rw [HZ.out], by rw [HZ.out], Lib.hid (fun h => HADD.out _ _ _ _ h), HFF, HR10, HTT, HP3, HB10⟩
                   · exact (Nat.lt_of_le_of_lt (Nat.zero_le _) HKk.out.2.2))
            · have g10 : ¬ Q2 = r := fun e => h2 e.symm
              clear h2
              go_quiet (fail)
              have HR10 := Lib.hid (show Rb (w9.drewN nq) w.heap.size v9 (p ++ varL g ++ varL r ++ CB) from HR9.out)
              have HB10 := Lib.hid (show Below w.heap.size w (w9.drewN nq) from ⟨HB9.out.os, HB9.out.tape, HB9.out.output, HB9.out.size, HB9.out.block⟩)
              generalize w9.drewN nq = w10 at *
              go_wp2
              first
                | exact ⟨⟨k + (g + r), f, _, _, _, _, p ++ varL g ++ varL r ++ CB, HKk.out.1, by rw [HZ.out], by rw [HZ.out], Lib.hid (fun h => HADD.out _ _ _ _ h), HFF, HR10, HTT, HP3, HB10⟩, (Nat.lt_of_le_of_lt (Nat.zero_le _) HKk.out.2.2)⟩
                | (go_roundw
                   · exact ⟨k + (g + r), f, _, _, _, _, p ++ varL g ++ varL r ++ CB, HKk.out.1, by rw [HZ.out], by rw [HZ.out], Lib.hid (fun h => HADD.out _ _ _ _ h), HFF, HR10, HTT, HP3, HB10⟩
                   · exact (Nat.lt_of_le_of_lt (Nat.zero_le _) HKk.out.2.2))
          · have g9 : ¬ Q1 = r := fun e => h1 e.symm
            clear h1
            rcases Classical.em (r = Q2) with h2 | h2
            · subst h2
              go_quiet (fail)
              have HR10 := Lib.hid (show Rb (w9.drewN nq) w.heap.size v9 (p ++ varL g ++ varL r ++ CB) from HR9.out)
              have HB10 := Lib.hid (show Below w.heap.size w (w9.drewN nq) from ⟨HB9.out.os, HB9.out.tape, HB9.out.output, HB9.out.size, HB9.out.block⟩)
              generalize w9.drewN nq = w10 at *
              go_wp2
              first
                | exact ⟨⟨k + (g + r), f, _, _, _, _, p ++ varL g ++ varL r ++ CB, HKk.out.1, by rw [HZ.out], by rw [HZ.out], Lib.hid (fun h => HADD.out _ _ _ _ h), HFF, HR10, HTT, HP3, HB10⟩, (Nat.lt_of_le_of_lt (Nat.zero_le _) HKk.out.2.2)⟩
                | (go_roundw
                   · exact ⟨k + (g + r), f, _, _, _, _, p ++ varL g ++ varL r ++ CB, HKk.out.1, by rw [HZ.out], by rw [HZ.out], Lib.hid (fun h => HADD.out _ _ _ _ h), HFF, HR10, HTT, HP3, HB10⟩
                   · exact (Nat.lt_of_le_of_lt (Nat.zero_le _) HKk.out.2.2))
            · have g10 : ¬ Q2 = r := fun e => h2 e.symm
              clear h2
              go_quiet (fail)
              have HR10 := Lib.hid (show Rb (w9.drewN nq) w.heap.size v9 (p ++ varL g ++ varL r ++ CB) from HR9.out)
              have HB10 := Lib.hid (show Below w.heap.size w (w9.drewN nq) from ⟨HB9.out.os, HB9.out.tape, HB9.out.output, HB9.out.size, HB9.out.block⟩)
              generalize w9.drewN nq = w10 at *
              go_wp2
              first
                | exact ⟨⟨k + (g + r), f, _, _, _, _, p ++ varL g ++ varL r ++ CB, HKk.out.1, by rw [HZ.out], by rw [HZ.out], Lib.hid (fun h => HADD.out _ _ _ _ h), HFF, HR10, HTT, HP3, HB10⟩, (Nat.lt_of_le_of_lt (Nat.zero_le _) HKk.out.2.2)⟩
                | (go_roundw
                   · exact ⟨k + (g + r), f, _, _, _, _, p ++ varL g ++ varL r ++ CB, HKk.out.1, by rw [HZ.out], by rw [HZ.out], Lib.hid (fun h => HADD.out _ _ _ _ h), HFF, HR10, HTT, HP3, HB10⟩
                   · exact (Nat.lt_of_le_of_lt (Nat.zero_le _) HKk.out.2.2))
        · have g9 : ¬ Q1 = r := by have := HQ.out; omega
          have g10 : ¬ Q2 = r := by have := HQ.out; omega
          have HADD := Lib.hid (show k + (g + r) < n → n - (k + (g + r)) ≤ Q1 - r ∧ n - (k + (g + r)) ≤ Q2 - r by have := HQ.out; have := HKk.out; omega)
          go_quiet (fail)
          have HR10 := Lib.hid (show Rb (w9.drewN nq) w.heap.size v9 (p ++ varL g ++ varL r ++ CB) from HR9.out)
          have HB10 := Lib.hid (show Below w.heap.size w (w9.drewN nq) from ⟨HB9.out.os, HB9.out.tape, HB9.out.output, HB9.out.size, HB9.out.block⟩)
          generalize w9.drewN nq = w10 at *
          go_wp2
          first
            | exact ⟨⟨k + (g + r), f, _, _, _, _, p ++ varL g ++ varL r ++ CB, HKk.out.1, by rw [HKk.out.2.1], by rw [HKk.out.2.1], Lib.hid (fun h => ⟨by rw [HAD3.out], by rw [HAD4.out], (HADD.out h).1, (HADD.out h).2⟩), HFF, HR10, HTT, HP3, HB10⟩, HKk.out.2.2⟩
            | (go_roundw
               · exact ⟨k + (g + r), f, _, _, _, _, p ++ varL g ++ varL r ++ CB, HKk.out.1, by rw [HKk.out.2.1], by rw [HKk.out.2.1], Lib.hid (fun h => ⟨by rw [HAD3.out], by rw [HAD4.out], (HADD.out h).1, (HADD.out h).2⟩), HFF, HR10, HTT, HP3, HB10⟩
               · exact HKk.out.2.2)
    · obtain rfl : k = n := by omega
      have hz1 : A.drop k = [] := List.drop_of_length_le (by have := HN1.out; omega)
      have hz2 : B.drop k = [] := List.drop_of_length_le (by have := HN2.out; omega)
      have HE := Lib.hid (show p = T by have h := HC.out; rw [strF_end (by rw [hz1]; rfl), List.append_nil] at h; exact h)
      have HCT := Lib.hid (countC true ad1 ad2 0 0 q1 q2 [] [] wr ⟨rfl, Nat.zero_le _, .inl rfl⟩ ⟨rfl, Nat.zero_le _, .inl rfl⟩ (Nat.le_refl _) (by omega))
      rw [cnt_nil] at HCT
      rw [Nat.sub_self]
      clear hk hlt hz1 hz2
      go_wp2_with (first
        | (go_at_call 88; (with_reducible refine HCT.out.mono ?_); rintro e w2 ⟨rfl, kk, hkk⟩; have HB2 := Lib.hid (show Below w.heap.size w w2 by rw [← hkk]; exact ⟨HB.out.os, HB.out.tape, HB.out.output, HB.out.size, HB.out.block⟩); have HR2 := Lib.hid (show Rb w2 w.heap.size u5 p by rw [← hkk]; exact HR.out); clear hkk))
      go_ret
      exact ⟨_, rfl, by rw [← HE.out]; exact HR2.out, HB2.out⟩
end Go.Proofs.Ytfogbokifbjjlaa.Db
/- What leads from screen to screen, ahead of the cells (diff.head). -/
set_option linter.unusedVariables false
namespace Go.Proofs.Ytfogbokifbjjlaa.Dc
open Go Go.RowKit Kit Gm Gv Crc Var Bytes WireFirst Copy Ap Sa Sb Sd La Lb Lc Pb Da Db

/-- the four numbers ahead. -/
def four (s : Scr) (k : Nat) : Int := [s.row, s.col, numB s.hid, (s.ti.size : Int)].getD k 0
def hP (s : Scr) : Nat → List Nat
  | 0 => varL 0
  | k + 1 => hP s k ++ varL (un (four s k))
def dheadL (s : Scr) : List Nat := hP s 4 ++ byL s.ti
theorem hP_len (s : Scr) (k : Nat) : (hP s k).length ≤ 10 * k + 1 := by
  induction k with
  | zero => rw [hP, varL_small (by omega)]; simp
  | succ k ih => have := var_le (four s k); simp only [hP, List.length_append]; omega
theorem idxF (s : Scr) (k : Nat) (h : k < 4) (w : World) : (Instr.index 99 (.agg #[.int .i64 s.row, .int .i64 s.col, .int .i64 (numB s.hid), .int .i64 (s.ti.size : Int)]) (.int .i64 (k : Int))).run Try.prog w = .ok (.int .i64 (four s k)) w := by
  match k, h with
  | 0, _ => exact (show (Instr.index 99 (.agg #[.int .i64 s.row, .int .i64 s.col, .int .i64 (numB s.hid), .int .i64 (s.ti.size : Int)]) (.int .i64 0)).run Try.prog w = .ok (.int .i64 s.row) w by kernel_rfl)
  | 1, _ => exact (show (Instr.index 99 (.agg #[.int .i64 s.row, .int .i64 s.col, .int .i64 (numB s.hid), .int .i64 (s.ti.size : Int)]) (.int .i64 1)).run Try.prog w = .ok (.int .i64 s.col) w by kernel_rfl)
  | 2, _ => exact (show (Instr.index 99 (.agg #[.int .i64 s.row, .int .i64 s.col, .int .i64 (numB s.hid), .int .i64 (s.ti.size : Int)]) (.int .i64 2)).run Try.prog w = .ok (.int .i64 (numB s.hid)) w by kernel_rfl)
  | 3, _ => exact (show (Instr.index 99 (.agg #[.int .i64 s.row, .int .i64 s.col, .int .i64 (numB s.hid), .int .i64 (s.ti.size : Int)]) (.int .i64 3)).run Try.prog w = .ok (.int .i64 (s.ti.size : Int)) w by kernel_rfl)
set_option maxRecDepth 100000 in
set_option maxHeartbeats 4000000 in
/-- diff.head. -/
theorem headC (s : Scr) (a : Option Addr) (n cap : Nat) (w : World) (ht : s.ti.size ≤ 100000) : Calls Try.prog 64 #[svA s a n cap] w (RbQ w (dheadL s)) := by
  have HI := Lib.hid (fun (k : Nat) (h : k < 4) => idxF s k h)
  have HV := Lib.hid (fun n w => varR n w)
  have HV0 := Lib.hid (fun w => (show Calls Try.prog 40 #[.int .u64 0] w (RbQ w (varL 0)) from varR 0 w))
  have HN := Lib.hid (fun k => (show hP s (k + 1) = hP s k ++ varL (un (four s k)) from rfl))
  have HH := Lib.hid (hP_len s)
  have H0 := Lib.hid (show hP s 0 = varL 0 from rfl)
  have HE := Lib.hid (show dheadL s = hP s 4 ++ byL s.ti from rfl)
  have HTI := Lib.hid ht
  obtain ⟨F, hF⟩ : ∃ F, F = four s := ⟨_, rfl⟩
  obtain ⟨O, hO⟩ : ∃ O, O = hP s := ⟨_, rfl⟩
  obtain ⟨E, hE⟩ : ∃ E, E = dheadL s := ⟨_, rfl⟩
  rw [← hF] at HI HN
  rw [← hO] at HN HH H0 HE
  rw [← hE] at HE ⊢
  clear hF hO hE ht
  obtain ⟨R, C, row, col, hid, ti⟩ := s
  dsimp only at HI HN HE HTI
  generalize hnb : numB hid = nb at *
  have hb := below_one w (svO ⟨R, C, row, col, hid, ti⟩ a n cap)
  obtain ⟨c0, c1, c2, c3, c4, c5, c6⟩ := seven (heap_alloc_last w (svO ⟨R, C, row, col, hid, ti⟩ a n cap))
  dsimp only [svO] at hb c0 c1 c2 c3 c4 c5 c6
  generalize hw1 : w.alloc (.cells #[.int .i64 R, .int .i64 C, .slice a n cap, .int .i64 row, .int .i64 col, .bool hid, .string ti] 24) = w1 at *
  have HB := Lib.hid hb
  have HCI := Lib.hid c6
  clear hb
  cases hid
  all_goals
    obtain rfl := (show _ = nb from hnb)
    unfold numB at HI
    simp only [if_true, if_false, Bool.false_eq_true] at HI
    go_enter Try.func64, Try.ntmps64
    go_wp2_with (go_at_call 40; (with_reducible refine (HV0.out _).mono ?_); rintro e w2 ⟨v2, rfl, hr, hb⟩; have HB2 := Lib.hid (below_then HB.out hb HB.out.size); have HR2 := Lib.hid (show Rb w2 w1.heap.size v2 (O 0) by rw [H0.out]; exact hr); have HB1 := Lib.hid hb; replace c3 := cell_then hb (Nat.le_refl _) c3; replace c4 := cell_then hb (Nat.le_refl _) c4; replace c6 := cell_then hb (Nat.le_refl _) c6; clear hb hr)
    have HC6 := Lib.hid c6
    clear c0 c1 c2 c3 c4 c5 c6 hw1
    go_loopw [4, 19] (fun s4 s19 wr => ∃ k : Nat, k ≤ 4 ∧ s19 = .int .i64 k ∧ Hid (Rb wr w1.heap.size s4 (O k)) ∧ Hid (Below w1.heap.size w1 wr) ∧ Hid (wr.cell? ⟨w.heap.size, 6, none⟩ = some (.string ti))) (fun _ s19 _ => 4 - (intOf s19).toNat)
    case atStart => exact ⟨0, Nat.zero_le _, rfl, HR2, HB1, HC6⟩
    case round =>
      obtain ⟨k, hk, rfl, HR, HBr, HCr⟩ := hrel
      by_cases hlt : k < 4
      · have HKk := Lib.hid (show k + 1 ≤ 4 ∧ 4 - (k + 1) < 4 - k by omega)
        have hkI : (k : Int) < 4 := by omega
        have hi := HI.out k hlt
        have HNX := Lib.hid (HN.out k)
        have HL := Lib.hid (show (O k).length + (varL (un (F k))).length ≤ 1000000 by have := HH.out k; have := var_le (F k); omega)
        have hw1 : IntKind.i64.wrap ((k : Int) + 1) = (k : Int) + 1 := IntWalk.i64_in _ (by omega)
        clear hk
        generalize F k = x at *
        go_wp2_with (first
          | (go_at_call 40; (with_reducible refine (HV.out _ _).mono ?_); rintro e w4 ⟨v2, rfl, hr, hb⟩; obtain ⟨a2, c2, rfl, hc2, hs2, ha2, hx2⟩ := rb_sl hr; have HB4 := Lib.hid (below_then HBr.out hb HBr.out.size); have HR4 := Lib.hid (rb_then HR.out hb (Nat.le_refl _)); have HSL := Lib.hid hs2; have HA2 := Lib.hid ha2; have HC4 := Lib.hid (cell_then hb (Nat.le_refl _) HCr.out); clear hr hb hs2 hx2 ha2 hc2)
          | (at_builtin; refine app_sl rfl _ _ rfl w1.heap.size _ (O k) rfl HR4.out a2 _ c2 (varL (un x)) rfl rfl HA2.out HSL.out HL.out HB4.out.size ?_; intro v5 w5 hr5 hb5; have HR5 := Lib.hid (show Rb w5 w1.heap.size v5 (O (k + 1)) by rw [HNX.out]; exact hr5); have HB5 := Lib.hid (hb5 _ _ (Nat.le_refl _) HB4.out); have HC5 := Lib.hid (cell_then HB5.out (Nat.le_refl _) HCI.out); clear hr5 hb5))
        first
          | exact ⟨⟨k + 1, HKk.out.1, by go_num, HR5, HB5, HC5⟩, by simp only [intOf]; exact HKk.out.2⟩
          | (go_roundw
             · exact ⟨k + 1, HKk.out.1, by go_num, HR5, HB5, HC5⟩
             · simp only [intOf]; exact HKk.out.2)
      · obtain rfl : k = 4 := by omega
        have y6 := HCr.out
        have HL6 := Lib.hid (show (O 4).length + ti.size ≤ 1000000 by have := HH.out 4; have := HTI.out; omega)
        clear hk hlt
        go_wp2_with (at_builtin; refine app_str rfl _ _ rfl w1.heap.size _ (O 4) rfl HR.out ti rfl HL6.out HBr.out.size ?_; intro v7 w7 hr7 hb7; have HR7 := Lib.hid (show Rb w7 w.heap.size v7 E by rw [HE.out]; exact rb_base hr7 HB.out.size); have HB7 := Lib.hid (below_then HB.out (hb7 _ _ (Nat.le_refl _) HBr.out) HB.out.size); clear hr7 hb7)
        go_ret
        exact ⟨_, rfl, HR7.out, HB7.out⟩
end Go.Proofs.Ytfogbokifbjjlaa.Dc
/- What leads from screen to screen (diff.Make). -/
set_option linter.unusedVariables false
namespace Go.Proofs.Ytfogbokifbjjlaa.Dd
open Go Go.RowKit Kit Gm Gv Crc Var Bytes WireFirst Copy Ap Sa Sb Sd La Lb Lc Ld Oe Na Nb Ti Tk Pb Da Db Dc

theorem strF_len : ∀ (f : Nat) (A B : List Ce), A.length = B.length → A.length < 9223372036854775808 → (strF f A B).length ≤ 80 * A.length
  | 0, A, B, _, _ => by simp [strF]
  | f + 1, A, B, h, hs => by
    by_cases hg : cnt true A B = A.length
    · rw [strF_end hg]; simp
    · have h1 := cnt_le true A B
      have h2 := cnt_next A B h (by omega)
      have h3 := cnt_le false (A.drop (cnt true A B)) (B.drop (cnt true A B))
      rw [strF_step rfl hg rfl]
      generalize cnt true A B = g at *
      generalize cnt false (A.drop g) (B.drop g) = r at *
      rw [List.length_drop] at h3
      have h4 := strF_len f (A.drop (g + r)) (B.drop (g + r)) (by rw [List.length_drop, List.length_drop, h]) (by rw [List.length_drop]; omega)
      have e : ((B.drop g).take r).length = r := by rw [List.length_take, List.length_drop]; omega
      have h5 := cellsB_len _ ((B.drop g).take r) (Nat.le_refl _) (by rw [e]; omega)
      have h6 := varL_ten (n := g) (by omega)
      have h7 := varL_ten (n := r) (by omega)
      rw [e] at h5
      rw [List.length_drop] at h4
      simp only [List.length_append]
      omega
theorem dhead_len (s : Scr) : (dheadL s).length ≤ 41 + s.ti.size := by
  have := hP_len s 4
  unfold dheadL
  rw [List.length_append, byL_len]; omega
theorem enc_tight (s : Scr) (L : List Ce) (h : MayS s L) : (encL s L).length ≤ 900000 := by
  obtain ⟨h1, h2⟩ := h.len
  have h3 := cellsB_len L.length L (Nat.le_refl _) (by omega)
  have h4 := titleB_le h.2.2.2.1
  have a1 := var_le s.R; have a2 := var_le s.C; have a3 := var_le s.row; have a4 := var_le s.col; have a5 := var_le (numB s.hid); have a6 := var_le (s.ti.size : Int)
  have e := congrArg List.length (six_enc s L)
  have b := byL_len s.ti
  simp only [List.length_append] at e
  omega
/-- what Make writes. -/
def makeP (s : Scr) (L : List Ce) (t : Scr) (M : List Ce) : List Nat := if s.R = t.R ∧ s.C = t.C then dheadL t ++ strS L M else varL 1 ++ encL t M
theorem wp_app_sl {o : Oper} {a : Act} {K : Act → World → Prop} {Q : Exit → Act → World → Prop} {w : World} (s x : Operand)
    (ho : o.op = .call { callee := .builtin .append, args := #[s, x], argTypes := #[27, 27] }) (base : Nat) (v : Value) (l : List Nat) (hs : a.eval s = v) (hown : Rb w base v l)
    (ad : Option Addr) (n cap : Nat) (m : List Nat) (hx : a.eval x = .slice ad n cap) (hn : n = m.length) (h0 : ad = none → cap = 0) (hm : Sl w ad m) (hlen : l.length + m.length ≤ 1000000) (hbase : base ≤ w.heap.size)
    (h : ∀ v' w', Rb w' base v' (l ++ m) → (∀ B W0, B ≤ base → Below B W0 w → Below B W0 w') → K (a.put o.dst v') w') : o.wp Try.prog a w K Q := by
  subst hn
  obtain ⟨i0, hi, hz0, hz1, hz2⟩ := info_parts info5
  cases ad with
  | none =>
    obtain rfl := h0 rfl
    have hm0 : m = [] := by
      rcases hm with h | ⟨_, _, e, _⟩
      · exact h
      · cases e
    subst hm0
    have hrun := run_append_owned_none (P := Try.prog) (w := w) base 27 o.type 5 i0 1 Try.underlying27 hi v _ _ hown
    have hx' : a.eval x = .slice none 0 0 := hx
    unfold Oper.wp
    simp [execOp, ho, resolve, invoke, builtin, hs, hx', hrun, Result.andThen]
    exact h v w (by rw [List.append_nil]; exact hown) (fun _ _ _ hb => hb)
  | some y =>
    refine wp_append_own w s x 27 ho base 5 i0 (.int .u8 0) 1 1 Try.underlying27 hi hz0 hz1 hz2 rfl (by decide) v _ _ hs hown y m.length cap (cellsOf m) hx (by simp [cellsOf]) (sl_cells hm) cellsOf_one (by unfold maxLen; omega) (by omega) hbase ?_
    intro v' w' h2 h3 _
    refine h v' w' ?_ (fun B W0 hB hb => hb.grown h3 (Nat.le_trans hB hbase) (fun j hj => Nat.le_trans hB (hown.lt j hj).1))
    rw [cellsOf_app] at h2
    exact rb_of h2 (by simp) rfl
set_option maxRecDepth 100000 in
set_option maxHeartbeats 4000000 in
theorem make_no1 (R C row col : Int) (hid : Bool) (ti : ByteArray) (R2 C2 row2 col2 : Int) (hid2 : Bool) (ti2 : ByteArray) (a1 : Option Addr) (n1 c1 : Nat) (L : List Ce) (a2 : Option Addr) (n2 c2 : Nat) (M : List Ce) (W : World) (h1 : ScA W a1 n1 c1 L) (h2 : ScA W a2 n2 c2 M) (f1 : n1 ≤ 1000000 ∧ ti.size ≤ 1000000) (f2 : n2 ≤ 1000000 ∧ ti2.size ≤ 1000000) (m1 : ¬ MayS ⟨R, C, row, col, hid, ti⟩ L) :
    Calls Try.prog 34 #[svA ⟨R, C, row, col, hid, ti⟩ a1 n1 c1, svA ⟨R2, C2, row2, col2, hid2, ti2⟩ a2 n2 c2] W fun e w' => e = .returned (.tuple #[.slice none 0 0, .int .i64 1]) ∧ Below W.heap.size W w' := by
  have hb := below_two W (svO ⟨R, C, row, col, hid, ti⟩ a1 n1 c1) (svO ⟨R2, C2, row2, col2, hid2, ti2⟩ a2 n2 c2)
  obtain ⟨hA, hZ⟩ := two_heap W (svO ⟨R, C, row, col, hid, ti⟩ a1 n1 c1) (svO ⟨R2, C2, row2, col2, hid2, ti2⟩ a2 n2 c2)
  obtain ⟨x0, x1, x2, x3, x4, x5, x6⟩ := seven hA
  obtain ⟨y0, y1, y2, y3, y4, y5, y6⟩ := seven hZ
  dsimp only [svO] at hb x0 x1 x2 x3 x4 x5 x6 y0 y1 y2 y3 y4 y5 y6
  generalize hw0 : (W.alloc (.cells #[.int .i64 R, .int .i64 C, .slice a1 n1 c1, .int .i64 row, .int .i64 col, .bool hid, .string ti] 24)).alloc (.cells #[.int .i64 R2, .int .i64 C2, .slice a2 n2 c2, .int .i64 row2, .int .i64 col2, .bool hid2, .string ti2] 24) = w0 at *
  have HB0 := Lib.hid hb
  have HMAY1 := Lib.hid (fun w1 (hb : Below W.heap.size W w1) => mayNoA ⟨R, C, row, col, hid, ti⟩ a1 n1 c1 L w1 (h1.then_ hb (Nat.le_refl _)) f1 m1)
  clear hb hA hZ h1 h2 f1 f2 m1
  go_enter Try.func34, Try.ntmps34
  go_wp2_with (first
    | (go_at_call 28; (with_reducible refine (HMAY1.out w0 HB0.out).mono ?_); rintro e w1 ⟨rfl, hb⟩; have HB1 := Lib.hid (below_then HB0.out hb HB0.out.size); replace x0 := cell_then hb (Nat.le_refl _) x0; replace x1 := cell_then hb (Nat.le_refl _) x1; replace x2 := cell_then hb (Nat.le_refl _) x2; replace x3 := cell_then hb (Nat.le_refl _) x3; replace x4 := cell_then hb (Nat.le_refl _) x4; replace x5 := cell_then hb (Nat.le_refl _) x5; replace x6 := cell_then hb (Nat.le_refl _) x6; replace y0 := cell_then hb (Nat.le_refl _) y0; replace y1 := cell_then hb (Nat.le_refl _) y1; replace y2 := cell_then hb (Nat.le_refl _) y2; replace y3 := cell_then hb (Nat.le_refl _) y3; replace y4 := cell_then hb (Nat.le_refl _) y4; replace y5 := cell_then hb (Nat.le_refl _) y5; replace y6 := cell_then hb (Nat.le_refl _) y6; clear hb ))
  go_ret2
  exact ⟨rfl, HB1.out⟩
set_option maxRecDepth 100000 in
set_option maxHeartbeats 4000000 in
theorem make_no2 (R C row col : Int) (hid : Bool) (ti : ByteArray) (R2 C2 row2 col2 : Int) (hid2 : Bool) (ti2 : ByteArray) (a1 : Option Addr) (n1 c1 : Nat) (L : List Ce) (a2 : Option Addr) (n2 c2 : Nat) (M : List Ce) (W : World) (h1 : ScA W a1 n1 c1 L) (h2 : ScA W a2 n2 c2 M) (f1 : n1 ≤ 1000000 ∧ ti.size ≤ 1000000) (f2 : n2 ≤ 1000000 ∧ ti2.size ≤ 1000000) (m1 : MayS ⟨R, C, row, col, hid, ti⟩ L) (m2 : ¬ MayS ⟨R2, C2, row2, col2, hid2, ti2⟩ M) :
    Calls Try.prog 34 #[svA ⟨R, C, row, col, hid, ti⟩ a1 n1 c1, svA ⟨R2, C2, row2, col2, hid2, ti2⟩ a2 n2 c2] W fun e w' => e = .returned (.tuple #[.slice none 0 0, .int .i64 1]) ∧ Below W.heap.size W w' := by
  have hb := below_two W (svO ⟨R, C, row, col, hid, ti⟩ a1 n1 c1) (svO ⟨R2, C2, row2, col2, hid2, ti2⟩ a2 n2 c2)
  obtain ⟨hA, hZ⟩ := two_heap W (svO ⟨R, C, row, col, hid, ti⟩ a1 n1 c1) (svO ⟨R2, C2, row2, col2, hid2, ti2⟩ a2 n2 c2)
  obtain ⟨x0, x1, x2, x3, x4, x5, x6⟩ := seven hA
  obtain ⟨y0, y1, y2, y3, y4, y5, y6⟩ := seven hZ
  dsimp only [svO] at hb x0 x1 x2 x3 x4 x5 x6 y0 y1 y2 y3 y4 y5 y6
  generalize hw0 : (W.alloc (.cells #[.int .i64 R, .int .i64 C, .slice a1 n1 c1, .int .i64 row, .int .i64 col, .bool hid, .string ti] 24)).alloc (.cells #[.int .i64 R2, .int .i64 C2, .slice a2 n2 c2, .int .i64 row2, .int .i64 col2, .bool hid2, .string ti2] 24) = w0 at *
  have HB0 := Lib.hid hb
  have HMAY1 := Lib.hid (fun w1 (hb : Below W.heap.size W w1) => mayYesA ⟨R, C, row, col, hid, ti⟩ a1 n1 c1 L w1 (h1.then_ hb (Nat.le_refl _)) f1 m1)
  have HMAY2 := Lib.hid (fun w1 (hb : Below W.heap.size W w1) => mayNoA ⟨R2, C2, row2, col2, hid2, ti2⟩ a2 n2 c2 M w1 (h2.then_ hb (Nat.le_refl _)) f2 m2)
  clear hb hA hZ h1 h2 f1 f2 m1 m2
  go_enter Try.func34, Try.ntmps34
  go_wp2_with (first
    | (go_at_call 28; (with_reducible refine (HMAY1.out w0 HB0.out).mono ?_); rintro e w1 ⟨rfl, hb⟩; have HB1 := Lib.hid (below_then HB0.out hb HB0.out.size); replace x0 := cell_then hb (Nat.le_refl _) x0; replace x1 := cell_then hb (Nat.le_refl _) x1; replace x2 := cell_then hb (Nat.le_refl _) x2; replace x3 := cell_then hb (Nat.le_refl _) x3; replace x4 := cell_then hb (Nat.le_refl _) x4; replace x5 := cell_then hb (Nat.le_refl _) x5; replace x6 := cell_then hb (Nat.le_refl _) x6; replace y0 := cell_then hb (Nat.le_refl _) y0; replace y1 := cell_then hb (Nat.le_refl _) y1; replace y2 := cell_then hb (Nat.le_refl _) y2; replace y3 := cell_then hb (Nat.le_refl _) y3; replace y4 := cell_then hb (Nat.le_refl _) y4; replace y5 := cell_then hb (Nat.le_refl _) y5; replace y6 := cell_then hb (Nat.le_refl _) y6; clear hb )
    | (go_at_call 28; (with_reducible refine (HMAY2.out w1 HB1.out).mono ?_); rintro e w2 ⟨rfl, hb⟩; have HB2 := Lib.hid (below_then HB1.out hb HB1.out.size); replace x0 := cell_then hb (Nat.le_refl _) x0; replace x1 := cell_then hb (Nat.le_refl _) x1; replace x2 := cell_then hb (Nat.le_refl _) x2; replace x3 := cell_then hb (Nat.le_refl _) x3; replace x4 := cell_then hb (Nat.le_refl _) x4; replace x5 := cell_then hb (Nat.le_refl _) x5; replace x6 := cell_then hb (Nat.le_refl _) x6; replace y0 := cell_then hb (Nat.le_refl _) y0; replace y1 := cell_then hb (Nat.le_refl _) y1; replace y2 := cell_then hb (Nat.le_refl _) y2; replace y3 := cell_then hb (Nat.le_refl _) y3; replace y4 := cell_then hb (Nat.le_refl _) y4; replace y5 := cell_then hb (Nat.le_refl _) y5; replace y6 := cell_then hb (Nat.le_refl _) y6; clear hb ))
  go_ret2
  exact ⟨rfl, HB2.out⟩
set_option maxRecDepth 100000 in
set_option maxHeartbeats 4000000 in
theorem make_whole0 (R C row col : Int) (hid : Bool) (ti : ByteArray) (R2 C2 row2 col2 : Int) (hid2 : Bool) (ti2 : ByteArray) (a1 : Option Addr) (n1 c1 : Nat) (L : List Ce) (a2 : Option Addr) (n2 c2 : Nat) (M : List Ce) (W : World) (h1 : ScA W a1 n1 c1 L) (h2 : ScA W a2 n2 c2 M) (f1 : n1 ≤ 1000000 ∧ ti.size ≤ 1000000) (f2 : n2 ≤ 1000000 ∧ ti2.size ≤ 1000000) (m1 : MayS ⟨R, C, row, col, hid, ti⟩ L) (m2 : MayS ⟨R2, C2, row2, col2, hid2, ti2⟩ M) (hne : ¬ R = R2) :
    Calls Try.prog 34 #[svA ⟨R, C, row, col, hid, ti⟩ a1 n1 c1, svA ⟨R2, C2, row2, col2, hid2, ti2⟩ a2 n2 c2] W fun e w' => ∃ v, e = .returned (.tuple #[v, .int .i64 0]) ∧ Rb w' W.heap.size v (makeP ⟨R, C, row, col, hid, ti⟩ L ⟨R2, C2, row2, col2, hid2, ti2⟩ M) ∧ Below W.heap.size W w' := by
  have hb := below_two W (svO ⟨R, C, row, col, hid, ti⟩ a1 n1 c1) (svO ⟨R2, C2, row2, col2, hid2, ti2⟩ a2 n2 c2)
  obtain ⟨hA, hZ⟩ := two_heap W (svO ⟨R, C, row, col, hid, ti⟩ a1 n1 c1) (svO ⟨R2, C2, row2, col2, hid2, ti2⟩ a2 n2 c2)
  obtain ⟨x0, x1, x2, x3, x4, x5, x6⟩ := seven hA
  obtain ⟨y0, y1, y2, y3, y4, y5, y6⟩ := seven hZ
  dsimp only [svO] at hb x0 x1 x2 x3 x4 x5 x6 y0 y1 y2 y3 y4 y5 y6
  generalize hw0 : (W.alloc (.cells #[.int .i64 R, .int .i64 C, .slice a1 n1 c1, .int .i64 row, .int .i64 col, .bool hid, .string ti] 24)).alloc (.cells #[.int .i64 R2, .int .i64 C2, .slice a2 n2 c2, .int .i64 row2, .int .i64 col2, .bool hid2, .string ti2] 24) = w0 at *
  have HB0 := Lib.hid hb
  have HMAY1 := Lib.hid (fun w1 (hb : Below W.heap.size W w1) => mayYesA ⟨R, C, row, col, hid, ti⟩ a1 n1 c1 L w1 (h1.then_ hb (Nat.le_refl _)) f1 m1)
  have HMAY2 := Lib.hid (fun w1 (hb : Below W.heap.size W w1) => mayYesA ⟨R2, C2, row2, col2, hid2, ti2⟩ a2 n2 c2 M w1 (h2.then_ hb (Nat.le_refl _)) f2 m2)
  have HENC := Lib.hid (fun w1 (hb : Below W.heap.size W w1) => encYesA ⟨R2, C2, row2, col2, hid2, ti2⟩ a2 n2 c2 M w1 (h2.then_ hb (Nat.le_refl _)) f2 m2)
  have HV1 := Lib.hid (fun w => (show Calls Try.prog 40 #[.int .u64 1] w (RbQ w (varL 1)) from varR 1 w))
  have HP := Lib.hid (show makeP ⟨R, C, row, col, hid, ti⟩ L ⟨R2, C2, row2, col2, hid2, ti2⟩ M = varL 1 ++ encL ⟨R2, C2, row2, col2, hid2, ti2⟩ M from if_neg (fun h => hne h.1))
  have HL := Lib.hid (show (varL 1).length + (encL ⟨R2, C2, row2, col2, hid2, ti2⟩ M).length ≤ 1000000 by have := enc_tight _ _ m2; rw [varL_small (by omega), List.length_singleton]; omega)
  rw [HP.out]
  generalize encL ⟨R2, C2, row2, col2, hid2, ti2⟩ M = X at *
  have d1 : (R != R2) = true := by rw [bne_iff_ne]; exact hne
  clear hb hA hZ h1 h2 f1 f2 m1 m2 hne
  go_enter Try.func34, Try.ntmps34
  go_wp2_with (first
    | (go_at_call 28; (with_reducible refine (HMAY1.out w0 HB0.out).mono ?_); rintro e w1 ⟨rfl, hb⟩; have HB1 := Lib.hid (below_then HB0.out hb HB0.out.size); replace x0 := cell_then hb (Nat.le_refl _) x0; replace x1 := cell_then hb (Nat.le_refl _) x1; replace x2 := cell_then hb (Nat.le_refl _) x2; replace x3 := cell_then hb (Nat.le_refl _) x3; replace x4 := cell_then hb (Nat.le_refl _) x4; replace x5 := cell_then hb (Nat.le_refl _) x5; replace x6 := cell_then hb (Nat.le_refl _) x6; replace y0 := cell_then hb (Nat.le_refl _) y0; replace y1 := cell_then hb (Nat.le_refl _) y1; replace y2 := cell_then hb (Nat.le_refl _) y2; replace y3 := cell_then hb (Nat.le_refl _) y3; replace y4 := cell_then hb (Nat.le_refl _) y4; replace y5 := cell_then hb (Nat.le_refl _) y5; replace y6 := cell_then hb (Nat.le_refl _) y6; clear hb )
    | (go_at_call 28; (with_reducible refine (HMAY2.out w1 HB1.out).mono ?_); rintro e w2 ⟨rfl, hb⟩; have HB2 := Lib.hid (below_then HB1.out hb HB1.out.size); replace x0 := cell_then hb (Nat.le_refl _) x0; replace x1 := cell_then hb (Nat.le_refl _) x1; replace x2 := cell_then hb (Nat.le_refl _) x2; replace x3 := cell_then hb (Nat.le_refl _) x3; replace x4 := cell_then hb (Nat.le_refl _) x4; replace x5 := cell_then hb (Nat.le_refl _) x5; replace x6 := cell_then hb (Nat.le_refl _) x6; replace y0 := cell_then hb (Nat.le_refl _) y0; replace y1 := cell_then hb (Nat.le_refl _) y1; replace y2 := cell_then hb (Nat.le_refl _) y2; replace y3 := cell_then hb (Nat.le_refl _) y3; replace y4 := cell_then hb (Nat.le_refl _) y4; replace y5 := cell_then hb (Nat.le_refl _) y5; replace y6 := cell_then hb (Nat.le_refl _) y6; clear hb )
    | (go_at_call 14; (with_reducible refine (HENC.out w2 HB2.out).mono ?_); rintro e w3 ⟨qx, ox, cx, rfl, hcx, hsx, hb⟩; have HB3 := Lib.hid (below_then HB2.out hb HB2.out.size); replace x0 := cell_then hb (Nat.le_refl _) x0; replace x1 := cell_then hb (Nat.le_refl _) x1; replace x2 := cell_then hb (Nat.le_refl _) x2; replace x3 := cell_then hb (Nat.le_refl _) x3; replace x4 := cell_then hb (Nat.le_refl _) x4; replace x5 := cell_then hb (Nat.le_refl _) x5; replace x6 := cell_then hb (Nat.le_refl _) x6; replace y0 := cell_then hb (Nat.le_refl _) y0; replace y1 := cell_then hb (Nat.le_refl _) y1; replace y2 := cell_then hb (Nat.le_refl _) y2; replace y3 := cell_then hb (Nat.le_refl _) y3; replace y4 := cell_then hb (Nat.le_refl _) y4; replace y5 := cell_then hb (Nat.le_refl _) y5; replace y6 := cell_then hb (Nat.le_refl _) y6; have X_3 := Lib.hid hsx; clear hb hcx hsx)
    | (go_at_call 40; (with_reducible refine (HV1.out w3).mono ?_); rintro e w4 ⟨v5, rfl, hr, hb⟩; have HB4 := Lib.hid (below_then HB3.out hb HB3.out.size); have X_4 := Lib.hid (sl_then hb (Nat.le_refl _) X_3.out); have HR5 := Lib.hid (rb_base hr HB3.out.size); clear hb hr)
    | (at_builtin; refine app_sl rfl _ _ rfl W.heap.size _ (varL 1) rfl HR5.out (some ⟨qx, ox, none⟩) _ cx X rfl rfl (fun h => by cases h) X_4.out HL.out HB4.out.size ?_; intro v6 w6 hr6 hb6; have HR6 := Lib.hid hr6; have HB6 := Lib.hid (hb6 _ _ (Nat.le_refl _) HB4.out); clear hr6 hb6))
  go_ret2
  exact ⟨_, rfl, HR6.out, HB6.out⟩
set_option maxRecDepth 100000 in
set_option maxHeartbeats 4000000 in
theorem make_whole1 (R C row col : Int) (hid : Bool) (ti : ByteArray) (R2 C2 row2 col2 : Int) (hid2 : Bool) (ti2 : ByteArray) (a1 : Option Addr) (n1 c1 : Nat) (L : List Ce) (a2 : Option Addr) (n2 c2 : Nat) (M : List Ce) (W : World) (h1 : ScA W a1 n1 c1 L) (h2 : ScA W a2 n2 c2 M) (f1 : n1 ≤ 1000000 ∧ ti.size ≤ 1000000) (f2 : n2 ≤ 1000000 ∧ ti2.size ≤ 1000000) (m1 : MayS ⟨R, C, row, col, hid, ti⟩ L) (m2 : MayS ⟨R2, C2, row2, col2, hid2, ti2⟩ M) (hr : R = R2) (hne : ¬ C = C2) :
    Calls Try.prog 34 #[svA ⟨R, C, row, col, hid, ti⟩ a1 n1 c1, svA ⟨R2, C2, row2, col2, hid2, ti2⟩ a2 n2 c2] W fun e w' => ∃ v, e = .returned (.tuple #[v, .int .i64 0]) ∧ Rb w' W.heap.size v (makeP ⟨R, C, row, col, hid, ti⟩ L ⟨R2, C2, row2, col2, hid2, ti2⟩ M) ∧ Below W.heap.size W w' := by
  have hb := below_two W (svO ⟨R, C, row, col, hid, ti⟩ a1 n1 c1) (svO ⟨R2, C2, row2, col2, hid2, ti2⟩ a2 n2 c2)
  obtain ⟨hA, hZ⟩ := two_heap W (svO ⟨R, C, row, col, hid, ti⟩ a1 n1 c1) (svO ⟨R2, C2, row2, col2, hid2, ti2⟩ a2 n2 c2)
  obtain ⟨x0, x1, x2, x3, x4, x5, x6⟩ := seven hA
  obtain ⟨y0, y1, y2, y3, y4, y5, y6⟩ := seven hZ
  dsimp only [svO] at hb x0 x1 x2 x3 x4 x5 x6 y0 y1 y2 y3 y4 y5 y6
  generalize hw0 : (W.alloc (.cells #[.int .i64 R, .int .i64 C, .slice a1 n1 c1, .int .i64 row, .int .i64 col, .bool hid, .string ti] 24)).alloc (.cells #[.int .i64 R2, .int .i64 C2, .slice a2 n2 c2, .int .i64 row2, .int .i64 col2, .bool hid2, .string ti2] 24) = w0 at *
  have HB0 := Lib.hid hb
  have HMAY1 := Lib.hid (fun w1 (hb : Below W.heap.size W w1) => mayYesA ⟨R, C, row, col, hid, ti⟩ a1 n1 c1 L w1 (h1.then_ hb (Nat.le_refl _)) f1 m1)
  have HMAY2 := Lib.hid (fun w1 (hb : Below W.heap.size W w1) => mayYesA ⟨R2, C2, row2, col2, hid2, ti2⟩ a2 n2 c2 M w1 (h2.then_ hb (Nat.le_refl _)) f2 m2)
  have HENC := Lib.hid (fun w1 (hb : Below W.heap.size W w1) => encYesA ⟨R2, C2, row2, col2, hid2, ti2⟩ a2 n2 c2 M w1 (h2.then_ hb (Nat.le_refl _)) f2 m2)
  have HV1 := Lib.hid (fun w => (show Calls Try.prog 40 #[.int .u64 1] w (RbQ w (varL 1)) from varR 1 w))
  have HP := Lib.hid (show makeP ⟨R, C, row, col, hid, ti⟩ L ⟨R2, C2, row2, col2, hid2, ti2⟩ M = varL 1 ++ encL ⟨R2, C2, row2, col2, hid2, ti2⟩ M from if_neg (fun h => hne h.2))
  have HL := Lib.hid (show (varL 1).length + (encL ⟨R2, C2, row2, col2, hid2, ti2⟩ M).length ≤ 1000000 by have := enc_tight _ _ m2; rw [varL_small (by omega), List.length_singleton]; omega)
  rw [HP.out]
  generalize encL ⟨R2, C2, row2, col2, hid2, ti2⟩ M = X at *
  subst hr
  have d1 : (C != C2) = true := by rw [bne_iff_ne]; exact hne
  clear hb hA hZ h1 h2 f1 f2 m1 m2 hne
  go_enter Try.func34, Try.ntmps34
  go_wp2_with (first
    | (go_at_call 28; (with_reducible refine (HMAY1.out w0 HB0.out).mono ?_); rintro e w1 ⟨rfl, hb⟩; have HB1 := Lib.hid (below_then HB0.out hb HB0.out.size); replace x0 := cell_then hb (Nat.le_refl _) x0; replace x1 := cell_then hb (Nat.le_refl _) x1; replace x2 := cell_then hb (Nat.le_refl _) x2; replace x3 := cell_then hb (Nat.le_refl _) x3; replace x4 := cell_then hb (Nat.le_refl _) x4; replace x5 := cell_then hb (Nat.le_refl _) x5; replace x6 := cell_then hb (Nat.le_refl _) x6; replace y0 := cell_then hb (Nat.le_refl _) y0; replace y1 := cell_then hb (Nat.le_refl _) y1; replace y2 := cell_then hb (Nat.le_refl _) y2; replace y3 := cell_then hb (Nat.le_refl _) y3; replace y4 := cell_then hb (Nat.le_refl _) y4; replace y5 := cell_then hb (Nat.le_refl _) y5; replace y6 := cell_then hb (Nat.le_refl _) y6; clear hb )
    | (go_at_call 28; (with_reducible refine (HMAY2.out w1 HB1.out).mono ?_); rintro e w2 ⟨rfl, hb⟩; have HB2 := Lib.hid (below_then HB1.out hb HB1.out.size); replace x0 := cell_then hb (Nat.le_refl _) x0; replace x1 := cell_then hb (Nat.le_refl _) x1; replace x2 := cell_then hb (Nat.le_refl _) x2; replace x3 := cell_then hb (Nat.le_refl _) x3; replace x4 := cell_then hb (Nat.le_refl _) x4; replace x5 := cell_then hb (Nat.le_refl _) x5; replace x6 := cell_then hb (Nat.le_refl _) x6; replace y0 := cell_then hb (Nat.le_refl _) y0; replace y1 := cell_then hb (Nat.le_refl _) y1; replace y2 := cell_then hb (Nat.le_refl _) y2; replace y3 := cell_then hb (Nat.le_refl _) y3; replace y4 := cell_then hb (Nat.le_refl _) y4; replace y5 := cell_then hb (Nat.le_refl _) y5; replace y6 := cell_then hb (Nat.le_refl _) y6; clear hb )
    | (go_at_call 14; (with_reducible refine (HENC.out w2 HB2.out).mono ?_); rintro e w3 ⟨qx, ox, cx, rfl, hcx, hsx, hb⟩; have HB3 := Lib.hid (below_then HB2.out hb HB2.out.size); replace x0 := cell_then hb (Nat.le_refl _) x0; replace x1 := cell_then hb (Nat.le_refl _) x1; replace x2 := cell_then hb (Nat.le_refl _) x2; replace x3 := cell_then hb (Nat.le_refl _) x3; replace x4 := cell_then hb (Nat.le_refl _) x4; replace x5 := cell_then hb (Nat.le_refl _) x5; replace x6 := cell_then hb (Nat.le_refl _) x6; replace y0 := cell_then hb (Nat.le_refl _) y0; replace y1 := cell_then hb (Nat.le_refl _) y1; replace y2 := cell_then hb (Nat.le_refl _) y2; replace y3 := cell_then hb (Nat.le_refl _) y3; replace y4 := cell_then hb (Nat.le_refl _) y4; replace y5 := cell_then hb (Nat.le_refl _) y5; replace y6 := cell_then hb (Nat.le_refl _) y6; have X_3 := Lib.hid hsx; clear hb hcx hsx)
    | (go_at_call 40; (with_reducible refine (HV1.out w3).mono ?_); rintro e w4 ⟨v5, rfl, hr, hb⟩; have HB4 := Lib.hid (below_then HB3.out hb HB3.out.size); have X_4 := Lib.hid (sl_then hb (Nat.le_refl _) X_3.out); have HR5 := Lib.hid (rb_base hr HB3.out.size); clear hb hr)
    | (at_builtin; refine app_sl rfl _ _ rfl W.heap.size _ (varL 1) rfl HR5.out (some ⟨qx, ox, none⟩) _ cx X rfl rfl (fun h => by cases h) X_4.out HL.out HB4.out.size ?_; intro v6 w6 hr6 hb6; have HR6 := Lib.hid hr6; have HB6 := Lib.hid (hb6 _ _ (Nat.le_refl _) HB4.out); clear hr6 hb6))
  go_ret2
  exact ⟨_, rfl, HR6.out, HB6.out⟩
set_option maxRecDepth 100000 in
set_option maxHeartbeats 8000000 in
theorem make_same (R C row col : Int) (hid : Bool) (ti : ByteArray) (R2 C2 row2 col2 : Int) (hid2 : Bool) (ti2 : ByteArray) (a1 : Option Addr) (n1 c1 : Nat) (L : List Ce) (a2 : Option Addr) (n2 c2 : Nat) (M : List Ce) (W : World) (h1 : ScA W a1 n1 c1 L) (h2 : ScA W a2 n2 c2 M) (f1 : n1 ≤ 1000000 ∧ ti.size ≤ 1000000) (f2 : n2 ≤ 1000000 ∧ ti2.size ≤ 1000000) (m1 : MayS ⟨R, C, row, col, hid, ti⟩ L) (m2 : MayS ⟨R2, C2, row2, col2, hid2, ti2⟩ M) (hr : R = R2) (hc : C = C2) :
    Calls Try.prog 34 #[svA ⟨R, C, row, col, hid, ti⟩ a1 n1 c1, svA ⟨R2, C2, row2, col2, hid2, ti2⟩ a2 n2 c2] W fun e w' => ∃ v, e = .returned (.tuple #[v, .int .i64 0]) ∧ Rb w' W.heap.size v (makeP ⟨R, C, row, col, hid, ti⟩ L ⟨R2, C2, row2, col2, hid2, ti2⟩ M) ∧ Below W.heap.size W w' := by
  subst hr hc
  obtain ⟨q1, o1, rfl⟩ := sca_some h1 m1
  obtain ⟨q2, o2, rfl⟩ := sca_some h2 m2
  have hb := below_two W (svO ⟨R, C, row, col, hid, ti⟩ (some ⟨q1, o1, none⟩) n1 c1) (svO ⟨R, C, row2, col2, hid2, ti2⟩ (some ⟨q2, o2, none⟩) n2 c2)
  obtain ⟨hA, hZ⟩ := two_heap W (svO ⟨R, C, row, col, hid, ti⟩ (some ⟨q1, o1, none⟩) n1 c1) (svO ⟨R, C, row2, col2, hid2, ti2⟩ (some ⟨q2, o2, none⟩) n2 c2)
  obtain ⟨x0, x1, x2, x3, x4, x5, x6⟩ := seven hA
  obtain ⟨y0, y1, y2, y3, y4, y5, y6⟩ := seven hZ
  dsimp only [svO] at hb x0 x1 x2 x3 x4 x5 x6 y0 y1 y2 y3 y4 y5 y6
  generalize hw0 : (W.alloc (.cells #[.int .i64 R, .int .i64 C, .slice (some ⟨q1, o1, none⟩) n1 c1, .int .i64 row, .int .i64 col, .bool hid, .string ti] 24)).alloc (.cells #[.int .i64 R, .int .i64 C, .slice (some ⟨q2, o2, none⟩) n2 c2, .int .i64 row2, .int .i64 col2, .bool hid2, .string ti2] 24) = w0 at *
  have HB0 := Lib.hid hb
  have HMAY1 := Lib.hid (fun w1 (hb : Below W.heap.size W w1) => mayYesA ⟨R, C, row, col, hid, ti⟩ (some ⟨q1, o1, none⟩) n1 c1 L w1 (h1.then_ hb (Nat.le_refl _)) f1 m1)
  have HMAY2 := Lib.hid (fun w1 (hb : Below W.heap.size W w1) => mayYesA ⟨R, C, row2, col2, hid2, ti2⟩ (some ⟨q2, o2, none⟩) n2 c2 M w1 (h2.then_ hb (Nat.le_refl _)) f2 m2)
  have hlen : n1 = n2 := by
    have g1 := h1.len; have g2 := h2.len
    have g3 := m1.2.2.2.2.1; have g4 := m2.2.2.2.2.1
    dsimp only at g3 g4; omega
  have HSTR := Lib.hid (fun w1 (hb : Below W.heap.size W w1) => stretchC q1 o1 q2 o2 n1 c1 c2 L M w1 h1.len (hlen.trans h2.len) h1.cap (hlen ▸ h2.cap) (sca_sc (h1.then_ hb (Nat.le_refl _)) m1) (sca_sc (h2.then_ hb (Nat.le_refl _)) m2) (by have := m1.len; have := h1.len; omega) (by have := m1.len; have := h1.len; omega))
  have HHEAD := Lib.hid (fun w1 => headC ⟨R, C, row2, col2, hid2, ti2⟩ (some ⟨q2, o2, none⟩) n2 c2 w1 (by have := titleB_le m2.2.2.2.1; dsimp only at this ⊢; omega))
  have HP := Lib.hid (show makeP ⟨R, C, row, col, hid, ti⟩ L ⟨R, C, row2, col2, hid2, ti2⟩ M = dheadL ⟨R, C, row2, col2, hid2, ti2⟩ ++ strS L M from if_pos ⟨rfl, rfl⟩)
  have HL := Lib.hid (show (dheadL ⟨R, C, row2, col2, hid2, ti2⟩).length + (strS L M).length ≤ 1000000 by
    have g1 := dhead_len ⟨R, C, row2, col2, hid2, ti2⟩
    have g2 := titleB_le m2.2.2.2.1
    have g3 := m1.len
    have g4 := strF_len (L.length + 1) L M (by have := h1.len; have := h2.len; omega) (by omega)
    have : (strS L M).length ≤ 80 * L.length := g4
    dsimp only at g1 g2; omega)
  rw [HP.out]
  obtain ⟨n2, rfl⟩ : ∃ k, k = n2 := ⟨_, rfl⟩
  subst hlen
  generalize dheadL ⟨R, C, row2, col2, hid2, ti2⟩ = H at *
  generalize strS L M = T at *
  clear hb hA hZ h1 h2 f1 f2 m1 m2
  go_enter Try.func34, Try.ntmps34
  go_upto_region 8 with (first
    | (go_at_call 28; (with_reducible refine (HMAY1.out w0 HB0.out).mono ?_); rintro e w1 ⟨rfl, hb⟩; have HB1 := Lib.hid (below_then HB0.out hb HB0.out.size); replace x0 := cell_then hb (Nat.le_refl _) x0; replace x1 := cell_then hb (Nat.le_refl _) x1; replace x2 := cell_then hb (Nat.le_refl _) x2; replace x3 := cell_then hb (Nat.le_refl _) x3; replace x4 := cell_then hb (Nat.le_refl _) x4; replace x5 := cell_then hb (Nat.le_refl _) x5; replace x6 := cell_then hb (Nat.le_refl _) x6; replace y0 := cell_then hb (Nat.le_refl _) y0; replace y1 := cell_then hb (Nat.le_refl _) y1; replace y2 := cell_then hb (Nat.le_refl _) y2; replace y3 := cell_then hb (Nat.le_refl _) y3; replace y4 := cell_then hb (Nat.le_refl _) y4; replace y5 := cell_then hb (Nat.le_refl _) y5; replace y6 := cell_then hb (Nat.le_refl _) y6; clear hb )
    | (go_at_call 28; (with_reducible refine (HMAY2.out w1 HB1.out).mono ?_); rintro e w2 ⟨rfl, hb⟩; have HB2 := Lib.hid (below_then HB1.out hb HB1.out.size); replace x0 := cell_then hb (Nat.le_refl _) x0; replace x1 := cell_then hb (Nat.le_refl _) x1; replace x2 := cell_then hb (Nat.le_refl _) x2; replace x3 := cell_then hb (Nat.le_refl _) x3; replace x4 := cell_then hb (Nat.le_refl _) x4; replace x5 := cell_then hb (Nat.le_refl _) x5; replace x6 := cell_then hb (Nat.le_refl _) x6; replace y0 := cell_then hb (Nat.le_refl _) y0; replace y1 := cell_then hb (Nat.le_refl _) y1; replace y2 := cell_then hb (Nat.le_refl _) y2; replace y3 := cell_then hb (Nat.le_refl _) y3; replace y4 := cell_then hb (Nat.le_refl _) y4; replace y5 := cell_then hb (Nat.le_refl _) y5; replace y6 := cell_then hb (Nat.le_refl _) y6; clear hb ))
  have KS := Lib.hid (fun (V : World) (hb : Below w2.heap.size w2 V) => (show (fun V => V.cell? ⟨W.heap.size, 2, none⟩ = some (.slice (some ⟨q1, o1, none⟩) n1 c1) ∧ V.cell? ⟨W.heap.size + 1, 0, none⟩ = some (.int .i64 R) ∧ V.cell? ⟨W.heap.size + 1, 1, none⟩ = some (.int .i64 C) ∧ V.cell? ⟨W.heap.size + 1, 2, none⟩ = some (.slice (some ⟨q2, o2, none⟩) n1 c2) ∧ V.cell? ⟨W.heap.size + 1, 3, none⟩ = some (.int .i64 row2) ∧ V.cell? ⟨W.heap.size + 1, 4, none⟩ = some (.int .i64 col2) ∧ V.cell? ⟨W.heap.size + 1, 5, none⟩ = some (.bool hid2) ∧ V.cell? ⟨W.heap.size + 1, 6, none⟩ = some (.string ti2) ∧ Below w2.heap.size w2 V) V from ⟨cell_then hb (Nat.le_refl _) x2, cell_then hb (Nat.le_refl _) y0, cell_then hb (Nat.le_refl _) y1, cell_then hb (Nat.le_refl _) y2, cell_then hb (Nat.le_refl _) y3, cell_then hb (Nat.le_refl _) y4, cell_then hb (Nat.le_refl _) y5, cell_then hb (Nat.le_refl _) y6, hb⟩))
  have KB := Lib.hid (fun (V : World) (h : (fun V => V.cell? ⟨W.heap.size, 2, none⟩ = some (.slice (some ⟨q1, o1, none⟩) n1 c1) ∧ V.cell? ⟨W.heap.size + 1, 0, none⟩ = some (.int .i64 R) ∧ V.cell? ⟨W.heap.size + 1, 1, none⟩ = some (.int .i64 C) ∧ V.cell? ⟨W.heap.size + 1, 2, none⟩ = some (.slice (some ⟨q2, o2, none⟩) n1 c2) ∧ V.cell? ⟨W.heap.size + 1, 3, none⟩ = some (.int .i64 row2) ∧ V.cell? ⟨W.heap.size + 1, 4, none⟩ = some (.int .i64 col2) ∧ V.cell? ⟨W.heap.size + 1, 5, none⟩ = some (.bool hid2) ∧ V.cell? ⟨W.heap.size + 1, 6, none⟩ = some (.string ti2) ∧ Below w2.heap.size w2 V) V) => (show Below w2.heap.size w2 V from h.2.2.2.2.2.2.2.2))
  clear x0 x1 x2 x3 x4 x5 x6 y0 y1 y2 y3 y4 y5 y6
  refine wp_region_held_drew (S := (fun V => V.cell? ⟨W.heap.size, 2, none⟩ = some (.slice (some ⟨q1, o1, none⟩) n1 c1) ∧ V.cell? ⟨W.heap.size + 1, 0, none⟩ = some (.int .i64 R) ∧ V.cell? ⟨W.heap.size + 1, 1, none⟩ = some (.int .i64 C) ∧ V.cell? ⟨W.heap.size + 1, 2, none⟩ = some (.slice (some ⟨q2, o2, none⟩) n1 c2) ∧ V.cell? ⟨W.heap.size + 1, 3, none⟩ = some (.int .i64 row2) ∧ V.cell? ⟨W.heap.size + 1, 4, none⟩ = some (.int .i64 col2) ∧ V.cell? ⟨W.heap.size + 1, 5, none⟩ = some (.bool hid2) ∧ V.cell? ⟨W.heap.size + 1, 6, none⟩ = some (.string ti2) ∧ Below w2.heap.size w2 V)) (by kernel_rfl) ?_ (fun hHeld => ?_)
  · ((try dsimp only); (first | (with_reducible exact KS.out _ hN) | (with_reducible exact hHeld) | exact KS.out _ (Below.refl _ _).drew | exact KS.out _ (Below.refl _ _)))
  refine wpAnyH_take (i := 0) (oi := { dst := some 39, op := Op.load 24 (Operand.tmp 3), type := 24, pos := _, after := #[], guard := none }) (v := ?_) rfl (by kernel_rfl) (by kernel_rfl) (by kernel_rfl) (fun _ _ _ h => h) (Or.inl ⟨by rfl, ?_⟩) (by assumption) ?_
  rotate_left
  · ((intro w hSw); (try dsimp only at hSw); go_simp; (try with_reducible rfl))
  try simp only [Act.put, List.setIfInBounds_toArray, List.set_cons_zero, List.set_cons_succ]
  refine wpAnyH_take (i := 2) (oi := { dst := some 41, op := Op.fieldAddr 24 (Operand.tmp 2) 2, type := 0, pos := _, after := #[], guard := none }) (v := ?_) rfl (by kernel_rfl) (by kernel_rfl) (by kernel_rfl) (fun _ _ _ h => h) (Or.inl ⟨by rfl, ?_⟩) (by assumption) ?_
  rotate_left
  · ((intro w hSw); (try dsimp only at hSw); go_simp; (try with_reducible rfl))
  try simp only [Act.put, List.setIfInBounds_toArray, List.set_cons_zero, List.set_cons_succ]
  refine wpAnyH_take (i := 3) (oi := { dst := some 42, op := Op.load 22 (Operand.tmp 41), type := 22, pos := _, after := #[{ on := 2, ground := Ground.data }], guard := none }) (v := ?_) rfl (by kernel_rfl) (by kernel_rfl) (by kernel_rfl) (fun _ _ _ h => h) (Or.inl ⟨by rfl, ?_⟩) (by assumption) ?_
  rotate_left
  · ((intro w hSw); (try dsimp only at hSw); go_simp; (try with_reducible rfl))
  try simp only [Act.put, List.setIfInBounds_toArray, List.set_cons_zero, List.set_cons_succ]
  refine wpAnyH_take (i := 4) (oi := { dst := some 43, op := Op.fieldAddr 24 (Operand.tmp 3) 2, type := 0, pos := _, after := #[], guard := none }) (v := ?_) rfl (by kernel_rfl) (by kernel_rfl) (by kernel_rfl) (fun _ _ _ h => h) (Or.inl ⟨by rfl, ?_⟩) (by assumption) ?_
  rotate_left
  · ((intro w hSw); (try dsimp only at hSw); go_simp; (try with_reducible rfl))
  try simp only [Act.put, List.setIfInBounds_toArray, List.set_cons_zero, List.set_cons_succ]
  refine wpAnyH_take (i := 5) (oi := { dst := some 44, op := Op.load 22 (Operand.tmp 43), type := 22, pos := _, after := #[{ on := 4, ground := Ground.data }], guard := none }) (v := ?_) rfl (by kernel_rfl) (by kernel_rfl) (by kernel_rfl) (fun _ _ _ h => h) (Or.inl ⟨by rfl, ?_⟩) (by assumption) ?_
  rotate_left
  · ((intro w hSw); (try dsimp only at hSw); go_simp; (try with_reducible rfl))
  try simp only [Act.put, List.setIfInBounds_toArray, List.set_cons_zero, List.set_cons_succ]
  refine wpAnyH_ready (rs := [1]) (by kernel_rfl) (by simp) ?_
  refine (AllReadyH.cons (o := { dst := some 40, op := Op.call { callee := Callee.value (Operand.func 64), args := #[Operand.tmp 39], argTypes := #[24] }, type := 27, pos := _, after := #[{ on := 0, ground := Ground.data }], guard := none }) rfl (fun K hK => ?_) AllReadyH.nil)
  go_simp
  (go_at_call 64; (with_reducible refine (HHEAD.out _).mono ?_); rintro e wa ⟨v4, rfl, hr, hb⟩; have hN := below_then (KB.out _ hHeld) hb (KB.out _ hHeld).size; have HRH := Lib.hid (rb_base hr (KB.out _ hHeld).size); clear hr hb)
  go_wp2_with fail
  refine hK.out _ _ ?_ (fun hHeld => ?_)
  · ((try dsimp only); (first | (with_reducible exact KS.out _ hN) | (with_reducible exact hHeld) | exact KS.out _ (Below.refl _ _).drew | exact KS.out _ (Below.refl _ _)))
  clear hK K
  try simp only [Act.put, List.setIfInBounds_toArray, List.set_cons_zero, List.set_cons_succ]
  refine wpAnyH_ready (rs := [6]) (by kernel_rfl) (by simp) ?_
  refine (AllReadyH.cons (o := { dst := some 45, op := Op.call { callee := Callee.value (Operand.func 65), args := #[Operand.tmp 42, Operand.tmp 44], argTypes := #[22, 22] }, type := 27, pos := _, after := #[{ on := 3, ground := Ground.data }, { on := 5, ground := Ground.data }, { on := 1, ground := Ground.chain }], guard := none }) rfl (fun K hK => ?_) AllReadyH.nil)
  go_simp
  (go_at_call 65; (with_reducible refine (HSTR.out _ (below_then HB2.out (KB.out _ hHeld) HB2.out.size)).mono ?_); rintro e wb ⟨v5, rfl, hr, hb⟩; obtain ⟨a5, c5, rfl, hc5, hs5, ha5, hx5⟩ := rb_sl hr; have HA5 := Lib.hid ha5; have hN2 := below_then (KB.out _ hHeld) hb (KB.out _ hHeld).size; clear hN; have hN := hN2; clear hN2; have HST2 := Lib.hid hs5; have HRH2 := Lib.hid (rb_then HRH.out hb (Nat.le_refl _)); clear hr hb hc5 hs5 ha5 hx5)
  go_wp2_with fail
  refine hK.out _ _ ?_ (fun hHeld => ?_)
  · ((try dsimp only); (first | (with_reducible exact KS.out _ hN) | (with_reducible exact hHeld) | exact KS.out _ (Below.refl _ _).drew | exact KS.out _ (Below.refl _ _)))
  clear hK K
  try simp only [Act.put, List.setIfInBounds_toArray, List.set_cons_zero, List.set_cons_succ]
  refine wpAnyH_ready (rs := [7]) (by kernel_rfl) (by simp) ?_
  refine (AllReadyH.cons (o := { dst := some 46, op := Op.call { callee := Callee.builtin Builtin.append, args := #[Operand.tmp 40, Operand.tmp 45], argTypes := #[27, 27] }, type := 27, pos := _, after := #[{ on := 1, ground := Ground.data }, { on := 6, ground := Ground.data }, { on := 6, ground := Ground.chain }], guard := none }) rfl (fun K hK => ?_) AllReadyH.nil)
  refine wp_app_sl _ _ rfl w2.heap.size _ H rfl HRH2.out a5 _ c5 T rfl rfl HA5.out HST2.out HL.out (KB.out _ hHeld).size ?_
  intro v6 w6 hr6 hb6
  have hN2 := hb6 _ _ (Nat.le_refl _) (KB.out _ hHeld)
  clear hN
  have hN := hN2
  clear hN2
  have HR6 := Lib.hid hr6
  clear hr6 hb6
  refine hK.out _ _ ?_ (fun hHeld => ?_)
  · ((try dsimp only); (first | (with_reducible exact KS.out _ hN) | (with_reducible exact hHeld) | exact KS.out _ (Below.refl _ _).drew | exact KS.out _ (Below.refl _ _)))
  clear hK K
  try simp only [Act.put, List.setIfInBounds_toArray, List.set_cons_zero, List.set_cons_succ]
  refine wpAnyH_take (i := 8) (oi := { dst := some 4, op := Op.assign (Operand.tmp 46), type := 27, pos := _, after := #[{ on := 7, ground := Ground.data }, { on := 7, ground := Ground.chain }, { on := 0, ground := Ground.phase }, { on := 1, ground := Ground.phase }, { on := 2, ground := Ground.phase }, { on := 3, ground := Ground.phase }, { on := 4, ground := Ground.phase }, { on := 5, ground := Ground.phase }, { on := 6, ground := Ground.phase }, { on := 7, ground := Ground.phase }], guard := none }) (v := ?_) rfl (by kernel_rfl) (by kernel_rfl) (by kernel_rfl) (fun _ _ _ h => h) (Or.inl ⟨by rfl, ?_⟩) (by assumption) ?_
  rotate_left
  · ((intro w hSw); (try dsimp only at hSw); go_simp; (try with_reducible rfl))
  try simp only [Act.put, List.setIfInBounds_toArray, List.set_cons_zero, List.set_cons_succ]
  refine wpAnyH_take (i := 9) (oi := { dst := some 5, op := Op.assign (Operand.const (Value.int IntKind.i64 0)), type := 28, pos := _, after := #[{ on := 8, ground := Ground.chain }, { on := 0, ground := Ground.phase }, { on := 1, ground := Ground.phase }, { on := 2, ground := Ground.phase }, { on := 3, ground := Ground.phase }, { on := 4, ground := Ground.phase }, { on := 5, ground := Ground.phase }, { on := 6, ground := Ground.phase }, { on := 7, ground := Ground.phase }, { on := 8, ground := Ground.phase }], guard := none }) (v := ?_) rfl (by kernel_rfl) (by kernel_rfl) (by kernel_rfl) (fun _ _ _ h => h) (Or.inl ⟨by rfl, ?_⟩) (by assumption) ?_
  rotate_left
  · ((intro w hSw); (try dsimp only at hSw); go_simp; (try with_reducible rfl))
  try simp only [Act.put, List.setIfInBounds_toArray, List.set_cons_zero, List.set_cons_succ]
  refine wpAnyH_done (by kernel_rfl) ?_ _
  have HB6 := Lib.hid (below_then HB2.out hN HB2.out.size)
  have HR7 := Lib.hid (rb_base HR6.out HB2.out.size)
  clear hN hHeld
  go_wp2
  go_ret2
  exact ⟨_, rfl, HR7.out, HB6.out⟩
/-- diff.Make, of two screens that may be. -/
theorem makeYes (s t : Scr) (a1 : Option Addr) (n1 c1 : Nat) (L : List Ce) (a2 : Option Addr) (n2 c2 : Nat) (M : List Ce) (W : World) (h1 : ScA W a1 n1 c1 L) (h2 : ScA W a2 n2 c2 M) (f1 : n1 ≤ 1000000 ∧ s.ti.size ≤ 1000000) (f2 : n2 ≤ 1000000 ∧ t.ti.size ≤ 1000000) (m1 : MayS s L) (m2 : MayS t M) :
    Calls Try.prog 34 #[svA s a1 n1 c1, svA t a2 n2 c2] W fun e w' => ∃ b off c, e = .returned (.tuple #[.slice (some ⟨b, off, none⟩) (makeP s L t M).length c, .int .i64 0]) ∧ (makeP s L t M).length ≤ c ∧ Sl w' (some ⟨b, off, none⟩) (makeP s L t M) ∧ Below W.heap.size W w' := by
  have K : Calls Try.prog 34 #[svA s a1 n1 c1, svA t a2 n2 c2] W fun e w' => ∃ v, e = .returned (.tuple #[v, .int .i64 0]) ∧ Rb w' W.heap.size v (makeP s L t M) ∧ Below W.heap.size W w' := by
    obtain ⟨R, C, row, col, hid, ti⟩ := s
    obtain ⟨R2, C2, row2, col2, hid2, ti2⟩ := t
    by_cases hr : R = R2
    · by_cases hc : C = C2
      · exact make_same R C row col hid ti R2 C2 row2 col2 hid2 ti2 a1 n1 c1 L a2 n2 c2 M W h1 h2 f1 f2 m1 m2 hr hc
      · exact make_whole1 R C row col hid ti R2 C2 row2 col2 hid2 ti2 a1 n1 c1 L a2 n2 c2 M W h1 h2 f1 f2 m1 m2 hr hc
    · exact make_whole0 R C row col hid ti R2 C2 row2 col2 hid2 ti2 a1 n1 c1 L a2 n2 c2 M W h1 h2 f1 f2 m1 m2 hr
  refine K.mono fun e w' ⟨v, h1, h2, h3⟩ => ?_
  obtain ⟨a, c, rfl, h4, h5, _, _⟩ := rb_sl h2
  have h7 : makeP s L t M ≠ [] := by
    intro e
    have e := congrArg List.length e
    unfold makeP at e
    split at e
    · have := varL_small (n := 0) (by omega)
      simp only [dheadL, hP, this, List.length_append, List.length_nil, List.length_singleton] at e; omega
    · have := varL_small (n := 1) (by omega)
      simp only [this, List.length_append, List.length_nil, List.length_singleton] at e; omega
  rcases h5 with h5 | ⟨b, off, rfl, h5⟩
  · exact absurd h5 h7
  · exact ⟨b, off, c, h1, h4, .inr ⟨b, off, rfl, h5⟩, h3⟩
/-- diff.Make, of others. -/
theorem makeNo (s t : Scr) (a1 : Option Addr) (n1 c1 : Nat) (L : List Ce) (a2 : Option Addr) (n2 c2 : Nat) (M : List Ce) (W : World) (h1 : ScA W a1 n1 c1 L) (h2 : ScA W a2 n2 c2 M) (f1 : n1 ≤ 1000000 ∧ s.ti.size ≤ 1000000) (f2 : n2 ≤ 1000000 ∧ t.ti.size ≤ 1000000) (m : ¬ (MayS s L ∧ MayS t M)) :
    Calls Try.prog 34 #[svA s a1 n1 c1, svA t a2 n2 c2] W fun e w' => e = .returned (.tuple #[.slice none 0 0, .int .i64 1]) ∧ Below W.heap.size W w' := by
  obtain ⟨R, C, row, col, hid, ti⟩ := s
  obtain ⟨R2, C2, row2, col2, hid2, ti2⟩ := t
  by_cases m1 : MayS ⟨R, C, row, col, hid, ti⟩ L
  · exact make_no2 R C row col hid ti R2 C2 row2 col2 hid2 ti2 a1 n1 c1 L a2 n2 c2 M W h1 h2 f1 f2 m1 (fun m2 => m ⟨m1, m2⟩)
  · exact make_no1 R C row col hid ti R2 C2 row2 col2 hid2 ti2 a1 n1 c1 L a2 n2 c2 M W h1 h2 f1 f2 m1
end Go.Proofs.Ytfogbokifbjjlaa.Dd
