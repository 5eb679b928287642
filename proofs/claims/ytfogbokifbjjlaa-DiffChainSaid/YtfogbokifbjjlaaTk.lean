/- Titles: mayTitle of any title. -/
import Derived.Test.YtfogbokifbjjlaaSi
import Derived.Laws.RangeAny
set_option linter.unusedVariables false
namespace Go.Proofs.Ytfogbokifbjjlaa.Ti
open Go Go.RowKit Kit Gm Gv Sa Sb Sd Sf Sg Sh Si

/-- does t begin with the three bytes of the sign that stands for what is broken? -/
def prefT (t : ByteArray) : Bool := decide (3 ≤ t.size) && ((t.extract 0 3).toList == [239, 191, 189])
def prefB (s : ByteArray) (p : Nat) : Bool := prefT (s.extract p s.size)
def signB (s : ByteArray) (p : Nat) : Bool := !(decide ((Utf8.decode s p).1 < 32)) && !(decide (127 ≤ (Utf8.decode s p).1 ∧ (Utf8.decode s p).1 ≤ 159)) && (!((Utf8.decode s p).1 == 65533) || prefB s p)
/-- may the rest of a title be, behind n signs? -/
def titleF (s : ByteArray) : Nat → Nat → Nat → Bool
  | 0, _, _ => true
  | f + 1, p, n => if p < s.size then (decide (n + 1 ≤ 64) && signB s p) && titleF s f (p + (Utf8.decode s p).2) (n + 1) else true
def titleB (s : ByteArray) : Bool := titleF s (s.size + 1) 0 0
theorem width_pos (s : ByteArray) (p : Nat) (h : p < s.size) : 1 ≤ (Utf8.decode s p).2 := by
  by_cases ha : (s[p]'h).toNat < 128
  · rw [decode_ascii s p h ha]; exact Nat.le_refl _
  · exact (decode_high s p h (by omega)).2
theorem width_le (s : ByteArray) (p : Nat) : (Utf8.decode s p).2 ≤ 4 := by
  simp only [Utf8.decode]
  repeat' split
  all_goals simp_all
theorem titleF_le (s : ByteArray) : ∀ (f p n : Nat), titleF s f p n = true → s.size < p + f → n ≤ 64 → s.size ≤ p + 4 * (64 - n)
  | 0, p, n, _, h, _ => by omega
  | f + 1, p, n, h, hf, hn => by
    rw [titleF] at h
    split at h
    · rename_i hp
      simp only [Bool.and_eq_true, decide_eq_true_eq] at h
      have := width_pos s p hp
      have := width_le s p
      have := titleF_le s f _ _ h.2 (by omega) h.1.1
      omega
    · omega
theorem titleB_le {s : ByteArray} (h : titleB s = true) : s.size ≤ 256 := by
  have := titleF_le s _ _ _ h (by omega) (by omega); omega
theorem prefC (t : ByteArray) (w : World) : Calls Try.prog 101 #[.string t, .string ⟨#[239, 191, 189]⟩] w fun e w' => e = .returned (.bool (prefT t)) ∧ w = w' := by
  by_cases h : 3 ≤ t.size
  · have h1 : (3 : Int) ≤ (t.size : Int) := by omega
    have HP := Lib.hid (show ((t.extract 0 3).toList == [239, 191, 189]) = prefT t by unfold prefT; rw [decide_eq_true h, Bool.true_and])
    go_enter Try.func101, Try.ntmps101
    go_wp2
    go_ret
    exact ⟨ret_bool HP.out, rfl⟩
  · have h1 : ¬ (3 : Int) ≤ (t.size : Int) := by omega
    have HP := Lib.hid (show false = prefT t by unfold prefT; rw [decide_eq_false h, Bool.false_and])
    go_enter Try.func101, Try.ntmps101
    go_wp2
    go_ret
    exact ⟨ret_bool HP.out, rfl⟩
theorem prefixC (t : ByteArray) (w : World) : Calls Try.prog 80 #[.string t, .string ⟨#[239, 191, 189]⟩] w fun e w' => e = .returned (.bool (prefT t)) ∧ w = w' := by
  have HC := Lib.hid (fun w1 => prefC t w1)
  go_enter Try.func80, Try.ntmps80
  go_wp2_with (go_at_call 101; (with_reducible refine (HC.out _).mono ?_); rintro e w' ⟨rfl, rfl⟩)
  go_ret
  exact ⟨rfl, rfl⟩
/-- the round's verdict. -/
theorem title_stop {s : ByteArray} {f p n : Nat} (h : p < s.size) (hb : (decide (n + 1 ≤ 64) && signB s p) = false) : titleF s (f + 1) p n = false := by
  rw [titleF, if_pos h, hb, Bool.false_and]
theorem title_on {s : ByteArray} {f p n : Nat} (h : p < s.size) (hb : (decide (n + 1 ≤ 64) && signB s p) = true) : titleF s (f + 1) p n = titleF s f (p + (Utf8.decode s p).2) (n + 1) := by
  rw [titleF, if_pos h, hb, Bool.true_and]
theorem title_end {s : ByteArray} {f p n : Nat} (h : ¬ p < s.size) : titleF s f p n = true := by
  cases f with
  | zero => rfl
  | succ f => rw [titleF, if_neg h]
set_option maxRecDepth 100000 in
set_option maxHeartbeats 4000000 in
theorem titleC (s : ByteArray) (w : World) (hs : s.size ≤ 1000000) : Calls Try.prog 56 #[.string s] w fun e w' => e = .returned (.bool (titleB s)) ∧ Below w.heap.size w w' := by
  have hr : (Instr.range 9 (.string s)).run Try.prog w = .ok (.pointer (some ⟨w.heap.size, 0, none⟩)) (w.iter s 0) := run_range_string w 9 s Try.underlying9
  have HB := Lib.hid (fun p => show Below w.heap.size w (w.iter s p) from below_one w _)
  have HS := Lib.hid hs
  clear hs
  go_enter Try.func56, Try.ntmps56
  go_wp2
  go_loopw [3] (fun s3 wr => ∃ (p n f : Nat), n ≤ 64 ∧ s3 = .int .i64 n ∧ wr = w.iter s p ∧ Hid (s.size < p + f) ∧ Hid (titleF s f p n = titleB s)) (fun _ wr => s.size - wr.iterPos w.heap.size)
  case atStart => exact ⟨0, 0, s.size + 1, by omega, rfl, rfl, Lib.hid (by omega), Lib.hid rfl⟩
  case round =>
    obtain ⟨p, n, f, hn, rfl, rfl, HF, HT⟩ := hrel
    by_cases hp : p < s.size
    · have hnx := run_next_any (P := Try.prog) w s p 0 hp
      obtain ⟨f, rfl⟩ : ∃ f', f = f' + 1 := ⟨f - 1, by have := HF.out; omega⟩
      have hw := width_pos s p hp
      have HSG := Lib.hid (show signB s p = (!(decide ((Utf8.decode s p).1 < 32)) && !(decide (127 ≤ (Utf8.decode s p).1 ∧ (Utf8.decode s p).1 ≤ 159)) && (!((Utf8.decode s p).1 == 65533) || prefT (s.extract p s.size))) from rfl)
      have HNO := Lib.hid (fun hb : (decide (n + 1 ≤ 64) && signB s p) = false => (show false = titleB s by rw [← HT.out, title_stop hp hb]))
      have HYES := Lib.hid (fun hb : (decide (n + 1 ≤ 64) && signB s p) = true => (show titleF s f (p + (Utf8.decode s p).2) (n + 1) = titleB s by rw [← HT.out, title_on hp hb]))
      have hpI : (p : Int) ≤ (s.size : Int) := by omega
      have hw1 : IntKind.i64.wrap ((n : Int) + 1) = (n : Int) + 1 := IntWalk.i64_in _ (by omega)
      have HBN := Lib.hid (HB.out (p + (Utf8.decode s p).2))
      have HIT := Lib.hid (World.iterPos_iter w s (p + (Utf8.decode s p).2))
      have HPX := Lib.hid (fun w1 => prefixC (s.extract p s.size) w1)
      have HME := Lib.hid (show s.size - (p + (Utf8.decode s p).2) < s.size - p by omega)
      have HFF := Lib.hid (show s.size < (p + (Utf8.decode s p).2) + f by have := HF.out; omega)
      generalize (Utf8.decode s p).1 = r at *
      generalize (Utf8.decode s p).2 = d at *
      generalize hwi : w.iter s (p + d) = wi at *
      have HWI := Lib.hid hwi
      clear hwi
      by_cases h1 : n + 1 ≤ 64
      · have i1 : ¬ (64 : Int) < (n : Int) + 1 := by omega
        by_cases h2 : r < 32
        · have i2 : (r : Int) < 32 := by omega
          have HE := Lib.hid (HNO.out (by rw [HSG.out, decide_eq_true h2]; simp))
          clear hw hp hn h1 h2
          go_wp2
          go_ret
          exact ⟨ret_bool HE.out, HBN.out⟩
        · have i2 : ¬ (r : Int) < 32 := by omega
          by_cases h3 : 127 ≤ r ∧ r ≤ 159
          · have i3 : (127 : Int) ≤ (r : Int) := by omega
            have i4 : (r : Int) ≤ 159 := by omega
            have HE := Lib.hid (HNO.out (by rw [HSG.out, decide_eq_true h3]; simp))
            clear hw hp hn h1 h2 h3
            go_wp2
            go_ret
            exact ⟨ret_bool HE.out, HBN.out⟩
          · by_cases h4 : r = 65533
            · subst h4
              cases hpf : prefT (s.extract p s.size)
              · have HE := Lib.hid (HNO.out (by rw [HSG.out, hpf]; simp))
                rw [hpf] at HPX
                clear hw hp hn h1 h2 h3 hpf
                go_wp2_with (go_at_call 80; (with_reducible refine (HPX.out _).mono ?_); rintro e w' ⟨rfl, rfl⟩)
                go_ret
                exact ⟨ret_bool HE.out, HBN.out⟩
              · have HE := Lib.hid (HYES.out (by rw [HSG.out, hpf, decide_eq_true h1]; rfl))
                rw [hpf] at HPX
                have HN1 := Lib.hid h1
                clear hw hp hn h1 h2 h3 hpf
                go_wp2_with (go_at_call 80; (with_reducible refine (HPX.out _).mono ?_); rintro e w' ⟨rfl, rfl⟩)
                first
                  | exact ⟨⟨p + d, n + 1, f, HN1.out, by go_num, HWI.out.symm, HFF, HE⟩, by rw [HIT.out, World.iterPos_iter]; exact HME.out⟩
                  | (go_roundw
                     · exact ⟨p + d, n + 1, f, HN1.out, by go_num, HWI.out.symm, HFF, HE⟩
                     · rw [HIT.out, World.iterPos_iter]; exact HME.out)
            · have i5 : ((r : Int) == 65533) = false := by rw [beq_eq_false_iff_ne]; omega
              have HE := Lib.hid (HYES.out (by rw [HSG.out, decide_eq_true h1, decide_eq_false h2, decide_eq_false h3, beq_eq_false_iff_ne.2 h4]; rfl))
              have HN1 := Lib.hid h1
              by_cases h5 : 127 ≤ r
              · have i3 : (127 : Int) ≤ (r : Int) := by omega
                have i4 : ¬ (r : Int) ≤ 159 := by omega
                clear hw hp hn h1 h2 h3 h4 h5
                go_wp2
                first
                  | exact ⟨⟨p + d, n + 1, f, HN1.out, by go_num, HWI.out.symm, HFF, HE⟩, by rw [HIT.out, World.iterPos_iter]; exact HME.out⟩
                  | (go_roundw
                     · exact ⟨p + d, n + 1, f, HN1.out, by go_num, HWI.out.symm, HFF, HE⟩
                     · rw [HIT.out, World.iterPos_iter]; exact HME.out)
              · have i3 : ¬ (127 : Int) ≤ (r : Int) := by omega
                clear hw hp hn h1 h2 h3 h4 h5
                go_wp2
                first
                  | exact ⟨⟨p + d, n + 1, f, HN1.out, by go_num, HWI.out.symm, HFF, HE⟩, by rw [HIT.out, World.iterPos_iter]; exact HME.out⟩
                  | (go_roundw
                     · exact ⟨p + d, n + 1, f, HN1.out, by go_num, HWI.out.symm, HFF, HE⟩
                     · rw [HIT.out, World.iterPos_iter]; exact HME.out)
      · have i1 : (64 : Int) < (n : Int) + 1 := by omega
        have HE := Lib.hid (HNO.out (by rw [decide_eq_false h1, Bool.false_and]))
        clear hw hp hn h1
        go_wp2
        go_ret
        exact ⟨ret_bool HE.out, HBN.out⟩
    · have hnx := run_next_end (P := Try.prog) w s p 0 hp
      have HE := Lib.hid (show true = titleB s by rw [← HT.out, title_end hp])
      clear hp hn
      go_wp2
      go_ret
      exact ⟨ret_bool HE.out, (HB.out _)⟩
end Go.Proofs.Ytfogbokifbjjlaa.Ti
/- Screens: Mended of any cells, May of any screen. -/
set_option linter.unusedVariables false
namespace Go.Proofs.Ytfogbokifbjjlaa.Tj
open Go Go.RowKit Kit Gm Gv Sa Sb Sd Sf Sg Sh Si Ti

def MayC (c : Ce) : Prop := Cell.mayB c.r c.fl c.fg c.bg c.wd = true
/-- halves in pairs alone. -/
def OkAt (C : Nat) (L : List Ce) (i : Nat) : Prop := ∃ c, L[i]? = some c ∧ MayC c ∧ (c.wd = 1 → i % C ≠ C - 1 ∧ ∃ d, L[i + 1]? = some d ∧ d.wd = 2) ∧ (c.wd = 2 → i % C ≠ 0 ∧ ∃ d, L[i - 1]? = some d ∧ d.wd = 1)
def Mend (C : Nat) (L : List Ce) : Prop := ∀ i, i < L.length → OkAt C L i
theorem may_wd {c : Ce} (h : MayC c) : c.wd = 0 ∨ c.wd = 1 ∨ c.wd = 2 := by
  unfold MayC Cell.mayB at h
  simp only [Bool.and_eq_true, Bool.or_eq_true, beq_iff_eq] at h
  obtain ⟨_, h3⟩ := h
  rcases h3 with (⟨h, _⟩ | ⟨h, _⟩) | ⟨h, _⟩ <;> omega
theorem ok_not {C k : Nat} {L : List Ce} {c : Ce} (h : L[k]? = some c) (hb : ¬ (MayC c ∧ (c.wd = 1 → k % C ≠ C - 1 ∧ ∃ d, L[k + 1]? = some d ∧ d.wd = 2) ∧ (c.wd = 2 → k % C ≠ 0 ∧ ∃ d, L[k - 1]? = some d ∧ d.wd = 1))) : ¬ Mend C L := by
  intro hm
  obtain ⟨d, hd, x⟩ := hm k (List.getElem?_eq_some_iff.1 h).1
  rw [h] at hd
  injection hd with hd; subst hd
  exact hb x
theorem mayX (c : Ce) (b : Bool) (h : Cell.mayB c.r c.fl c.fg c.bg c.wd = b) (w : World) : Calls Try.prog 32 #[.agg #[.int .i32 c.r, .int .i64 c.fl, .int .i64 c.fg, .int .i64 c.bg, .int .i64 c.wd]] w fun e w' => e = .returned (.bool b) ∧ Below w.heap.size w w' :=
  (Cell.may c.r c.fl c.fg c.bg c.wd w).mono fun e w' ⟨h1, h2⟩ => ⟨by rw [h1, h], by rw [← h2]; exact below_two w _ _⟩
/-- behind a cell that isn't the last of its row there is another one. -/
theorem next_in {R C n k : Nat} (hn : n = R * C) (hk : k < n) (hC : 1 ≤ C) (h : k % C ≠ C - 1) : k + 1 < n := by
  by_cases e : k + 1 = n
  · exfalso; apply h
    have h1 : (k + 1) % C = 0 := by rw [e, hn]; exact Nat.mul_mod_left R C
    have h2 := Nat.add_mod k 1 C
    have h3 := Nat.mod_lt k hC
    rcases Nat.lt_or_ge 1 C with hc | hc
    · rw [Nat.mod_eq_of_lt hc] at h2
      rw [h1] at h2
      by_cases h4 : k % C + 1 < C
      · rw [Nat.mod_eq_of_lt h4] at h2; omega
      · omega
    · omega
  · omega
theorem prev_in {C k : Nat} (h : k % C ≠ 0) : 1 ≤ k := by
  rcases Nat.eq_zero_or_pos k with rfl | h1
  · simp at h
  · exact h1
/-- what Mended answers. -/
def MendQ (C : Nat) (L : List Ce) (w : World) (e : Ending) (w' : World) : Prop := (∃ m : Bool, (m = true ↔ Mend C L) ∧ e = .returned (.bool m)) ∧ Below w.heap.size w w'
set_option maxRecDepth 100000 in
set_option maxHeartbeats 8000000 in
theorem mendedC (R C b off n cap : Nat) (L : List Ce) (w : World) (hR : 1 ≤ R) (hC : 1 ≤ C) (hR2 : R ≤ 1000) (hC2 : C ≤ 1000) (hn : n = L.length) (hm : n ≤ 1000000) (hs : Sc w b off L) (hq : n = R * C) :
    Calls Try.prog 57 #[.int .i64 (R : Int), .int .i64 (C : Int), .slice (some ⟨b, off, none⟩) n cap] w (MendQ C L w) := by
  have HC21 := Lib.hid (fun w1 => (countsC R C n w1 hR hC hm hR2 hC2).mono fun e w' (h : _ ∧ _) => (⟨by rw [h.1, decide_eq_true hq], h.2⟩ : e = .returned (.bool true) ∧ w1 = w'))
  have h5 : (C : Int) ≠ 0 := by omega
  have HS := Lib.hid hs
  have HN := Lib.hid hn
  have HM := Lib.hid hm
  have HQ := Lib.hid hq
  have HCC := Lib.hid (show 1 ≤ C ∧ C ≤ 1000 from ⟨hC, hC2⟩)
  have HNT := Lib.hid (fun k c (h : L[k]? = some c) hb => show (false = true ↔ Mend C L) from ⟨fun h => Bool.noConfusion h, fun hm => absurd hm (ok_not h hb)⟩)
  clear hs hn hm hq hR hR2 hC hC2
  go_enter Try.func57, Try.ntmps57
  go_wp2_with (go_at_call 81; (with_reducible refine (HC21.out _).mono ?_); rintro e w' ⟨rfl, rfl⟩)
  go_loopw [19] (fun s19 wr => ∃ k : Nat, k ≤ n ∧ s19 = .int .i64 k ∧ Hid (Below w.heap.size w wr) ∧ Hid (∀ i, i < k → OkAt C L i)) (fun s19 _ => n - (intOf s19).toNat)
  case atStart => exact ⟨0, Nat.zero_le _, rfl, Lib.hid (Below.refl _ _), Lib.hid (fun i hi => absurd hi (Nat.not_lt_zero _))⟩
  case round =>
    obtain ⟨k, hk, rfl, HB, HA⟩ := hrel
    by_cases hlt : k < n
    · have HKk := Lib.hid (show k + 1 ≤ n ∧ n - (k + 1) < n - k by omega)
      have hkI : (k : Int) < (n : Int) := by omega
      have hw1 : IntKind.i64.wrap ((k : Int) + 1) = (k : Int) + 1 := IntWalk.i64_in _ (by have := HM.out; omega)
      have hw2 : IntKind.i64.wrap ((C : Int) - 1) = (C : Int) - 1 := IntWalk.i64_in _ (by have := HCC.out; omega)
      have hkL : k < L.length := by rw [← HN.out]; exact hlt
      have HKL := Lib.hid (List.getElem?_eq_getElem hkL)
      obtain ⟨x0, x1, x2, x3, x4⟩ := (HS.out.then_ HB.out (Nat.le_refl _)).at_ k _ (List.getElem?_eq_getElem hkL)
      generalize L[k] = c at *
      have HNTk := Lib.hid (HNT.out k c HKL.out)
      have HYES := Lib.hid (fun h : MayC c ∧ (c.wd = 1 → k % C ≠ C - 1 ∧ ∃ d, L[k + 1]? = some d ∧ d.wd = 2) ∧ (c.wd = 2 → k % C ≠ 0 ∧ ∃ d, L[k - 1]? = some d ∧ d.wd = 1) => (show ∀ i, i < k + 1 → OkAt C L i from fun i hi => by
        by_cases e : i = k
        · subst e; exact ⟨c, HKL.out, h⟩
        · exact HA.out i (by omega)))
      have HNXT := Lib.hid (fun h : k % C ≠ C - 1 => next_in HQ.out hlt HCC.out.1 h)
      have HALL := Lib.hid (HS.out.then_ HB.out (Nat.le_refl _))
      have hbl := below_one wr (cO zeroC)
      have hfr : (wr.alloc (cO zeroC)).heap[wr.heap.size]? = some (cO zeroC) := heap_alloc_last wr _
      dsimp only [cO, zeroC] at hbl hfr
      generalize hwz : wr.alloc (.cells #[.int .i32 0, .int .i64 0, .int .i64 0, .int .i64 0, .int .i64 0] 52) = wz at *
      have HFR := Lib.hid hfr
      have HBZ := Lib.hid hbl
      have HMY := Lib.hid (fun w1 => mayX c _ rfl w1)
      have x0 := cell_then hbl (Nat.le_refl _) x0
      have x1 := cell_then hbl (Nat.le_refl _) x1
      have x2 := cell_then hbl (Nat.le_refl _) x2
      have x3 := cell_then hbl (Nat.le_refl _) x3
      have x4 := cell_then hbl (Nat.le_refl _) x4
      clear hbl hfr hk hkL
      by_cases hmay : MayC c
      · rw [show Cell.mayB c.r c.fl c.fg c.bg c.wd = true from hmay] at HMY
        rcases may_wd hmay with h0 | h1 | h2
        · obtain ⟨cr, cfl, cfg, cbg, cwd⟩ := c
          have HA2 := Lib.hid (HYES.out ⟨hmay, (fun h => absurd (h0.symm.trans h) (by decide)), (fun h => absurd (h0.symm.trans h) (by decide))⟩)
          dsimp only at x0 x1 x2 x3 x4 HMY h0
          subst h0
          clear hmay hlt
          go_wp2_with (first
            | (go_at_call 32; (with_reducible refine (HMY.out _).mono ?_); rintro e w3 ⟨rfl, hb3⟩; have z4 := cell_then hb3 (Nat.le_refl _) y4; have HB3 := Lib.hid (below_then HBA.out hb3 HBA.out.size); clear hb3)
            | ((with_reducible refine wpList_store_c1 rfl _ _ rfl wr.heap.size ⟨cr, cfl, cfg, cbg, 0⟩ _ rfl rfl HFR.out rfl ?_); intro wa ha ba ka za; obtain ⟨y0, y1, y2, y3, y4⟩ := five ha; (dsimp only at y0 y1 y2 y3 y4); have HBA := Lib.hid (HB.out.trans (ba _ _ HB.out.size (HBZ.out.mono HB.out.size))); clear ha ba ka za))
          go_quiet (fail)
          have HB4 := Lib.hid (show Below w.heap.size w (w3.drewN nq) from ⟨HB3.out.os, HB3.out.tape, HB3.out.output, HB3.out.size, HB3.out.block⟩)
          go_wp2
          first
            | exact ⟨⟨k + 1, HKk.out.1, by go_num, HB4, HA2⟩, by simp only [intOf]; exact HKk.out.2⟩
            | (go_roundw
               · exact ⟨k + 1, HKk.out.1, by go_num, HB4, HA2⟩
               · simp only [intOf]; exact HKk.out.2)
        · obtain ⟨cr, cfl, cfg, cbg, cwd⟩ := c
          dsimp only at h1
          subst h1
          by_cases hla : k % C = C - 1
          · have d1 : ((k : Int) % (C : Int) == (C : Int) - 1) = true := by
              rw [beq_iff_eq, ← Int.natCast_emod, hla]; have := HCC.out; omega
            have HE := Lib.hid (HNTk.out (fun h => (h.2.1 rfl).1 hla))
            dsimp only at x0 x1 x2 x3 x4 HMY
            clear hmay hlt hla
            go_wp2_with (first
              | (go_at_call 32; (with_reducible refine (HMY.out _).mono ?_); rintro e w3 ⟨rfl, hb3⟩; have z4 := cell_then hb3 (Nat.le_refl _) y4; have HB3 := Lib.hid (below_then HBA.out hb3 HBA.out.size); clear hb3)
              | ((with_reducible refine wpList_store_c1 rfl _ _ rfl wr.heap.size ⟨cr, cfl, cfg, cbg, 1⟩ _ rfl rfl HFR.out rfl ?_); intro wa ha ba ka za; obtain ⟨y0, y1, y2, y3, y4⟩ := five ha; (dsimp only at y0 y1 y2 y3 y4); have HBA := Lib.hid (HB.out.trans (ba _ _ HB.out.size (HBZ.out.mono HB.out.size))); clear ha ba ka za))
            go_quiet (fail)
            go_wp2
            go_ret
            exact ⟨⟨false, HE.out, rfl⟩, ⟨HB3.out.os, HB3.out.tape, HB3.out.output, HB3.out.size, HB3.out.block⟩⟩
          · have d1 : ((k : Int) % (C : Int) == (C : Int) - 1) = false := by
              rw [beq_eq_false_iff_ne]; intro e; apply hla; have e2 : ((k % C : Nat) : Int) = (C : Int) - 1 := by rw [Int.natCast_emod]; exact e
              have := HCC.out; omega
            have hnx := HNXT.out hla
            have hL1 : k + 1 < L.length := by rw [← HN.out]; exact hnx
            have n1 : ((k : Int) + 1) < (n : Int) := by omega
            obtain ⟨u0, u1, u2, u3, u4⟩ := HALL.out.at_ (k + 1) _ (List.getElem?_eq_getElem hL1)
            have HD := Lib.hid (List.getElem?_eq_getElem hL1)
            generalize L[k + 1] = d at *
            by_cases hd : d.wd = 2
            · have HA2 := Lib.hid (HYES.out ⟨hmay, fun _ => ⟨hla, d, HD.out, hd⟩, fun h => by cases h⟩)
              rw [hd] at u4
              dsimp only at x0 x1 x2 x3 x4 HMY
              clear hmay hlt hla hnx hL1 hd u0 u1 u2 u3
              go_wp2_with (first
                | (go_at_call 32; (with_reducible refine (HMY.out _).mono ?_); rintro e w3 ⟨rfl, hb3⟩; have z4 := cell_then hb3 (Nat.le_refl _) y4; have v4 := cell_then (below_then HBW.out hb3 HBW.out.size) (Nat.le_refl _) u4; have HB3 := Lib.hid (below_then HBA.out hb3 HBA.out.size); clear hb3)
                | ((with_reducible refine wpList_store_c1 rfl _ _ rfl wr.heap.size ⟨cr, cfl, cfg, cbg, 1⟩ _ rfl rfl HFR.out rfl ?_); intro wa ha ba ka za; obtain ⟨y0, y1, y2, y3, y4⟩ := five ha; (dsimp only at y0 y1 y2 y3 y4); have HBW := Lib.hid (ba _ _ (Nat.le_refl _) HBZ.out); have HBA := Lib.hid (HB.out.trans (ba _ _ HB.out.size (HBZ.out.mono HB.out.size))); clear ha ba ka za))
              go_quiet (fail)
              have HB4 := Lib.hid (show Below w.heap.size w (w3.drewN nq) from ⟨HB3.out.os, HB3.out.tape, HB3.out.output, HB3.out.size, HB3.out.block⟩)
              go_wp2
              first
                | exact ⟨⟨k + 1, HKk.out.1, by go_num, HB4, HA2⟩, by simp only [intOf]; exact HKk.out.2⟩
                | (go_roundw
                   · exact ⟨k + 1, HKk.out.1, by go_num, HB4, HA2⟩
                   · simp only [intOf]; exact HKk.out.2)
            · have HE := Lib.hid (HNTk.out (fun h => by
                obtain ⟨d', h', h2⟩ := (h.2.1 rfl).2
                rw [HD.out] at h'; injection h' with h'; subst h'; exact hd h2))
              have d2 : (d.wd == 2) = false := by rw [beq_eq_false_iff_ne]; exact hd
              generalize d.wd = dw at *
              dsimp only at x0 x1 x2 x3 x4 HMY
              clear hmay hlt hla hnx hL1 hd u0 u1 u2 u3
              go_wp2_with (first
                | (go_at_call 32; (with_reducible refine (HMY.out _).mono ?_); rintro e w3 ⟨rfl, hb3⟩; have z4 := cell_then hb3 (Nat.le_refl _) y4; have v4 := cell_then (below_then HBW.out hb3 HBW.out.size) (Nat.le_refl _) u4; have HB3 := Lib.hid (below_then HBA.out hb3 HBA.out.size); clear hb3)
                | ((with_reducible refine wpList_store_c1 rfl _ _ rfl wr.heap.size ⟨cr, cfl, cfg, cbg, 1⟩ _ rfl rfl HFR.out rfl ?_); intro wa ha ba ka za; obtain ⟨y0, y1, y2, y3, y4⟩ := five ha; (dsimp only at y0 y1 y2 y3 y4); have HBW := Lib.hid (ba _ _ (Nat.le_refl _) HBZ.out); have HBA := Lib.hid (HB.out.trans (ba _ _ HB.out.size (HBZ.out.mono HB.out.size))); clear ha ba ka za))
              go_quiet (fail)
              go_wp2
              go_ret
              exact ⟨⟨false, HE.out, rfl⟩, ⟨HB3.out.os, HB3.out.tape, HB3.out.output, HB3.out.size, HB3.out.block⟩⟩
        · obtain ⟨cr, cfl, cfg, cbg, cwd⟩ := c
          dsimp only at h2
          subst h2
          by_cases hla : k % C = 0
          · have d1 : ((k : Int) % (C : Int) == 0) = true := by
              rw [beq_iff_eq, ← Int.natCast_emod, hla]; rfl
            have HE := Lib.hid (HNTk.out (fun h => (h.2.2 rfl).1 hla))
            dsimp only at x0 x1 x2 x3 x4 HMY
            clear hmay hlt hla
            go_wp2_with (first
              | (go_at_call 32; (with_reducible refine (HMY.out _).mono ?_); rintro e w3 ⟨rfl, hb3⟩; have z4 := cell_then hb3 (Nat.le_refl _) y4; have HB3 := Lib.hid (below_then HBA.out hb3 HBA.out.size); clear hb3)
              | ((with_reducible refine wpList_store_c1 rfl _ _ rfl wr.heap.size ⟨cr, cfl, cfg, cbg, 2⟩ _ rfl rfl HFR.out rfl ?_); intro wa ha ba ka za; obtain ⟨y0, y1, y2, y3, y4⟩ := five ha; (dsimp only at y0 y1 y2 y3 y4); have HBA := Lib.hid (HB.out.trans (ba _ _ HB.out.size (HBZ.out.mono HB.out.size))); clear ha ba ka za))
            go_quiet (fail)
            go_wp2
            go_ret
            exact ⟨⟨false, HE.out, rfl⟩, ⟨HB3.out.os, HB3.out.tape, HB3.out.output, HB3.out.size, HB3.out.block⟩⟩
          · have d1 : ((k : Int) % (C : Int) == 0) = false := by
              rw [beq_eq_false_iff_ne]; intro e; apply hla; have e2 : ((k % C : Nat) : Int) = 0 := by rw [Int.natCast_emod]; exact e
              omega
            have hnx := prev_in hla
            obtain ⟨j, hj⟩ : ∃ j, k = j + 1 := ⟨k - 1, by omega⟩
            have f1 : IntKind.i64.wrap ((k : Int) - 1) = (j : Int) := by rw [IntWalk.i64_in _ (by have := HM.out; omega)]; omega
            have f2 : wrap64 ((k : Int) - 1) = (j : Int) := by rw [IntWalk.wrap64_in _ (by have := HM.out; omega)]; omega
            have f4 : (j : Int) < (n : Int) := by omega
            have f5 : (0 : Int) ≤ (j : Int) := Int.natCast_nonneg _
            have f3 : j < n := by omega
            have hL1 : k - 1 < L.length := by rw [← HN.out]; omega
            obtain ⟨u0, u1, u2, u3, u4⟩ := HALL.out.at_ (k - 1) _ (List.getElem?_eq_getElem hL1)
            have HD := Lib.hid (List.getElem?_eq_getElem hL1)
            generalize L[k - 1] = d at *
            rw [show k - 1 = j by omega] at u4
            clear hj
            by_cases hd : d.wd = 1
            · have HA2 := Lib.hid (HYES.out ⟨hmay, (fun h => absurd (show (2 : Int) = 1 from h) (by decide)), fun _ => ⟨hla, d, HD.out, hd⟩⟩)
              rw [hd] at u4
              dsimp only at x0 x1 x2 x3 x4 HMY
              clear hmay hlt hla hnx hL1 hd u0 u1 u2 u3
              go_wp2_with (first
                | (go_at_call 32; (with_reducible refine (HMY.out _).mono ?_); rintro e w3 ⟨rfl, hb3⟩; have z4 := cell_then hb3 (Nat.le_refl _) y4; have v4 := cell_then (below_then HBW.out hb3 HBW.out.size) (Nat.le_refl _) u4; have HB3 := Lib.hid (below_then HBA.out hb3 HBA.out.size); clear hb3)
                | ((with_reducible refine wpList_store_c1 rfl _ _ rfl wr.heap.size ⟨cr, cfl, cfg, cbg, 2⟩ _ rfl rfl HFR.out rfl ?_); intro wa ha ba ka za; obtain ⟨y0, y1, y2, y3, y4⟩ := five ha; (dsimp only at y0 y1 y2 y3 y4); have HBW := Lib.hid (ba _ _ (Nat.le_refl _) HBZ.out); have HBA := Lib.hid (HB.out.trans (ba _ _ HB.out.size (HBZ.out.mono HB.out.size))); clear ha ba ka za))
              go_quiet (fail)
              have HB4 := Lib.hid (show Below w.heap.size w (w3.drewN nq) from ⟨HB3.out.os, HB3.out.tape, HB3.out.output, HB3.out.size, HB3.out.block⟩)
              go_wp2
              first
                | exact ⟨⟨k + 1, HKk.out.1, by go_num, HB4, HA2⟩, by simp only [intOf]; exact HKk.out.2⟩
                | (go_roundw
                   · exact ⟨k + 1, HKk.out.1, by go_num, HB4, HA2⟩
                   · simp only [intOf]; exact HKk.out.2)
            · have HE := Lib.hid (HNTk.out (fun h => by
                obtain ⟨d', h', h2⟩ := (h.2.2 rfl).2
                rw [HD.out] at h'; injection h' with h'; subst h'; exact hd h2))
              have d2 : (d.wd == 1) = false := by rw [beq_eq_false_iff_ne]; exact hd
              generalize d.wd = dw at *
              dsimp only at x0 x1 x2 x3 x4 HMY
              clear hmay hlt hla hnx hL1 hd u0 u1 u2 u3
              go_wp2_with (first
                | (go_at_call 32; (with_reducible refine (HMY.out _).mono ?_); rintro e w3 ⟨rfl, hb3⟩; have z4 := cell_then hb3 (Nat.le_refl _) y4; have v4 := cell_then (below_then HBW.out hb3 HBW.out.size) (Nat.le_refl _) u4; have HB3 := Lib.hid (below_then HBA.out hb3 HBA.out.size); clear hb3)
                | ((with_reducible refine wpList_store_c1 rfl _ _ rfl wr.heap.size ⟨cr, cfl, cfg, cbg, 2⟩ _ rfl rfl HFR.out rfl ?_); intro wa ha ba ka za; obtain ⟨y0, y1, y2, y3, y4⟩ := five ha; (dsimp only at y0 y1 y2 y3 y4); have HBW := Lib.hid (ba _ _ (Nat.le_refl _) HBZ.out); have HBA := Lib.hid (HB.out.trans (ba _ _ HB.out.size (HBZ.out.mono HB.out.size))); clear ha ba ka za))
              go_quiet (fail)
              go_wp2
              go_ret
              exact ⟨⟨false, HE.out, rfl⟩, ⟨HB3.out.os, HB3.out.tape, HB3.out.output, HB3.out.size, HB3.out.block⟩⟩
      · have HE := Lib.hid (HNTk.out (fun h => hmay h.1))
        rw [show Cell.mayB c.r c.fl c.fg c.bg c.wd = false by cases h : Cell.mayB c.r c.fl c.fg c.bg c.wd with
          | false => rfl
          | true => exact absurd h hmay] at HMY
        obtain ⟨cr, cfl, cfg, cbg, cwd⟩ := c
        dsimp only at x0 x1 x2 x3 x4 HMY
        clear hmay hlt
        go_wp2_with (first
          | (go_at_call 32; (with_reducible refine (HMY.out _).mono ?_); rintro e w3 ⟨rfl, hb3⟩; have HB3 := Lib.hid (below_then HBA.out hb3 HBA.out.size); clear hb3)
          | ((with_reducible refine wpList_store_c1 rfl _ _ rfl wr.heap.size ⟨cr, cfl, cfg, cbg, cwd⟩ _ rfl rfl HFR.out rfl ?_); intro wa ha ba ka za; obtain ⟨y0, y1, y2, y3, y4⟩ := five ha; (dsimp only at y0 y1 y2 y3 y4); have HBA := Lib.hid (HB.out.trans (ba _ _ HB.out.size (HBZ.out.mono HB.out.size))); clear ha ba ka za))
        go_ret
        exact ⟨⟨false, HE.out, rfl⟩, HB3.out⟩
    · obtain rfl : k = n := by omega
      have HE := Lib.hid (show Mend C L from fun i hi => HA.out i (by rw [HN.out]; exact hi))
      clear hk hlt
      go_wp2
      go_ret
      exact ⟨⟨true, ⟨fun _ => HE.out, fun _ => rfl⟩, rfl⟩, HB.out⟩
end Go.Proofs.Ytfogbokifbjjlaa.Tj
/- Screens: May of any screen. -/
set_option linter.unusedVariables false
namespace Go.Proofs.Ytfogbokifbjjlaa.Tk
open Go Go.RowKit Kit Gm Gv Sa Sb Sd Sf Sg Sh Si Ti Tj

/-- a screen that may be. -/
def MayS (s : Scr) (L : List Ce) : Prop := (1 ≤ s.R ∧ s.R ≤ 60 ∧ 1 ≤ s.C ∧ s.C ≤ 200) ∧ (0 ≤ s.row ∧ s.row < s.R) ∧ (0 ≤ s.col ∧ s.col < s.C) ∧ titleB s.ti = true ∧ (L.length : Int) = s.R * s.C ∧ Mend s.C.toNat L
theorem MayS.len {s : Scr} {L : List Ce} (h : MayS s L) : L.length ≤ 12000 ∧ 1 ≤ L.length := by
  obtain ⟨⟨h1, h2, h3, h4⟩, _, _, _, h5, _⟩ := h
  have : s.R * s.C ≤ 60 * 200 := Int.mul_le_mul h2 h4 (by omega) (by omega)
  have h6 : 1 * 1 ≤ s.R * s.C := Int.mul_le_mul h1 h3 (by omega) (by omega)
  omega
/-- what May answers. -/
def MayQ (s : Scr) (L : List Ce) (w : World) (e : Ending) (w' : World) : Prop := (∃ m : Bool, (m = true ↔ MayS s L) ∧ e = .returned (.bool m)) ∧ Below w.heap.size w w'
theorem may_no {s : Scr} {L : List Ce} {w w' : World} {e : Ending} (h : ¬ MayS s L) (he : e = .returned (.bool false)) (hb : Below w.heap.size w w') : MayQ s L w e w' :=
  ⟨⟨false, ⟨fun h => Bool.noConfusion h, fun hm => absurd hm h⟩, he⟩, hb⟩
theorem mendedNo (R C n cap : Nat) (a : Option Addr) (w : World) (hR : 1 ≤ R) (hC : 1 ≤ C) (hR2 : R ≤ 1000) (hC2 : C ≤ 1000) (hm : n ≤ 1000000) (hq : n ≠ R * C) :
    Calls Try.prog 57 #[.int .i64 (R : Int), .int .i64 (C : Int), .slice a n cap] w fun e w' => e = .returned (.bool false) ∧ Below w.heap.size w w' := by
  have HC21 := Lib.hid (fun w1 => (countsC R C n w1 hR hC hm hR2 hC2).mono fun e w' (h : _ ∧ _) => (⟨by rw [h.1, decide_eq_false hq], h.2⟩ : e = .returned (.bool false) ∧ w1 = w'))
  clear hm hq hR hR2 hC hC2
  go_enter Try.func57, Try.ntmps57
  go_wp2_with (go_at_call 81; (with_reducible refine (HC21.out _).mono ?_); rintro e w' ⟨rfl, rfl⟩)
  go_ret
  exact ⟨rfl, Below.refl _ _⟩
set_option maxRecDepth 100000 in
set_option maxHeartbeats 4000000 in
theorem mayC (s : Scr) (a : Option Addr) (n cap : Nat) (L : List Ce) (w : World) (hn : n = L.length) (hm : n ≤ 1000000) (ht : s.ti.size ≤ 1000000) (hs : n = 0 ∨ ∃ b off, a = some ⟨b, off, none⟩ ∧ Sc w b off L) :
    Calls Try.prog 28 #[svA s a n cap] w (MayQ s L w) := by
  have HDEF := Lib.hid (show MayS s L = ((1 ≤ s.R ∧ s.R ≤ 60 ∧ 1 ≤ s.C ∧ s.C ≤ 200) ∧ (0 ≤ s.row ∧ s.row < s.R) ∧ (0 ≤ s.col ∧ s.col < s.C) ∧ titleB s.ti = true ∧ (L.length : Int) = s.R * s.C ∧ Mend s.C.toNat L) from rfl)
  have HNO := Lib.hid (fun (e : Ending) (w' : World) (h : ¬ MayS s L) => may_no (w := w) (w' := w') (e := e) h)
  have HYES := Lib.hid (fun (m : Bool) (w' : World) (h : m = true ↔ MayS s L) (hb : Below w.heap.size w w') => (show MayQ s L w (.returned (.bool m)) w' from ⟨⟨m, h, rfl⟩, hb⟩))
  obtain ⟨R, C, row, col, hid, ti⟩ := s
  dsimp only at HDEF ht
  have hb := below_one w (svO ⟨R, C, row, col, hid, ti⟩ a n cap)
  have hA : (w.alloc (svO ⟨R, C, row, col, hid, ti⟩ a n cap)).heap[w.heap.size]? = some (svO ⟨R, C, row, col, hid, ti⟩ a n cap) := heap_alloc_last w _
  dsimp only [svO] at hb hA
  generalize hw1 : w.alloc (.cells #[.int .i64 R, .int .i64 C, .slice a n cap, .int .i64 row, .int .i64 col, .bool hid, .string ti] 24) = w1 at *
  obtain ⟨c0, c1, c2, c3, c4, c5, c6⟩ := seven (s := ⟨R, C, row, col, hid, ti⟩) hA
  dsimp only at c0 c1 c2 c3 c4 c5 c6
  have HB := Lib.hid hb
  have HT := Lib.hid (titleC ti w1 ht)
  have HSC := Lib.hid (fun w2 (hb2 : Below w1.heap.size w1 w2) => (show n = 0 ∨ ∃ b off, a = some ⟨b, off, none⟩ ∧ Sc w2 b off L from hs.imp id fun ⟨b, off, h1, h2⟩ => ⟨b, off, h1, (h2.then_ hb (Nat.le_refl _)).then_ hb2 (Nat.le_refl _)⟩))
  have HN := Lib.hid hn
  have HM := Lib.hid hm
  generalize MayS ⟨R, C, row, col, hid, ti⟩ L = S at *
  clear hb hA hs hn hm ht
  by_cases h0 : 1 ≤ R ∧ R ≤ 60 ∧ 1 ≤ C ∧ C ≤ 200
  · have H18 := Lib.hid ((maySize R C w1).mono fun e w' (h : _ ∧ _) => (⟨by rw [h.1, ← size_t h0], h.2⟩ : e = .returned (.bool true) ∧ w1 = w'))
    by_cases h1 : 0 ≤ row
    · by_cases h2 : row < R
      · by_cases h3 : 0 ≤ col
        · by_cases h4 : col < C
          · cases htb : titleB ti
            · have HE := Lib.hid (show ¬ S by rw [HDEF.out]; rintro ⟨_, _, _, h, _⟩; rw [htb] at h; cases h)
              rw [htb] at HT
              clear h0 htb
              go_enter Try.func28, Try.ntmps28
              go_wp2_with (first
                | (go_at_call 55; (with_reducible refine H18.out.mono ?_); rintro e w' ⟨rfl, rfl⟩)
                | (go_at_call 56; (with_reducible refine HT.out.mono ?_); rintro e w2 ⟨rfl, hb2⟩; have HB2 := Lib.hid (below_then HB.out hb2 HB.out.size); clear hb2))
              go_ret
              exact HNO.out _ _ HE.out rfl HB2.out
            · rw [htb] at HT
              obtain ⟨R', rfl⟩ := Int.eq_ofNat_of_zero_le (a := R) (by omega)
              obtain ⟨C', rfl⟩ := Int.eq_ofNat_of_zero_le (a := C) (by omega)
              have HS : Hid (S = ((L.length : Int) = (R' : Int) * (C' : Int) ∧ Mend C' L)) := Lib.hid (by
                rw [HDEF.out]; simp only [htb, h0, h1, h2, h3, h4, true_and, Int.toNat_natCast])
              by_cases hq : n = R' * C'
              · have HX := Lib.hid (fun w2 (hb2 : Below w1.heap.size w1 w2) => (show Calls Try.prog 57 #[.int .i64 (R' : Int), .int .i64 (C' : Int), .slice a n cap] w2 (MendQ C' L w2) by
                  rcases HSC.out w2 hb2 with h | ⟨b, off, rfl, h⟩
                  · exfalso; have : 1 * 1 ≤ R' * C' := Nat.mul_le_mul (by omega) (by omega)
                    omega
                  · exact mendedC R' C' b off n cap L w2 (by omega) (by omega) (by omega) (by omega) HN.out HM.out h hq))
                have HE := Lib.hid (show S = Mend C' L by rw [HS.out, ← HN.out, hq]; simp)
                clear h0 htb hq
                go_enter Try.func28, Try.ntmps28
                go_wp2_with (first
                  | (go_at_call 55; (with_reducible refine H18.out.mono ?_); rintro e w' ⟨rfl, rfl⟩)
                  | (go_at_call 56; (with_reducible refine HT.out.mono ?_); rintro e w2 ⟨rfl, hb2⟩; have e0 := cell_then hb2 (Nat.le_refl _) c0; have e1 := cell_then hb2 (Nat.le_refl _) c1; have e2 := cell_then hb2 (Nat.le_refl _) c2; have HB2 := Lib.hid hb2; clear hb2)
                  | (go_at_call 57; (with_reducible refine (HX.out _ HB2.out).mono ?_); rintro e w3 ⟨⟨m, hm, rfl⟩, hb3⟩; have HMM := Lib.hid hm; have HB3 := Lib.hid (below_then (below_then HB.out HB2.out HB.out.size) hb3 (Nat.le_trans HB.out.size HB2.out.size)); clear hb3 hm))
                go_ret
                exact HYES.out _ _ (by rw [HE.out]; exact HMM.out) HB3.out
              · have HX := Lib.hid (fun w2 => mendedNo R' C' n cap a w2 (by omega) (by omega) (by omega) (by omega) HM.out hq)
                have HE := Lib.hid (show ¬ S by rw [HS.out, ← HN.out]; rintro ⟨h, _⟩; exact hq (by exact_mod_cast h))
                clear h0 htb hq
                go_enter Try.func28, Try.ntmps28
                go_wp2_with (first
                  | (go_at_call 55; (with_reducible refine H18.out.mono ?_); rintro e w' ⟨rfl, rfl⟩)
                  | (go_at_call 56; (with_reducible refine HT.out.mono ?_); rintro e w2 ⟨rfl, hb2⟩; have e0 := cell_then hb2 (Nat.le_refl _) c0; have e1 := cell_then hb2 (Nat.le_refl _) c1; have e2 := cell_then hb2 (Nat.le_refl _) c2; have HB2 := Lib.hid hb2; clear hb2)
                  | (go_at_call 57; (with_reducible refine (HX.out _).mono ?_); rintro e w3 ⟨rfl, hb3⟩; have HB3 := Lib.hid (below_then (below_then HB.out HB2.out HB.out.size) hb3 (Nat.le_trans HB.out.size HB2.out.size)); clear hb3))
                go_ret
                exact HNO.out _ _ HE.out rfl HB3.out
          · have HE := Lib.hid (show ¬ S by rw [HDEF.out]; rintro ⟨_, _, ⟨_, h⟩, _⟩; exact h4 h)
            clear h0
            go_enter Try.func28, Try.ntmps28
            go_wp2_with (go_at_call 55; (with_reducible refine H18.out.mono ?_); rintro e w' ⟨rfl, rfl⟩)
            go_ret
            exact HNO.out _ _ HE.out rfl HB.out
        · have HE := Lib.hid (show ¬ S by rw [HDEF.out]; rintro ⟨_, _, ⟨h, _⟩, _⟩; exact h3 h)
          clear h0
          go_enter Try.func28, Try.ntmps28
          go_wp2_with (go_at_call 55; (with_reducible refine H18.out.mono ?_); rintro e w' ⟨rfl, rfl⟩)
          go_ret
          exact HNO.out _ _ HE.out rfl HB.out
      · have HE := Lib.hid (show ¬ S by rw [HDEF.out]; rintro ⟨_, ⟨_, h⟩, _⟩; exact h2 h)
        clear h0
        go_enter Try.func28, Try.ntmps28
        go_wp2_with (go_at_call 55; (with_reducible refine H18.out.mono ?_); rintro e w' ⟨rfl, rfl⟩)
        go_ret
        exact HNO.out _ _ HE.out rfl HB.out
    · have HE := Lib.hid (show ¬ S by rw [HDEF.out]; rintro ⟨_, ⟨h, _⟩, _⟩; exact h1 h)
      clear h0
      go_enter Try.func28, Try.ntmps28
      go_wp2_with (go_at_call 55; (with_reducible refine H18.out.mono ?_); rintro e w' ⟨rfl, rfl⟩)
      go_ret
      exact HNO.out _ _ HE.out rfl HB.out
  · have H18 := Lib.hid ((maySize R C w1).mono fun e w' (h : _ ∧ _) => (⟨by rw [h.1, ← size_f h0], h.2⟩ : e = .returned (.bool false) ∧ w1 = w'))
    have HE := Lib.hid (show ¬ S by rw [HDEF.out]; rintro ⟨h, _⟩; exact h0 h)
    clear h0
    go_enter Try.func28, Try.ntmps28
    go_wp2_with (go_at_call 55; (with_reducible refine H18.out.mono ?_); rintro e w' ⟨rfl, rfl⟩)
    go_ret
    exact HNO.out _ _ HE.out rfl HB.out
end Go.Proofs.Ytfogbokifbjjlaa.Tk
