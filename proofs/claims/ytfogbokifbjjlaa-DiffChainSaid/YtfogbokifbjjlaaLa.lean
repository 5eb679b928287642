/- Cells as bytes (key.one, key.run, key.Cells): plain functions, and the contracts of the code. -/
import Derived.Test.YtfogbokifbjjlaaSg
import Derived.Test.YtfogbokifbjjlaaAp
set_option linter.unusedVariables false
namespace Go.Proofs.Ytfogbokifbjjlaa.La
open Go Go.RowKit Kit Gm Gv Crc Var Bytes WireFirst Copy Ap Sa Sb

/-- a number as one of 64 bits. -/
def un (n : Int) : Nat := (n % 18446744073709551616).toNat
theorem un_lt (n : Int) : un n < 18446744073709551616 := by unfold un; omega
theorem un_wrap (n : Int) : IntKind.u64.wrap n = ((un n : Nat) : Int) := by
  unfold un; rw [IntKind.wrap_u64]; omega
theorem un_nat (n : Nat) (h : n < 18446744073709551616) : un (n : Int) = n := by unfold un; omega
/-- a cell's bytes. -/
def oneP (c : Ce) : Nat → List Nat
  | 0 => varL (un c.r)
  | 1 => varL (un c.r) ++ varL (un c.fl)
  | 2 => varL (un c.r) ++ varL (un c.fl) ++ varL (un c.fg)
  | 3 => varL (un c.r) ++ varL (un c.fl) ++ varL (un c.fg) ++ varL (un c.bg)
  | _ => varL (un c.r) ++ varL (un c.fl) ++ varL (un c.fg) ++ varL (un c.bg) ++ varL (un c.wd)
abbrev oneL (c : Ce) : List Nat := oneP c 4
def fld (c : Ce) (k : Nat) : Int := [c.fl, c.fg, c.bg, c.wd].getD k 0
theorem one_next (c : Ce) (k : Nat) (h : k < 4) : oneP c (k + 1) = oneP c k ++ varL (un (fld c k)) := by
  match k, h with
  | 0, _ => rfl
  | 1, _ => rfl
  | 2, _ => rfl
  | 3, _ => rfl
theorem var_le (n : Int) : (varL (un n)).length ≤ 10 := varL_ten (un_lt n)
theorem one_len (c : Ce) (k : Nat) : (oneP c k).length ≤ 50 := by
  have h1 := var_le c.r; have h2 := var_le c.fl; have h3 := var_le c.fg; have h4 := var_le c.bg; have h5 := var_le c.wd
  match k with
  | 0 => simp only [oneP]; omega
  | 1 => simp only [oneP, List.length_append]; omega
  | 2 => simp only [oneP, List.length_append]; omega
  | 3 => simp only [oneP, List.length_append]; omega
  | k + 4 => simp only [oneP, List.length_append]; omega
theorem idx99 (c : Ce) (k : Nat) (h : k < 4) (w : World) : (Instr.index 99 (.agg #[.int .i64 c.fl, .int .i64 c.fg, .int .i64 c.bg, .int .i64 c.wd]) (.int .i64 (k : Int))).run Try.prog w = .ok (.int .i64 (fld c k)) w := by
  match k, h with
  | 0, _ => exact (show (Instr.index 99 (.agg #[.int .i64 c.fl, .int .i64 c.fg, .int .i64 c.bg, .int .i64 c.wd]) (.int .i64 0)).run Try.prog w = .ok (.int .i64 c.fl) w by kernel_rfl)
  | 1, _ => exact (show (Instr.index 99 (.agg #[.int .i64 c.fl, .int .i64 c.fg, .int .i64 c.bg, .int .i64 c.wd]) (.int .i64 1)).run Try.prog w = .ok (.int .i64 c.fg) w by kernel_rfl)
  | 2, _ => exact (show (Instr.index 99 (.agg #[.int .i64 c.fl, .int .i64 c.fg, .int .i64 c.bg, .int .i64 c.wd]) (.int .i64 2)).run Try.prog w = .ok (.int .i64 c.bg) w by kernel_rfl)
  | 3, _ => exact (show (Instr.index 99 (.agg #[.int .i64 c.fl, .int .i64 c.fg, .int .i64 c.bg, .int .i64 c.wd]) (.int .i64 3)).run Try.prog w = .ok (.int .i64 c.wd) w by kernel_rfl)
theorem ans_rb {n : Nat} {w : World} {e : Ending} {w' : World} (h : Ans n w e w') : ∃ v, e = .returned v ∧ Rb w' w.heap.size v (varL n) ∧ Below w.heap.size w w' := h
theorem rb_base {w : World} {b1 b2 : Nat} {v : Value} {l : List Nat} (h : Rb w b1 v l) (hb : b2 ≤ b1) : Rb w b2 v l := by
  refine ⟨h.1, ?_⟩
  rcases h.2 with h | ⟨g, cap, cur, h1, h2, rest⟩
  · exact .inl h
  · exact .inr ⟨g, cap, cur, h1, Nat.le_trans hb h2, rest⟩
def RbQ (w : World) (l : List Nat) (e : Ending) (w' : World) : Prop := ∃ v, e = .returned v ∧ Rb w' w.heap.size v l ∧ Below w.heap.size w w'
theorem varR (n : Int) (w : World) : Calls Try.prog 40 #[.int .u64 (IntKind.u64.wrap n)] w (RbQ w (varL (un n))) := by
  rw [un_wrap]; exact varC (un n) w (un_lt n)
abbrev cO (c : Ce) : Obj := .cells #[.int .i32 c.r, .int .i64 c.fl, .int .i64 c.fg, .int .i64 c.bg, .int .i64 c.wd] 52
theorem five {w : World} {k : Nat} {c : Ce} (h : w.heap[k]? = some (cO c)) : w.cell? ⟨k, 0, none⟩ = some (.int .i32 c.r) ∧ w.cell? ⟨k, 1, none⟩ = some (.int .i64 c.fl) ∧ w.cell? ⟨k, 2, none⟩ = some (.int .i64 c.fg) ∧ w.cell? ⟨k, 3, none⟩ = some (.int .i64 c.bg) ∧ w.cell? ⟨k, 4, none⟩ = some (.int .i64 c.wd) := by
  refine ⟨?_, ?_, ?_, ?_, ?_⟩ <;> simp [World.cell?, h]
set_option maxRecDepth 100000 in
set_option maxHeartbeats 2000000 in
/-- key.one. -/
theorem oneC (c : Ce) (w : World) : Calls Try.prog 45 #[cvA c] w (RbQ w (oneL c)) := by
  have hb := below_one w (cO c)
  obtain ⟨x0, x1, x2, x3, x4⟩ := five (heap_alloc_last w (cO c))
  have HV := Lib.hid (fun n w => varR n w)
  have HI := Lib.hid (fun (k : Nat) (h : k < 4) => idx99 c k h)
  have HN := Lib.hid (one_next c)
  have HLN := Lib.hid (one_len c)
  have H0 := Lib.hid (show oneP c 0 = varL (un c.r) from rfl)
  obtain ⟨F, hF⟩ : ∃ F, F = fld c := ⟨_, rfl⟩
  rw [← hF] at HI HN
  obtain ⟨O, hO⟩ : ∃ O, O = oneP c := ⟨_, rfl⟩
  show Calls Try.prog 45 #[cvA c] w (RbQ w (oneP c 4))
  rw [← hO] at HN HLN H0 ⊢
  clear hF hO
  obtain ⟨cr, cfl, cfg, cbg, cwd⟩ := c
  dsimp only [cO] at hb x0 x1 x2 x3 x4 HI H0
  generalize hw0 : w.alloc (.cells #[.int .i32 cr, .int .i64 cfl, .int .i64 cfg, .int .i64 cbg, .int .i64 cwd] 52) = w0 at *
  have HB := Lib.hid hb
  clear hb
  go_enter Try.func45, Try.ntmps45
  go_wp2_with (go_at_call 40; (with_reducible refine (HV.out _ _).mono ?_); rintro e w1 ⟨v1, rfl, hr, hb⟩; have HB1 := Lib.hid hb; have HR1 := Lib.hid (show Rb w1 w0.heap.size v1 (O 0) by rw [H0.out]; exact hr); replace x1 := cell_then hb (Nat.le_refl _) x1; replace x2 := cell_then hb (Nat.le_refl _) x2; replace x3 := cell_then hb (Nat.le_refl _) x3; replace x4 := cell_then hb (Nat.le_refl _) x4; clear hb hr x0)
  go_loopw [3, 22] (fun s3 s22 wr => ∃ k : Nat, k ≤ 4 ∧ s22 = .int .i64 k ∧ Hid (Rb wr w0.heap.size s3 (O k)) ∧ Hid (Below w0.heap.size w0 wr)) (fun _ s22 _ => 4 - (intOf s22).toNat)
  case atStart => exact ⟨0, Nat.zero_le _, rfl, HR1, HB1⟩
  case round =>
    obtain ⟨k, hk, rfl, HR, HBr⟩ := hrel
    clear HR1 HB1 x1 x2 x3 x4
    by_cases hlt : k < 4
    · have HKk := Lib.hid (show k + 1 ≤ 4 ∧ 4 - (k + 1) < 4 - k by omega)
      have hkI : (k : Int) < 4 := by omega
      have hi := HI.out k hlt
      have HNX := Lib.hid (HN.out k hlt)
      have HL := Lib.hid (show (O k).length + (varL (un (F k))).length ≤ 1000000 by have := HLN.out k; have := var_le (F k); omega)
      have hw1 : IntKind.i64.wrap ((k : Int) + 1) = (k : Int) + 1 := IntWalk.i64_in _ (by omega)
      clear hk
      generalize F k = x at *
      go_wp2_with (first
        | (go_at_call 40; (with_reducible refine (HV.out _ _).mono ?_); rintro e w2 ⟨v2, rfl, hr, hb⟩; obtain ⟨a2, c2, rfl, hc2, hs2, ha2, hx2⟩ := rb_sl hr; have HB2 := Lib.hid (below_then HBr.out hb HBr.out.size); have HR2 := Lib.hid (rb_then HR.out hb (Nat.le_refl _)); have HSL := Lib.hid hs2; have HA2 := Lib.hid ha2; clear hr hb hs2 hx2 ha2 hc2)
        | (at_builtin; refine app_sl rfl _ _ rfl w0.heap.size _ (O k) rfl HR2.out a2 _ c2 (varL (un x)) rfl rfl HA2.out HSL.out HL.out HB2.out.size ?_; intro v3 w3 hr3 hb3; have HR3 := Lib.hid (show Rb w3 w0.heap.size v3 (O (k + 1)) by rw [HNX.out]; exact hr3); have HB3 := Lib.hid (hb3 _ _ (Nat.le_refl _) HB2.out); clear hr3 hb3))
      first
        | exact ⟨⟨k + 1, HKk.out.1, by go_num, HR3, HB3⟩, by simp only [intOf]; exact HKk.out.2⟩
        | (go_roundw
           · exact ⟨k + 1, HKk.out.1, by go_num, HR3, HB3⟩
           · simp only [intOf]; exact HKk.out.2)
    · obtain rfl : k = 4 := by omega
      clear hk hlt
      go_wp2
      go_ret
      exact ⟨_, rfl, rb_base HR.out HB.out.size, below_then HB.out HBr.out HB.out.size⟩
/-- how many cells alike a list begins with. -/
def runL : List Ce → Nat
  | [] => 0
  | c :: l => (l.takeWhile (· == c)).length + 1
theorem run_is (c : Ce) (l : List Ce) (k : Nat) (h1 : 1 ≤ k) (h2 : ∀ i, i < k → (c :: l)[i]? = some c) (h3 : k = l.length + 1 ∨ ∃ d, (c :: l)[k]? = some d ∧ d ≠ c) : k = runL (c :: l) := by
  obtain ⟨j, rfl⟩ : ∃ j, k = j + 1 := ⟨k - 1, by omega⟩
  have h2' : ∀ i, i < j → l[i]? = some c := fun i hi => by simpa using h2 (i + 1) (by omega)
  have h3' : j = l.length ∨ ∃ d, l[j]? = some d ∧ d ≠ c := by
    rcases h3 with h | ⟨d, h, h'⟩
    · exact .inl (by omega)
    · exact .inr ⟨d, by simpa using h, h'⟩
  clear h1 h2 h3
  unfold runL
  congr 1
  induction l generalizing j with
  | nil => rcases h3' with h | ⟨d, h, _⟩
           · simpa using h
           · simp at h
  | cons e l ih =>
    cases j with
    | zero =>
      rcases h3' with h | ⟨d, h, h'⟩
      · simp at h
      · simp at h; subst h; simp [h']
    | succ j =>
      have e0 : e = c := by simpa using h2' 0 (by omega)
      subst e0
      rw [List.takeWhile_cons]
      simp only [beq_self_eq_true, if_true, List.length_cons]
      congr 1
      refine ih j (fun i hi => by simpa using h2' (i + 1) (by omega)) ?_
      rcases h3' with h | ⟨d, h, h'⟩
      · exact .inl (by simpa using h)
      · exact .inr ⟨d, by simpa using h, h'⟩
theorem run_pos (c : Ce) (l : List Ce) : 1 ≤ runL (c :: l) ∧ runL (c :: l) ≤ l.length + 1 := by
  have := List.IsPrefix.length_le (List.takeWhile_prefix (l := l) (· == c))
  simp only [runL]; omega
theorem ce_ne {c d : Ce} (h : c ≠ d) : (c.r == d.r) = false ∨ (c.fl == d.fl) = false ∨ (c.fg == d.fg) = false ∨ (c.bg == d.bg) = false ∨ (c.wd == d.wd) = false := by
  obtain ⟨a, b, e, f, g⟩ := c
  obtain ⟨a', b', e', f', g'⟩ := d
  simp only [beq_eq_false_iff_ne]
  by_cases h1 : a = a'
  · by_cases h2 : b = b'
    · by_cases h3 : e = e'
      · by_cases h4 : f = f'
        · by_cases h5 : g = g'
          · subst h1 h2 h3 h4 h5; exact absurd rfl h
          · exact .inr (.inr (.inr (.inr h5)))
        · exact .inr (.inr (.inr (.inl h4)))
      · exact .inr (.inr (.inl h3))
    · exact .inr (.inl h2)
  · exact .inl h1
set_option maxRecDepth 100000 in
set_option maxHeartbeats 4000000 in
/-- key.run. -/
theorem runC (b off n cap : Nat) (c : Ce) (l : List Ce) (w : World) (hn : n = l.length + 1) (hm : n ≤ 1000000) (hs : Sc w b off (c :: l)) :
    Calls Try.prog 44 #[.slice (some ⟨b, off, none⟩) n cap] w fun e w' => e = .returned (.int .i64 (runL (c :: l) : Int)) ∧ ∃ k, w.drewN k = w' := by
  have HS := Lib.hid (fun m => (show Sc (w.drewN m) b off (c :: l) from hs))
  have HN := Lib.hid hn
  have HM := Lib.hid hm
  have HR := Lib.hid (run_is c l)
  have HONE := Lib.hid (show ∀ i, i < 1 → (c :: l)[i]? = some c from fun i hi => by
    have e : i = 0 := by omega
    subst e; rfl)
  have h0 : 0 < n := by omega
  clear hs hn hm
  go_enter Try.func44, Try.ntmps44
  go_wp2
  go_loopw [3] (fun s3 wr => ∃ k : Nat, k ≤ n ∧ s3 = .int .i64 k ∧ Hid (1 ≤ k) ∧ Hid (∀ i, i < k → (c :: l)[i]? = some c) ∧ ∃ m, wr = w.drewN m) (fun s3 _ => n - (intOf s3).toNat)
  case atStart => exact ⟨1, h0, rfl, Lib.hid (Nat.le_refl _), HONE, 0, rfl⟩
  case round =>
    obtain ⟨k, hk, rfl, H1, HA, m, rfl⟩ := hrel
    obtain ⟨x0, x1, x2, x3, x4⟩ := (HS.out m).at_ 0 c rfl
    rw [Nat.zero_mul, Nat.add_zero] at x0 x1 x2 x3 x4
    by_cases hlt : k < n
    · have hk1 : k < (c :: l).length := by rw [List.length_cons, ← HN.out]; exact hlt
      obtain ⟨y0, y1, y2, y3, y4⟩ := (HS.out m).at_ k _ (List.getElem?_eq_getElem hk1)
      have HD := Lib.hid (show (c :: l)[k]? = some (c :: l)[k] from List.getElem?_eq_getElem hk1)
      have HRk := Lib.hid (fun h => HR.out k H1.out HA.out (.inr ⟨_, HD.out, h⟩))
      have HKk := Lib.hid (show k + 1 ≤ n ∧ n - (k + 1) < n - k by omega)
      have hw1 : IntKind.i64.wrap ((k : Int) + 1) = (k : Int) + 1 := IntWalk.i64_in _ (by have := HM.out; omega)
      have hkI : (k : Int) < (n : Int) := by omega
      have hnI : (0 : Int) < (n : Int) := by omega
      have hdI : decide ((k : Int) < (n : Int)) = true := decide_eq_true hkI
      generalize (c :: l)[k] = d at *
      generalize hwr : w.drewN m = wr at *
      have HW := Lib.hid hwr
      clear hwr hk1
      by_cases hcd : d = c
      · subst hcd
        have HA2 := Lib.hid (show ∀ i, i < k + 1 → (d :: l)[i]? = some d from fun i hi => by
          by_cases e : i = k
          · subst e; exact HD.out
          · exact HA.out i (by omega))
        go_wp2
        go_quiet (fail)
        go_wp2
        exact ⟨⟨k + 1, HKk.out.1, by go_num, Lib.hid (Nat.le_succ_of_le H1.out), HA2, m + nq, by rw [← HW.out, World.drewN_drewN]⟩, by simp only [intOf]; exact HKk.out.2⟩
      · have HF := Lib.hid (HRk.out hcd)
        have hne := ce_ne hcd
        obtain ⟨cr, cfl, cfg, cbg, cwd⟩ := c
        obtain ⟨dr, dfl, dfg, dbg, dwd⟩ := d
        dsimp only at x0 x1 x2 x3 x4 y0 y1 y2 y3 y4 hne
        clear hcd
        rcases hne with e | e | e | e | e
        all_goals go_wp2
        all_goals go_quiet (fail)
        all_goals go_wp2
        all_goals go_ret
        all_goals exact ⟨by rw [HF.out]; rfl, m + nq, by rw [← HW.out, World.drewN_drewN]⟩
    · obtain rfl : k = n := by omega
      have HF := Lib.hid (HR.out k H1.out HA.out (.inl HN.out))
      have hdI : decide ((k : Int) < (k : Int)) = false := decide_eq_false (by omega)
      generalize hwr : w.drewN m = wr at *
      have HW := Lib.hid hwr
      clear hwr hk hlt
      go_wp2
      go_quiet (fail)
      go_wp2
      go_ret
      exact ⟨by rw [HF.out]; rfl, m + nq, by rw [← HW.out, World.drewN_drewN]⟩
end Go.Proofs.Ytfogbokifbjjlaa.La
