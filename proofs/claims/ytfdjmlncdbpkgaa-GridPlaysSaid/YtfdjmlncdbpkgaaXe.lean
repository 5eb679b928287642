/- The document's Erase. -/
import Derived.Test.YtfdjmlncdbpkgaaXm
import Derived.Test.YtfdjmlncdbpkgaaXf
import Derived.Test.YtfdjmlncdbpkgaaPr
set_option linter.unusedVariables false
namespace Go.Proofs.Ytfdjmlncdbpkgaa.Xe
open Go Go.RowKit Kit Gm Gv Fl Me Cp Sl Gg Gh Gp Gq Gk Xa Xb Xm Xn Xf
open Ge (unit)
open Gr (eraseL eraseRow)
open Pr (Iv)

theorem may_wds {c : Ce} (h : mayC c = true) : c.wd = 0 ∨ c.wd = 1 ∨ c.wd = 2 := by
  unfold mayC Cell.mayB at h
  simp only [Bool.and_eq_true, Bool.or_eq_true, beq_iff_eq] at h
  omega
/-- a row made blank from F up to k. -/
def part (M : List Ce) (F k : Nat) (x : Ce) : List Ce := M.take F ++ List.replicate (k - F) x ++ M.drop k
theorem part_start (M : List Ce) (F : Nat) (x : Ce) : part M F F x = M := by unfold part; simp
theorem part_len {M : List Ce} {F k : Nat} (x : Ce) (h : F ≤ k) (hk : k ≤ M.length ∨ k = F) : (part M F k x).length = M.length := by
  unfold part; rw [List.length_append, List.length_append, List.length_take, List.length_replicate, List.length_drop]; omega
theorem part_mem {M : List Ce} {F k : Nat} {x : Ce} {P : Ce → Prop} (h : ∀ c ∈ M, P c) (hx : P x) : ∀ c ∈ part M F k x, P c := by
  intro c hc; unfold part at hc
  rcases List.mem_append.1 hc with hc | hc
  · rcases List.mem_append.1 hc with hc | hc
    · exact h c (List.mem_of_mem_take hc)
    · rw [List.eq_of_mem_replicate hc]; exact hx
  · exact h c (List.mem_of_mem_drop hc)
theorem part_split {M : List Ce} {F k : Nat} (x : Ce) (hk : k < M.length) : part M F k x = (M.take F ++ List.replicate (k - F) x) ++ M[k] :: M.drop (k + 1) := by
  unfold part; rw [List.drop_eq_getElem_cons hk]
theorem part_put {M : List Ce} {F k : Nat} (x : Ce) (h : F ≤ k) : (M.take F ++ List.replicate (k - F) x) ++ x :: M.drop (k + 1) = part M F (k + 1) x := by
  unfold part; rw [show k + 1 - F = (k - F) + 1 by omega, List.replicate_succ']; simp
theorem part_pre {M : List Ce} {F k : Nat} (x : Ce) (h : F ≤ k) (hk : k < M.length) : (M.take F ++ List.replicate (k - F) x).length = k := by
  rw [List.length_append, List.length_take, List.length_replicate]; omega
set_option maxRecDepth 100000 in
set_option maxHeartbeats 2000000 in
/-- Erase, of nothing. -/
theorem eraseNo (p b R C : Nat) (row fr t0 af ag ab : Int) (L : List Ce) (w : World) (h : X w p b R C L) (y : Bool) (hy : Cell.attrB af ag ab = y) (hz : ¬ (0 ≤ row ∧ row < R ∧ y = true)) :
    Calls Try.prog 38 #[.pointer (some ⟨p, 0, none⟩), .int .i64 row, .int .i64 fr, .int .i64 t0, .agg #[.int .i64 af, .int .i64 ag, .int .i64 ab]] w fun e w' => e = .returned unit ∧ Below w.heap.size w w' := by
  have HB := Lib.hid (below_one w (.cells #[.int .i64 af, .int .i64 ag, .int .i64 ab] 35))
  have HG := Lib.hid (h.then_ HB.out (Nat.le_refl _))
  have HF := Lib.hid (heap_last w #[.int .i64 af, .int .i64 ag, .int .i64 ab] 35)
  generalize hw0 : w.alloc (.cells #[.int .i64 af, .int .i64 ag, .int .i64 ab] 35) = w0 at *
  obtain ⟨a0, a1, a2⟩ := three HF.out
  obtain ⟨p0, p1, p2⟩ := three HG.out.obj
  have HM := Lib.hid (rAttrB af ag ab y hy w0)
  clear h hy
  by_cases h1 : row < 0
  · have z1 : decide (row < 0) = true := by simpa using h1
    clear hz
    go_enter Try.func38, Try.ntmps38
    go_wp2
    exact bodyPost_ret (v := .tuple #[]) (by simp [results, Try.results38, go_sem]) rfl ⟨rfl, HB.out⟩
  · by_cases h2 : row < R
    · obtain rfl : y = false := by
        cases y with
        | false => rfl
        | true => exact absurd ⟨by omega, h2, rfl⟩ hz
      have h1' : 0 ≤ row := by omega
      clear hz
      go_enter Try.func38, Try.ntmps38
      go_wp2_with (go_at_call 56; (with_reducible refine HM.out.mono ?_); rintro e w1 ⟨rfl, hb1⟩; have HB1 := Lib.hid (below_then HB.out hb1 HB.out.size); clear hb1)
      exact bodyPost_ret (v := .tuple #[]) (by simp [results, Try.results38, go_sem]) rfl ⟨rfl, HB1.out⟩
    · have h1' : 0 ≤ row := by omega
      have h2' : (R : Int) ≤ row := by omega
      clear hz
      go_enter Try.func38, Try.ntmps38
      go_wp2
      exact bodyPost_ret (v := .tuple #[]) (by simp [results, Try.results38, go_sem]) rfl ⟨rfl, HB.out⟩
theorem erase_nums {q C n k : Nat} (h : k < C) (hn : q + C ≤ n) (hs : n ≤ 12000) : ∃ u : Nat, u < n ∧ u = q + k ∧ IntKind.i64.wrap (q : Int) = (q : Int) ∧ wrap64 (q : Int) = (q : Int) ∧ IntKind.i64.wrap ((q : Int) + (k : Int)) = (u : Int) ∧ wrap64 ((q : Int) + (k : Int)) = (u : Int) := by
  have h1 : q + k < n := by omega
  have h2 : (q : Int) ≤ 1000000 := by omega
  have h3 : (q : Int) + (k : Int) ≤ 1000000 := by omega
  have h4 : (q : Int) + (k : Int) = ((q + k : Nat) : Int) := by omega
  have e1 := wr_of (x := (q : Int)) (y := (q : Int)) (Int.natCast_nonneg _) h2 rfl
  have e2 := wr_of (x := (q : Int) + (k : Int)) (y := ((q + k : Nat) : Int)) (by rw [h4]; exact Int.natCast_nonneg _) h3 h4
  exact ⟨q + k, h1, rfl, e1.1, e1.2, e2.1, e2.2⟩
theorem erase_bounds {F K n : Nat} {T : Int} (hK : (K : Int) = max (F : Int) T) (hT : T ≤ (n : Int)) : F ≤ K ∧ ∀ k : Nat, F ≤ k → k ≤ K → ((k : Int) < T → k + 1 ≤ K ∧ K - (k + 1) < K - k) ∧ (¬ (k : Int) < T → k = K) ∧ (k ≤ n ∨ k = F) := by
  by_cases h : (F : Int) ≤ T
  · rw [Int.max_eq_right h] at hK
    exact ⟨by omega, fun k h1 h2 => ⟨fun h3 => ⟨by omega, by omega⟩, fun h3 => by omega, by omega⟩⟩
  · rw [Int.max_eq_left (by omega)] at hK
    exact ⟨by omega, fun k h1 h2 => ⟨fun h3 => ⟨by omega, by omega⟩, fun h3 => by omega, by omega⟩⟩
theorem succ_wrap {k C : Nat} (hk : k < C) (hc : C ≤ 200) : IntKind.i64.wrap ((k : Int) + 1) = (k : Int) + 1 ∧ wrap64 ((k : Int) + 1) = (k : Int) + 1 := wr_of (by omega) (by omega) rfl
theorem ite_max (fr : Int) : (if fr < 0 then 0 else fr) = max fr 0 := by split <;> omega
theorem ite_min (a c : Int) : (if c < a then c else a) = min a c := by split <;> omega
theorem part_all {A M Z : List Ce} {F k : Nat} (x : Ce) (h : F ≤ k) (hk : k ≤ M.length ∨ k = F) : (A ++ part M F k x ++ Z).length = (A ++ M ++ Z).length := by
  rw [List.length_append, List.length_append, List.length_append, List.length_append, part_len x h hk]
set_option maxRecDepth 100000 in
set_option maxHeartbeats 4000000 in
/-- Erase, of a row that is there. -/
theorem eraseYes (p b R C r : Nat) (fr t0 af ag ab : Int) (A M Z : List Ce) (w : World) (h : X w p b R C (A ++ M ++ Z)) (hr : r < R) (hA : A.length = r * C) (hM : M.length = C) (hwd : ∀ c ∈ M, c.wd = 0 ∨ c.wd = 1 ∨ c.wd = 2) (hy : Cell.attrB af ag ab = true) (F K : Nat) (hF : (F : Int) = max fr 0) (hK : (K : Int) = max (F : Int) (min t0 (C : Int))) :
    Calls Try.prog 38 #[.pointer (some ⟨p, 0, none⟩), .int .i64 (r : Int), .int .i64 fr, .int .i64 t0, .agg #[.int .i64 af, .int .i64 ag, .int .i64 ab]] w (RowP b (A ++ mend (part M F K (Gm.blankC ab)) ++ Z) w) := by
  have HB := Lib.hid (below_one w (.cells #[.int .i64 af, .int .i64 ag, .int .i64 ab] 35))
  have HG := Lib.hid (h.then_ HB.out (Nat.le_refl _))
  have HFo := Lib.hid (heap_last w #[.int .i64 af, .int .i64 ag, .int .i64 ab] 35)
  generalize hw0 : w.alloc (.cells #[.int .i64 af, .int .i64 ag, .int .i64 ab] 35) = w0 at *
  obtain ⟨a0, a1, a2⟩ := three HFo.out
  obtain ⟨p0, p1, p2⟩ := three HG.out.obj
  have HM := Lib.hid (rAttrB af ag ab true hy w0)
  have HNE := Lib.hid h.ne
  have HNw := Lib.hid (show w.heap.size ≠ b from fun e => by have := h.b_lt; omega)
  have hsm := h.small
  have hc2 := h.c2
  have hcapn : (A ++ M ++ Z).length = A.length + C + Z.length := by rw [List.length_append, List.length_append, hM]
  have HMEND := Lib.hid (fun (k : Nat) (w1 : World) (hx : X w1 p b R C (A ++ part M F k (Gm.blankC ab) ++ Z)) (h1 : F ≤ k) (h2 : k ≤ M.length ∨ k = F) =>
    mendX p b R C r A (part M F k (Gm.blankC ab)) Z w1 hx hr hA ((part_len _ h1 h2).trans hM) (part_mem hwd (.inl rfl)))
  have HX0 := Lib.hid (fun (k : Nat) (w1 w2 : World) (hb : Below w0.heap.size w0 w1) (hr : RB w2 b (A ++ part M F k (Gm.blankC ab) ++ Z)) (hk : Kp b b w1 w2) (h1 : F ≤ k) (h2 : k ≤ M.length ∨ k = F) =>
    (HG.out.then_ hb (Nat.le_refl _)).row_new hr hk (part_all _ h1 h2))
  have HR0 := Lib.hid (show RB w0 b (A ++ part M F F (Gm.blankC ab) ++ Z) by rw [part_start]; exact HG.out.row)
  rw [hA] at hcapn
  generalize (A ++ M ++ Z).length = n at *
  have hrc : r * C + C ≤ n := Nat.le.intro hcapn.symm
  have hTC : min t0 (C : Int) ≤ (C : Int) := Int.min_le_right _ _
  have HNUM := Lib.hid (show ∀ k : Nat, (k : Int) < min t0 (C : Int) → k < C ∧ k < M.length ∧ ∃ u : Nat, u < n ∧ u = r * C + k ∧ IntKind.i64.wrap ((r : Int) * (C : Int)) = ((r * C : Nat) : Int) ∧ wrap64 ((r : Int) * (C : Int)) = ((r * C : Nat) : Int) ∧ IntKind.i64.wrap (((r * C : Nat) : Int) + (k : Int)) = (u : Int) ∧ wrap64 (((r * C : Nat) : Int) + (k : Int)) = (u : Int) from by
    intro k hk
    have h1 : k < C := Int.ofNat_lt.1 (Int.lt_of_lt_of_le hk hTC)
    rw [(Int.natCast_mul r C).symm, hM]
    exact ⟨h1, h1, erase_nums h1 hrc hsm⟩)
  have HKF := Lib.hid (erase_bounds (n := M.length) hK (by rw [hM]; exact hTC))
  have HFr := Lib.hid (show r < R ∧ 0 ≤ (r : Int) from ⟨hr, Int.natCast_nonneg _⟩)
  have HAq := Lib.hid hA
  have kF : (if fr < 0 then 0 else fr) = (F : Int) := (ite_max fr).trans hF.symm
  obtain ⟨T, hT⟩ : ∃ T, T = min t0 (C : Int) := ⟨_, rfl⟩
  have kT : (if (C : Int) < t0 then (C : Int) else t0) = T := (ite_min t0 C).trans hT.symm
  rw [← hT] at HNUM HKF
  have z1 : (r : Int) < R := Int.ofNat_lt.2 hr
  have z0 : decide ((r : Int) < 0) = false := decide_eq_false (Int.not_lt.2 (Int.natCast_nonneg r))
  have z2 : decide ((R : Int) ≤ (r : Int)) = false := decide_eq_false (Int.not_le.2 z1)
  have z3 : decide (R ≤ r) = false := decide_eq_false (Nat.not_le.2 hr)
  have z4 : decide ((r : Int) ≥ (R : Int)) = false := decide_eq_false (Int.not_le.2 z1)
  have HSM := Lib.hid hsm
  have HC2 := Lib.hid hc2
  generalize r * C = q at *
  clear h hr hA hM hwd hy hF hK hT hsm hc2 hcapn hrc hTC
  go_enter Try.func38, Try.ntmps38
  go_wp2_with (go_at_call 56; (with_reducible refine HM.out.mono ?_); rintro e w1 ⟨rfl, hb1⟩; have HB1 := Lib.hid hb1; replace a0 := Gg.cell_then hb1 (Nat.le_refl _) a0; replace a1 := Gg.cell_then hb1 (Nat.le_refl _) a1; replace a2 := Gg.cell_then hb1 (Nat.le_refl _) a2; replace p1 := Gg.cell_then hb1 (Nat.le_refl _) p1; replace p2 := Gg.cell_then hb1 (Nat.le_refl _) p2; have HR1 := Lib.hid (HR0.out.then_ hb1 (Nat.le_refl _)); clear hb1)
  have HA0 := Lib.hid a0
  have HA1 := Lib.hid a1
  have HA2 := Lib.hid a2
  have HP1 := Lib.hid p1
  have HP2 := Lib.hid p2
  clear a0 a1 a2 p0 p1 p2
  go_loopw [10] (fun s10 wr => ∃ k : Nat, F ≤ k ∧ k ≤ K ∧ s10 = .int .i64 k ∧ Hid (RB wr b (A ++ part M F k (Gm.blankC ab) ++ Z)) ∧ Hid (Kp b b w1 wr)) (fun s10 _ => K - (intOf s10).toNat)
  case atStart => exact ⟨F, Nat.le_refl _, HKF.out.1, rfl, HR1, Lib.hid (Kp.refl _ _ _)⟩
  case round =>
    obtain ⟨k, hk1, hk2, rfl, HR, HK⟩ := hrel
    have p1 := cell_kept HK.out HP1.out HNE.out HNE.out
    have p2 := cell_kept HK.out HP2.out HNE.out HNE.out
    have a0 := cell_kept HK.out HA0.out HNw.out HNw.out
    have a1 := cell_kept HK.out HA1.out HNw.out HNw.out
    have a2 := cell_kept HK.out HA2.out HNw.out HNw.out
    obtain ⟨g1, g2, g3⟩ := HKF.out.2 k hk1 hk2
    by_cases hlt : (k : Int) < T
    · obtain ⟨hkC, hkM, u, hu, hue, f1, f1', f2, f2'⟩ := HNUM.out k hlt
      have hsp := part_split (F := F) (Gm.blankC ab) hkM
      generalize M[k] = x0 at hsp
      have HRm := Lib.hid (show RB wr b ((A ++ (M.take F ++ List.replicate (k - F) (Gm.blankC ab))) ++ x0 :: (M.drop (k + 1) ++ Z)) by have := HR.out; rw [hsp] at this; simpa only [List.append_assoc, List.cons_append] using this)
      have HQk := Lib.hid (show u * 5 = (A ++ (M.take F ++ List.replicate (k - F) (Gm.blankC ab))).length * 5 by rw [List.length_append, HAq.out, part_pre _ hk1 hkM, hue])
      have HPUT := Lib.hid (show ∀ w4 w5, putR w4 b ((A ++ (M.take F ++ List.replicate (k - F) (Gm.blankC ab))) ++ Gm.blankC ab :: (M.drop (k + 1) ++ Z)) = w5 → RB w4 b ((A ++ (M.take F ++ List.replicate (k - F) (Gm.blankC ab))) ++ x0 :: (M.drop (k + 1) ++ Z)) → Hid (RB w5 b (A ++ part M F (k + 1) (Gm.blankC ab) ++ Z)) from fun w4 w5 e h4 => Lib.hid (by rw [← part_put _ hk1, ← e]; have := h4.put ((A ++ (M.take F ++ List.replicate (k - F) (Gm.blankC ab))) ++ Gm.blankC ab :: (M.drop (k + 1) ++ Z)); simpa using this))
      have HKk := Lib.hid (show F ≤ k + 1 ∧ k + 1 ≤ K ∧ K - (k + 1) < K - k from ⟨Nat.le_succ_of_le hk1, (g1 hlt).1, (g1 hlt).2⟩)
      have w1' := succ_wrap hkC HC2.out
      obtain ⟨w2', w3'⟩ := w1'
      clear hk1 hk2 g1 g2 g3 hkM hue hsp
      generalize (A ++ (M.take F ++ List.replicate (k - F) (Gm.blankC ab))) = P at *
      generalize (M.drop (k + 1) ++ Z) = S at *
      go_wp2
      refine wp_region_held_drew (S := (fun W => W.cell? ⟨p, 1, none⟩ = some (.int .i64 (C : Int)) ∧ W.cell? ⟨p, 2, none⟩ = some (.slice (some ⟨b, 0, none⟩) n n) ∧ W.cell? ⟨w.heap.size, 0, none⟩ = some (.int .i64 af) ∧ W.cell? ⟨w.heap.size, 1, none⟩ = some (.int .i64 ag) ∧ W.cell? ⟨w.heap.size, 2, none⟩ = some (.int .i64 ab))) (by kernel_rfl) ?_ (fun hHeld => ?_)
      · ((try dsimp only); exact ⟨p1, p2, a0, a1, a2⟩)
      refine wpAnyH_take (i := 0) (oi := { dst := some 38, op := Op.move (Operand.tmp 0), type := 28, pos := _, after := #[], guard := none }) (v := ?_) rfl (by kernel_rfl) (by kernel_rfl) (by kernel_rfl) (fun _ _ _ h => h) (Or.inl ⟨by rfl, ?_⟩) (by assumption) ?_
      rotate_left
      · ((intro w hSw); (try dsimp only at hSw); go_simp; (try with_reducible rfl))
      try simp only [Act.put, List.setIfInBounds_toArray, List.set_cons_zero, List.set_cons_succ]
      refine wpAnyH_take (i := 1) (oi := { dst := some 39, op := Op.nilCheck (Operand.tmp 38), type := 0, pos := _, after := #[{ on := 0, ground := Ground.data }], guard := none }) (v := ?_) rfl (by kernel_rfl) (by kernel_rfl) (by kernel_rfl) (fun _ _ _ h => h) (Or.inl ⟨by rfl, ?_⟩) (by assumption) ?_
      rotate_left
      · ((intro w hSw); (try dsimp only at hSw); go_simp; (try with_reducible rfl))
      try simp only [Act.put, List.setIfInBounds_toArray, List.set_cons_zero, List.set_cons_succ]
      refine wpAnyH_take (i := 2) (oi := { dst := some 40, op := Op.fieldAddr 43 (Operand.tmp 39) 2, type := 0, pos := _, after := #[{ on := 1, ground := Ground.data }], guard := none }) (v := ?_) rfl (by kernel_rfl) (by kernel_rfl) (by kernel_rfl) (fun _ _ _ h => h) (Or.inl ⟨by rfl, ?_⟩) (by assumption) ?_
      rotate_left
      · ((intro w hSw); (try dsimp only at hSw); go_simp; (try with_reducible rfl))
      try simp only [Act.put, List.setIfInBounds_toArray, List.set_cons_zero, List.set_cons_succ]
      refine wpAnyH_take (i := 3) (oi := { dst := some 41, op := Op.load 41 (Operand.tmp 40), type := 41, pos := _, after := #[{ on := 2, ground := Ground.data }], guard := none }) (v := ?_) rfl (by kernel_rfl) (by kernel_rfl) (by kernel_rfl) (fun _ _ _ h => h) (Or.inl ⟨by rfl, ?_⟩) (by assumption) ?_
      rotate_left
      · ((intro w hSw); (try dsimp only at hSw); go_simp; (try with_reducible rfl))
      try simp only [Act.put, List.setIfInBounds_toArray, List.set_cons_zero, List.set_cons_succ]
      refine wpAnyH_take (i := 4) (oi := { dst := some 42, op := Op.move (Operand.tmp 1), type := 3, pos := _, after := #[], guard := none }) (v := ?_) rfl (by kernel_rfl) (by kernel_rfl) (by kernel_rfl) (fun _ _ _ h => h) (Or.inl ⟨by rfl, ?_⟩) (by assumption) ?_
      rotate_left
      · ((intro w hSw); (try dsimp only at hSw); go_simp; (try with_reducible rfl))
      try simp only [Act.put, List.setIfInBounds_toArray, List.set_cons_zero, List.set_cons_succ]
      refine wpAnyH_take (i := 5) (oi := { dst := some 43, op := Op.move (Operand.tmp 0), type := 28, pos := _, after := #[], guard := none }) (v := ?_) rfl (by kernel_rfl) (by kernel_rfl) (by kernel_rfl) (fun _ _ _ h => h) (Or.inl ⟨by rfl, ?_⟩) (by assumption) ?_
      rotate_left
      · ((intro w hSw); (try dsimp only at hSw); go_simp; (try with_reducible rfl))
      try simp only [Act.put, List.setIfInBounds_toArray, List.set_cons_zero, List.set_cons_succ]
      refine wpAnyH_take (i := 6) (oi := { dst := some 44, op := Op.nilCheck (Operand.tmp 43), type := 0, pos := _, after := #[{ on := 5, ground := Ground.data }], guard := none }) (v := ?_) rfl (by kernel_rfl) (by kernel_rfl) (by kernel_rfl) (fun _ _ _ h => h) (Or.inl ⟨by rfl, ?_⟩) (by assumption) ?_
      rotate_left
      · ((intro w hSw); (try dsimp only at hSw); go_simp; (try with_reducible rfl))
      try simp only [Act.put, List.setIfInBounds_toArray, List.set_cons_zero, List.set_cons_succ]
      refine wpAnyH_take (i := 7) (oi := { dst := some 45, op := Op.fieldAddr 43 (Operand.tmp 44) 1, type := 0, pos := _, after := #[{ on := 6, ground := Ground.data }], guard := none }) (v := ?_) rfl (by kernel_rfl) (by kernel_rfl) (by kernel_rfl) (fun _ _ _ h => h) (Or.inl ⟨by rfl, ?_⟩) (by assumption) ?_
      rotate_left
      · ((intro w hSw); (try dsimp only at hSw); go_simp; (try with_reducible rfl))
      try simp only [Act.put, List.setIfInBounds_toArray, List.set_cons_zero, List.set_cons_succ]
      refine wpAnyH_take (i := 8) (oi := { dst := some 46, op := Op.load 3 (Operand.tmp 45), type := 3, pos := _, after := #[{ on := 7, ground := Ground.data }], guard := none }) (v := ?_) rfl (by kernel_rfl) (by kernel_rfl) (by kernel_rfl) (fun _ _ _ h => h) (Or.inl ⟨by rfl, ?_⟩) (by assumption) ?_
      rotate_left
      · ((intro w hSw); (try dsimp only at hSw); go_simp; (try with_reducible rfl))
      try simp only [Act.put, List.setIfInBounds_toArray, List.set_cons_zero, List.set_cons_succ]
      refine wpAnyH_take (i := 9) (oi := { dst := some 47, op := Op.binOp BinOp.mul 3 (Operand.tmp 42) (Operand.tmp 46) 3, type := 3, pos := _, after := #[{ on := 4, ground := Ground.data }, { on := 8, ground := Ground.data }], guard := none }) (v := ?_) rfl (by kernel_rfl) (by kernel_rfl) (by kernel_rfl) (fun _ _ _ h => h) (Or.inl ⟨by rfl, ?_⟩) (by assumption) ?_
      rotate_left
      · ((intro w hSw); (try dsimp only at hSw); go_simp; (try with_reducible rfl))
      try simp only [Act.put, List.setIfInBounds_toArray, List.set_cons_zero, List.set_cons_succ]
      refine wpAnyH_take (i := 10) (oi := { dst := some 48, op := Op.move (Operand.tmp 10), type := 3, pos := _, after := #[], guard := none }) (v := ?_) rfl (by kernel_rfl) (by kernel_rfl) (by kernel_rfl) (fun _ _ _ h => h) (Or.inl ⟨by rfl, ?_⟩) (by assumption) ?_
      rotate_left
      · ((intro w hSw); (try dsimp only at hSw); go_simp; (try with_reducible rfl))
      try simp only [Act.put, List.setIfInBounds_toArray, List.set_cons_zero, List.set_cons_succ]
      refine wpAnyH_take (i := 11) (oi := { dst := some 49, op := Op.binOp BinOp.add 3 (Operand.tmp 47) (Operand.tmp 48) 3, type := 3, pos := _, after := #[{ on := 9, ground := Ground.data }, { on := 10, ground := Ground.data }], guard := none }) (v := ?_) rfl (by kernel_rfl) (by kernel_rfl) (by kernel_rfl) (fun _ _ _ h => h) (Or.inl ⟨by rfl, ?_⟩) (by assumption) ?_
      rotate_left
      · ((intro w hSw); (try dsimp only at hSw); go_simp; (try with_reducible rfl))
      try simp only [Act.put, List.setIfInBounds_toArray, List.set_cons_zero, List.set_cons_succ]
      refine wpAnyH_take (i := 12) (oi := { dst := some 50, op := Op.load 35 (Operand.tmp 9), type := 35, pos := _, after := #[], guard := none }) (v := ?_) rfl (by kernel_rfl) (by kernel_rfl) (by kernel_rfl) (fun _ _ _ h => h) (Or.inl ⟨by rfl, ?_⟩) (by assumption) ?_
      rotate_left
      · ((intro w hSw); (try dsimp only at hSw); go_simp; (try with_reducible rfl))
      try simp only [Act.put, List.setIfInBounds_toArray, List.set_cons_zero, List.set_cons_succ]
      refine wpAnyH_ready (rs := [13]) (by kernel_rfl) (by simp) ?_
      refine (AllReadyH.cons (o := { dst := some 51, op := Op.call { callee := Callee.value (Operand.func 35), args := #[Operand.tmp 50], argTypes := #[35] }, type := 37, pos := _, after := #[{ on := 12, ground := Ground.data }], guard := none }) rfl (fun K hK => ?_) AllReadyH.nil)
      go_simp
      refine (rBlankB _ _ _ _).mono ?_
      rintro e w4 ⟨rfl, hb4⟩
      have HB4 := Lib.hid (show Below wr.heap.size wr w4 from (by first | exact hb4 | exact below_undrew hb4))
      clear hb4
      go_wp2_with fail
      refine hK.out _ _ ?_ (fun hHeld => ?_)
      · ((try dsimp only); exact ⟨cell_then HB4.out (Nat.le_refl _) p1, cell_then HB4.out (Nat.le_refl _) p2, cell_then HB4.out (Nat.le_refl _) a0, cell_then HB4.out (Nat.le_refl _) a1, cell_then HB4.out (Nat.le_refl _) a2⟩)
      clear hK K
      try simp only [Act.put, List.setIfInBounds_toArray, List.set_cons_zero, List.set_cons_succ]
      refine wpAnyH_take (i := 14) (oi := { dst := some 52, op := Op.indexAddr 41 (Operand.tmp 41) (Operand.tmp 49), type := 0, pos := _, after := #[{ on := 3, ground := Ground.data }, { on := 11, ground := Ground.data }, { on := 0, ground := Ground.phase }, { on := 1, ground := Ground.phase }, { on := 2, ground := Ground.phase }, { on := 3, ground := Ground.phase }, { on := 4, ground := Ground.phase }, { on := 5, ground := Ground.phase }, { on := 6, ground := Ground.phase }, { on := 7, ground := Ground.phase }, { on := 8, ground := Ground.phase }, { on := 9, ground := Ground.phase }, { on := 10, ground := Ground.phase }, { on := 11, ground := Ground.phase }, { on := 12, ground := Ground.phase }, { on := 13, ground := Ground.phase }], guard := none }) (v := ?_) rfl (by kernel_rfl) (by kernel_rfl) (by kernel_rfl) (fun _ _ _ h => h) (Or.inl ⟨by rfl, ?_⟩) (by assumption) ?_
      rotate_left
      · ((intro w hSw); (try dsimp only at hSw); go_simp; (try with_reducible rfl))
      try simp only [Act.put, List.setIfInBounds_toArray, List.set_cons_zero, List.set_cons_succ]
      refine wpAnyH_ready (rs := [15]) (by kernel_rfl) (by simp) ?_
      refine (AllReadyH.cons (o := { dst := none, op := Op.store 37 (Operand.tmp 52) (Operand.tmp 51), type := 0, pos := _, after := #[{ on := 14, ground := Ground.data }, { on := 13, ground := Ground.data }, { on := 13, ground := Ground.chain }, { on := 0, ground := Ground.phase }, { on := 1, ground := Ground.phase }, { on := 2, ground := Ground.phase }, { on := 3, ground := Ground.phase }, { on := 4, ground := Ground.phase }, { on := 5, ground := Ground.phase }, { on := 6, ground := Ground.phase }, { on := 7, ground := Ground.phase }, { on := 8, ground := Ground.phase }, { on := 9, ground := Ground.phase }, { on := 10, ground := Ground.phase }, { on := 11, ground := Ground.phase }, { on := 12, ground := Ground.phase }, { on := 13, ground := Ground.phase }], guard := none }) rfl (fun K hK => ?_) AllReadyH.nil)
      rw [if_pos (by rfl)]
      refine wp_store_cell2 _ _ rfl b _ (Gm.blankC ab) rfl rfl (A := P) (Z := S) (c := x0) (HRm.out.then_ HB4.out (Nat.le_refl _)) HQk.out ?_
      intro w5 hw5
      have HR5 := HPUT.out w4 w5 hw5 (HRm.out.then_ HB4.out (Nat.le_refl _))
      have HS5 : Hid (Kp b b wr w5) := Lib.hid (by rw [← hw5]; exact (Kp.of HB4.out).put _)
      have HK5 := Lib.hid (HK.out.trans HS5.out (.inl rfl))
      clear hw5
      refine hK.out _ _ ?_ (fun hHeld => ?_)
      · ((try dsimp only); exact ⟨cell_kept HS5.out p1 HNE.out HNE.out, cell_kept HS5.out p2 HNE.out HNE.out, cell_kept HS5.out a0 HNw.out HNw.out, cell_kept HS5.out a1 HNw.out HNw.out, cell_kept HS5.out a2 HNw.out HNw.out⟩)
      clear hK K
      try simp only [Act.put]
      refine wpAnyH_done (by kernel_rfl) ?_ _
      go_wp2
      go_roundw
      · exact ⟨k + 1, HKk.out.1, HKk.out.2.1, by go_num, HR5, HK5⟩
      · simp only [intOf]; exact HKk.out.2.2
    · obtain rfl : k = K := g2 (Int.not_lt.1 hlt)
      have HXk := Lib.hid (HX0.out k w1 wr HB1.out HR.out HK.out hk1 g3)
      have HMk := Lib.hid (HMEND.out k wr HXk.out hk1 g3)
      clear hk1 hk2 g1 g2 g3
      go_wp2_with (go_at_call 55; (with_reducible refine HMk.out.mono ?_); rintro e w6 ⟨rfl, hr6, hk6⟩; have HR6 := Lib.hid hr6; have HK6 := Lib.hid hk6; clear hr6 hk6)
      go_end0
      exact ⟨rfl, HR6.out, (Kp.of (below_then HB.out HB1.out HB.out.size)).trans (HK.out.trans HK6.out (.inl rfl)) (.inl rfl)⟩
end Go.Proofs.Ytfdjmlncdbpkgaa.Xe
