/- Package grid: Resize. -/
import Derived.Test.YtfdjmlncdbpkgaaGt
import Derived.Deep.CutRange
set_option linter.unusedVariables false
namespace Go.Proofs.Ytfdjmlncdbpkgaa.Gu
open Go Go.RowKit Kit Gm Gv Fl Me Cp Sl Gg Gh Gp Gq Gk

def b0C : Ce := Gm.blankC 0
/-- a row in its new width. -/
def resRow (D : Nat) (M : List Ce) : List Ce := mend (M.take D ++ List.replicate (D - M.length) b0C)
def resRows (C D : Nat) (L : List Ce) (k : Nat) : List Ce := (List.range k).flatMap fun r => resRow D (Gq.rowAt L (r * C) C)
/-- the cells behind a Resize to S rows of D columns. -/
def resizeL (R C : Nat) (L : List Ce) (S D : Nat) : List Ce := resRows C D L (min S R) ++ List.replicate ((S - min S R) * D) b0C
theorem resRow_len (D : Nat) (M : List Ce) : (resRow D M).length = D := by
  unfold resRow; rw [mend_length, List.length_append, List.length_take, List.length_replicate]; omega
theorem resRows_len (C D : Nat) (L : List Ce) (k : Nat) : (resRows C D L k).length = k * D := by
  induction k with
  | zero => simp [resRows]
  | succ k ih =>
    unfold resRows at ih ⊢
    rw [List.range_succ, List.flatMap_append, List.length_append, ih, Nat.succ_mul]
    simp [resRow_len]
theorem resRows_succ (C D : Nat) (L : List Ce) (k : Nat) : resRows C D L (k + 1) = resRows C D L k ++ resRow D (Gq.rowAt L (k * C) C) := by
  unfold resRows
  rw [List.range_succ, List.flatMap_append]
  simp
theorem resizeL_len (R C : Nat) (L : List Ce) (S D : Nat) : (resizeL R C L S D).length = S * D := by
  unfold resizeL
  rw [List.length_append, resRows_len, List.length_replicate, ← Nat.add_mul]
  congr 1; omega
theorem rowAt_len {L : List Ce} {R C r : Nat} (hl : L.length = R * C) (hr : r < R) : (Gq.rowAt L (r * C) C).length = C := by
  have := row_nums hl hr
  unfold Gq.rowAt; rw [List.length_take, List.length_drop]; exact Nat.min_eq_left (by omega)
/-- what a Resize leaves. -/
def RsQ (v : Value) (w : World) (p b S D : Nat) (L' : List Ce) (e : Ending) (w' : World) : Prop := ∃ b', e = .returned v ∧ G w' p b' S D L' ∧ Kp p b w w' ∧ w.heap.size ≤ b'
set_option maxRecDepth 100000 in
/-- Resize, to no size. -/
theorem resizeNo (p : Nat) (rows cols : Int) (w : World) (hz : sizeB rows cols = false) :
    Calls Try.prog 25 #[.pointer (some ⟨p, 0, none⟩), .int .i64 rows, .int .i64 cols] w fun e w' => e = .returned (.int .i64 1) ∧ w = w' := by
  have hc1 : Calls Try.prog 32 #[.int .i64 rows, .int .i64 cols] w fun e w' => e = .returned (.bool false) ∧ w = w' := by rw [← hz]; exact maySize _ _ _
  have H1 := Lib.hid hc1
  clear hc1 hz
  go_enter Try.func25, Try.ntmps25
  go_wp2_with (first
    | (go_at_call 32; (with_reducible refine H1.out.mono ?_); rintro e w' ⟨rfl, rfl⟩))
  go_ret
  exact ⟨rfl, rfl⟩
/-- what stands while rows are brought over. -/
structure Ov (w : World) (p b R C : Nat) (L : List Ce) (p2 b2 S D k : Nat) (wr : World) : Prop where
  old : G wr p b R C L
  new : G wr p2 b2 S D (resRows C D L k ++ List.replicate ((S - k) * D) b0C)
  bel : Below w.heap.size w wr
theorem over_split {S D k : Nat} (h : k < S) : List.replicate ((S - k) * D) b0C = List.replicate D b0C ++ List.replicate ((S - (k + 1)) * D) b0C := by
  rw [List.replicate_append_replicate]
  congr 1
  rw [show S - k = (S - (k + 1)) + 1 by omega, Nat.add_mul]; omega
theorem G.row_new {w w1 : World} {p b R C : Nat} {L L' : List Ce} (h : G w p b R C L) (hr : RB w1 b L') (hk : Kp b b w w1) (hl : L'.length = L.length) : G w1 p b R C L' :=
  ⟨by rw [hl]; exact hk.row h.obj h.ne h.ne, hr, by rw [hl]; exact h.len, h.r1, h.r2, h.c1, h.c2⟩
theorem G.other {w w1 : World} {p b R C k : Nat} {L : List Ce} (h : G w p b R C L) (hk : Kp k k w w1) (h1 : p ≠ k) (h2 : b ≠ k) : G w1 p b R C L :=
  ⟨hk.row h.obj h1 h1, hk.row h.row h2 h2, h.len, h.r1, h.r2, h.c1, h.c2⟩
theorem Ov.drewN {w : World} {p b R C : Nat} {L : List Ce} {p2 b2 S D k : Nat} {wr : World} (h : Ov w p b R C L p2 b2 S D k wr) (n : Nat) : Ov w p b R C L p2 b2 S D k (wr.drewN n) := ⟨h.old.drewN n, h.new.drewN n, Gh.below_drewN h.bel n⟩
theorem rowNew {w : World} {p b R C : Nat} {L : List Ce} {p2 b2 S D k : Nat} (wr : World) (h : Ov w p b R C L p2 b2 S D k wr) (hk : k < S) (n2 : Nat) (hn : (resRows C D L k ++ List.replicate ((S - k) * D) b0C).length = n2) :
    Calls Try.prog 44 #[.pointer (some ⟨p2, 0, none⟩), .int .i64 (k : Int)] wr fun e w' => e = .returned (.slice (some ⟨b2, k * D * 5, none⟩) D (n2 - k * D)) ∧ Ov w p b R C L p2 b2 S D k w' := by
  subst hn
  exact (rowC p2 b2 S D _ k _ wr h.new.view hk).mono fun e w' ⟨h1, n, h2⟩ => ⟨h1, h2 ▸ h.drewN n⟩
theorem rowOld {w : World} {p b R C : Nat} {L : List Ce} {p2 b2 S D k : Nat} (wr : World) (h : Ov w p b R C L p2 b2 S D k wr) (hk : k < R) :
    Calls Try.prog 44 #[.pointer (some ⟨p, 0, none⟩), .int .i64 (k : Int)] wr fun e w' => e = .returned (.slice (some ⟨b, k * C * 5, none⟩) C (L.length - k * C)) ∧ Ov w p b R C L p2 b2 S D k w' :=
  (rowC p b R C _ k _ wr h.old.view hk).mono fun e w' ⟨h1, n, h2⟩ => ⟨h1, h2 ▸ h.drewN n⟩
/-- the parts of the copy. -/
theorem over_parts {w : World} {p b R C : Nat} {L : List Ce} {p2 b2 S D k : Nat} {wr : World} (h : Ov w p b R C L p2 b2 S D k wr) (hk : k < S) (hk2 : k < R) :
    RB wr b2 (resRows C D L k ++ List.replicate (min C D) b0C ++ (List.replicate (D - min C D) b0C ++ List.replicate ((S - (k + 1)) * D) b0C)) ∧
    ((Gq.rowAt L (k * C) C).take D).length = (List.replicate (min C D) b0C).length ∧ ((Gq.rowAt L (k * C) C).take D).length = Nat.min C D ∧
    (0 < ((Gq.rowAt L (k * C) C).take D).length → some (⟨b2, k * D * 5, none⟩ : Addr) = some ⟨b2, (resRows C D L k).length * 5, none⟩ ∧ ∃ ad, some (⟨b, k * C * 5, none⟩ : Addr) = some ad ∧ ∀ j v, (flat ((Gq.rowAt L (k * C) C).take D))[j]? = some v → wr.cell? (ad.add j) = some v) := by
  have hl := rowAt_len h.old.len hk2
  have hq := row_nums h.old.len hk2
  refine ⟨?_, by rw [List.length_take, hl, List.length_replicate, Nat.min_comm], by rw [List.length_take, hl]; exact Nat.min_comm D C, fun _ => ⟨by rw [resRows_len], _, rfl, ?_⟩⟩
  · have hr := h.new.row
    rw [over_split hk] at hr
    have e : List.replicate D b0C = List.replicate (min C D) b0C ++ List.replicate (D - min C D) b0C := by
      rw [List.replicate_append_replicate]; congr 1; omega
    rw [e] at hr
    simpa only [List.append_assoc] using hr
  · have hsp : L = L.take (k * C) ++ (Gq.rowAt L (k * C) C).take D ++ ((Gq.rowAt L (k * C) C).drop D ++ L.drop (k * C + C)) := by
      rw [show L.take (k * C) ++ (Gq.rowAt L (k * C) C).take D ++ ((Gq.rowAt L (k * C) C).drop D ++ L.drop (k * C + C)) = L.take (k * C) ++ ((Gq.rowAt L (k * C) C).take D ++ (Gq.rowAt L (k * C) C).drop D) ++ L.drop (k * C + C) by simp only [List.append_assoc], List.take_append_drop]
      exact row_split hq
    have hr := h.old.row
    rw [hsp] at hr
    have hA : (L.take (k * C)).length = k * C := by rw [List.length_take]; exact Nat.min_eq_left (by omega)
    exact part_src hr _ (by rw [hA])
/-- a row more. -/
theorem over_next {w : World} {p b R C : Nat} {L : List Ce} {p2 b2 S D k : Nat} {wr w1 : World} (h : Ov w p b R C L p2 b2 S D k wr) (hk : k < S) (hk2 : k < R) (hb : w.heap.size ≤ b2) (hp : p < w.heap.size) (hbb : b < w.heap.size)
    (hr : RB w1 b2 (resRows C D L k ++ mend ((Gq.rowAt L (k * C) C).take D ++ List.replicate (D - min C D) b0C) ++ List.replicate ((S - (k + 1)) * D) b0C)) (hkp : Kp b2 b2 wr w1) : Ov w p b R C L p2 b2 S D (k + 1) w1 := by
  have hl := rowAt_len h.old.len hk2
  have e : mend ((Gq.rowAt L (k * C) C).take D ++ List.replicate (D - min C D) b0C) = resRow D (Gq.rowAt L (k * C) C) := by
    unfold resRow; rw [hl]; congr 3; omega
  rw [e, ← resRows_succ] at hr
  refine ⟨G.other h.old hkp (by omega) (by omega), G.row_new h.new hr hkp ?_, hkp.below h.bel (Nat.le_refl _) hb hb⟩
  rw [List.length_append, List.length_append, resRows_len, resRows_len, List.length_replicate, List.length_replicate, ← Nat.add_mul, ← Nat.add_mul]
  congr 1; omega
theorem wpList_store_three {w : World} {ops : Array Oper} {rest : List Oper} {o : Oper} {a : Act} {Q : Exit → Act → World → Prop} (hgd : o.guard = none) (x y : Operand) (ho : o.op = .store 65 x y)
    (g : Nat) (i j : Int) (s : Option Addr) (n c : Nat) (u0 u1 u2 : Value) (hx : a.eval x = .pointer (some ⟨g, 0, none⟩)) (hy : a.eval y = .agg #[.int .i64 i, .int .i64 j, .slice s n c]) (hg : w.heap[g]? = some (.cells #[u0, u1, u2] 65 (0, 0)))
    (hK : ∀ w', w.setRow g #[.int .i64 i, .int .i64 j, .slice s n c] = w' → wpList Try.prog ops Q rest (a.put o.dst undef) w') : wpList Try.prog ops Q (o :: rest) a w :=
  wpList_plain hgd fun _ hk => wp_store_row (P := Try.prog) 65 x y ho g _ hx hy 65 _ hg (by kernel_rfl) rfl (by simp [Value.oneCell']) (hk _ _ (hK _ rfl))
set_option maxRecDepth 100000 in
set_option maxHeartbeats 2000000 in
/-- Resize. -/
theorem resizeYes (p b R C S D : Nat) (L : List Ce) (w : World) (h : G w p b R C L) (hs : 1 ≤ S ∧ S ≤ 60 ∧ 1 ≤ D ∧ D ≤ 200) :
    Calls Try.prog 25 #[.pointer (some ⟨p, 0, none⟩), .int .i64 (S : Int), .int .i64 (D : Int)] w (RsQ (.int .i64 0) w p b S D (resizeL R C L S D)) := by
  have HZ := Lib.hid (show sizeB (S : Int) (D : Int) = true from (size_t (by omega)).symm)
  have H32 := Lib.hid (show Calls Try.prog 32 #[.int .i64 (S : Int), .int .i64 (D : Int)] w fun e w' => e = .returned (.bool true) ∧ w = w' by rw [← HZ.out]; exact maySize _ _ _)
  obtain ⟨p2, hp2⟩ : ∃ p2, p2 = w.heap.size + 1 := ⟨_, rfl⟩
  obtain ⟨b2, hb2⟩ : ∃ b2, b2 = w.heap.size := ⟨_, rfl⟩
  have H33 := Lib.hid (show Calls Try.prog 33 #[.int .i64 (S : Int), .int .i64 (D : Int)] w fun e w' => e = .returned (.pointer (some ⟨p2, 0, none⟩)) ∧ Ov w p b R C L p2 b2 S D 0 w' by
    rw [hp2, hb2]
    refine (blankK S D w hs).mono fun e w' ⟨h1, h2, h3⟩ => ⟨h1, h.then_ h3 (Nat.le_refl _), ?_, h3⟩
    simpa [resRows, b0C] using h2)
  have HP := Lib.hid (show p < w.heap.size from h.p_lt)
  have HB := Lib.hid (show b < w.heap.size from h.b_lt)
  have HB2 := Lib.hid (show w.heap.size ≤ b2 by omega)
  have HP2 := Lib.hid (show w.heap.size ≤ p2 by omega)
  have HH := Lib.hid h
  obtain ⟨m, hm⟩ : ∃ m, m = min S R := ⟨_, rfl⟩
  have kM : (if (R : Int) < (S : Int) then (R : Int) else (S : Int)) = (m : Int) := by split <;> omega
  have kM2 : (if R < S then (R : Int) else (S : Int)) = (m : Int) := by split <;> omega
  have h60 : m ≤ 60 := by omega
  have HmS := Lib.hid (show m ≤ S by omega)
  have HmR := Lib.hid (show m ≤ R by omega)
  have HD := Lib.hid (show D ≤ 1000000 by omega)
  have HRes := Lib.hid (show resizeL R C L S D = resRows C D L m ++ List.replicate ((S - m) * D) b0C by rw [hm]; rfl)
  clear h hs hp2 hb2 hm
  generalize hL' : resizeL R C L S D = L' at *
  clear hL'
  go_enter Try.func25, Try.ntmps25
  go_wp2_with (first
    | (go_at_call 32; (with_reducible refine H32.out.mono ?_); rintro e w' ⟨rfl, rfl⟩)
    | (go_at_call 33; (with_reducible refine H33.out.mono ?_); rintro e w1 ⟨rfl, ho⟩; have HO := Lib.hid ho; obtain ⟨p0, p1, p2'⟩ := three ho.old.obj; clear ho H32 H33))
  clear p0 p1 p2' kM kM2
  go_loopw [23] (fun s23 wr => ∃ k : Nat, k ≤ m ∧ s23 = .int .i64 k ∧ Hid (Ov w p b R C L p2 b2 S D k wr)) (fun s23 _ => m - (intOf s23).toNat)
  case atStart => exact ⟨0, Nat.zero_le _, rfl, HO⟩
  case round =>
    obtain ⟨k, hk, rfl, HK⟩ := hrel
    by_cases hlt : k < m
    · have HkS := Lib.hid (show k < S from Nat.lt_of_lt_of_le hlt HmS.out)
      have HkR := Lib.hid (show k < R from Nat.lt_of_lt_of_le hlt HmR.out)
      have HAq := Lib.hid (show k * D * 5 = (resRows C D L k).length * 5 by rw [resRows_len])
      have HEL := Lib.hid (show ((Gq.rowAt L (k * C) C).take D ++ List.replicate (D - min C D) b0C).length = D by rw [List.length_append, List.length_take, rowAt_len HH.out.len HkR.out, List.length_replicate]; omega)
      obtain ⟨n2, hn2⟩ : ∃ n2, (resRows C D L k ++ List.replicate ((S - k) * D) b0C).length = n2 := ⟨_, rfl⟩
      have HN2 := Lib.hid hn2
      clear hn2
      go_wp2_with (first
        | (go_at_call 44; (first
          | ((with_reducible refine (rowNew _ HK.out HkS.out n2 HN2.out).mono ?_); rintro e w3 ⟨rfl, ho⟩; have HK1 := Lib.hid ho; clear ho HN2)
          | ((with_reducible refine (rowOld _ HK1.out HkR.out).mono ?_); rintro e w4 ⟨rfl, ho⟩; have HK2 := Lib.hid ho; have HPt := Lib.hid (over_parts ho HkS.out HkR.out); clear ho HK1)))
        | ((with_reducible refine wpList_copy_cells rfl (.tmp 29) (.tmp 32) rfl _ _ _ _ _ _ rfl rfl b2 (resRows C D L k) _ _ _ HPt.out.1 HPt.out.2.1 HPt.out.2.2.1 HPt.out.2.2.2 ?_); intro w5 hr5 hk5; have HR5 := Lib.hid (show RB w5 b2 (resRows C D L k ++ ((Gq.rowAt L (k * C) C).take D ++ List.replicate (D - min C D) b0C) ++ List.replicate ((S - (k + 1)) * D) b0C) by have := hr5; simpa using this); have HK5 := Lib.hid hk5; clear hr5 hk5 HPt)
        | (go_at_call 46; (with_reducible refine (mendP b2 _ _ _ _ _ _ _ HR5.out HEL.out HAq.out HD.out).mono ?_); rintro e w6 ⟨rfl, hr6, hk6⟩; have HK6 := Lib.hid (over_next HK2.out HkS.out HkR.out HB2.out HP.out HB.out hr6 (HK5.out.trans hk6 (.inl rfl))); clear hr6 hk6))
      exact ⟨⟨k + 1, by omega, by go_num, HK6⟩, by simp only [intOf]; omega⟩
    · obtain rfl : k = m := by omega
      have hobj := HK.out.new.obj
      obtain ⟨n2, hn2⟩ : ∃ n2, (resRows C D L k ++ List.replicate ((S - k) * D) b0C).length = n2 := ⟨_, rfl⟩
      rw [hn2] at hobj
      obtain ⟨q0, q1, q2⟩ := three hobj
      have HO1 := Lib.hid HK.out.old.obj
      have HN2 := Lib.hid hn2
      clear hobj hn2
      go_wp2_with (with_reducible refine wpList_store_three rfl _ _ rfl p _ _ _ _ _ _ _ _ rfl rfl HO1.out ?_; intro w7 hw7)
      go_ret
      have ho := HK.out
      have hlen := resizeL_len R C L S D
      have hP := HP.out
      have hHB2 := HB2.out
      have hHP2 := HP2.out
      have hrow : RB wr b2 L' := by rw [HRes.out]; exact ho.new.row
      have hl : L'.length = n2 := by rw [HRes.out]; exact HN2.out
      have hpb : b2 ≠ p := by omega
      refine ⟨b2, rfl, ⟨?_, ?_, ?_, ho.new.r1, ho.new.r2, ho.new.c1, ho.new.c2⟩, ?_, hHB2⟩
      · rw [← hw7, hl]; exact setRow_heap _ _ _ _ 65 _ HO1.out
      · rw [← hw7]; exact (setRow_other _ _ _ _ hpb).trans hrow
      · rw [HRes.out]; exact ho.new.len
      · have hk := Kp.of (p := p) (b := b) ho.bel
        rw [← hw7]
        exact ⟨hk.os, hk.tape, hk.output, by simpa using hk.size, fun j hj h1 h2 => (setRow_other _ _ _ _ h1).trans (hk.block j hj h1 h2)⟩
/-- Resize, to any size. -/
theorem resizeG (p b R C : Nat) (rows cols : Int) (L : List Ce) (w : World) (h : G w p b R C L) (hz : sizeB rows cols = true) :
    Calls Try.prog 25 #[.pointer (some ⟨p, 0, none⟩), .int .i64 rows, .int .i64 cols] w (RsQ (.int .i64 0) w p b rows.toNat cols.toNat (resizeL R C L rows.toNat cols.toNat)) := by
  have hs : 1 ≤ rows ∧ rows ≤ 60 ∧ 1 ≤ cols ∧ cols ≤ 200 := by simpa [sizeB] using hz
  obtain ⟨S, rfl⟩ := Int.eq_ofNat_of_zero_le (show 0 ≤ rows by omega)
  obtain ⟨D, rfl⟩ := Int.eq_ofNat_of_zero_le (show 0 ≤ cols by omega)
  rw [Int.toNat_natCast, Int.toNat_natCast]
  exact resizeYes p b R C S D L w h (by omega)
end Go.Proofs.Ytfdjmlncdbpkgaa.Gu
