/- tikref18.DecodeIndex. -/
import Derived.Test.YtebfblpmihnndaaDoorJf
set_option linter.unusedVariables false
namespace Go.Proofs.YtebfblpmihnndaaDoor.Jg
open Go Go.RowKit Kit Crc Var Get Ref2 Ref3 Copy Bytes Bx Py Ia Ib Ic Ir Ie Jc Jd Je Ja Jb Jf

theorem bytesN (a1 a2 : Option Addr) (n1 n2 c1 c2 : Nat) (l1 l2 : List Nat) (w : World) (e1 : n1 = l1.length) (e2 : n2 = l2.length) (h1 : Sl w a1 l1) (h2 : Sl w a2 l2) (m1 : ∀ c ∈ l1, c < 256) (m2 : ∀ c ∈ l2, c < 256) :
    Calls Tryd.prog 6 #[.slice a1 n1 c1, .slice a2 n2 c2] w fun e w' => e = .returned (.bool (decide (l1 = l2))) ∧ w = w' := by
  subst e1
  subst e2
  exact bytesC a1 a2 c1 c2 l1 l2 w h1 h2 m1 m2
theorem below_gr {B x : Nat} {W w w' : World} (h : Below B W w) (hg : w.grownBy w' (some x)) (hx : B ≤ x) (hB : B ≤ w.heap.size) : Below B W w' := h.grown hg hB (fun j hj => by injection hj with hj; omega)
theorem od_gr {w w' : World} {B x : Nat} {v : Value} {O : List En} (h : Od w B v O) (hg : w.grownBy w' (some x)) (hx : x < B) : Od w' B v O :=
  World.ownsRow.kept h hg (by
    by_cases e : v.ownBlock = none
    · exact .inl e
    · refine .inr fun e2 => ?_
      have := (World.ownsRow.lt h x e2).1; omega)
theorem sl_gr {w w' : World} {x : Nat} {a : Option Addr} {l : List Nat} (h : Sl w a l) (hg : w.grownBy w' (some x)) (hne : ∀ y, a = some y → y.block ≠ x) : Sl w' a l := by
  rcases h with h | ⟨b, off, rfl, h⟩
  · exact .inl h
  · exact .inr ⟨b, off, rfl, fun i hi => cell_grown hg (hne _ rfl) (h i hi)⟩
theorem od_base {w : World} {b1 b2 : Nat} {v : Value} {O : List En} (h : Od w b1 v O) (hb : b2 ≤ b1) : Od w b2 v O := by
  refine ⟨h.1, ?_⟩
  rcases h.2 with h | ⟨g, cap, cur, h1, h2, rest⟩
  · exact .inl h
  · exact .inr ⟨g, cap, cur, h1, Nat.le_trans hb h2, rest⟩
theorem four_atO {w : World} {k : Nat} {e : En} (h : w.heap[k]? = some (edO e)) : w.cell? ⟨k, 0, none⟩ = some (.int .u64 (e.s : Int)) ∧ w.cell? ⟨k, 1, none⟩ = some (.int .u64 (e.t : Int)) ∧ w.cell? ⟨k, 2, none⟩ = some (.int .i64 e.n) ∧ w.cell? ⟨k, 3, none⟩ = some (.int .i64 e.a) := by
  refine ⟨?_, ?_, ?_, ?_⟩ <;> simp [World.cell?, h]
def rawM (l : List Nat) (r : Rdr) : List Nat := if r.at_ + 4 ≤ l.length then (l.take (r.at_ + 4)).drop r.at_ else []
/-- Raw(4), whether there are four bytes or not. -/
theorem rawK {w : World} {p : Nat} {r : Rdr} {l : List Nat} (hp : Rq w p r) (hl : By w r l) (he : r.err = 0) (hle : r.at_ ≤ l.length) (hs : l.length ≤ 1000000) (h0 : r.a = none → r.cap = 0) (hne : 0 < l.length → ∀ x, r.a = some x → x.block ≠ p) :
    Calls Tryd.prog 23 #[.pointer (some ⟨p, 0, none⟩), .int .i64 4] w (RawR w p (raw4 l r) (rawM l r)) := by
  unfold raw4 rawM
  by_cases h : r.at_ + 4 ≤ l.length
  · rw [if_pos h, if_pos h]
    have e : (l.take (r.at_ + 4)).drop r.at_ = (l.drop r.at_).take 4 := by rw [List.drop_take]; congr 1; omega
    rw [e]
    exact rawFit 4 l hp hl he h hs h0 hne
  · rw [if_neg h, if_neg h]
    exact rawLongR 4 hp he (by rw [hl.len]; exact hle) (by rw [hl.len]; omega) (by rw [hl.len]; omega)
theorem numN_same (l : List Nat) (r : Rdr) (most : Nat) : (numN l r most).2.a = r.a ∧ (numN l r most).2.len = r.len ∧ (numN l r most).2.cap = r.cap := by
  unfold numN
  split
  · exact ⟨rfl, rfl, rfl⟩
  · split
    · exact ⟨rfl, rfl, rfl⟩
    · split <;> exact ⟨rfl, rfl, rfl⟩
theorem raw4_same (l : List Nat) (r : Rdr) : (raw4 l r).a = r.a ∧ (raw4 l r).len = r.len ∧ (raw4 l r).cap = r.cap := by
  unfold raw4; split <;> exact ⟨rfl, rfl, rfl⟩
theorem leftK {w : World} {q n cap p : Nat} {a : Option Addr} (h : Rq w q ⟨a, n, cap, p, 0⟩) (h1 : p ≤ n) (h2 : n ≤ 9223372036854775807) : Calls Tryd.prog 22 #[.pointer (some ⟨q, 0, none⟩)] w fun e w' => e = .returned (.int .i64 ((n : Int) - (p : Int))) ∧ ∃ k, w.drewN k = w' := leftR h h1 h2
set_option maxRecDepth 100000 in
set_option maxHeartbeats 8000000 in
theorem rDecodeC (a : Option Addr) (n cap : Nat) (l : List Nat) (w : World) (hn : n = l.length) (hl : ∀ c ∈ l, c < 256) (hm : n ≤ 100000) (hcap : n ≤ cap) (hs : Sl w a l) (h0 : a = none → cap = 0) :
    Calls Tryd.prog 12 #[.slice a n cap] w fun x w' => ∃ v, x = .returned v ∧ Od w' w.heap.size v (decL l) ∧ Below w.heap.size w w' := by
  have HN := Lib.hid hn
  have HM := Lib.hid hm
  have HL := Lib.hid hl
  have HD0 := Lib.hid (show ∃ k, n - 0 < k ∧ decL l = [] ++ decF k l 0 from ⟨l.length + 1, by omega, rfl⟩)
  have hfar : 0 < l.length → ∀ x, a = some x → x.block ≠ w.heap.size := fun hp x hx => by
    rcases hs with h | ⟨b, off, ha, hc⟩
    · rw [h] at hp; simp at hp
    · rw [ha] at hx; injection hx with hx; subst hx
      have := World.block_lt_of_cell? w _ (hc 0 hp)
      exact Nat.ne_of_lt this
  have HFAR := Lib.hid hfar
  have HBY := Lib.hid (fun (w1 : World) (hb : Below w.heap.size w w1) (p : Nat) (e : Int) => (⟨hn, sl_then hb (Nat.le_refl _) hs, hcap, by omega, hl⟩ : By w1 ⟨a, n, cap, p, e⟩ l))
  have H0 := Lib.hid h0
  have hb0 : Below w.heap.size w (w.alloc (.cells #[.slice a n cap, .int .i64 0, .int .i64 0] 51)) := (Below.refl _ w).alloc (Nat.le_refl _) _
  have hq0 : Rq (w.alloc (.cells #[.slice a n cap, .int .i64 0, .int .i64 0] 51)) w.heap.size ⟨a, n, cap, 0, 0⟩ := heap_alloc_last w _
  generalize hw0 : w.alloc (.cells #[.slice a n cap, .int .i64 0, .int .i64 0] 51) = w0 at *
  have HB0 := Lib.hid hb0
  have HQ0 := Lib.hid hq0
  clear hs hl hn h0 hm hcap hfar hb0 hq0
  go_enter Tryd.func12, Tryd.ntmps12
  go_wp2
  go_loopw [3] (fun s3 wr => ∃ (p : Nat) (O : List En), p ≤ n ∧ Hid (Rq wr w.heap.size ⟨a, n, cap, p, 0⟩) ∧ Hid (Od wr (w.heap.size + 1) s3 O) ∧ Hid (Below w.heap.size w wr) ∧ Hid (O.length ≤ p) ∧ Hid (∃ k, n - p < k ∧ decL l = O ++ decF k l p)) (fun s3 wr => n - (match wr.cell? ⟨w.heap.size, 1, none⟩ with | some v => (intOf v).toNat | none => 0))
  case atStart => exact ⟨0, [], Nat.zero_le _, HQ0, Lib.hid (Od.nil _ _), HB0, Lib.hid (Nat.le_refl _), HD0⟩
  case round =>
    obtain ⟨p, O, hp, HQ, HO, HB, HOL, HD⟩ := hrel
    have HL22 := Lib.hid (leftK HQ.out hp (by have := HM.out; omega))
    have HLn := Lib.hid (show n = l.length ∧ n ≤ 100000 from ⟨HN.out, HM.out⟩)
    by_cases hlt : p < n
    · have hD : (0 : Int) < (n : Int) - (p : Int) := by omega
      have HQd := Lib.hid (fun (w1 : World) (k : Nat) (e : wr.drewN k = w1) => (show Rq w1 w.heap.size ⟨a, n, cap, p, 0⟩ by rw [← e]; exact HQ.out))
      have HOd := Lib.hid (fun (w1 : World) (k : Nat) (e : wr.drewN k = w1) => (show Od w1 (w.heap.size + 1) u3 O by rw [← e]; exact HO.out))
      have HBd := Lib.hid (fun (w1 : World) (k : Nat) (e : wr.drewN k = w1) => (show Below w.heap.size w w1 by rw [← e]; exact below_drewN HB.out k))
      have HRAW := Lib.hid (fun (w1 : World) (hq : Rq w1 w.heap.size ⟨a, n, cap, p, 0⟩) (hb : Below w.heap.size w w1) => rawK hq (HBY.out w1 hb p 0) rfl (show p ≤ l.length by rw [← HLn.out.1]; exact hp) (by rw [← HLn.out.1]; have := HLn.out.2; omega) H0.out HFAR.out)
      have HNUM64 := Lib.hid (fun (w1 : World) (r : Rdr) (hq : Rq w1 w.heap.size r) (hb : Below w.heap.size w w1) (hf : r.a = a ∧ r.len = n ∧ r.cap = cap) => (show Calls Tryd.prog 24 #[.pointer (some ⟨w.heap.size, 0, none⟩), .int .u64 18446744073709551615] w1 (NumR w1 w.heap.size (numN l r M64)) from numR M64 l hq (by obtain ⟨f1, f2, f3⟩ := hf; have := HBY.out w1 hb 0 0; exact ⟨by rw [f2]; exact this.len, by rw [f1]; exact this.sl, by rw [f2, f3]; exact this.cap, this.small, this.byte⟩)))
      have HNUM31 := Lib.hid (fun (w1 : World) (r : Rdr) (hq : Rq w1 w.heap.size r) (hb : Below w.heap.size w w1) (hf : r.a = a ∧ r.len = n ∧ r.cap = cap) => (show Calls Tryd.prog 24 #[.pointer (some ⟨w.heap.size, 0, none⟩), .int .u64 2147483647] w1 (NumR w1 w.heap.size (numN l r M31)) from numR M31 l hq (by obtain ⟨f1, f2, f3⟩ := hf; have := HBY.out w1 hb 0 0; exact ⟨by rw [f2]; exact this.len, by rw [f1]; exact this.sl, by rw [f2, f3]; exact this.cap, this.small, this.byte⟩)))
      have hs1 := raw4_same l ⟨a, n, cap, p, 0⟩
      obtain ⟨r1, hr1⟩ : ∃ r1, r1 = raw4 l ⟨a, n, cap, p, 0⟩ := ⟨_, rfl⟩
      obtain ⟨m, hm⟩ : ∃ m, m = rawM l ⟨a, n, cap, p, 0⟩ := ⟨_, rfl⟩
      rw [← hr1, ← hm] at HRAW
      rw [← hr1] at hs1
      have hs2 := numN_same l r1 M64
      obtain ⟨⟨v0, r2⟩, y0⟩ : ∃ x, numN l r1 M64 = x := ⟨_, rfl⟩
      rw [y0] at hs2
      have hs3 := numN_same l r2 M64
      obtain ⟨⟨v1, r3⟩, y1⟩ : ∃ x, numN l r2 M64 = x := ⟨_, rfl⟩
      rw [y1] at hs3
      have hs4 := numN_same l r3 M31
      obtain ⟨⟨v2, r4⟩, y2⟩ : ∃ x, numN l r3 M31 = x := ⟨_, rfl⟩
      rw [y2] at hs4
      obtain ⟨⟨v3, r5⟩, y3⟩ : ∃ x, numN l r4 M31 = x := ⟨_, rfl⟩
      dsimp only at hs1 hs2 hs3 hs4
      have hor := rd_or HL.out (r := ⟨a, n, cap, p, 0⟩) rfl hr1 y0 y1 y2 y3
      dsimp only at hor
      have HY2 := Lib.hid y0
      have HY3 := Lib.hid y1
      have HY4 := Lib.hid y2
      have HY5 := Lib.hid y3
      have HF2 := Lib.hid hs1
      have HF3 := Lib.hid (show r2.a = a ∧ r2.len = n ∧ r2.cap = cap from ⟨hs2.1.trans hs1.1, hs2.2.1.trans hs1.2.1, hs2.2.2.trans hs1.2.2⟩)
      have HF4 := Lib.hid (show r3.a = a ∧ r3.len = n ∧ r3.cap = cap from ⟨hs3.1.trans HF3.out.1, hs3.2.1.trans HF3.out.2.1, hs3.2.2.trans HF3.out.2.2⟩)
      have HF5 := Lib.hid (show r4.a = a ∧ r4.len = n ∧ r4.cap = cap from ⟨hs4.1.trans HF4.out.1, hs4.2.1.trans HF4.out.2.1, hs4.2.2.trans HF4.out.2.2⟩)
      have HMm := Lib.hid hm
      obtain ⟨ml, hml⟩ : ∃ ml, m.length = ml := ⟨_, rfl⟩
      have HML := Lib.hid hml
      obtain ⟨k, hk, hd⟩ := HD.out
      obtain ⟨k, rfl⟩ : ∃ k', k = k' + 1 := ⟨k - 1, by omega⟩
      clear hs1 hs2 hs3 hs4 y0 y1 y2 y3 hr1 hm hml
      rcases hor with ⟨hbad, hnone⟩ | ⟨n0, n1, n2, n3, q, hr5, hp4, rfl, rfl, rfl, rfl, b0, b1, b2, b3, hpq, hql, hrd⟩
      · have HE := Lib.hid (show decL l = O by rw [hd]; unfold decF; simp only [hnone]; simp)
        have hbadB : (r5.err != 0) = true := by simpa using hbad
        clear hd hk HD hnone hbad
        go_wp2_with (first
        | (go_at_call 22; (with_reducible refine HL22.out.mono ?_); rintro x w1 ⟨rfl, k1, hk1⟩; have HQ1 := Lib.hid (HQd.out _ _ hk1); have HB1 := Lib.hid (HBd.out _ _ hk1); have HO1 := Lib.hid (HOd.out _ _ hk1); clear hk1)
        | (go_at_call 23; (with_reducible refine (HRAW.out _ HQ1.out HB1.out).mono ?_); rintro x w2 ⟨ma, mc, rfl, hmc, hms, hmb, hq, hg⟩; rw [HML.out]; have HQ2 := Lib.hid hq; have HB2 := Lib.hid (below_gr HB1.out hg (Nat.le_refl _) HB1.out.size); have HO2 := Lib.hid (od_gr HO1.out hg (Nat.lt_succ_self _)); have HS2 := Lib.hid hms; have HMB := Lib.hid (fun y hy => (hmb y hy).2); clear hq hg hmc hms hmb)
        | (go_at_call 24; (with_reducible refine (HNUM64.out _ _ HQ2.out HB2.out HF2.out).mono ?_); rintro x w3 ⟨rfl, hq, hg⟩; rw [HY2.out] at hq ⊢; (dsimp only at hq ⊢); have HQ3 := Lib.hid hq; have HB3 := Lib.hid (below_gr HB2.out hg (Nat.le_refl _) HB2.out.size); have HO3 := Lib.hid (od_gr HO2.out hg (Nat.lt_succ_self _)); have HS3 := Lib.hid (sl_gr HS2.out hg HMB.out); clear hq hg)
        | (go_at_call 24; (with_reducible refine (HNUM64.out _ _ HQ3.out HB3.out HF3.out).mono ?_); rintro x w4 ⟨rfl, hq, hg⟩; rw [HY3.out] at hq ⊢; (dsimp only at hq ⊢); have HQ4 := Lib.hid hq; have HB4 := Lib.hid (below_gr HB3.out hg (Nat.le_refl _) HB3.out.size); have HO4 := Lib.hid (od_gr HO3.out hg (Nat.lt_succ_self _)); have HS4 := Lib.hid (sl_gr HS3.out hg HMB.out); clear hq hg)
        | (go_at_call 24; (with_reducible refine (HNUM31.out _ _ HQ4.out HB4.out HF4.out).mono ?_); rintro x w5 ⟨rfl, hq, hg⟩; rw [HY4.out] at hq ⊢; (dsimp only at hq ⊢); have HQ5 := Lib.hid hq; have HB5 := Lib.hid (below_gr HB4.out hg (Nat.le_refl _) HB4.out.size); have HO5 := Lib.hid (od_gr HO4.out hg (Nat.lt_succ_self _)); have HS5 := Lib.hid (sl_gr HS4.out hg HMB.out); clear hq hg)
        | (go_at_call 24; (with_reducible refine (HNUM31.out _ _ HQ5.out HB5.out HF5.out).mono ?_); rintro x w6 ⟨rfl, hq, hg⟩; rw [HY5.out] at hq ⊢; (dsimp only at hq ⊢); have HQ6 := Lib.hid hq; have HB6 := Lib.hid (below_gr HB5.out hg (Nat.le_refl _) HB5.out.size); have HO6 := Lib.hid (od_gr HO5.out hg (Nat.lt_succ_self _)); have HS6 := Lib.hid (sl_gr HS5.out hg HMB.out); clear hq hg; have e6 := past_alloc (o := .cells #[.int .u64 v0, .int .u64 v1, .int .i64 (wrap64 v2), .int .i64 (wrap64 v3)] 45) (Rq.c2 HQ6.out); have HB7 := Lib.hid (show Below w.heap.size w (w6.alloc (.cells #[.int .u64 v0, .int .u64 v1, .int .i64 (wrap64 v2), .int .i64 (wrap64 v3)] 45)) from HB6.out.alloc HB6.out.size _); have HO7 := Lib.hid (show Od (w6.alloc (.cells #[.int .u64 v0, .int .u64 v1, .int .i64 (wrap64 v2), .int .i64 (wrap64 v3)] 45)) (w.heap.size + 1) u3 O from HO6.out.below ((Below.refl _ _).alloc (Nat.le_refl _) _)))
        )
        go_ret
        exact ⟨_, rfl, by rw [HE.out]; exact od_base HO7.out (Nat.le_succ _), HB7.out⟩
      · have w2' : IntKind.i64.wrap (n2 : Int) = (n2 : Int) := IntWalk.i64_in _ (by omega)
        have w3' : IntKind.i64.wrap (n3 : Int) = (n3 : Int) := IntWalk.i64_in _ (by omega)
        have hmlen : m = (l.take (p + 4)).drop p := by rw [HMm.out]; unfold rawM; dsimp only; rw [if_pos hp4]
        have HOK := Lib.hid (show EnOk ⟨n0, n1, (n2 : Int), (n3 : Int)⟩ from ⟨b0, b1⟩)
        have HONE := Lib.hid (fun w1 => oneC ⟨n0, n1, (n2 : Int), (n3 : Int)⟩ w1 HOK.out)
        have HNB := Lib.hid (numL_lt ⟨n0, n1, (n2 : Int), (n3 : Int)⟩)
        have HNL := Lib.hid (numL_len HOK.out)
        have HCR := Lib.hid (crc_lt (numL_lt ⟨n0, n1, (n2 : Int), (n3 : Int)⟩))
        have HMB2 := Lib.hid (show ∀ c ∈ m, c < 256 by rw [hmlen]; exact fun c hc => HL.out c (List.mem_of_mem_take (List.mem_of_mem_drop hc)))
        rw [hr5] at HY5
        rw [← hmlen] at hrd
        generalize hX : numL ⟨n0, n1, (n2 : Int), (n3 : Int)⟩ = X at *
        generalize hY : crc X = Y at *
        have HY := Lib.hid hY
        have HKq := Lib.hid (show q ≤ n ∧ n - q < n - p by have := HLn.out.1; omega)
        have HOl := Lib.hid (show (O ++ [(⟨n0, n1, (n2 : Int), (n3 : Int)⟩ : En)]).length ≤ q by rw [List.length_append]; have := HOL.out; simp; omega)
        have HOm := Lib.hid (show O.length ≤ 1000000 by have := HOL.out; have := HLn.out.2; omega)
        have HF4l := Lib.hid (show 4 = (fourL (Y : Int)).length from rfl)
        have HFB := Lib.hid (four_bytes (Y : Int))
        by_cases hsum : m = fourL ((Y : Nat) : Int)
        · have HE := Lib.hid (show ∃ k, n - q < k ∧ decL l = (O ++ [(⟨n0, n1, (n2 : Int), (n3 : Int)⟩ : En)]) ++ decF k l q from ⟨k, by have := HLn.out.1; omega, by rw [hd, show decF (k + 1) l p = ⟨n0, n1, (n2 : Int), (n3 : Int)⟩ :: decF k l q by conv => lhs; unfold decF; simp only [hrd, if_pos hsum]]; simp⟩)
          have HDEC := Lib.hid (decide_eq_true hsum)
          clear hd hk HD hrd hsum hmlen hX hY hp4 hpq hql b0 b1 b2 b3 hr5
          go_wp2_with (first
        | (go_at_call 22; (with_reducible refine HL22.out.mono ?_); rintro x w1 ⟨rfl, k1, hk1⟩; have HQ1 := Lib.hid (HQd.out _ _ hk1); have HB1 := Lib.hid (HBd.out _ _ hk1); have HO1 := Lib.hid (HOd.out _ _ hk1); clear hk1)
        | (go_at_call 23; (with_reducible refine (HRAW.out _ HQ1.out HB1.out).mono ?_); rintro x w2 ⟨ma, mc, rfl, hmc, hms, hmb, hq, hg⟩; rw [HML.out]; have HQ2 := Lib.hid hq; have HB2 := Lib.hid (below_gr HB1.out hg (Nat.le_refl _) HB1.out.size); have HO2 := Lib.hid (od_gr HO1.out hg (Nat.lt_succ_self _)); have HS2 := Lib.hid hms; have HMB := Lib.hid (fun y hy => (hmb y hy).2); clear hq hg hmc hms hmb)
        | (go_at_call 24; (with_reducible refine (HNUM64.out _ _ HQ2.out HB2.out HF2.out).mono ?_); rintro x w3 ⟨rfl, hq, hg⟩; rw [HY2.out] at hq ⊢; (dsimp only at hq ⊢); have HQ3 := Lib.hid hq; have HB3 := Lib.hid (below_gr HB2.out hg (Nat.le_refl _) HB2.out.size); have HO3 := Lib.hid (od_gr HO2.out hg (Nat.lt_succ_self _)); have HS3 := Lib.hid (sl_gr HS2.out hg HMB.out); clear hq hg)
        | (go_at_call 24; (with_reducible refine (HNUM64.out _ _ HQ3.out HB3.out HF3.out).mono ?_); rintro x w4 ⟨rfl, hq, hg⟩; rw [HY3.out] at hq ⊢; (dsimp only at hq ⊢); have HQ4 := Lib.hid hq; have HB4 := Lib.hid (below_gr HB3.out hg (Nat.le_refl _) HB3.out.size); have HO4 := Lib.hid (od_gr HO3.out hg (Nat.lt_succ_self _)); have HS4 := Lib.hid (sl_gr HS3.out hg HMB.out); clear hq hg)
        | (go_at_call 24; (with_reducible refine (HNUM31.out _ _ HQ4.out HB4.out HF4.out).mono ?_); rintro x w5 ⟨rfl, hq, hg⟩; rw [HY4.out] at hq ⊢; (dsimp only at hq ⊢); have HQ5 := Lib.hid hq; have HB5 := Lib.hid (below_gr HB4.out hg (Nat.le_refl _) HB4.out.size); have HO5 := Lib.hid (od_gr HO4.out hg (Nat.lt_succ_self _)); have HS5 := Lib.hid (sl_gr HS4.out hg HMB.out); clear hq hg)
        | (go_at_call 24; (with_reducible refine (HNUM31.out _ _ HQ5.out HB5.out HF5.out).mono ?_); rintro x w6 ⟨rfl, hq, hg⟩; rw [HY5.out] at hq ⊢; (dsimp only at hq ⊢); have HQ6 := Lib.hid hq; have HB6 := Lib.hid (below_gr HB5.out hg (Nat.le_refl _) HB5.out.size); have HO6 := Lib.hid (od_gr HO5.out hg (Nat.lt_succ_self _)); have HS6 := Lib.hid (sl_gr HS5.out hg HMB.out); clear hq hg; have hb67 : Below w6.heap.size w6 (w6.alloc (.cells #[.int .u64 (n0 : Int), .int .u64 (n1 : Int), .int .i64 (n2 : Int), .int .i64 (n3 : Int)] 45)) := (Below.refl _ _).alloc (Nat.le_refl _) _; have HQ7 := Lib.hid (Rq.then_ HQ6.out hb67); have HE7 := Lib.hid (heap_alloc_last w6 (edO ⟨n0, n1, (n2 : Int), (n3 : Int)⟩)); have HB7 := Lib.hid (below_then HB6.out hb67 HB6.out.size); have HO7 := Lib.hid (HO6.out.below hb67); have HS7 := Lib.hid (sl_then hb67 (Nat.le_refl _) HS6.out); have e6 := Rq.c2 HQ7.out; clear hb67)
        | (go_at_call 18; (with_reducible refine (HONE.out _).mono ?_); rintro x w8 ⟨v8, rfl, hr8, hb8⟩; have HB8 := Lib.hid (below_then HB7.out hb8 HB7.out.size); have HO8 := Lib.hid (HO7.out.below hb8); have HS8 := Lib.hid (sl_then hb8 (Nat.le_refl _) HS7.out); have HQ8 := Lib.hid (Rq.then_ HQ7.out hb8); have HE8 := Lib.hid ((hb8.block _ (Array.getElem?_eq_some_iff.1 HE7.out).1).trans HE7.out); obtain ⟨ra, rc, rfl, _, hrs, hrz, _⟩ := rb_sl hr8; have HR8 := Lib.hid hrs; clear hr8 hb8 hrs hrz)
        | (go_at_call 20; (with_reducible refine (rCrcC ra rc X w8 HNB.out (by have := HNL.out; omega) HR8.out).mono ?_); rintro x w' ⟨rfl, rfl⟩; rw [HY.out])
        | (go_at_call 19; (with_reducible refine (four44 (Y : Int) w8 (Int.natCast_nonneg _) (by have := HCR.out; omega)).mono ?_); rintro x w9 ⟨rfl, hw9⟩; have hb9 : Below w8.heap.size w8 w9 := (by rw [← hw9]; exact (Below.refl _ w8).alloc (Nat.le_refl _) _); have HF9 := Lib.hid (show Sl w9 (some ⟨w8.heap.size, 0, none⟩) (fourL (Y : Int)) by rw [← hw9]; exact sl_new w8 _ 5); have HB9 := Lib.hid (below_then HB8.out hb9 HB8.out.size); have HO9 := Lib.hid (HO8.out.below hb9); have HS9 := Lib.hid (sl_then hb9 (Nat.le_refl _) HS8.out); have HQ9 := Lib.hid (Rq.then_ HQ8.out hb9); have HE9 := Lib.hid ((hb9.block _ (Array.getElem?_eq_some_iff.1 HE8.out).1).trans HE8.out); obtain ⟨j0, j1, j2, j3⟩ := four_atO HE9.out; (dsimp only at j0 j1 j2 j3); have hb10 : Below w9.heap.size w9 (w9.alloc (.cells #[.int .u64 (n0 : Int), .int .u64 (n1 : Int), .int .i64 (n2 : Int), .int .i64 (n3 : Int)] 45)) := (Below.refl _ w9).alloc (Nat.le_refl _) _; have HO10 := Lib.hid (HO9.out.below hb10); have HB10 := Lib.hid (below_then HB9.out hb10 HB9.out.size); have HC10 := Lib.hid (heap_alloc_last w9 (edO ⟨n0, n1, (n2 : Int), (n3 : Int)⟩)); have HB10_ := Lib.hid hb10.size; have HQ10 := Lib.hid (Rq.then_ HQ9.out hb10);  clear hb9 hw9 hb10)
        | (go_at_call 6; (with_reducible refine (bytesN ma (some ⟨w8.heap.size, 0, none⟩) ml 4 mc 4 m (fourL (Y : Int)) w9 HML.out.symm HF4l.out HS9.out HF9.out HMB2.out HFB.out).mono ?_); rintro x w' ⟨rfl, rfl⟩; rw [HDEC.out])
        | (at_builtin; (refine wpList_append_ed rfl _ _ rfl (w.heap.size + 1) _ O rfl HO10.out w9.heap.size 1 ⟨n0, n1, (n2 : Int), (n3 : Int)⟩ rfl HC10.out HOm.out (Nat.le_trans (Nat.succ_le_of_lt HQ9.out.lt) HB10_.out) ?_; intro v11 w11 o11 b11; have HO11 := Lib.hid o11; have HB11 := Lib.hid (HB10.out.trans (⟨b11.os, b11.tape, b11.output, b11.size, fun j hj => b11.block j (Nat.lt_succ_of_lt hj)⟩ : Below w.heap.size _ w11)); have HQ11 := Lib.hid (show Rq w11 w.heap.size ⟨a, n, cap, q, 0⟩ from (b11.block _ (Nat.lt_succ_self _)).trans HQ10.out); clear o11 b11)))
          first
            | exact ⟨⟨q, _, HKq.out.1, HQ11, HO11, HB11, HOl, HE⟩, by rw [HQ11.out.c1]; simp only [intOf]; exact HKq.out.2⟩
            | (go_roundw
               · exact ⟨q, _, HKq.out.1, HQ11, HO11, HB11, HOl, HE⟩
               · (rw [HQ11.out.c1, HQ.out.c1]; simp only [intOf]; exact HKq.out.2))
        · have HE := Lib.hid (show decL l = O by rw [hd]; unfold decF; simp only [hrd, if_neg hsum]; simp)
          have HDEC := Lib.hid (decide_eq_false hsum)
          clear hd hk HD hrd hsum hmlen hX hY hp4 hpq hql b0 b1 b2 b3 hr5
          go_wp2_with (first
        | (go_at_call 22; (with_reducible refine HL22.out.mono ?_); rintro x w1 ⟨rfl, k1, hk1⟩; have HQ1 := Lib.hid (HQd.out _ _ hk1); have HB1 := Lib.hid (HBd.out _ _ hk1); have HO1 := Lib.hid (HOd.out _ _ hk1); clear hk1)
        | (go_at_call 23; (with_reducible refine (HRAW.out _ HQ1.out HB1.out).mono ?_); rintro x w2 ⟨ma, mc, rfl, hmc, hms, hmb, hq, hg⟩; rw [HML.out]; have HQ2 := Lib.hid hq; have HB2 := Lib.hid (below_gr HB1.out hg (Nat.le_refl _) HB1.out.size); have HO2 := Lib.hid (od_gr HO1.out hg (Nat.lt_succ_self _)); have HS2 := Lib.hid hms; have HMB := Lib.hid (fun y hy => (hmb y hy).2); clear hq hg hmc hms hmb)
        | (go_at_call 24; (with_reducible refine (HNUM64.out _ _ HQ2.out HB2.out HF2.out).mono ?_); rintro x w3 ⟨rfl, hq, hg⟩; rw [HY2.out] at hq ⊢; (dsimp only at hq ⊢); have HQ3 := Lib.hid hq; have HB3 := Lib.hid (below_gr HB2.out hg (Nat.le_refl _) HB2.out.size); have HO3 := Lib.hid (od_gr HO2.out hg (Nat.lt_succ_self _)); have HS3 := Lib.hid (sl_gr HS2.out hg HMB.out); clear hq hg)
        | (go_at_call 24; (with_reducible refine (HNUM64.out _ _ HQ3.out HB3.out HF3.out).mono ?_); rintro x w4 ⟨rfl, hq, hg⟩; rw [HY3.out] at hq ⊢; (dsimp only at hq ⊢); have HQ4 := Lib.hid hq; have HB4 := Lib.hid (below_gr HB3.out hg (Nat.le_refl _) HB3.out.size); have HO4 := Lib.hid (od_gr HO3.out hg (Nat.lt_succ_self _)); have HS4 := Lib.hid (sl_gr HS3.out hg HMB.out); clear hq hg)
        | (go_at_call 24; (with_reducible refine (HNUM31.out _ _ HQ4.out HB4.out HF4.out).mono ?_); rintro x w5 ⟨rfl, hq, hg⟩; rw [HY4.out] at hq ⊢; (dsimp only at hq ⊢); have HQ5 := Lib.hid hq; have HB5 := Lib.hid (below_gr HB4.out hg (Nat.le_refl _) HB4.out.size); have HO5 := Lib.hid (od_gr HO4.out hg (Nat.lt_succ_self _)); have HS5 := Lib.hid (sl_gr HS4.out hg HMB.out); clear hq hg)
        | (go_at_call 24; (with_reducible refine (HNUM31.out _ _ HQ5.out HB5.out HF5.out).mono ?_); rintro x w6 ⟨rfl, hq, hg⟩; rw [HY5.out] at hq ⊢; (dsimp only at hq ⊢); have HQ6 := Lib.hid hq; have HB6 := Lib.hid (below_gr HB5.out hg (Nat.le_refl _) HB5.out.size); have HO6 := Lib.hid (od_gr HO5.out hg (Nat.lt_succ_self _)); have HS6 := Lib.hid (sl_gr HS5.out hg HMB.out); clear hq hg; have hb67 : Below w6.heap.size w6 (w6.alloc (.cells #[.int .u64 (n0 : Int), .int .u64 (n1 : Int), .int .i64 (n2 : Int), .int .i64 (n3 : Int)] 45)) := (Below.refl _ _).alloc (Nat.le_refl _) _; have HQ7 := Lib.hid (Rq.then_ HQ6.out hb67); have HE7 := Lib.hid (heap_alloc_last w6 (edO ⟨n0, n1, (n2 : Int), (n3 : Int)⟩)); have HB7 := Lib.hid (below_then HB6.out hb67 HB6.out.size); have HO7 := Lib.hid (HO6.out.below hb67); have HS7 := Lib.hid (sl_then hb67 (Nat.le_refl _) HS6.out); have e6 := Rq.c2 HQ7.out; clear hb67)
        | (go_at_call 18; (with_reducible refine (HONE.out _).mono ?_); rintro x w8 ⟨v8, rfl, hr8, hb8⟩; have HB8 := Lib.hid (below_then HB7.out hb8 HB7.out.size); have HO8 := Lib.hid (HO7.out.below hb8); have HS8 := Lib.hid (sl_then hb8 (Nat.le_refl _) HS7.out); have HQ8 := Lib.hid (Rq.then_ HQ7.out hb8); have HE8 := Lib.hid ((hb8.block _ (Array.getElem?_eq_some_iff.1 HE7.out).1).trans HE7.out); obtain ⟨ra, rc, rfl, _, hrs, hrz, _⟩ := rb_sl hr8; have HR8 := Lib.hid hrs; clear hr8 hb8 hrs hrz)
        | (go_at_call 20; (with_reducible refine (rCrcC ra rc X w8 HNB.out (by have := HNL.out; omega) HR8.out).mono ?_); rintro x w' ⟨rfl, rfl⟩; rw [HY.out])
        | (go_at_call 19; (with_reducible refine (four44 (Y : Int) w8 (Int.natCast_nonneg _) (by have := HCR.out; omega)).mono ?_); rintro x w9 ⟨rfl, hw9⟩; have hb9 : Below w8.heap.size w8 w9 := (by rw [← hw9]; exact (Below.refl _ w8).alloc (Nat.le_refl _) _); have HF9 := Lib.hid (show Sl w9 (some ⟨w8.heap.size, 0, none⟩) (fourL (Y : Int)) by rw [← hw9]; exact sl_new w8 _ 5); have HB9 := Lib.hid (below_then HB8.out hb9 HB8.out.size); have HO9 := Lib.hid (HO8.out.below hb9); have HS9 := Lib.hid (sl_then hb9 (Nat.le_refl _) HS8.out); have HQ9 := Lib.hid (Rq.then_ HQ8.out hb9); have HE9 := Lib.hid ((hb9.block _ (Array.getElem?_eq_some_iff.1 HE8.out).1).trans HE8.out); clear hb9 hw9)
        | (go_at_call 6; (with_reducible refine (bytesN ma (some ⟨w8.heap.size, 0, none⟩) ml 4 mc 4 m (fourL (Y : Int)) w9 HML.out.symm HF4l.out HS9.out HF9.out HMB2.out HFB.out).mono ?_); rintro x w' ⟨rfl, rfl⟩; rw [HDEC.out])
          )
          go_ret
          exact ⟨_, rfl, by rw [HE.out]; exact od_base HO9.out (Nat.le_succ _), HB9.out⟩
    · obtain rfl : p = n := by omega
      have hD : ¬ (0 : Int) < (p : Int) - (p : Int) := by omega
      have HOd := Lib.hid (fun (w1 : World) (k : Nat) (e : wr.drewN k = w1) => (show Od w1 (w.heap.size + 1) u3 O by rw [← e]; exact HO.out))
      have HBd := Lib.hid (fun (w1 : World) (k : Nat) (e : wr.drewN k = w1) => (show Below w.heap.size w w1 by rw [← e]; exact below_drewN HB.out k))
      obtain ⟨k, hk, hd⟩ := HD.out
      have HE := Lib.hid (show decL l = O by
        rw [hd]
        have : decF k l p = [] := by
          cases k with
          | zero => rfl
          | succ k =>
            unfold decF
            cases hr : rdE l p with
            | none => rfl
            | some y =>
              obtain ⟨e, q⟩ := y
              have := rdE_in hr
              have := HN.out
              omega
        rw [this, List.append_nil])
      clear hd hk HD
      go_wp2_with (go_at_call 22; (with_reducible refine HL22.out.mono ?_); rintro x w1 ⟨rfl, k1, hk1⟩; have HB1 := Lib.hid (HBd.out _ _ hk1); have HO1 := Lib.hid (HOd.out _ _ hk1); clear hk1)
      go_ret
      exact ⟨_, rfl, by rw [HE.out]; exact od_base HO1.out (Nat.le_succ _), HB1.out⟩
end Go.Proofs.YtebfblpmihnndaaDoor.Jg
