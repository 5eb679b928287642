/- A segment, read. -/
import Derived.Test.YtabgelmmjpjejaaDoorSq
set_option linter.unusedVariables false
namespace Go.Proofs.YtabgelmmjpjejaaDoor.Sl2
open Go Go.RowKit Kit Crc Var Get Ref3 Copy Bytes Bx Py Py2 Ry Rz Dn Df Dd Da Dc Rs Rf Rg Ar Bg Hd Sn Rh Sr So Sp Sq


/-- what Read answers of a segment whose beginning is good. -/
def ReP (l : List Nat) (N F : Nat) (w : World) (e : Ending) (w' : World) : Prop := ∃ (ps : List PV) (gd base : Nat) (sa : Option Addr) (sc : Nat), e = .returned (.tuple #[.agg #[.int .i64 (N : Int), .int .u64 (F : Int), .slice sa ps.length sc, .int .i64 (gd : Int)], .int .i64 0]) ∧ ScanI w' base (.slice sa ps.length sc) ps ∧ w.heap.size ≤ base ∧ (absP ps, gd) = rdP l F ∧ Below w.heap.size w w'
def goodOf (w : World) (g : Nat) : Nat := match w.cell? ⟨g, 3, none⟩ with
  | some (.int _ n) => n.toNat
  | _ => 0
/-- what holds at the head of a round. -/
def RoundI (l : List Nat) (N F g1 g6 base B0 : Nat) (W w : World) : Prop := ∃ (ps : List PV) (gd : Nat) (sa : Option Addr) (sc : Nat), w.heap[g6]? = some (.cells #[.int .i64 (N : Int), .int .u64 (F : Int), .slice sa ps.length sc, .int .i64 (gd : Int)] 56 (0, 0)) ∧ w.heap[g1]? = some (.cells #[.int .i64 0, .int .u64 0, .slice none 0 0, .int .i64 0] 56 (0, 0)) ∧ ScanI w base (.slice sa ps.length sc) ps ∧ gd ≤ l.length ∧ ps.length ≤ gd ∧ (∀ p ∈ ps, p.D.s ≤ 4611686018427387904) ∧ rdL l F (l.length + 1) (absP ps) gd = rdP l F ∧ base ≤ w.heap.size ∧ Below B0 W w
theorem rec_row {w : World} {g : Nat} {a b c d : Value} (h : w.heap[g]? = some (.cells #[a, b, c, d] 25 (0, 0))) : w.cell? ⟨g, 0, none⟩ = some a ∧ w.cell? ⟨g, 1, none⟩ = some b ∧ w.cell? ⟨g, 2, none⟩ = some c ∧ w.cell? ⟨g, 3, none⟩ = some d := by
  refine ⟨?_, ?_, ?_, ?_⟩ <;> (rw [cell_of_row w g _ _ 25 (0, 0) h]; rfl)
theorem part_row (w : World) (D : Dec) (da : Option Addr) (dc gd G2 : Nat) (h : G2 = gd + D.n) : (w.alloc (.cells #[.int .i64 (D.k : Int), .int .u64 (D.s : Int), .int .u64 (D.t : Int), .slice da D.b.length dc, .int .i64 (gd : Int), .int .i64 (G2 : Int)] 72)).heap[w.heap.size]? = some (.cells (pcells ⟨D, da, dc, gd⟩).toArray 72 (0, 0)) := by
  subst h
  exact heap_alloc_last w _
theorem put_two {w : World} {g : Nat} {x0 x1 x2 x3 : Value} (h : w.heap[g]? = some (.cells #[x0, x1, x2, x3] 56 (0, 0))) (c : Value) : (w.setCell ⟨g, 2, none⟩ c).heap[g]? = some (.cells #[x0, x1, c, x3] 56 (0, 0)) := by
  rw [heap_setCell_same _ g 2 _ 56 c h]; rfl
theorem put_three {w : World} {g : Nat} {x0 x1 x2 x3 : Value} (h : w.heap[g]? = some (.cells #[x0, x1, x2, x3] 56 (0, 0))) (n : Int) : (w.setCell ⟨g, 3, none⟩ (.int .i64 n)).heap[g]? = some (.cells #[x0, x1, x2, .int .i64 n] 56 (0, 0)) := by
  rw [heap_setCell_same _ g 3 _ 56 _ h]; rfl
theorem good_at {w : World} {g : Nat} {x0 x1 x2 : Value} {n : Nat} (h : w.heap[g]? = some (.cells #[x0, x1, x2, .int .i64 (n : Int)] 56 (0, 0))) : goodOf w g = n := by
  unfold goodOf; rw [(four_cells h).2.2.2.1]; exact Int.toNat_natCast n
theorem rec_at (w : World) (D : Dec) (da : Option Addr) (dc : Nat) : (w.alloc (.cells #[.int .i64 (D.k : Int), .int .u64 (D.s : Int), .int .u64 (D.t : Int), .slice da D.b.length dc] 25)).cell? ⟨w.heap.size, 0, none⟩ = some (.int .i64 (D.k : Int)) ∧ (w.alloc (.cells #[.int .i64 (D.k : Int), .int .u64 (D.s : Int), .int .u64 (D.t : Int), .slice da D.b.length dc] 25)).cell? ⟨w.heap.size, 1, none⟩ = some (.int .u64 (D.s : Int)) ∧ (w.alloc (.cells #[.int .i64 (D.k : Int), .int .u64 (D.s : Int), .int .u64 (D.t : Int), .slice da D.b.length dc] 25)).cell? ⟨w.heap.size, 2, none⟩ = some (.int .u64 (D.t : Int)) ∧ (w.alloc (.cells #[.int .i64 (D.k : Int), .int .u64 (D.s : Int), .int .u64 (D.t : Int), .slice da D.b.length dc] 25)).cell? ⟨w.heap.size, 3, none⟩ = some (.slice da D.b.length dc) := by
  refine ⟨?_, ?_, ?_, ?_⟩ <;> (rw [cell_of_row _ w.heap.size _ _ 25 (0, 0) (heap_alloc_last w _)]; rfl)
theorem new_body {w wr : World} {a : Option Addr} {l : List Nat} {base : Nat} {v : Value} {ps : List PV} (hs : Sl w a l) (hI : ScanI wr base v ps) (hf : ∀ x, a = some x → wr.heap.size ≤ x.block) (hb : base ≤ wr.heap.size) : l = [] ∨ ∃ b off, a = some ⟨b, off, none⟩ ∧ Cells w b off l ∧ base ≤ b ∧ b < w.heap.size ∧ v.ownBlock ≠ some b := by
  rcases hs with h | ⟨b, off, rfl, hc⟩
  · exact .inl h
  · by_cases hl : l = []
    · exact .inl hl
    have h1 := hf _ rfl
    refine .inr ⟨b, off, rfl, hc, Nat.le_trans hb h1, ?_, fun e => ?_⟩
    · have := hc 0 (List.length_pos_iff.2 hl)
      rcases Nat.lt_or_ge b w.heap.size with h' | h'
      · exact h'
      · simp [World.cell?, Array.getElem?_eq_none h'] at this
    · have := (hI.1.lt b e).2
      exact absurd h1 (Nat.not_le_of_lt this)
set_option maxRecDepth 100000 in
set_option maxHeartbeats 4000000 in
/-- a segment, read. -/
theorem readAll (a : Option Addr) (n cap : Nat) (l : List Nat) (N F : Nat) (w : World) (hn : n = l.length) (hs : Sl w a l) (hcap : l.length ≤ cap) (hl : ∀ c ∈ l, c < 256) (hlen : l.length ≤ 90000) (hT : TabC w) (hY : hdY l) (hN : N = hdN l) (hF : F = hdV l) :
    Calls Tryd.prog 29 #[.slice a n cap] w (ReP l N F w) := by
  subst hn
  have HEQ := Lib.hid (show ((if hdY l then hdN l else 0 : Nat) : Int) = (N : Int) ∧ ((if hdY l then hdV l else 0 : Nat) : Int) = (F : Int) ∧ decide (hdY l) = true by rw [if_pos hY, if_pos hY, decide_eq_true hY, hN, hF]; exact ⟨rfl, rfl, rfl⟩)
  have HL := Lib.hid hl
  have HLE := Lib.hid hlen
  have HC := Lib.hid hcap
  have H20 := Lib.hid hY.1
  have HB0 := Lib.hid ((Below.refl w.heap.size w).alloc (Nat.le_refl _) (.cells #[.int .i64 0, .int .u64 0, .slice none 0 0, .int .i64 0] 56))
  have HR0 := Lib.hid (heap_alloc_last w (.cells #[.int .i64 0, .int .u64 0, .slice none 0 0, .int .i64 0] 56))
  have HS1 := Lib.hid (sl_then HB0.out (Nat.le_refl _) hs)
  have HT1 := Lib.hid (tabC_then HB0.out (Nat.le_refl _) hT)
  have HS0 := Lib.hid hs
  have HT0 := Lib.hid hT
  clear hl hlen hcap hY hN hF hs hT
  go_enter Tryd.func29, Tryd.ntmps29
  go_wp2_with fail
  generalize w.alloc (.cells #[.int .i64 0, .int .u64 0, .slice none 0 0, .int .i64 0] 56) = w1 at *
  go_wp2_with (go_at_call 48; (with_reducible refine (rhK a l.length cap l w1 rfl HS1.out HC.out HL.out HT1.out).mono ?_); rintro e w2 ⟨rfl, b2⟩; rw [HEQ.out.1, HEQ.out.2.1, HEQ.out.2.2]; have HB2 := Lib.hid (below_then HB0.out b2 HB0.out.size); have HS2 := Lib.hid (sl_then b2 (Nat.le_refl _) HS1.out); have HT2 := Lib.hid (tabC_then b2 (Nat.le_refl _) HT1.out); have HRL := Lib.hid (Array.getElem?_eq_some_iff.1 HR0.out).1; have HR2 := Lib.hid ((b2.block _ HRL.out).trans HR0.out); have b2z := Lib.hid b2.size; clear b2)
  have HW4 := Lib.hid (show Below w2.heap.size w2 ((w2.alloc (.cells #[.int .i64 (N : Int), .int .u64 (F : Int)] 49)).alloc (.cells #[.int .i64 (N : Int), .int .u64 (F : Int), .slice none 0 0, .int .i64 20] 56)) from ((Below.refl _ w2).alloc (Nat.le_refl _) _).alloc (by simp) _)
  have HP4 := Lib.hid (show ((w2.alloc (.cells #[.int .i64 (N : Int), .int .u64 (F : Int)] 49)).alloc (.cells #[.int .i64 (N : Int), .int .u64 (F : Int), .slice none 0 0, .int .i64 20] 56)).heap[w2.heap.size + 1]? = some (.cells #[.int .i64 (N : Int), .int .u64 (F : Int), .slice none 0 0, .int .i64 (20 : Int)] 56 (0, 0)) by
    have h := heap_alloc_last (w2.alloc (.cells #[.int .i64 (N : Int), .int .u64 (F : Int)] 49)) (.cells #[.int .i64 (N : Int), .int .u64 (F : Int), .slice none 0 0, .int .i64 20] 56)
    rw [show (w2.alloc (.cells #[.int .i64 (N : Int), .int .u64 (F : Int)] 49)).heap.size = w2.heap.size + 1 by simp] at h; exact h)
  have HB4 := Lib.hid (below_then HB2.out HW4.out HB2.out.size)
  have H1W := Lib.hid (Nat.lt_of_lt_of_le HRL.out (Nat.le_trans b2z.out HW4.out.size))
  have HS4 := Lib.hid (sl_then HW4.out (Nat.le_refl _) HS2.out)
  have HT4 := Lib.hid (tabC_then HW4.out (Nat.le_refl _) HT2.out)
  have HR4 := Lib.hid ((HW4.out.block _ (Nat.lt_of_lt_of_le HRL.out b2z.out)).trans HR2.out)
  generalize ((w2.alloc (.cells #[.int .i64 (N : Int), .int .u64 (F : Int)] 49)).alloc (.cells #[.int .i64 (N : Int), .int .u64 (F : Int), .slice none 0 0, .int .i64 20] 56)) = w4 at *
  have H6W := Lib.hid (show w.heap.size < w2.heap.size + 1 from Nat.lt_of_le_of_lt HB2.out.size (Nat.lt_succ_self _))
  generalize w2.heap.size + 1 = g6 at *
  have HP4L := Lib.hid (Array.getElem?_eq_some_iff.1 HP4.out).1
  have H0 := Lib.hid (show RoundI l N F w.heap.size g6 w4.heap.size w.heap.size w w4 from ⟨[], 20, none, 0, HP4.out, HR4.out, scan_nil _ _, H20.out, by simp, (fun p hp => by cases hp), rfl, Nat.le_refl _, HB4.out⟩)
  clear HW4 HP4 HR4 HR2 HS2 HT2 HB2 HR0 HS1 HT1
  go_loopw [7] (fun _ wr => RoundI l N F w.heap.size g6 w4.heap.size w.heap.size w wr) (fun _ wr => l.length - goodOf wr g6)
  case atStart => exact H0.out
  case round =>
    obtain ⟨ps, gd, sa, sc, hP, hR, hI, hg, hpg, hb, hrd, hbs, hB⟩ := hrel
    have HP := Lib.hid hP
    have HR := Lib.hid hR
    have HI := Lib.hid hI
    have HG := Lib.hid hg
    have HPG := Lib.hid hpg
    have HBB := Lib.hid hb
    have HRD := Lib.hid hrd
    have HBS := Lib.hid hbs
    have HBr := Lib.hid hB
    obtain ⟨D, hD⟩ : ∃ D, D = decA l (gd : Int) := ⟨_, rfl⟩
    have HD := Lib.hid hD
    have HSr := Lib.hid (sl_then HBr.out (Nat.le_refl _) HS0.out)
    have HTr := Lib.hid (tabC_then HBr.out (Nat.le_refl _) HT0.out)
    have HPL := Lib.hid (Array.getElem?_eq_some_iff.1 HP.out).1
    have HRRL := Lib.hid (Array.getElem?_eq_some_iff.1 HR.out).1
    have HPN := Lib.hid (show ps.length ≤ 100000 by have := HLE.out; omega)
    obtain ⟨p0, p1, p2, p3, _, _, _, _⟩ := four_cells HP.out
    by_cases he : D.e = 0
    · have hb0 : ((D.e : Int) == 0) = true := by rw [beq_iff_eq]; omega
      have he0 : (D.e : Int) = 0 := by omega
      obtain ⟨RR, hRR⟩ : ∃ r, r = folL F (absP ps) D := ⟨_, rfl⟩
      have HRR := Lib.hid hRR
      have HY := Lib.hid (show ((gd + D.n : Nat) : Int) = endA D (gd : Int) by rw [endA, if_pos he]; omega)
      have HOK := Lib.hid (decA_ok HL.out hg (by rw [← hD]; exact he))
      rw [← hD] at HOK
      have HE0 := Lib.hid he
      cases RR with
      | false =>
        have HSTOP := Lib.hid (show (absP ps, gd) = rdP l F by rw [← hrd, rdL_stop (by rw [← hD, ← hRR]; simp)])
        clear hP hR hI hg hpg hb hrd hbs hB hD he hRR
        go_wp2_with (first
          | (go_at_call 14; (with_reducible refine (decAll a l.length cap l (gd : Int) D ((gd + D.n : Nat) : Int) wr rfl HD.out HY.out HSr.out HC.out HL.out HLE.out HTr.out).mono ?_); rintro e w5 ⟨da, dc, rfl, ds, dz, dcap, dfr, b5⟩; have HB5 := Lib.hid (below_then HBr.out b5 HBr.out.size); have HP5 := Lib.hid ((b5.block _ HPL.out).trans HP.out); have HR5 := Lib.hid ((b5.block _ HRRL.out).trans HR.out); have HI5 := Lib.hid (scan_then HI.out b5 (Nat.le_refl _)); have HDS := Lib.hid ds; have HDF := Lib.hid dfr; have HZ5 := Lib.hid b5.size; have HA5 := Lib.hid ((Below.refl w5.heap.size w5).alloc (Nat.le_refl _) (.cells #[.int .i64 (D.k : Int), .int .u64 (D.s : Int), .int .u64 (D.t : Int), .slice da D.b.length dc] 25)); have HB6 := Lib.hid (HB5.out.alloc HB5.out.size (.cells #[.int .i64 (D.k : Int), .int .u64 (D.s : Int), .int .u64 (D.t : Int), .slice da D.b.length dc] 25)); have HR6 := Lib.hid (alloc_row HR5.out (.cells #[.int .i64 (D.k : Int), .int .u64 (D.s : Int), .int .u64 (D.t : Int), .slice da D.b.length dc] 25)); have HP6 := Lib.hid (alloc_row HP5.out (.cells #[.int .i64 (D.k : Int), .int .u64 (D.s : Int), .int .u64 (D.t : Int), .slice da D.b.length dc] 25)); have HI6 := Lib.hid (scan_then HI5.out HA5.out (Nat.le_refl _)); have HE6 := Lib.hid (heap_alloc_last w5 (.cells #[.int .i64 (D.k : Int), .int .u64 (D.s : Int), .int .u64 (D.t : Int), .slice da D.b.length dc] 25)); obtain ⟨r0, r1, r2, r3, f0, f1, f2, f3⟩ := four_cells HR6.out; clear p0 p1 p2 p3; obtain ⟨p0, p1, p2, p3, _, _, _, _⟩ := four_cells HP6.out; clear ds dz dcap dfr b5; obtain ⟨e0, e1, e2, e3⟩ := rec_at w5 D da dc)
          | (go_at_call 49; (with_reducible refine (folK g6 N F (.slice sa ps.length sc) (gd : Int) ps w4.heap.size D da dc _ HP6.out HI6.out HPN.out HBB.out false HRR.out).mono ?_); rintro e w7 ⟨rfl, b7⟩; have HB7 := Lib.hid (below_then HB6.out b7 HB6.out.size); have HP7 := Lib.hid ((b7.block _ (Array.getElem?_eq_some_iff.1 HP6.out).1).trans HP6.out); have HR7 := Lib.hid ((b7.block _ (Array.getElem?_eq_some_iff.1 HR6.out).1).trans HR6.out); have HI7 := Lib.hid (scan_then HI6.out b7 (Nat.le_refl _)); have HE7 := Lib.hid ((b7.block _ (Array.getElem?_eq_some_iff.1 HE6.out).1).trans HE6.out); have HS7 := Lib.hid (sl_then b7 (Nat.le_refl _) (sl_alloc HDS.out (.cells #[.int .i64 (D.k : Int), .int .u64 (D.s : Int), .int .u64 (D.t : Int), .slice da D.b.length dc] 25))); have HZ7 := Lib.hid (Nat.le_trans HZ5.out (Nat.le_trans HA5.out.size b7.size)); clear r0 r1 r2 r3 f0 f1 f2 f3; obtain ⟨r0, r1, r2, r3, f0, f1, f2, f3⟩ := four_cells HR7.out; clear p0 p1 p2 p3; obtain ⟨p0, p1, p2, p3, f4, f5, f6, f7⟩ := four_cells HP7.out; clear b7 ))
        clear r0 r1 r2 r3 f0 f1 f2 f3 p0 p1 p2 p3
        obtain ⟨q0, q1, q2, q3, _, _, _, _⟩ := four_cells (four_set HR7.out (.int .i64 (N : Int)) (.int .u64 (F : Int)) (.slice sa ps.length sc) (.int .i64 (gd : Int)))
        exact bodyPost_ret (v := .tuple #[.agg #[.int .i64 (N : Int), .int .u64 (F : Int), .slice sa ps.length sc, .int .i64 (gd : Int)], .int .i64 0]) (by simp [results, Tryd.results29, go_sem, q0, q1, q2, q3]) rfl ⟨ps, gd, w4.heap.size, sa, sc, rfl, scan_set (scan_set (scan_set (scan_set HI7.out H1W.out _) H1W.out _) H1W.out _) H1W.out _, Nat.le_of_lt H1W.out, HSTOP.out, four_below HB7.out (Nat.le_refl _) _ _ _ _⟩
      | true =>
        obtain ⟨G2, hG2⟩ : ∃ G, G = gd + D.n := ⟨_, rfl⟩
        have HG2 := Lib.hid hG2
        have HY2 := Lib.hid (show (G2 : Int) = endA D (gd : Int) by rw [hG2]; exact HY.out)
        have HNEXT := Lib.hid (show rdL l F (l.length + 1) (absP ps ++ [(D, gd)]) G2 = rdP l F by
          rw [← hrd, hG2]
          have h := rdL_go (m := l.length + 1) HL.out hg (by omega) (by rw [← hD]; exact he) (by rw [← hD]; exact hRR.symm)
          rw [← hD] at h
          exact h.symm)
        clear hP hR hI hg hpg hb hrd hbs hB hD he hRR HY hG2
        go_wp2_with (first
          | (go_at_call 14; (with_reducible refine (decAll a l.length cap l (gd : Int) D (G2 : Int) wr rfl HD.out HY2.out HSr.out HC.out HL.out HLE.out HTr.out).mono ?_); rintro e w5 ⟨da, dc, rfl, ds, dz, dcap, dfr, b5⟩; have HB5 := Lib.hid (below_then HBr.out b5 HBr.out.size); have HP5 := Lib.hid ((b5.block _ HPL.out).trans HP.out); have HR5 := Lib.hid ((b5.block _ HRRL.out).trans HR.out); have HI5 := Lib.hid (scan_then HI.out b5 (Nat.le_refl _)); have HDS := Lib.hid ds; have HDF := Lib.hid dfr; have HZ5 := Lib.hid b5.size; have HA5 := Lib.hid ((Below.refl w5.heap.size w5).alloc (Nat.le_refl _) (.cells #[.int .i64 (D.k : Int), .int .u64 (D.s : Int), .int .u64 (D.t : Int), .slice da D.b.length dc] 25)); have HB6 := Lib.hid (HB5.out.alloc HB5.out.size (.cells #[.int .i64 (D.k : Int), .int .u64 (D.s : Int), .int .u64 (D.t : Int), .slice da D.b.length dc] 25)); have HR6 := Lib.hid (alloc_row HR5.out (.cells #[.int .i64 (D.k : Int), .int .u64 (D.s : Int), .int .u64 (D.t : Int), .slice da D.b.length dc] 25)); have HP6 := Lib.hid (alloc_row HP5.out (.cells #[.int .i64 (D.k : Int), .int .u64 (D.s : Int), .int .u64 (D.t : Int), .slice da D.b.length dc] 25)); have HI6 := Lib.hid (scan_then HI5.out HA5.out (Nat.le_refl _)); have HE6 := Lib.hid (heap_alloc_last w5 (.cells #[.int .i64 (D.k : Int), .int .u64 (D.s : Int), .int .u64 (D.t : Int), .slice da D.b.length dc] 25)); obtain ⟨r0, r1, r2, r3, f0, f1, f2, f3⟩ := four_cells HR6.out; clear p0 p1 p2 p3; obtain ⟨p0, p1, p2, p3, _, _, _, _⟩ := four_cells HP6.out; clear ds dz dcap dfr b5; obtain ⟨e0, e1, e2, e3⟩ := rec_at w5 D da dc)
          | (go_at_call 49; (with_reducible refine (folK g6 N F (.slice sa ps.length sc) (gd : Int) ps w4.heap.size D da dc _ HP6.out HI6.out HPN.out HBB.out true HRR.out).mono ?_); rintro e w7 ⟨rfl, b7⟩; have HB7 := Lib.hid (below_then HB6.out b7 HB6.out.size); have HP7 := Lib.hid ((b7.block _ (Array.getElem?_eq_some_iff.1 HP6.out).1).trans HP6.out); have HR7 := Lib.hid ((b7.block _ (Array.getElem?_eq_some_iff.1 HR6.out).1).trans HR6.out); have HI7 := Lib.hid (scan_then HI6.out b7 (Nat.le_refl _)); have HE7 := Lib.hid ((b7.block _ (Array.getElem?_eq_some_iff.1 HE6.out).1).trans HE6.out); have HS7 := Lib.hid (sl_then b7 (Nat.le_refl _) (sl_alloc HDS.out (.cells #[.int .i64 (D.k : Int), .int .u64 (D.s : Int), .int .u64 (D.t : Int), .slice da D.b.length dc] 25))); have HZ7 := Lib.hid (Nat.le_trans HZ5.out (Nat.le_trans HA5.out.size b7.size)); clear e0 e1 e2 e3; clear r0 r1 r2 r3 f0 f1 f2 f3; obtain ⟨r0, r1, r2, r3, f0, f1, f2, f3⟩ := four_cells HR7.out; clear p0 p1 p2 p3; obtain ⟨p0, p1, p2, p3, f4, f5, f6, f7⟩ := four_cells HP7.out; clear b7 ; obtain ⟨e0, e1, e2, e3⟩ := rec_row HE7.out; have HI8 := Lib.hid (scan_then HI7.out ((Below.refl w7.heap.size w7).alloc (Nat.le_refl _) (.cells #[.int .i64 (D.k : Int), .int .u64 (D.s : Int), .int .u64 (D.t : Int), .slice da D.b.length dc, .int .i64 (gd : Int), .int .i64 (G2 : Int)] 72)) (Nat.le_refl _)); have HM8 := Lib.hid (part_row w7 D da dc gd G2 HG2.out); have HP8 := Lib.hid (alloc_row HP7.out (.cells #[.int .i64 (D.k : Int), .int .u64 (D.s : Int), .int .u64 (D.t : Int), .slice da D.b.length dc, .int .i64 (gd : Int), .int .i64 (G2 : Int)] 72)); have HR8 := Lib.hid (alloc_row HR7.out (.cells #[.int .i64 (D.k : Int), .int .u64 (D.s : Int), .int .u64 (D.t : Int), .slice da D.b.length dc, .int .i64 (gd : Int), .int .i64 (G2 : Int)] 72)); have HB8 := Lib.hid (HB7.out.alloc HB7.out.size (.cells #[.int .i64 (D.k : Int), .int .u64 (D.s : Int), .int .u64 (D.t : Int), .slice da D.b.length dc, .int .i64 (gd : Int), .int .i64 (G2 : Int)] 72)); have HN8 := Lib.hid (new_body (sl_alloc HS7.out (.cells #[.int .i64 (D.k : Int), .int .u64 (D.s : Int), .int .u64 (D.t : Int), .slice da D.b.length dc, .int .i64 (gd : Int), .int .i64 (G2 : Int)] 72)) HI.out HDF.out HBS.out); have HZ8 := Lib.hid (Nat.le_trans HBS.out (Nat.le_trans HZ7.out (show w7.heap.size ≤ (w7.alloc (.cells #[.int .i64 (D.k : Int), .int .u64 (D.s : Int), .int .u64 (D.t : Int), .slice da D.b.length dc, .int .i64 (gd : Int), .int .i64 (G2 : Int)] 72)).heap.size by simp))))
          | (at_builtin; (refine app_part rfl _ _ rfl w4.heap.size (.slice sa ps.length sc) ps ⟨D, da, dc, gd⟩ rfl HI8.out w7.heap.size rfl HM8.out HPN.out HZ8.out HN8.out ?_; intro v9 w9 o9 b9; obtain ⟨ps', hps⟩ : ∃ p', p' = ps ++ [⟨D, da, dc, gd⟩] := ⟨_, rfl⟩; rw [← hps] at o9; have HPS := Lib.hid hps; obtain ⟨na, nc, rfl, _⟩ := scan_slice o9; have HI9 := Lib.hid o9; have HW9 := Lib.hid (b9 _ _ (Nat.le_refl _) (Below.refl _ _)); have HB9 := Lib.hid (b9 _ _ (Nat.le_of_lt H1W.out) HB8.out); have HP9 := Lib.hid ((HW9.out.block _ HP4L.out).trans HP8.out); have HR9 := Lib.hid ((HW9.out.block _ H1W.out).trans HR8.out); have HX9 := Lib.hid (Nat.le_trans HZ8.out HW9.out.size); have HP10 := Lib.hid (put_two HP9.out (.slice na ps'.length nc)); clear p0 p1 p2 p3 f4 f5 f6 f7; obtain ⟨p0, p1, p2, p3, f4, f5, f6, f7⟩ := four_cells HP9.out; obtain ⟨x0, x1, x2, x3, f8, f9, f10, f11⟩ := four_cells HP10.out; clear o9 b9 hps)))
        go_roundw
        case rel =>
          obtain ⟨h10, hlen2, hmay⟩ := HOK.out
          have hS := (mayR_of hmay).2.2.1
          have hD2 := HD.out
          refine ⟨ps', G2, na, nc, put_three HP10.out _, ?_, scan_set (scan_set HI9.out HP4L.out _) HP4L.out _, ?_, ?_, ?_, ?_, ?_, ?_⟩
          · rw [Below.heap_setCell _ _ _ _ (by show w.heap.size ≠ g6; exact Nat.ne_of_lt H6W.out), Below.heap_setCell _ _ _ _ (by show w.heap.size ≠ g6; exact Nat.ne_of_lt H6W.out)]; exact HR9.out
          · rw [HG2.out]; exact hlen2
          · rw [HPS.out, HG2.out, List.length_append, List.length_singleton]; have := HPG.out; omega
          · rw [HPS.out]
            intro p hp
            rcases List.mem_append.1 hp with hp | hp
            · exact HBB.out p hp
            · obtain rfl := List.mem_singleton.1 hp
              exact hS
          · rw [HPS.out, absP_app]; exact HNEXT.out
          · exact Nat.le_trans HX9.out (Below.setCell (Below.setCell (Below.refl 0 w9) (Nat.zero_le _) _) (Nat.zero_le _) _).size
          · exact (HB9.out.setCell (Nat.le_of_lt H6W.out) _).setCell (Nat.le_of_lt H6W.out) _
        case measure =>
          have m1 := good_at HP.out
          have m2 := good_at (put_three HP10.out (G2 : Int))
          rw [m1, m2]
          obtain ⟨h10, hlen2, _⟩ := HOK.out
          have := HG2.out
          omega
    · have hb0 : ((D.e : Int) == 0) = false := by rw [beq_eq_false_iff_ne]; omega
      have he0 : ¬ (D.e : Int) = 0 := by omega
      obtain ⟨y, hy⟩ : ∃ y, y = endA D (gd : Int) := ⟨_, rfl⟩
      have HY := Lib.hid hy
      have HSTOP := Lib.hid (show (absP ps, gd) = rdP l F by rw [← hrd, rdL_stop (by rw [← hD]; exact fun h => he h.1)])
      clear hP hR hI hg hpg hb hrd hbs hB hD he hy
      go_wp2_with (go_at_call 14; (with_reducible refine (decAll a l.length cap l (gd : Int) D y wr rfl HD.out HY.out HSr.out HC.out HL.out HLE.out HTr.out).mono ?_); rintro e w5 ⟨da, dc, rfl, ds, dz, dcap, dfr, b5⟩; have HB5 := Lib.hid (below_then HBr.out b5 HBr.out.size); have HP5 := Lib.hid ((b5.block _ HPL.out).trans HP.out); have HR5 := Lib.hid ((b5.block _ HRRL.out).trans HR.out); have HI5 := Lib.hid (scan_then HI.out b5 (Nat.le_refl _)); have HDS := Lib.hid ds; have HDF := Lib.hid dfr; have HZ5 := Lib.hid b5.size; have HA5 := Lib.hid ((Below.refl w5.heap.size w5).alloc (Nat.le_refl _) (.cells #[.int .i64 (D.k : Int), .int .u64 (D.s : Int), .int .u64 (D.t : Int), .slice da D.b.length dc] 25)); have HB6 := Lib.hid (HB5.out.alloc HB5.out.size (.cells #[.int .i64 (D.k : Int), .int .u64 (D.s : Int), .int .u64 (D.t : Int), .slice da D.b.length dc] 25)); have HR6 := Lib.hid (alloc_row HR5.out (.cells #[.int .i64 (D.k : Int), .int .u64 (D.s : Int), .int .u64 (D.t : Int), .slice da D.b.length dc] 25)); have HP6 := Lib.hid (alloc_row HP5.out (.cells #[.int .i64 (D.k : Int), .int .u64 (D.s : Int), .int .u64 (D.t : Int), .slice da D.b.length dc] 25)); have HI6 := Lib.hid (scan_then HI5.out HA5.out (Nat.le_refl _)); have HE6 := Lib.hid (heap_alloc_last w5 (.cells #[.int .i64 (D.k : Int), .int .u64 (D.s : Int), .int .u64 (D.t : Int), .slice da D.b.length dc] 25)); obtain ⟨r0, r1, r2, r3, f0, f1, f2, f3⟩ := four_cells HR6.out; clear p0 p1 p2 p3; obtain ⟨p0, p1, p2, p3, _, _, _, _⟩ := four_cells HP6.out; clear ds dz dcap dfr b5)
      clear r0 r1 r2 r3 f0 f1 f2 f3 p0 p1 p2 p3
      obtain ⟨q0, q1, q2, q3, _, _, _, _⟩ := four_cells (four_set HR6.out (.int .i64 (N : Int)) (.int .u64 (F : Int)) (.slice sa ps.length sc) (.int .i64 (gd : Int)))
      exact bodyPost_ret (v := .tuple #[.agg #[.int .i64 (N : Int), .int .u64 (F : Int), .slice sa ps.length sc, .int .i64 (gd : Int)], .int .i64 0]) (by simp [results, Tryd.results29, go_sem, q0, q1, q2, q3]) rfl ⟨ps, gd, w4.heap.size, sa, sc, rfl, scan_set (scan_set (scan_set (scan_set HI6.out H1W.out _) H1W.out _) H1W.out _) H1W.out _, Nat.le_of_lt H1W.out, HSTOP.out, four_below HB6.out (Nat.le_refl _) _ _ _ _⟩

end Go.Proofs.YtabgelmmjpjejaaDoor.Sl2
