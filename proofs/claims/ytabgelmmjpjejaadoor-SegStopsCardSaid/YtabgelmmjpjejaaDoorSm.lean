/- What ends the reading: the walk. -/
import Derived.Test.YtabgelmmjpjejaaDoorSz
import Derived.BigQuiet
import Derived.IntWalk
set_option linter.unusedVariables false
namespace Go.Proofs.YtabgelmmjpjejaaDoor.Sm
open Go Go.RowKit Kit Crc Var Get Ref3 Copy Bytes Bx Py Py2 Ry Rz Dn Df Dd Da Dc Rs Rf Rg Ar Bg Np Go.Proofs.YtabgelmmjpjejaaDoor.Nm Hd Ho Sn Rh Sr Sf So Sp Sq Sl2 Sl3 Sx Sv Ss Sy Sz


theorem getElem_of_eq {α : Type} {l m : List α} (h : l = m) (j : Nat) (hj : j < l.length) : l[j] = m[j]'(h ▸ hj) := by subst h; rfl
theorem same_part {k : Nat → Int} {s t : Nat → Nat} {b : Nat → List Nat} {f : Nat} {rs : List R4} {ps : List PV} {g : Nat} {st : Bool} (h : StI f rs (absP ps) g st) (hm : MatR k s t b rs) (j : Nat) (hj : j < ps.length) : sameR (ps[j].D.k : Int) ps[j].D.s ps[j].D.t ps[j].D.b (k j) (s j) (t j) (b j) = true := by
  have hle := h.le
  have hl : (absP ps).length = ps.length := by simp [absP]
  have e := h.at' j (by omega) (by omega)
  have e2 : (absP ps)[j]'(by omega) = (ps[j].D, ps[j].at') := by simp [absP]
  rw [e2] at e
  simp only at e
  obtain ⟨h1, h2, h3, h4, _⟩ := hm j (by omega)
  rw [e, h1, h2, h3, h4]
  simp [sameR, R4.dec]

set_option maxRecDepth 100000 in
set_option maxHeartbeats 8000000 in
theorem main (n f : Nat) (a : Option Addr) (len cap : Nat) (w : World) (hT : TabC w) (hP : TabP w) (hl : len ≤ 30) (hok : hdOk n f) (blk off : Nat) (k : Nat → Int) (s t : Nat → Nat) (ad : Nat → Option Addr) (c : Nat → Nat) (b : Nat → List Nat) (hA : 0 < len → a = some ⟨blk, off, none⟩) (hR : RA w blk off len k s t ad c b) :
    Calls Tryd.prog 8 #[.agg #[.int .i64 (n : Int), .int .u64 (f : Int)], .slice a len cap] w (OutP w) := by
  have HT := Lib.hid hT
  have HP := Lib.hid hP
  have HA := Lib.hid hA
  have HR := Lib.hid hR
  have HOK : Hid (1 ≤ n ∧ n ≤ 999999 ∧ 1 ≤ f ∧ f ≤ 4611686018427387904) := Lib.hid hok
  have HOK2 := Lib.hid hok
  have HFL := Lib.hid hok.2.2.2
  have HLEN := Lib.hid hl
  have d : decide ((30 : Int) < (len : Int)) = false := decide_eq_false (by omega)
  have HB0 := Lib.hid ((Below.refl w.heap.size w).alloc (Nat.le_refl _) (.cells #[.int .i64 (n : Int), .int .u64 (f : Int)] 49))
  have HX0 := Lib.hid (heap_alloc_last w (.cells #[.int .i64 (n : Int), .int .u64 (f : Int)] 49))
  clear hT hP hl hA hR hok
  go_enter Tryd.func8, Tryd.ntmps8
  go_wp2_with fail
  generalize w.alloc (.cells #[.int .i64 (n : Int), .int .u64 (f : Int)] 49) = w0 at *
  obtain ⟨q0, q1⟩ := Sz.two_cells HX0.out
  go_wp2_with (first
    | (go_at_call 24; (with_reducible refine (first16 w0 (tabC_then HB0.out (Nat.le_refl _) HT.out) (tabP_then HB0.out HP.out)).mono ?_); rintro e w1 ⟨rfl, bq⟩; have HB1 := Lib.hid (below_then HB0.out bq HB0.out.size); have HX1 := Lib.hid ((bq.block _ (Array.getElem?_eq_some_iff.1 HX0.out).1).trans HX0.out); clear q0 q1; obtain ⟨q0, q1⟩ := Sz.two_cells HX1.out; clear bq)
    | (go_at_call 27; (with_reducible refine (headOwn n f w1 HOK.out.1 HOK.out.2.1 HOK.out.2.2.1 HOK.out.2.2.2 (tabC_then HB1.out (Nat.le_refl _) HT.out)).mono ?_); rintro e w2 ⟨v, base, rfl, o2, z1, z2, bq⟩; have HB2 := Lib.hid (below_then HB1.out bq HB1.out.size); have HX2 := Lib.hid ((bq.block _ (Array.getElem?_eq_some_iff.1 HX1.out).1).trans HX1.out); have HZ1 := Lib.hid (Nat.le_trans HB1.out.size z1); have HZ2 := Lib.hid z2; have HXL0 := Lib.hid (show w.heap.size < base from Nat.lt_of_lt_of_le (Array.getElem?_eq_some_iff.1 HX1.out).1 z1); obtain ⟨O0, hO0⟩ : ∃ O, O = hdL n f := ⟨_, rfl⟩; rw [← hO0] at o2; have HO0 := Lib.hid hO0; have HR2 := Lib.hid o2; obtain ⟨va, vc, rfl, _⟩ := rb_sl o2; have HN20 := Lib.hid (show O0.length = 20 by rw [hO0]; exact hdL_len n f); have n20 := HN20.out; clear q0 q1 bq o2 z1 z2 hO0))
  go_loopw [5, 7, 8, 9, 10] (fun s5 s7 s8 s9 s10 wr => ∃ (i : Nat) (rs : List R4) (P : List (Dec × Nat)) (g good : Nat) (st : Bool) (O : List Nat) (va : Option Addr) (vc : Nat), i ≤ len ∧ rs.length = i ∧ good = P.length ∧ O = hdL n f ++ rs.flatMap R4.enc ∧ s5 = .slice va O.length vc ∧ s7 = .int .i64 (good : Int) ∧ s8 = .bool st ∧ s9 = .int .i64 (g : Int) ∧ s10 = .int .i64 (i : Int) ∧ Rb wr base s5 O ∧ StI f rs P g st ∧ MatR k s t b rs ∧ base ≤ wr.heap.size ∧ Below w.heap.size w wr ∧ wr.heap[w.heap.size]? = some (.cells #[.int .i64 (n : Int), .int .u64 (f : Int)] 49 (0, 0))) (fun _ _ _ _ s10 _ => len - (intOf s10).toNat)
  case atStart => exact ⟨0, [], [], 20, 0, false, O0, va, vc, Nat.zero_le _, rfl, rfl, by rw [HO0.out]; simp, by rw [HN20.out], rfl, rfl, rfl, rfl, by have h := HR2.out; rw [HN20.out] at h; exact h, st_nil f, (fun j h => absurd h (Nat.not_lt_zero _)), HZ2.out, HB2.out, HX2.out⟩
  case round =>
    have hl30 := HLEN.out
    obtain ⟨i, rs, P, g, good, st, O, va', vc', hi, hrl, hgood, hO, rfl, rfl, rfl, rfl, rfl, hRow, hSt, hMat, hbase, hB, hX⟩ := hrel
    have HROW := Lib.hid hRow
    have HST := Lib.hid hSt
    have HMAT := Lib.hid hMat
    have HBASE := Lib.hid hbase
    have HBr := Lib.hid hB
    have HXr := Lib.hid hX
    have HO := Lib.hid hO
    have HGOOD := Lib.hid hgood
    have HRL := Lib.hid hrl
    have HRr := Lib.hid (HR.out.then_ HBr.out (Nat.le_refl _))
    have HOL : Hid (O.length ≤ 20 + 337 * rs.length) := Lib.hid (by rw [hO, List.length_append, hdL_len]; exact Nat.add_le_add_left (flat_len (mat_all hMat)) 20)
    obtain ⟨q0, q1⟩ := Sz.two_cells hX
    clear hRow hSt hMat hbase hB hX hO hgood hrl
    by_cases hlt : i < len
    · have ha := HA.out (Nat.lt_of_le_of_lt (Nat.zero_le _) hlt)
      subst ha
      have C0 := Lib.hid (HRr.out.c0 i hlt)
      have C1 := Lib.hid (HRr.out.c1 i hlt)
      have C2 := Lib.hid (HRr.out.c2 i hlt)
      have C3 := Lib.hid (HRr.out.c3 i hlt)
      have CS := Lib.hid (HRr.out.sl i hlt)
      have CN := Lib.hid (HRr.out.nil i hlt)
      have CC := Lib.hid (HRr.out.cap i hlt)
      have CL := Lib.hid (HRr.out.lt i hlt)
      obtain ⟨r, hr⟩ : ∃ r, r = recAt k s t b i := ⟨_, rfl⟩
      have HREC := Lib.hid hr
      obtain ⟨kk, hkk⟩ : ∃ z, z = k i := ⟨_, rfl⟩
      obtain ⟨ss, hss⟩ : ∃ z, z = s i := ⟨_, rfl⟩
      obtain ⟨tt, htt⟩ : ∃ z, z = t i := ⟨_, rfl⟩
      obtain ⟨aa, haa⟩ : ∃ z, z = ad i := ⟨_, rfl⟩
      obtain ⟨cc, hcc⟩ : ∃ z, z = c i := ⟨_, rfl⟩
      obtain ⟨bb, hbb⟩ : ∃ z, z = b i := ⟨_, rfl⟩
      have HKK := Lib.hid hkk
      have HSS := Lib.hid hss
      have HTT := Lib.hid htt
      have HBB := Lib.hid hbb
      rw [← hkk] at C0
      rw [← hss] at C1
      rw [← htt] at C2
      rw [← haa, ← hbb, ← hcc] at C3
      rw [← haa, ← hbb] at CS
      rw [← haa, ← hcc] at CN
      rw [← hbb, ← hcc] at CC
      rw [← hbb] at CL
      clear hkk hss htt haa hcc hbb hr
      have c0 := C0.out
      have c1 := C1.out
      have c2 := C2.out
      have c3 := C3.out
      by_cases h3 : bb.length ≤ 300
      · have d3 : decide ((300 : Int) < (bb.length : Int)) = false := decide_eq_false (by omega)
        have H3 := Lib.hid h3
        clear h3
        cases hm : mayR kk ss tt bb.length with
        | false =>
          have HM := Lib.hid hm
          have HX1 : Hid (([] : List Nat) = encL kk ss tt bb ∧ 1 = encE kk ss tt bb) := Lib.hid (by unfold encL encE; rw [hm]; exact ⟨rfl, rfl⟩)
          clear hm
          go_wp2_with (first
            | (go_at_call 11; (with_reducible refine (encG kk ss tt aa cc bb.length bb [] 1 wr rfl HX1.out.1 HX1.out.2 CS.out CN.out CC.out CL.out (Nat.le_trans H3.out (by decide)) (tabC_then HBr.out (Nat.le_refl _) HT.out)).mono ?_); rintro e w3 ⟨xa, xc, rfl, _, _, _, _, bq⟩; have HB3 := Lib.hid (below_then HBr.out bq HBr.out.size); clear bq)
            | (go_at_call 24; (with_reducible refine (first16 w3 (tabC_then HB3.out (Nat.le_refl _) HT.out) (tabP_then HB3.out HP.out)).mono ?_); rintro e w4 ⟨rfl, bq⟩; have HB4 := Lib.hid (below_then HB3.out bq HB3.out.size); clear bq))
          go_ret
          exact ⟨rfl, HB4.out⟩
        | true =>
          have HM := Lib.hid hm
          have HM2 : Hid (mayR (k i) (s i) (t i) (b i).length = true) := Lib.hid (by rw [← HKK.out, ← HSS.out, ← HTT.out, ← HBB.out]; exact hm)
          obtain ⟨X, hX⟩ : ∃ X, X = r.enc := ⟨_, rfl⟩
          have HXE := Lib.hid hX
          have HX1 : Hid (X = encL kk ss tt bb ∧ 0 = encE kk ss tt bb) := Lib.hid (by rw [hX, HREC.out, HKK.out, HSS.out, HTT.out, HBB.out]; exact enc_rec HM2.out)
          have HK1 := Lib.hid (show kk = (r.K : Int) from by rw [HREC.out, HKK.out]; have := (mayR_of HM2.out).1; show k i = (((k i).toNat : Nat) : Int); omega)
          have HSN := Lib.hid (show ss = r.s from by rw [HREC.out, HSS.out]; rfl)
          have HTN := Lib.hid (show tt = r.t from by rw [HREC.out, HTT.out]; rfl)
          have HMS := Lib.hid (mat_snoc HMAT.out HRL.out HM2.out (by rw [← HBB.out]; exact H3.out))
          rw [← HREC.out] at HMS
          have HXL : Hid (X.length ≤ 337) := Lib.hid (by rw [hX]; exact enc_len (mat_all HMS.out r (by simp)))
          have HS2 := Lib.hid (mayR_of hm).2.2.1
          clear hm hX
          cases st with
          | true =>
            have HSTN := Lib.hid (st_stay HST.out r)
            go_wp2_with (first
              | (go_at_call 11; (with_reducible refine (encG kk ss tt aa cc bb.length bb X 0 wr rfl HX1.out.1 HX1.out.2 CS.out CN.out CC.out CL.out (Nat.le_trans H3.out (by decide)) (tabC_then HBr.out (Nat.le_refl _) HT.out)).mono ?_); rintro e w3 ⟨xa, xc, rfl, xs, xz, _, _, bq⟩; have HB3 := Lib.hid (below_then HBr.out bq HBr.out.size); have HXS := Lib.hid xs; have HXZ := Lib.hid xz; have HROW3 := Lib.hid (rb_then HROW.out bq (Nat.le_refl _)); have HX3 := Lib.hid ((bq.block _ (Array.getElem?_eq_some_iff.1 HXr.out).1).trans HXr.out); have HZ3 := Lib.hid (Nat.le_trans HBASE.out bq.size); clear c0 c1 c2 c3 q0 q1; have c0 := cell_then bq (Nat.le_refl _) C0.out; have c1 := cell_then bq (Nat.le_refl _) C1.out; have c2 := cell_then bq (Nat.le_refl _) C2.out; obtain ⟨q0, q1⟩ := Sz.two_cells HX3.out;  clear bq xs xz))
            go_quiet (fail)
            go_wp2_with (at_builtin; (refine app_sl rfl _ _ rfl base _ O rfl HROW3.out xa X.length xc X rfl rfl HXZ.out HXS.out (by have := HXL.out; have := HOL.out; have := HRL.out; have := HLEN.out; omega) HZ3.out ?_; intro v4 w4 o4 b4; obtain ⟨O2, hO2⟩ : ∃ O2, O2 = O ++ X := ⟨_, rfl⟩; rw [← hO2] at o4; have HO2 := Lib.hid hO2; have HROW4 := Lib.hid o4; obtain ⟨na, nc, rfl, _⟩ := rb_sl o4; have HB4 := Lib.hid (b4 _ _ HZ1.out (below_drewN HB3.out _)); have HW4 := Lib.hid (b4 _ _ (Nat.le_refl _) (below_drewN (Below.refl base w3) _)); have HX4 := Lib.hid ((HW4.out.block _ HXL0.out).trans HX3.out); have HZ4 := Lib.hid (Nat.le_trans HZ3.out HW4.out.size); clear o4 b4 hO2 c0 c1 c2 q0 q1))
            have HO3 : Hid (O2 = hdL n f ++ (rs ++ [r]).flatMap R4.enc) := Lib.hid (by rw [HO2.out, HO.out, HXE.out]; exact (flat_snoc _ _ _).symm)
            have HL3 : Hid (O2.length = 20 + ((rs ++ [r]).flatMap R4.enc).length) := Lib.hid (by rw [HO3.out, List.length_append, hdL_len])
            go_roundw
            case rel => exact ⟨i + 1, rs ++ [r], P, g, good, true, O2, na, nc, hlt, by rw [List.length_append, HRL.out]; rfl, HGOOD.out, HO3.out, rfl, rfl, rfl, rfl, rfl, HROW4.out, HSTN.out, HMS.out, HZ4.out, HB4.out, HX4.out⟩
            case measure =>
  show len - ((i : Int) + 1).toNat < len - (i : Int).toNat
  omega
          | false =>
            by_cases hseq : ss = f + i
            · by_cases hi0 : i = 0
              · have HPT : Hid (∀ (h2 : rs.length - 1 < rs.length), (0 : Nat) = rs[rs.length - 1].t) := Lib.hid (fun h2 => by have := HRL.out; omega)
                by_cases hk : r.K = 1
                · have HBAD : Hid (badR f i 0 r = false) := Lib.hid (by unfold badR; rw [← HSN.out, ← HTN.out]; simp [hseq, hi0, hk])
                  have HSTN : Hid (StI f (rs ++ [r]) (P ++ [(r.dec, g)]) (20 + ((rs ++ [r]).flatMap R4.enc).length) false) := Lib.hid (by
                    have h := st_go HST.out r 0 HPT.out (by rw [HRL.out]; exact HBAD.out)
                    have e := h.tot rfl
                    rw [e] at h; exact h)
                  have hkk : kk = 1 := by rw [HK1.out]; omega
                  have k0 : (kk == 1) = true := by rw [beq_iff_eq]; exact hkk
                  have k1 : decide (kk = 1) = true := decide_eq_true hkk
                  have k2 : (kk != 1) = false := by rw [bne, k0]; rfl
                  have z0 : ((i : Int) == 0) = true := by rw [beq_iff_eq]; omega
                  have z1 : decide ((i : Int) = 0) = true := decide_eq_true (by omega)
                  have z2 : decide ((0 : Int) < (i : Int)) = false := decide_eq_false (by omega)
                  have z3 : decide (0 < i) = false := decide_eq_false (by omega)
                  have j0 : ((ss : Int) == (f : Int) + (i : Int)) = true := by rw [beq_iff_eq]; omega
                  have i0 : decide ((ss : Int) = (f : Int) + (i : Int)) = true := decide_eq_true (by omega)
                  have n0 : ((ss : Int) != (f : Int) + (i : Int)) = false := by rw [bne, j0]; rfl
                  have wS : IntKind.u64.wrap ((f : Int) + (i : Int)) = (f : Int) + (i : Int) := by rw [IntKind.wrap_u64]; have := HFL.out; have := HLEN.out; omega
                  have wI : IntKind.u64.wrap (i : Int) = (i : Int) := by rw [IntKind.wrap_u64]; have := HLEN.out; omega
                  clear hk hkk hi0 hseq
                  go_wp2_with (first
                    | (go_at_call 11; (with_reducible refine (encG kk ss tt aa cc bb.length bb X 0 wr rfl HX1.out.1 HX1.out.2 CS.out CN.out CC.out CL.out (Nat.le_trans H3.out (by decide)) (tabC_then HBr.out (Nat.le_refl _) HT.out)).mono ?_); rintro e w3 ⟨xa, xc, rfl, xs, xz, _, _, bq⟩; have HB3 := Lib.hid (below_then HBr.out bq HBr.out.size); have HXS := Lib.hid xs; have HXZ := Lib.hid xz; have HROW3 := Lib.hid (rb_then HROW.out bq (Nat.le_refl _)); have HX3 := Lib.hid ((bq.block _ (Array.getElem?_eq_some_iff.1 HXr.out).1).trans HXr.out); have HZ3 := Lib.hid (Nat.le_trans HBASE.out bq.size); clear c0 c1 c2 c3 q0 q1; have c0 := cell_then bq (Nat.le_refl _) C0.out; have c1 := cell_then bq (Nat.le_refl _) C1.out; have c2 := cell_then bq (Nat.le_refl _) C2.out; obtain ⟨q0, q1⟩ := Sz.two_cells HX3.out;  clear bq xs xz))
                  go_quiet (fail)
                  go_wp2_with (at_builtin; (refine app_sl rfl _ _ rfl base _ O rfl HROW3.out xa X.length xc X rfl rfl HXZ.out HXS.out (by have := HXL.out; have := HOL.out; have := HRL.out; have := HLEN.out; omega) HZ3.out ?_; intro v4 w4 o4 b4; obtain ⟨O2, hO2⟩ : ∃ O2, O2 = O ++ X := ⟨_, rfl⟩; rw [← hO2] at o4; have HO2 := Lib.hid hO2; have HROW4 := Lib.hid o4; obtain ⟨na, nc, rfl, _⟩ := rb_sl o4; have HB4 := Lib.hid (b4 _ _ HZ1.out (below_drewN HB3.out _)); have HW4 := Lib.hid (b4 _ _ (Nat.le_refl _) (below_drewN (Below.refl base w3) _)); have HX4 := Lib.hid ((HW4.out.block _ HXL0.out).trans HX3.out); have HZ4 := Lib.hid (Nat.le_trans HZ3.out HW4.out.size); clear o4 b4 hO2 c0 c1 c2 q0 q1))
                  have HO3 : Hid (O2 = hdL n f ++ (rs ++ [r]).flatMap R4.enc) := Lib.hid (by rw [HO2.out, HO.out, HXE.out]; exact (flat_snoc _ _ _).symm)
                  have HL3 : Hid (O2.length = 20 + ((rs ++ [r]).flatMap R4.enc).length) := Lib.hid (by rw [HO3.out, List.length_append, hdL_len])
                  go_roundw
                  case rel => exact ⟨i + 1, rs ++ [r], P ++ [(r.dec, g)], O2.length, i + 1, false, O2, na, nc, hlt, by rw [List.length_append, HRL.out]; rfl, by rw [HSTN.out.all rfl, List.length_append, HRL.out]; rfl, HO3.out, rfl, rfl, rfl, rfl, rfl, HROW4.out, (by rw [HL3.out]; exact HSTN.out), HMS.out, HZ4.out, HB4.out, HX4.out⟩
                  case measure =>
  show len - ((i : Int) + 1).toNat < len - (i : Int).toNat
  omega
                · have HBAD : Hid (badR f i 0 r = true) := Lib.hid (by unfold badR; rw [← HSN.out, ← HTN.out]; simp [hseq, hi0, hk])
                  have HSTN := Lib.hid (st_end HST.out r 0 HPT.out (by rw [HRL.out]; exact HBAD.out))
                  have hkk : ¬ kk = 1 := by rw [HK1.out]; omega
                  have k0 : (kk == 1) = false := by rw [beq_eq_false_iff_ne]; exact hkk
                  have k1 : decide (kk = 1) = false := decide_eq_false hkk
                  have k2 : (kk != 1) = true := by rw [bne, k0]; rfl
                  have z0 : ((i : Int) == 0) = true := by rw [beq_iff_eq]; omega
                  have z1 : decide ((i : Int) = 0) = true := decide_eq_true (by omega)
                  have z2 : decide ((0 : Int) < (i : Int)) = false := decide_eq_false (by omega)
                  have z3 : decide (0 < i) = false := decide_eq_false (by omega)
                  have j0 : ((ss : Int) == (f : Int) + (i : Int)) = true := by rw [beq_iff_eq]; omega
                  have i0 : decide ((ss : Int) = (f : Int) + (i : Int)) = true := decide_eq_true (by omega)
                  have n0 : ((ss : Int) != (f : Int) + (i : Int)) = false := by rw [bne, j0]; rfl
                  have wS : IntKind.u64.wrap ((f : Int) + (i : Int)) = (f : Int) + (i : Int) := by rw [IntKind.wrap_u64]; have := HFL.out; have := HLEN.out; omega
                  have wI : IntKind.u64.wrap (i : Int) = (i : Int) := by rw [IntKind.wrap_u64]; have := HLEN.out; omega
                  clear hk hkk hi0 hseq
                  go_wp2_with (first
                    | (go_at_call 11; (with_reducible refine (encG kk ss tt aa cc bb.length bb X 0 wr rfl HX1.out.1 HX1.out.2 CS.out CN.out CC.out CL.out (Nat.le_trans H3.out (by decide)) (tabC_then HBr.out (Nat.le_refl _) HT.out)).mono ?_); rintro e w3 ⟨xa, xc, rfl, xs, xz, _, _, bq⟩; have HB3 := Lib.hid (below_then HBr.out bq HBr.out.size); have HXS := Lib.hid xs; have HXZ := Lib.hid xz; have HROW3 := Lib.hid (rb_then HROW.out bq (Nat.le_refl _)); have HX3 := Lib.hid ((bq.block _ (Array.getElem?_eq_some_iff.1 HXr.out).1).trans HXr.out); have HZ3 := Lib.hid (Nat.le_trans HBASE.out bq.size); clear c0 c1 c2 c3 q0 q1; have c0 := cell_then bq (Nat.le_refl _) C0.out; have c1 := cell_then bq (Nat.le_refl _) C1.out; have c2 := cell_then bq (Nat.le_refl _) C2.out; obtain ⟨q0, q1⟩ := Sz.two_cells HX3.out;  clear bq xs xz))
                  go_quiet (fail)
                  go_wp2_with (at_builtin; (refine app_sl rfl _ _ rfl base _ O rfl HROW3.out xa X.length xc X rfl rfl HXZ.out HXS.out (by have := HXL.out; have := HOL.out; have := HRL.out; have := HLEN.out; omega) HZ3.out ?_; intro v4 w4 o4 b4; obtain ⟨O2, hO2⟩ : ∃ O2, O2 = O ++ X := ⟨_, rfl⟩; rw [← hO2] at o4; have HO2 := Lib.hid hO2; have HROW4 := Lib.hid o4; obtain ⟨na, nc, rfl, _⟩ := rb_sl o4; have HB4 := Lib.hid (b4 _ _ HZ1.out (below_drewN HB3.out _)); have HW4 := Lib.hid (b4 _ _ (Nat.le_refl _) (below_drewN (Below.refl base w3) _)); have HX4 := Lib.hid ((HW4.out.block _ HXL0.out).trans HX3.out); have HZ4 := Lib.hid (Nat.le_trans HZ3.out HW4.out.size); clear o4 b4 hO2 c0 c1 c2 q0 q1))
                  have HO3 : Hid (O2 = hdL n f ++ (rs ++ [r]).flatMap R4.enc) := Lib.hid (by rw [HO2.out, HO.out, HXE.out]; exact (flat_snoc _ _ _).symm)
                  have HL3 : Hid (O2.length = 20 + ((rs ++ [r]).flatMap R4.enc).length) := Lib.hid (by rw [HO3.out, List.length_append, hdL_len])
                  go_roundw
                  case rel => exact ⟨i + 1, rs ++ [r], P, g, good, true, O2, na, nc, hlt, by rw [List.length_append, HRL.out]; rfl, HGOOD.out, HO3.out, rfl, rfl, rfl, rfl, rfl, HROW4.out, HSTN.out, HMS.out, HZ4.out, HB4.out, HX4.out⟩
                  case measure =>
  show len - ((i : Int) + 1).toNat < len - (i : Int).toNat
  omega
              · have hip : i - 1 < len := by omega
                obtain ⟨pt, hpt⟩ : ∃ z, z = t (i - 1) := ⟨_, rfl⟩
                have HPT : Hid (∀ (h2 : rs.length - 1 < rs.length), pt = rs[rs.length - 1].t) := Lib.hid (fun h2 => by have e := HRL.out; have := (HMAT.out (rs.length - 1) h2).2.2.1; rw [hpt, ← this, e])
                have P2 := Lib.hid (HRr.out.c2 (i - 1) hip)
                rw [← hpt] at P2
                have p2 := P2.out
                have z0 : ((i : Int) == 0) = false := by rw [beq_eq_false_iff_ne]; omega
                have z1 : decide ((i : Int) = 0) = false := decide_eq_false (by omega)
                have z2 : decide ((0 : Int) < (i : Int)) = true := decide_eq_true (by omega)
                have z3 : decide (0 < i) = true := decide_eq_true (by omega)
                have x0 : IntKind.i64.wrap ((i : Int) - 1) = ((i - 1 : Nat) : Int) := by rw [IntWalk.i64_in _ (by have := HLEN.out; omega)]; omega
                have hi1 : 0 < i := Nat.pos_of_ne_zero hi0
                by_cases hk : tt < pt
                · have HBAD : Hid (badR f i pt r = true) := Lib.hid (by unfold badR; rw [← HSN.out, ← HTN.out]; simp [hseq, hi0, hi1, hk])
                  have HSTN := Lib.hid (st_end HST.out r pt HPT.out (by rw [HRL.out]; exact HBAD.out))
                  have t0 : decide ((tt : Int) < (pt : Int)) = true := decide_eq_true (by omega)
                  have t1 : decide (tt < pt) = true := decide_eq_true hk
                  have j0 : ((ss : Int) == (f : Int) + (i : Int)) = true := by rw [beq_iff_eq]; omega
                  have i0 : decide ((ss : Int) = (f : Int) + (i : Int)) = true := decide_eq_true (by omega)
                  have n0 : ((ss : Int) != (f : Int) + (i : Int)) = false := by rw [bne, j0]; rfl
                  have wS : IntKind.u64.wrap ((f : Int) + (i : Int)) = (f : Int) + (i : Int) := by rw [IntKind.wrap_u64]; have := HFL.out; have := HLEN.out; omega
                  have wI : IntKind.u64.wrap (i : Int) = (i : Int) := by rw [IntKind.wrap_u64]; have := HLEN.out; omega
                  clear hk hi1 hseq hpt
                  go_wp2_with (first
                    | (go_at_call 11; (with_reducible refine (encG kk ss tt aa cc bb.length bb X 0 wr rfl HX1.out.1 HX1.out.2 CS.out CN.out CC.out CL.out (Nat.le_trans H3.out (by decide)) (tabC_then HBr.out (Nat.le_refl _) HT.out)).mono ?_); rintro e w3 ⟨xa, xc, rfl, xs, xz, _, _, bq⟩; have HB3 := Lib.hid (below_then HBr.out bq HBr.out.size); have HXS := Lib.hid xs; have HXZ := Lib.hid xz; have HROW3 := Lib.hid (rb_then HROW.out bq (Nat.le_refl _)); have HX3 := Lib.hid ((bq.block _ (Array.getElem?_eq_some_iff.1 HXr.out).1).trans HXr.out); have HZ3 := Lib.hid (Nat.le_trans HBASE.out bq.size); clear c0 c1 c2 c3 q0 q1; have c0 := cell_then bq (Nat.le_refl _) C0.out; have c1 := cell_then bq (Nat.le_refl _) C1.out; have c2 := cell_then bq (Nat.le_refl _) C2.out; obtain ⟨q0, q1⟩ := Sz.two_cells HX3.out; clear p2; have p2 := cell_then bq (Nat.le_refl _) P2.out; clear bq xs xz))
                  go_quiet (fail)
                  go_wp2_with (at_builtin; (refine app_sl rfl _ _ rfl base _ O rfl HROW3.out xa X.length xc X rfl rfl HXZ.out HXS.out (by have := HXL.out; have := HOL.out; have := HRL.out; have := HLEN.out; omega) HZ3.out ?_; intro v4 w4 o4 b4; obtain ⟨O2, hO2⟩ : ∃ O2, O2 = O ++ X := ⟨_, rfl⟩; rw [← hO2] at o4; have HO2 := Lib.hid hO2; have HROW4 := Lib.hid o4; obtain ⟨na, nc, rfl, _⟩ := rb_sl o4; have HB4 := Lib.hid (b4 _ _ HZ1.out (below_drewN HB3.out _)); have HW4 := Lib.hid (b4 _ _ (Nat.le_refl _) (below_drewN (Below.refl base w3) _)); have HX4 := Lib.hid ((HW4.out.block _ HXL0.out).trans HX3.out); have HZ4 := Lib.hid (Nat.le_trans HZ3.out HW4.out.size); clear o4 b4 hO2 c0 c1 c2 q0 q1))
                  have HO3 : Hid (O2 = hdL n f ++ (rs ++ [r]).flatMap R4.enc) := Lib.hid (by rw [HO2.out, HO.out, HXE.out]; exact (flat_snoc _ _ _).symm)
                  have HL3 : Hid (O2.length = 20 + ((rs ++ [r]).flatMap R4.enc).length) := Lib.hid (by rw [HO3.out, List.length_append, hdL_len])
                  go_roundw
                  case rel => exact ⟨i + 1, rs ++ [r], P, g, good, true, O2, na, nc, hlt, by rw [List.length_append, HRL.out]; rfl, HGOOD.out, HO3.out, rfl, rfl, rfl, rfl, rfl, HROW4.out, HSTN.out, HMS.out, HZ4.out, HB4.out, HX4.out⟩
                  case measure =>
  show len - ((i : Int) + 1).toNat < len - (i : Int).toNat
  omega
                · have HBAD : Hid (badR f i pt r = false) := Lib.hid (by unfold badR; rw [← HSN.out, ← HTN.out]; simp [hseq, hi0, hi1, hk])
                  have HSTN : Hid (StI f (rs ++ [r]) (P ++ [(r.dec, g)]) (20 + ((rs ++ [r]).flatMap R4.enc).length) false) := Lib.hid (by
                    have h := st_go HST.out r pt HPT.out (by rw [HRL.out]; exact HBAD.out)
                    have e := h.tot rfl
                    rw [e] at h; exact h)
                  have t0 : decide ((tt : Int) < (pt : Int)) = false := decide_eq_false (by omega)
                  have t1 : decide (tt < pt) = false := decide_eq_false hk
                  have j0 : ((ss : Int) == (f : Int) + (i : Int)) = true := by rw [beq_iff_eq]; omega
                  have i0 : decide ((ss : Int) = (f : Int) + (i : Int)) = true := decide_eq_true (by omega)
                  have n0 : ((ss : Int) != (f : Int) + (i : Int)) = false := by rw [bne, j0]; rfl
                  have wS : IntKind.u64.wrap ((f : Int) + (i : Int)) = (f : Int) + (i : Int) := by rw [IntKind.wrap_u64]; have := HFL.out; have := HLEN.out; omega
                  have wI : IntKind.u64.wrap (i : Int) = (i : Int) := by rw [IntKind.wrap_u64]; have := HLEN.out; omega
                  clear hk hi1 hseq hpt
                  go_wp2_with (first
                    | (go_at_call 11; (with_reducible refine (encG kk ss tt aa cc bb.length bb X 0 wr rfl HX1.out.1 HX1.out.2 CS.out CN.out CC.out CL.out (Nat.le_trans H3.out (by decide)) (tabC_then HBr.out (Nat.le_refl _) HT.out)).mono ?_); rintro e w3 ⟨xa, xc, rfl, xs, xz, _, _, bq⟩; have HB3 := Lib.hid (below_then HBr.out bq HBr.out.size); have HXS := Lib.hid xs; have HXZ := Lib.hid xz; have HROW3 := Lib.hid (rb_then HROW.out bq (Nat.le_refl _)); have HX3 := Lib.hid ((bq.block _ (Array.getElem?_eq_some_iff.1 HXr.out).1).trans HXr.out); have HZ3 := Lib.hid (Nat.le_trans HBASE.out bq.size); clear c0 c1 c2 c3 q0 q1; have c0 := cell_then bq (Nat.le_refl _) C0.out; have c1 := cell_then bq (Nat.le_refl _) C1.out; have c2 := cell_then bq (Nat.le_refl _) C2.out; obtain ⟨q0, q1⟩ := Sz.two_cells HX3.out; clear p2; have p2 := cell_then bq (Nat.le_refl _) P2.out; clear bq xs xz))
                  go_quiet (fail)
                  go_wp2_with (at_builtin; (refine app_sl rfl _ _ rfl base _ O rfl HROW3.out xa X.length xc X rfl rfl HXZ.out HXS.out (by have := HXL.out; have := HOL.out; have := HRL.out; have := HLEN.out; omega) HZ3.out ?_; intro v4 w4 o4 b4; obtain ⟨O2, hO2⟩ : ∃ O2, O2 = O ++ X := ⟨_, rfl⟩; rw [← hO2] at o4; have HO2 := Lib.hid hO2; have HROW4 := Lib.hid o4; obtain ⟨na, nc, rfl, _⟩ := rb_sl o4; have HB4 := Lib.hid (b4 _ _ HZ1.out (below_drewN HB3.out _)); have HW4 := Lib.hid (b4 _ _ (Nat.le_refl _) (below_drewN (Below.refl base w3) _)); have HX4 := Lib.hid ((HW4.out.block _ HXL0.out).trans HX3.out); have HZ4 := Lib.hid (Nat.le_trans HZ3.out HW4.out.size); clear o4 b4 hO2 c0 c1 c2 q0 q1))
                  have HO3 : Hid (O2 = hdL n f ++ (rs ++ [r]).flatMap R4.enc) := Lib.hid (by rw [HO2.out, HO.out, HXE.out]; exact (flat_snoc _ _ _).symm)
                  have HL3 : Hid (O2.length = 20 + ((rs ++ [r]).flatMap R4.enc).length) := Lib.hid (by rw [HO3.out, List.length_append, hdL_len])
                  go_roundw
                  case rel => exact ⟨i + 1, rs ++ [r], P ++ [(r.dec, g)], O2.length, i + 1, false, O2, na, nc, hlt, by rw [List.length_append, HRL.out]; rfl, by rw [HSTN.out.all rfl, List.length_append, HRL.out]; rfl, HO3.out, rfl, rfl, rfl, rfl, rfl, HROW4.out, (by rw [HL3.out]; exact HSTN.out), HMS.out, HZ4.out, HB4.out, HX4.out⟩
                  case measure =>
  show len - ((i : Int) + 1).toNat < len - (i : Int).toNat
  omega
            · have HPT : Hid (∃ pt : Nat, ∀ (h2 : rs.length - 1 < rs.length), pt = rs[rs.length - 1].t) := Lib.hid (by
                by_cases h2 : rs.length - 1 < rs.length
                · exact ⟨rs[rs.length - 1].t, fun _ => rfl⟩
                · exact ⟨0, fun h => absurd h h2⟩)
              obtain ⟨pt, hpt⟩ := HPT.out
              clear HPT
              have HPT := Lib.hid hpt
              clear hpt
              have HBAD : Hid (badR f i pt r = true) := Lib.hid (by unfold badR; rw [← HSN.out, ← HTN.out]; simp [hseq])
              have HSTN := Lib.hid (st_end HST.out r pt HPT.out (by rw [HRL.out]; exact HBAD.out))
              have j0 : ((ss : Int) == (f : Int) + (i : Int)) = false := by rw [beq_eq_false_iff_ne]; omega
              have i0 : decide ((ss : Int) = (f : Int) + (i : Int)) = false := decide_eq_false (by omega)
              have n0 : ((ss : Int) != (f : Int) + (i : Int)) = true := by rw [bne, j0]; rfl
              have wS : IntKind.u64.wrap ((f : Int) + (i : Int)) = (f : Int) + (i : Int) := by rw [IntKind.wrap_u64]; have := HFL.out; have := HLEN.out; omega
              have wI : IntKind.u64.wrap (i : Int) = (i : Int) := by rw [IntKind.wrap_u64]; have := HLEN.out; omega
              clear hseq
              go_wp2_with (first
                | (go_at_call 11; (with_reducible refine (encG kk ss tt aa cc bb.length bb X 0 wr rfl HX1.out.1 HX1.out.2 CS.out CN.out CC.out CL.out (Nat.le_trans H3.out (by decide)) (tabC_then HBr.out (Nat.le_refl _) HT.out)).mono ?_); rintro e w3 ⟨xa, xc, rfl, xs, xz, _, _, bq⟩; have HB3 := Lib.hid (below_then HBr.out bq HBr.out.size); have HXS := Lib.hid xs; have HXZ := Lib.hid xz; have HROW3 := Lib.hid (rb_then HROW.out bq (Nat.le_refl _)); have HX3 := Lib.hid ((bq.block _ (Array.getElem?_eq_some_iff.1 HXr.out).1).trans HXr.out); have HZ3 := Lib.hid (Nat.le_trans HBASE.out bq.size); clear c0 c1 c2 c3 q0 q1; have c0 := cell_then bq (Nat.le_refl _) C0.out; have c1 := cell_then bq (Nat.le_refl _) C1.out; have c2 := cell_then bq (Nat.le_refl _) C2.out; obtain ⟨q0, q1⟩ := Sz.two_cells HX3.out;  clear bq xs xz))
              go_quiet (fail)
              go_wp2_with (at_builtin; (refine app_sl rfl _ _ rfl base _ O rfl HROW3.out xa X.length xc X rfl rfl HXZ.out HXS.out (by have := HXL.out; have := HOL.out; have := HRL.out; have := HLEN.out; omega) HZ3.out ?_; intro v4 w4 o4 b4; obtain ⟨O2, hO2⟩ : ∃ O2, O2 = O ++ X := ⟨_, rfl⟩; rw [← hO2] at o4; have HO2 := Lib.hid hO2; have HROW4 := Lib.hid o4; obtain ⟨na, nc, rfl, _⟩ := rb_sl o4; have HB4 := Lib.hid (b4 _ _ HZ1.out (below_drewN HB3.out _)); have HW4 := Lib.hid (b4 _ _ (Nat.le_refl _) (below_drewN (Below.refl base w3) _)); have HX4 := Lib.hid ((HW4.out.block _ HXL0.out).trans HX3.out); have HZ4 := Lib.hid (Nat.le_trans HZ3.out HW4.out.size); clear o4 b4 hO2 c0 c1 c2 q0 q1))
              have HO3 : Hid (O2 = hdL n f ++ (rs ++ [r]).flatMap R4.enc) := Lib.hid (by rw [HO2.out, HO.out, HXE.out]; exact (flat_snoc _ _ _).symm)
              have HL3 : Hid (O2.length = 20 + ((rs ++ [r]).flatMap R4.enc).length) := Lib.hid (by rw [HO3.out, List.length_append, hdL_len])
              go_roundw
              case rel => exact ⟨i + 1, rs ++ [r], P, g, good, true, O2, na, nc, hlt, by rw [List.length_append, HRL.out]; rfl, HGOOD.out, HO3.out, rfl, rfl, rfl, rfl, rfl, HROW4.out, HSTN.out, HMS.out, HZ4.out, HB4.out, HX4.out⟩
              case measure =>
  show len - ((i : Int) + 1).toNat < len - (i : Int).toNat
  omega
      · have d3 : decide ((300 : Int) < (bb.length : Int)) = true := decide_eq_true (by omega)
        go_wp2_with (go_at_call 24; (with_reducible refine (first16 wr (tabC_then HBr.out (Nat.le_refl _) HT.out) (tabP_then HBr.out HP.out)).mono ?_); rintro e w3 ⟨rfl, bq⟩; have HB3 := Lib.hid (below_then HBr.out bq HBr.out.size); clear bq)
        go_ret
        exact ⟨rfl, HB3.out⟩
    · have hie : len = i := Nat.le_antisymm (Nat.not_lt.1 hlt) hi
      have d0 : decide ((i : Int) < (len : Int)) = false := decide_eq_false (by omega)
      obtain ⟨y1, y2, y3⟩ := hd_good n f (rs.flatMap R4.enc) HOK2.out
      rw [← HO.out] at y1 y2 y3
      have HY1 := Lib.hid y1
      have HY2 := Lib.hid y2
      have HY3 := Lib.hid y3
      have HRD : Hid (rdP O f = (P, g)) := Lib.hid (by rw [HO.out, rdP_run f rs (hdL n f) (hdL_len n f) (fun r hr => (mat_all HMAT.out r hr).1)]; exact HST.out.run)
      have HOX : Hid (∀ x ∈ O, x < 256) := Lib.hid (by
        rw [HO.out]
        intro x hx
        rcases List.mem_append.1 hx with hx | hx
        · exact hdL_lt n f x hx
        · obtain ⟨r, hr, hx⟩ := List.mem_flatMap.1 hx
          obtain ⟨j, hj, rfl⟩ := List.getElem_of_mem hr
          obtain ⟨_, _, _, e4, e5, _⟩ := HMAT.out j hj
          exact enc_lt e5 (by rw [← e4]; exact HRr.out.lt j (by have := HRL.out; omega)) x hx)
      have HON : Hid (O.length ≤ 90000) := Lib.hid (by have := HOL.out; have := HRL.out; omega)
      have HOS := Lib.hid (rb_sl' HROW.out)
      have HOC : Hid (O.length ≤ vc') := Lib.hid (by
        obtain ⟨xa, xc, e, h, _⟩ := rb_sl HROW.out
        injection e with _ _ e3
        rw [e3]; exact h)
      have HTr := Lib.hid (tabC_then HBr.out (Nat.le_refl _) HT.out)
      clear y1 y2 y3 hlt
      go_wp2_with (go_at_call 29; (with_reducible refine (readAll va' O.length vc' O n f wr rfl HOS.out HOC.out HOX.out HON.out HTr.out HY3.out HY1.out.symm HY2.out.symm).mono ?_); rintro e w3 ⟨ps, gd, bs, sa, sc, rfl, hI, hbs, hP, bq⟩; have HB3 := Lib.hid (below_then HBr.out bq HBr.out.size); have HI3 := Lib.hid hI; have HP3 := Lib.hid (hP.trans HRD.out); have HPA : Hid (absP ps = P) := Lib.hid (congrArg Prod.fst HP3.out); have HPG : Hid (gd = g) := Lib.hid (congrArg Prod.snd HP3.out); have HGL : Hid (good = ps.length) := Lib.hid (by rw [HGOOD.out, ← HPA.out]; simp [absP]); obtain ⟨p0, p1, p2, p3, _, _, _, _⟩ := Sr.four_cells (heap_alloc_last w3 (.cells #[.int .i64 (n : Int), .int .u64 (f : Int), .slice sa ps.length sc, .int .i64 (gd : Int)] 56)); have HR4 := Lib.hid (heap_alloc_last w3 (.cells #[.int .i64 (n : Int), .int .u64 (f : Int), .slice sa ps.length sc, .int .i64 (gd : Int)] 56)); have m0 : ((gd : Int) != (g : Int)) = false := (by rw [show gd = g from HPG.out]; simp); have m1 : ((ps.length : Int) != (good : Int)) = false := (by rw [HGL.out]; simp); have HI4 := Lib.hid (scan_then HI3.out ((Below.refl w3.heap.size w3).alloc (Nat.le_refl _) (.cells #[.int .i64 (n : Int), .int .u64 (f : Int), .slice sa ps.length sc, .int .i64 (gd : Int)] 56)) (Nat.le_refl _)); have HB4 := Lib.hid (HB3.out.alloc HB3.out.size (.cells #[.int .i64 (n : Int), .int .u64 (f : Int), .slice sa ps.length sc, .int .i64 (gd : Int)] 56)); clear hI hbs hP bq q0 q1)
      generalize w3.alloc (.cells #[.int .i64 (n : Int), .int .u64 (f : Int), .slice sa ps.length sc, .int .i64 (gd : Int)] 56) = w4 at *
      generalize w3.heap.size = g13 at *
      clear p0 p1 p2 p3
      obtain ⟨wo, hwo⟩ : ∃ wo : World, wo = wr := ⟨_, rfl⟩
      have hgi : good ≤ i := by rw [HGOOD.out, ← HRL.out]; exact HST.out.le
      go_loopw [15] (fun s15 wv => ∃ j : Nat, j ≤ good ∧ s15 = .int .i64 (j : Int) ∧ ScanI wv bs (.slice sa ps.length sc) ps ∧ wv.heap[g13]? = some (.cells #[.int .i64 (n : Int), .int .u64 (f : Int), .slice sa ps.length sc, .int .i64 (gd : Int)] 56 (0, 0)) ∧ Below w.heap.size w wv) (fun s15 _ => good - (intOf s15).toNat)
      case atStart => exact ⟨0, Nat.zero_le _, rfl, HI4.out, HR4.out, HB4.out⟩
      case round =>
        obtain ⟨j, hjg, rfl, hI, hR5, hB5⟩ := hrel
        have HI5 := Lib.hid hI
        have HR5 := Lib.hid hR5
        have HB5 := Lib.hid hB5
        clear hI hR5 hB5
        by_cases hj : j < good
        · have hjp : j < ps.length := by rw [← HGL.out]; exact hj
          obtain ⟨g5, hg5⟩ : ∃ g5, sa = some ⟨g5, 0, none⟩ := by
            obtain ⟨a5, c5, e5, h5⟩ := scan_slice HI5.out
            injection e5 with e5
            rw [e5]
            exact h5 (by intro e; rw [e] at hjp; simp at hjp)
          subst hg5
          have HSAME := Lib.hid (same_part (by rw [HPA.out]; exact HST.out) HMAT.out j hjp).symm
          have hpm : ps[j] ∈ ps := List.getElem_mem hjp
          have HD0 : Hid (∀ i, i < 6 → wr.cell? ⟨g5, j * 6 + i, none⟩ = (pcells ps[j])[i]?) := Lib.hid (scan_cells HI5.out j hjp)
          have HDB := Lib.hid (HI5.out.2 _ hpm)
          have ha := HA.out (Nat.lt_of_lt_of_le (Nat.lt_of_le_of_lt (Nat.zero_le _) hj) (by rw [hie]; exact hgi))
          subst ha
          have hji : j < i := Nat.lt_of_lt_of_le hj hgi
          have hjl : j < len := by rw [hie]; exact Nat.lt_of_lt_of_le hj hgi
          have HRj := Lib.hid (HR.out.then_ HB5.out (Nat.le_refl _))
          obtain ⟨DK, hDK⟩ : ∃ z, z = ps[j].D.k := ⟨_, rfl⟩
          obtain ⟨DS, hDS⟩ : ∃ z, z = ps[j].D.s := ⟨_, rfl⟩
          obtain ⟨DT, hDT⟩ : ∃ z, z = ps[j].D.t := ⟨_, rfl⟩
          obtain ⟨DB, hDB⟩ : ∃ z, z = ps[j].D.b := ⟨_, rfl⟩
          obtain ⟨da, hda⟩ : ∃ z, z = ps[j].a := ⟨_, rfl⟩
          obtain ⟨dc, hdc⟩ : ∃ z, z = ps[j].c := ⟨_, rfl⟩
          obtain ⟨kk, hkk⟩ : ∃ z, z = k j := ⟨_, rfl⟩
          obtain ⟨ss, hss⟩ : ∃ z, z = s j := ⟨_, rfl⟩
          obtain ⟨tt, htt⟩ : ∃ z, z = t j := ⟨_, rfl⟩
          obtain ⟨aa, haa⟩ : ∃ z, z = ad j := ⟨_, rfl⟩
          obtain ⟨cc, hcc⟩ : ∃ z, z = c j := ⟨_, rfl⟩
          obtain ⟨bb, hbb⟩ : ∃ z, z = b j := ⟨_, rfl⟩
          have HDS : Hid (Sl wr da DB) := Lib.hid (by
            rw [hda, hDB]
            rcases HDB.out with h | ⟨xb, xo, e1, e2, _⟩
            · exact .inl h
            · exact .inr ⟨xb, xo, e1, e2⟩)
          have CS : Hid (Sl wr aa bb) := Lib.hid (by rw [haa, hbb]; exact HRj.out.sl j hjl)
          have CL : Hid (∀ x ∈ bb, x < 256) := Lib.hid (by rw [hbb]; exact HRj.out.lt j hjl)
          have HDL : Hid (∀ x ∈ DB, x < 256) := Lib.hid (by
            have h := HST.out.at' j (by rw [← HGOOD.out]; exact hj) (by rw [HRL.out]; exact Nat.lt_of_lt_of_le hj hgi)
            have h2 : (absP ps)[j]'(by rw [HPA.out, ← HGOOD.out]; exact hj) = (ps[j].D, ps[j].at') := by simp [absP]
            have h3 := (getElem_of_eq HPA.out j (by rw [HPA.out, ← HGOOD.out]; exact hj)).symm.trans h2
            rw [h3] at h
            simp only at h
            obtain ⟨_, _, _, e4, _⟩ := HMAT.out j (by rw [HRL.out]; exact Nat.lt_of_lt_of_le hj hgi)
            rw [hDB, h]
            show ∀ x ∈ (rs[j]'_).b, x < 256
            rw [← e4, ← hbb]; exact CL.out)
          rw [← hDK, ← hDS, ← hDT, ← hDB, ← hkk, ← hss, ← htt, ← hbb] at HSAME
          have KS := Lib.hid (show ∀ W, Below wr.heap.size wr W → W.cell? ⟨g13, 2, none⟩ = some (.slice (some ⟨g5, 0, none⟩) ps.length sc) ∧ W.cell? ⟨g5, j * 6, none⟩ = some (.int .i64 (DK : Int)) ∧ W.cell? ⟨g5, j * 6 + 1, none⟩ = some (.int .u64 (DS : Int)) ∧ W.cell? ⟨g5, j * 6 + 2, none⟩ = some (.int .u64 (DT : Int)) ∧ W.cell? ⟨g5, j * 6 + 3, none⟩ = some (.slice da DB.length dc) ∧ W.cell? ⟨blk, off + j * 4, none⟩ = some (.int .i64 kk) ∧ W.cell? ⟨blk, off + j * 4 + 1, none⟩ = some (.int .u64 (ss : Int)) ∧ W.cell? ⟨blk, off + j * 4 + 2, none⟩ = some (.int .u64 (tt : Int)) ∧ W.cell? ⟨blk, off + j * 4 + 3, none⟩ = some (.slice aa bb.length cc) ∧ Below wr.heap.size wr W from fun W h => by
            refine ⟨cell_then h (Nat.le_refl _) (Sr.four_cells HR5.out).2.2.1, cell_then h (Nat.le_refl _) ?_, cell_then h (Nat.le_refl _) ?_, cell_then h (Nat.le_refl _) ?_, cell_then h (Nat.le_refl _) ?_, cell_then h (Nat.le_refl _) ?_, cell_then h (Nat.le_refl _) ?_, cell_then h (Nat.le_refl _) ?_, cell_then h (Nat.le_refl _) ?_, h⟩
            · rw [hDK]; exact HD0.out 0 (by decide)
            · rw [hDS]; exact HD0.out 1 (by decide)
            · rw [hDT]; exact HD0.out 2 (by decide)
            · rw [hda, hDB, hdc]; exact HD0.out 3 (by decide)
            · rw [hkk]; exact HRj.out.c0 j hjl
            · rw [hss]; exact HRj.out.c1 j hjl
            · rw [htt]; exact HRj.out.c2 j hjl
            · rw [haa, hbb, hcc]; exact HRj.out.c3 j hjl)
          have KB := Lib.hid (show ∀ W, (W.cell? ⟨g13, 2, none⟩ = some (.slice (some ⟨g5, 0, none⟩) ps.length sc) ∧ W.cell? ⟨g5, j * 6, none⟩ = some (.int .i64 (DK : Int)) ∧ W.cell? ⟨g5, j * 6 + 1, none⟩ = some (.int .u64 (DS : Int)) ∧ W.cell? ⟨g5, j * 6 + 2, none⟩ = some (.int .u64 (DT : Int)) ∧ W.cell? ⟨g5, j * 6 + 3, none⟩ = some (.slice da DB.length dc) ∧ W.cell? ⟨blk, off + j * 4, none⟩ = some (.int .i64 kk) ∧ W.cell? ⟨blk, off + j * 4 + 1, none⟩ = some (.int .u64 (ss : Int)) ∧ W.cell? ⟨blk, off + j * 4 + 2, none⟩ = some (.int .u64 (tt : Int)) ∧ W.cell? ⟨blk, off + j * 4 + 3, none⟩ = some (.slice aa bb.length cc) ∧ Below wr.heap.size wr W) → Below wr.heap.size wr W from fun W h => h.2.2.2.2.2.2.2.2.2)
          clear hDK hDS hDT hDB hda hdc hkk hss htt haa hcc hbb
          go_wp2_with fail
          refine wp_region_held_drew (S := (fun W => W.cell? ⟨g13, 2, none⟩ = some (.slice (some ⟨g5, 0, none⟩) ps.length sc) ∧ W.cell? ⟨g5, j * 6, none⟩ = some (.int .i64 (DK : Int)) ∧ W.cell? ⟨g5, j * 6 + 1, none⟩ = some (.int .u64 (DS : Int)) ∧ W.cell? ⟨g5, j * 6 + 2, none⟩ = some (.int .u64 (DT : Int)) ∧ W.cell? ⟨g5, j * 6 + 3, none⟩ = some (.slice da DB.length dc) ∧ W.cell? ⟨blk, off + j * 4, none⟩ = some (.int .i64 kk) ∧ W.cell? ⟨blk, off + j * 4 + 1, none⟩ = some (.int .u64 (ss : Int)) ∧ W.cell? ⟨blk, off + j * 4 + 2, none⟩ = some (.int .u64 (tt : Int)) ∧ W.cell? ⟨blk, off + j * 4 + 3, none⟩ = some (.slice aa bb.length cc) ∧ Below wr.heap.size wr W)) (by kernel_rfl) ?_ (fun hHeld => ?_)
          · ((try dsimp only); (first | (with_reducible exact KS.out _ hN) | (with_reducible exact hHeld) | exact KS.out _ (Below.refl _ _).drew | exact KS.out _ (Below.refl _ _)))
          refine wpAnyH_take (i := 0) (oi := { dst := some 144, op := Op.fieldAddr 56 (Operand.tmp 13) 1, type := 0, pos := _, after := #[], guard := none }) (v := ?_) rfl (by kernel_rfl) (by kernel_rfl) (by kernel_rfl) (fun _ _ _ h => h) (Or.inl ⟨by rfl, ?_⟩) (by assumption) ?_
          rotate_left
          · ((intro w hSw); (try dsimp only at hSw); go_simp; (try with_reducible rfl))
          try simp only [Act.put, List.setIfInBounds_toArray, List.set_cons_zero, List.set_cons_succ]
          refine wpAnyH_take (i := 1) (oi := { dst := some 145, op := Op.load 54 (Operand.tmp 144), type := 54, pos := _, after := #[{ on := 0, ground := Ground.data }], guard := none }) (v := ?_) rfl (by kernel_rfl) (by kernel_rfl) (by kernel_rfl) (fun _ _ _ h => h) (Or.inl ⟨by rfl, ?_⟩) (by assumption) ?_
          rotate_left
          · ((intro w hSw); (try dsimp only at hSw); go_simp; (try with_reducible rfl))
          try simp only [Act.put, List.setIfInBounds_toArray, List.set_cons_zero, List.set_cons_succ]
          refine wpAnyH_take (i := 2) (oi := { dst := some 146, op := Op.move (Operand.tmp 15), type := 3, pos := _, after := #[], guard := none }) (v := ?_) rfl (by kernel_rfl) (by kernel_rfl) (by kernel_rfl) (fun _ _ _ h => h) (Or.inl ⟨by rfl, ?_⟩) (by assumption) ?_
          rotate_left
          · ((intro w hSw); (try dsimp only at hSw); go_simp; (try with_reducible rfl))
          try simp only [Act.put, List.setIfInBounds_toArray, List.set_cons_zero, List.set_cons_succ]
          refine wpAnyH_take (i := 3) (oi := { dst := some 147, op := Op.indexAddr 54 (Operand.tmp 145) (Operand.tmp 146), type := 0, pos := _, after := #[{ on := 1, ground := Ground.data }, { on := 2, ground := Ground.data }], guard := none }) (v := ?_) rfl (by kernel_rfl) (by kernel_rfl) (by kernel_rfl) (fun _ _ _ h => h) (Or.inl ⟨by rfl, ?_⟩) (by assumption) ?_
          rotate_left
          · ((intro w hSw); (try dsimp only at hSw); go_simp; (try with_reducible rfl))
          try simp only [Act.put, List.setIfInBounds_toArray, List.set_cons_zero, List.set_cons_succ]
          refine wpAnyH_take (i := 4) (oi := { dst := some 148, op := Op.fieldAddr 72 (Operand.tmp 147) 0, type := 0, pos := _, after := #[{ on := 3, ground := Ground.data }], guard := none }) (v := ?_) rfl (by kernel_rfl) (by kernel_rfl) (by kernel_rfl) (fun _ _ _ h => h) (Or.inl ⟨by rfl, ?_⟩) (by assumption) ?_
          rotate_left
          · ((intro w hSw); (try dsimp only at hSw); go_simp; (try with_reducible rfl))
          try simp only [Act.put, List.setIfInBounds_toArray, List.set_cons_zero, List.set_cons_succ]
          refine wpAnyH_take (i := 5) (oi := { dst := some 149, op := Op.load 25 (Operand.tmp 148), type := 25, pos := _, after := #[{ on := 4, ground := Ground.data }], guard := none }) (v := ?_) rfl (by kernel_rfl) (by kernel_rfl) (by kernel_rfl) (fun _ _ _ h => h) (Or.inl ⟨by rfl, ?_⟩) (by assumption) ?_
          rotate_left
          · ((intro w hSw); (try dsimp only at hSw); go_simp; (try with_reducible rfl))
          try simp only [Act.put, List.setIfInBounds_toArray, List.set_cons_zero, List.set_cons_succ]
          refine wpAnyH_take (i := 6) (oi := { dst := some 150, op := Op.move (Operand.tmp 1), type := 68, pos := _, after := #[], guard := none }) (v := ?_) rfl (by kernel_rfl) (by kernel_rfl) (by kernel_rfl) (fun _ _ _ h => h) (Or.inl ⟨by rfl, ?_⟩) (by assumption) ?_
          rotate_left
          · ((intro w hSw); (try dsimp only at hSw); go_simp; (try with_reducible rfl))
          try simp only [Act.put, List.setIfInBounds_toArray, List.set_cons_zero, List.set_cons_succ]
          refine wpAnyH_take (i := 7) (oi := { dst := some 151, op := Op.move (Operand.tmp 15), type := 3, pos := _, after := #[], guard := none }) (v := ?_) rfl (by kernel_rfl) (by kernel_rfl) (by kernel_rfl) (fun _ _ _ h => h) (Or.inl ⟨by rfl, ?_⟩) (by assumption) ?_
          rotate_left
          · ((intro w hSw); (try dsimp only at hSw); go_simp; (try with_reducible rfl))
          try simp only [Act.put, List.setIfInBounds_toArray, List.set_cons_zero, List.set_cons_succ]
          refine wpAnyH_take (i := 8) (oi := { dst := some 152, op := Op.indexAddr 68 (Operand.tmp 150) (Operand.tmp 151), type := 0, pos := _, after := #[{ on := 6, ground := Ground.data }, { on := 7, ground := Ground.data }], guard := none }) (v := ?_) rfl (by kernel_rfl) (by kernel_rfl) (by kernel_rfl) (fun _ _ _ h => h) (Or.inl ⟨by rfl, ?_⟩) (by assumption) ?_
          rotate_left
          · ((intro w hSw); (try dsimp only at hSw); go_simp; (try with_reducible rfl))
          try simp only [Act.put, List.setIfInBounds_toArray, List.set_cons_zero, List.set_cons_succ]
          refine wpAnyH_take (i := 9) (oi := { dst := some 153, op := Op.load 25 (Operand.tmp 152), type := 25, pos := _, after := #[{ on := 8, ground := Ground.data }], guard := none }) (v := ?_) rfl (by kernel_rfl) (by kernel_rfl) (by kernel_rfl) (fun _ _ _ h => h) (Or.inl ⟨by rfl, ?_⟩) (by assumption) ?_
          rotate_left
          · ((intro w hSw); (try dsimp only at hSw); go_simp; (try with_reducible rfl))
          try simp only [Act.put, List.setIfInBounds_toArray, List.set_cons_zero, List.set_cons_succ]
          refine wpAnyH_ready (rs := [10]) (by kernel_rfl) (by simp) ?_
          refine (AllReadyH.cons (o := { dst := some 154, op := Op.call { callee := Callee.value (Operand.func 20), args := #[Operand.tmp 149, Operand.tmp 153], argTypes := #[25, 25] }, type := 4, pos := _, after := #[{ on := 5, ground := Ground.data }, { on := 9, ground := Ground.data }], guard := none }) rfl (fun K hK => ?_) AllReadyH.nil)
          go_simp
          (go_at_call 20; (with_reducible refine (sameK (DK : Int) DS DT da DB.length dc DB kk ss tt aa bb.length cc bb _ rfl rfl (sl_then (KB.out _ hHeld) (Nat.le_refl _) HDS.out) (sl_then (KB.out _ hHeld) (Nat.le_refl _) CS.out) HDL.out CL.out true HSAME.out).mono ?_); rintro e wa ⟨rfl, ba⟩; have hN := below_then (KB.out _ hHeld) ba (KB.out _ hHeld).size; clear ba)
          go_wp2_with fail
          refine hK.out _ _ ?_ (fun hHeld => ?_)
          · ((try dsimp only); (first | (with_reducible exact KS.out _ hN) | (with_reducible exact hHeld) | exact KS.out _ (Below.refl _ _).drew | exact KS.out _ (Below.refl _ _)))
          clear hK K
          try simp only [Act.put, List.setIfInBounds_toArray, List.set_cons_zero, List.set_cons_succ]
          refine wpAnyH_take (i := 11) (oi := { dst := some 155, op := Op.unOp UnOp.not 4 (Operand.tmp 154), type := 4, pos := _, after := #[{ on := 10, ground := Ground.data }], guard := none }) (v := ?_) rfl (by kernel_rfl) (by kernel_rfl) (by kernel_rfl) (fun _ _ _ h => h) (Or.inl ⟨by rfl, ?_⟩) (by assumption) ?_
          rotate_left
          · ((intro w hSw); (try dsimp only at hSw); go_simp; (try with_reducible rfl))
          try simp only [Act.put, List.setIfInBounds_toArray, List.set_cons_zero, List.set_cons_succ]
          refine wpAnyH_done (by kernel_rfl) ?_ _
          clear hN
          go_wp2
          go_roundw
          case rel => exact ⟨j + 1, hj, rfl, scan_then HI5.out (KB.out _ hHeld) (Nat.le_refl _), ((KB.out _ hHeld).block _ (Array.getElem?_eq_some_iff.1 HR5.out).1).trans HR5.out, below_then HB5.out (KB.out _ hHeld) HB5.out.size⟩
          case measure =>
            show good - ((j : Int) + 1).toNat < good - (j : Int).toNat
            omega
        · go_wp2_with (go_at_call 24; (with_reducible refine (first16 wr (tabC_then HB5.out (Nat.le_refl _) HT.out) (tabP_then HB5.out HP.out)).mono ?_); rintro e w6 ⟨rfl, bq⟩; have HB6 := Lib.hid (below_then HB5.out bq HB5.out.size); clear bq)
          go_ret
          exact ⟨rfl, HB6.out⟩

end Go.Proofs.YtabgelmmjpjejaaDoor.Sm
