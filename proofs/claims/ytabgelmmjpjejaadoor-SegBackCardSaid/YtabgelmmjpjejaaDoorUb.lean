/- SegBack: the file. -/
import Derived.Test.YtabgelmmjpjejaaDoorUa
import Derived.Test.YtabgelmmjpjejaaDoorSz
import Derived.BigQuiet
import Derived.IntWalk
set_option linter.unusedVariables false
namespace Go.Proofs.YtabgelmmjpjejaaDoor.Ub
open Go Go.RowKit Kit Crc Var Get Ref3 Copy Bytes Bx Py Py2 Ry Rz Dn Df Dd Da Dc Rs Rf Rg Ar Bg Hd Ho Sn Rh Sr So Sp Sq Sl2 Sl3 Sx Sv Ss Sy Sz Ua


theorem allF_snoc (F : Nat) (r : R4) (rs : List R4) : ∀ P g, allF F rs P g → folL F (P ++ listP rs g) r.dec = true → allF F (rs ++ [r]) P g := by
  induction rs with
  | nil =>
    intro P g _ h
    rw [show listP [] g = [] from rfl, List.append_nil] at h
    exact ⟨h, trivial⟩
  | cons q rs ih =>
    intro P g h h2
    refine ⟨h.1, ih _ _ h.2 ?_⟩
    rw [List.append_assoc]
    exact h2
theorem listP_dec (rs : List R4) : ∀ g j, (h : j < rs.length) → (h2 : j < (listP rs g).length) → (listP rs g)[j].1 = rs[j].dec := by
  induction rs with
  | nil => intro g j h; exact absurd h (Nat.not_lt_zero _)
  | cons r rs ih =>
    intro g j h h2
    cases j with
    | zero => rfl
    | succ j => exact ih (g + r.enc.length) j (Nat.lt_of_succ_lt_succ h) (Nat.lt_of_succ_lt_succ h2)
theorem fol_first (F : Nat) (r : R4) (h1 : r.K = 1) (h2 : r.s = F) : folL F ([] ++ listP [] 20) r.dec = true := by
  show (decide (r.K = 1) && decide (r.s = F)) = true
  simp [h1, h2]
theorem fol_next (F : Nat) (rs : List R4) (r : R4) (h0 : 0 < rs.length) (h1 : r.s = (rs[rs.length - 1]'(by omega)).s + 1) (h2 : (rs[rs.length - 1]'(by omega)).t ≤ r.t) : folL F ([] ++ listP rs 20) r.dec = true := by
  have hl := listP_len rs 20
  have e : (listP rs 20).getLast? = some ((listP rs 20)[rs.length - 1]'(by omega)) := by
    rw [List.getLast?_eq_getElem?, show (listP rs 20).length - 1 = rs.length - 1 by rw [hl], List.getElem?_eq_getElem (by omega)]
  have e2 := listP_dec rs 20 (rs.length - 1) (by omega) (by omega)
  rw [List.nil_append, folL, e]
  simp only
  rw [e2]
  show (decide (r.s = (rs[rs.length - 1]'(by omega)).s + 1) && decide ((rs[rs.length - 1]'(by omega)).t ≤ r.t)) = true
  simp [h1, h2]
/-- the file so far, and its records. -/
def FileI (N f : Nat) (k : Nat → Int) (s t : Nat → Nat) (b : Nat → List Nat) (i : Nat) (O : List Nat) : Prop :=
  hdOk N f ∧ ∃ rs : List R4, rs.length = i ∧ O = hdL N f ++ rs.flatMap R4.enc ∧ MatR k s t b rs ∧ allF f rs [] 20 ∧ ∀ j, (h : j < rs.length) → rs[j].s = f + j
theorem file_len {N f : Nat} {k : Nat → Int} {s t : Nat → Nat} {b : Nat → List Nat} {i : Nat} {O : List Nat} (h : FileI N f k s t b i O) : 20 ≤ O.length := by
  obtain ⟨_, rs, _, hO, _⟩ := h
  rw [hO, List.length_append, hdL_len]; exact Nat.le_add_right _ _
theorem file_nil {N f : Nat} {k : Nat → Int} {s t : Nat → Nat} {b : Nat → List Nat} (h : hdOk N f) : FileI N f k s t b 0 (hdL N f) :=
  ⟨h, [], rfl, by simp, (fun j h => absurd h (Nat.not_lt_zero _)), trivial, (fun j h => absurd h (Nat.not_lt_zero _))⟩
theorem file_next {N f : Nat} {k : Nat → Int} {s t : Nat → Nat} {b : Nat → List Nat} {i : Nat} {O : List Nat} (h : FileI N f k s t b i O) (hm : mayR (k i) (s i) (t i) (b i).length = true) (h3 : (b i).length ≤ 300) (hs : s i = f + i)
    (hk : i = 0 → k i = 1) (ht : 0 < i → t (i - 1) ≤ t i) : FileI N f k s t b (i + 1) (O ++ encL (k i) (s i) (t i) (b i)) := by
  obtain ⟨h1, rs, hl, hO, hM, hA, hS⟩ := h
  refine ⟨h1, rs ++ [recAt k s t b i], by simp [hl], ?_, mat_snoc hM hl hm h3, ?_, ?_⟩
  · rw [hO, flat_snoc, (enc_rec hm).1]
  · refine allF_snoc f _ rs [] 20 hA ?_
    by_cases h0 : i = 0
    · obtain rfl : rs = [] := List.eq_nil_of_length_eq_zero (by omega)
      refine fol_first f _ ?_ ?_
      · show (k i).toNat = 1
        rw [hk h0]; rfl
      · show s i = f
        omega
    · have hp : 0 < rs.length := by omega
      have e1 := hS (rs.length - 1) (by omega)
      have e2 := (hM (rs.length - 1) (by omega)).2.2.1
      refine fol_next f rs _ hp ?_ ?_
      · show s i = _
        omega
      · show _ ≤ t i
        rw [← e2, hl]; exact ht (by omega)
  · intro j hj
    by_cases hj2 : j < rs.length
    · rw [List.getElem_append_left hj2]; exact hS j hj2
    · have : j = rs.length := by simp at hj; omega
      subst this
      simp only [List.getElem_concat_length]
      show s i = _
      omega
theorem encX_len (k : Int) (s t : Nat) (l : List Nat) (h : l.length ≤ 300) : (encL k s t l).length ≤ 337 := by
  cases hm : mayR k s t l.length with
  | false => unfold encL; rw [hm]; exact Nat.zero_le _
  | true =>
    have e := enc_len (r := recAt (fun _ => k) (fun _ => s) (fun _ => t) (fun _ => l) 0) ⟨by
      have hk := (mayR_of hm).1
      have hk2 : ((k.toNat : Nat) : Int) = k := by omega
      show mayR ((k.toNat : Nat) : Int) s t l.length = true
      rw [hk2]; exact hm, h⟩
    rw [← (enc_rec (k := fun _ => k) (s := fun _ => s) (t := fun _ => t) (b := fun _ => l) (i := 0) hm).1]
    exact e
/-- what Header answers, of any numbers. -/
def HdQ (E : Int) (ok0 : Bool) (N f : Nat) (w : World) (e : Ending) (w' : World) : Prop :=
  ∃ va vc O base, e = .returned (.tuple #[.slice va O.length vc, .int .i64 E]) ∧ Rb w' base (.slice va O.length vc) O ∧ w.heap.size ≤ base ∧ base ≤ w'.heap.size ∧ O.length ≤ 20 ∧ (ok0 = true → hdOk N f ∧ O = hdL N f) ∧ Below w.heap.size w w'
theorem hdq (n : Int) (f : Nat) : ∃ (E : Int) (ok0 : Bool) (N : Nat), (E == 0) = ok0 ∧ (ok0 = true → n = (N : Int)) ∧ ∀ w, TabC w → Calls Tryd.prog 27 #[.agg #[.int .i64 n, .int .u64 (f : Int)]] w (HdQ E ok0 N f w) := by
  by_cases h : 1 ≤ n ∧ n ≤ 999999 ∧ 1 ≤ f ∧ f ≤ 4611686018427387904
  · obtain ⟨N, rfl⟩ := Int.eq_ofNat_of_zero_le (show 0 ≤ n by omega)
    refine ⟨0, true, N, rfl, fun _ => rfl, fun w hT => ?_⟩
    have hok : hdOk N f := ⟨by omega, by omega, h.2.2.1, h.2.2.2⟩
    refine (headOwn N f w hok.1 hok.2.1 hok.2.2.1 hok.2.2.2 hT).mono ?_
    rintro e w' ⟨v, base, rfl, o, z1, z2, bq⟩
    obtain ⟨va, vc, rfl, _⟩ := rb_sl o
    exact ⟨va, vc, hdL N f, base, rfl, o, z1, z2, Nat.le_of_eq (hdL_len N f), fun _ => ⟨hok, rfl⟩, bq⟩
  · refine ⟨1, false, 0, rfl, (fun h => by cases h), fun w hT => ?_⟩
    refine (headNo n f w (by omega)).mono ?_
    rintro e w' ⟨rfl, bq⟩
    exact ⟨none, 0, [], w'.heap.size, rfl, World.ownsRow_nil _ _ _ _, bq.size, Nat.le_refl _, Nat.zero_le _, (fun h => by cases h), bq⟩
/-- what file answers. -/
def FlP (n : Int) (N f len : Nat) (k : Nat → Int) (s t : Nat → Nat) (b : Nat → List Nat) (w : World) (e : Ending) (w' : World) : Prop :=
  ∃ okb va vc O base, e = .returned (.tuple #[.slice va O.length vc, .bool okb]) ∧ Rb w' base (.slice va O.length vc) O ∧ w.heap.size ≤ base ∧ (okb = true → n = (N : Int) ∧ FileI N f k s t b len O) ∧ Below w.heap.size w w'

set_option maxRecDepth 100000 in
set_option maxHeartbeats 8000000 in
theorem fileC (n : Int) (f : Nat) (a : Option Addr) (len cap : Nat) (w : World) (hT : TabC w) (hl : len ≤ 30) (blk off : Nat) (k : Nat → Int) (s t : Nat → Nat) (ad : Nat → Option Addr) (c : Nat → Nat) (b : Nat → List Nat) (hA : 0 < len → a = some ⟨blk, off, none⟩) (hR : RA w blk off len k s t ad c b) (h300 : ∀ i, i < len → (b i).length ≤ 300)
    (E : Int) (ok0 : Bool) (N : Nat) (hE : (E == 0) = ok0) (hN : ok0 = true → n = (N : Int)) (KH : ∀ w, TabC w → Calls Tryd.prog 27 #[.agg #[.int .i64 n, .int .u64 (f : Int)]] w (HdQ E ok0 N f w)) :
    Calls Tryd.prog 35 #[.agg #[.int .i64 n, .int .u64 (f : Int)], .slice a len cap] w (FlP n N f len k s t b w) := by
  have HT := Lib.hid hT
  have HA := Lib.hid hA
  have HR := Lib.hid hR
  have H300 := Lib.hid h300
  have HN := Lib.hid hN
  have HKH := Lib.hid KH
  have HLEN := Lib.hid hl
  have HB0 := Lib.hid ((Below.refl w.heap.size w).alloc (Nat.le_refl _) (.cells #[.int .i64 n, .int .u64 (f : Int)] 49))
  have HX0 := Lib.hid (heap_alloc_last w (.cells #[.int .i64 n, .int .u64 (f : Int)] 49))
  clear hT hl hA hR h300 hN KH
  go_enter Tryd.func35, Tryd.ntmps35
  go_wp2_with fail
  generalize w.alloc (.cells #[.int .i64 n, .int .u64 (f : Int)] 49) = w0 at *
  obtain ⟨q0, q1⟩ := Sz.two_cells HX0.out
  go_wp2_with (go_at_call 27; (with_reducible refine (HKH.out w0 (tabC_then HB0.out (Nat.le_refl _) HT.out)).mono ?_); rintro e w2 ⟨va, vc, O0, base, rfl, o2, z1, z2, z20, zok, bq⟩; have HB2 := Lib.hid (below_then HB0.out bq HB0.out.size); have HX2 := Lib.hid ((bq.block _ (Array.getElem?_eq_some_iff.1 HX0.out).1).trans HX0.out); have HZ1 := Lib.hid (Nat.le_trans HB0.out.size z1); have HZ2 := Lib.hid z2; have HXL0 := Lib.hid (show w.heap.size < base from Nat.lt_of_lt_of_le (Array.getElem?_eq_some_iff.1 HX0.out).1 z1); have HR2 := Lib.hid o2; have H20 := Lib.hid z20; have HOK0 := Lib.hid zok; clear q0 q1 bq o2 z1 z2 z20 zok)
  go_loopw [6, 8, 9] (fun s6 s8 s9 wr => ∃ (i : Nat) (okb : Bool) (O : List Nat) (va : Option Addr) (vc : Nat), i ≤ len ∧ s6 = .slice va O.length vc ∧ s8 = .bool okb ∧ s9 = .int .i64 (i : Int) ∧ Rb wr base s6 O ∧ Hid (okb = true → n = (N : Int) ∧ FileI N f k s t b i O) ∧ O.length ≤ 20 + 337 * i ∧ base ≤ wr.heap.size ∧ Below w.heap.size w wr ∧ wr.heap[w.heap.size]? = some (.cells #[.int .i64 n, .int .u64 (f : Int)] 49 (0, 0))) (fun _ _ s9 _ => len - (intOf s9).toNat)
  case atStart => exact ⟨0, ok0, O0, va, vc, Nat.zero_le _, rfl, rfl, rfl, HR2.out, Lib.hid (fun h => ⟨HN.out h, by rw [(HOK0.out h).2]; exact file_nil (HOK0.out h).1⟩), by have := H20.out; omega, HZ2.out, HB2.out, HX2.out⟩
  case round =>
    have hl30 := HLEN.out
    obtain ⟨i, okb, O, va', vc', hi, rfl, rfl, rfl, hRow, HJ, hOL, hbase, hB, hX⟩ := hrel
    have HROW := Lib.hid hRow
    have HOL := Lib.hid hOL
    have HBASE := Lib.hid hbase
    have HBr := Lib.hid hB
    have HXr := Lib.hid hX
    have HRr := Lib.hid (HR.out.then_ HBr.out (Nat.le_refl _))
    obtain ⟨q0, q1⟩ := Sz.two_cells hX
    clear hRow hOL hbase hB hX
    by_cases hlt : i < len
    case neg =>
      obtain rfl : i = len := Nat.le_antisymm hi (Nat.not_lt.1 hlt)
      clear hlt hi
      cases okb with
      | false =>
        go_wp2_with fail
        go_ret2
        exact ⟨false, va', vc', O, base, rfl, HROW.out, HZ1.out, (fun h => Bool.noConfusion h), HBr.out⟩
      | true =>
        have HJ2 := Lib.hid (HJ.out rfl)
        have g20 : (20 : Int) ≤ (O.length : Int) := by have := file_len HJ2.out.2; omega
        go_wp2_with fail
        go_ret2
        exact ⟨true, va', vc', O, base, rfl, HROW.out, HZ1.out, (fun _ => HJ2.out), HBr.out⟩
    have ha := HA.out (Nat.lt_of_le_of_lt (Nat.zero_le _) hlt)
    subst ha
    have C0 := Lib.hid (HRr.out.c0 i hlt)
    have C1 := Lib.hid (HRr.out.c1 i hlt)
    have C2 := Lib.hid (HRr.out.c2 i hlt)
    have C3 := Lib.hid (HRr.out.c3 i hlt)
    have CS := Lib.hid (HRr.out.sl i hlt)
    have CN := Lib.hid (HRr.out.nil i hlt)
    have CC := Lib.hid (HRr.out.cap i hlt)
    have CL := Lib.hid (HRr.out.lt i hlt)
    have H3 := Lib.hid (H300.out i hlt)
    obtain ⟨kk, hkk⟩ : ∃ z, z = k i := ⟨_, rfl⟩
    obtain ⟨ss, hss⟩ : ∃ z, z = s i := ⟨_, rfl⟩
    obtain ⟨tt, htt⟩ : ∃ z, z = t i := ⟨_, rfl⟩
    obtain ⟨aa, haa⟩ : ∃ z, z = ad i := ⟨_, rfl⟩
    obtain ⟨cc, hcc⟩ : ∃ z, z = c i := ⟨_, rfl⟩
    obtain ⟨bb, hbb⟩ : ∃ z, z = b i := ⟨_, rfl⟩
    have HKK := Lib.hid hkk
    have HSS := Lib.hid hss
    have HTT := Lib.hid htt
    have HBB := Lib.hid hbb
    rw [← hkk] at C0
    rw [← hss] at C1
    rw [← htt] at C2
    rw [← haa, ← hbb, ← hcc] at C3
    rw [← haa, ← hbb] at CS
    rw [← haa, ← hcc] at CN
    rw [← hbb, ← hcc] at CC
    rw [← hbb] at CL H3
    clear hkk hss htt haa hcc hbb
    obtain ⟨X, hX⟩ : ∃ X, X = encL kk ss tt bb := ⟨_, rfl⟩
    obtain ⟨E2, hE2⟩ : ∃ E2, E2 = encE kk ss tt bb := ⟨_, rfl⟩
    have HX1 := Lib.hid hX
    have HX2 := Lib.hid hE2
    have HXL : Hid (X.length ≤ 337) := Lib.hid (by rw [hX]; exact encX_len _ _ _ _ H3.out)
    clear hX hE2
    have c0 := C0.out
    have c1 := C1.out
    have c2 := C2.out
    have c3 := C3.out
    have HLT := Lib.hid hlt
    cases okb with
    | false =>
      go_wp2_with (go_at_call 11; (with_reducible refine (encG kk ss tt aa cc bb.length bb X E2 wr rfl HX1.out HX2.out CS.out CN.out CC.out CL.out (Nat.le_trans H3.out (by decide)) (tabC_then HBr.out (Nat.le_refl _) HT.out)).mono ?_); rintro e w3 ⟨xa, xc, rfl, xs, xz, _, _, bq⟩; have HB3 := Lib.hid (below_then HBr.out bq HBr.out.size); have HXS := Lib.hid xs; have HXZ := Lib.hid xz; have HROW3 := Lib.hid (rb_then HROW.out bq (Nat.le_refl _)); have HX3 := Lib.hid ((bq.block _ (Array.getElem?_eq_some_iff.1 HXr.out).1).trans HXr.out); have HZ3 := Lib.hid (Nat.le_trans HBASE.out bq.size); clear c0 c1 c2 c3 q0 q1; have c0 := cell_then bq (Nat.le_refl _) C0.out; have c1 := cell_then bq (Nat.le_refl _) C1.out; have c2 := cell_then bq (Nat.le_refl _) C2.out; obtain ⟨q0, q1⟩ := Sz.two_cells HX3.out; clear bq xs xz)
      go_quiet (fail)
      go_wp2_with (at_builtin; (refine app_sl rfl _ _ rfl base _ O rfl HROW3.out xa X.length xc X rfl rfl HXZ.out HXS.out (by have := HXL.out; have := HOL.out; have := HLT.out; have := HLEN.out; omega) HZ3.out ?_; intro v4 w4 o4 b4; obtain ⟨O2, hO2⟩ : ∃ O2, O2 = O ++ X := ⟨_, rfl⟩; rw [← hO2] at o4; have HO2 := Lib.hid hO2; have HROW4 := Lib.hid o4; obtain ⟨na, nc, rfl, _⟩ := rb_sl o4; have HB4 := Lib.hid (b4 _ _ HZ1.out (below_drewN HB3.out _)); have HW4 := Lib.hid (b4 _ _ (Nat.le_refl _) (below_drewN (Below.refl base w3) _)); have HX4 := Lib.hid ((HW4.out.block _ HXL0.out).trans HX3.out); have HZ4 := Lib.hid (Nat.le_trans HZ3.out HW4.out.size); clear o4 b4 hO2 c0 c1 c2 q0 q1))
      go_roundw
      case rel => exact ⟨i + 1, false, O2, na, nc, HLT.out, rfl, rfl, by go_num, HROW4.out, Lib.hid (fun h => Bool.noConfusion h), by rw [HO2.out, List.length_append]; have := HXL.out; have := HOL.out; omega, HZ4.out, HB4.out, HX4.out⟩
      case measure => simp [intOf]; have := HLT.out; omega
    | true =>
      have HJ2 := Lib.hid (HJ.out rfl)
      have HFL := Lib.hid (show f ≤ 4611686018427387904 from HJ2.out.2.1.2.2.2)
      cases hm : mayR kk ss tt bb.length with
      | false =>
        obtain rfl : E2 = 1 := by rw [HX2.out]; unfold encE; rw [hm]; rfl
        clear hm
        go_wp2_with (go_at_call 11; (with_reducible refine (encG kk ss tt aa cc bb.length bb X 1 wr rfl HX1.out HX2.out CS.out CN.out CC.out CL.out (Nat.le_trans H3.out (by decide)) (tabC_then HBr.out (Nat.le_refl _) HT.out)).mono ?_); rintro e w3 ⟨xa, xc, rfl, xs, xz, _, _, bq⟩; have HB3 := Lib.hid (below_then HBr.out bq HBr.out.size); have HXS := Lib.hid xs; have HXZ := Lib.hid xz; have HROW3 := Lib.hid (rb_then HROW.out bq (Nat.le_refl _)); have HX3 := Lib.hid ((bq.block _ (Array.getElem?_eq_some_iff.1 HXr.out).1).trans HXr.out); have HZ3 := Lib.hid (Nat.le_trans HBASE.out bq.size); clear c0 c1 c2 c3 q0 q1; have c0 := cell_then bq (Nat.le_refl _) C0.out; have c1 := cell_then bq (Nat.le_refl _) C1.out; have c2 := cell_then bq (Nat.le_refl _) C2.out; obtain ⟨q0, q1⟩ := Sz.two_cells HX3.out; clear bq xs xz)
        go_quiet (fail)
        go_wp2_with (at_builtin; (refine app_sl rfl _ _ rfl base _ O rfl HROW3.out xa X.length xc X rfl rfl HXZ.out HXS.out (by have := HXL.out; have := HOL.out; have := HLT.out; have := HLEN.out; omega) HZ3.out ?_; intro v4 w4 o4 b4; obtain ⟨O2, hO2⟩ : ∃ O2, O2 = O ++ X := ⟨_, rfl⟩; rw [← hO2] at o4; have HO2 := Lib.hid hO2; have HROW4 := Lib.hid o4; obtain ⟨na, nc, rfl, _⟩ := rb_sl o4; have HB4 := Lib.hid (b4 _ _ HZ1.out (below_drewN HB3.out _)); have HW4 := Lib.hid (b4 _ _ (Nat.le_refl _) (below_drewN (Below.refl base w3) _)); have HX4 := Lib.hid ((HW4.out.block _ HXL0.out).trans HX3.out); have HZ4 := Lib.hid (Nat.le_trans HZ3.out HW4.out.size); clear o4 b4 hO2 c0 c1 c2 q0 q1))
        go_roundw
        case rel => exact ⟨i + 1, false, O2, na, nc, HLT.out, rfl, rfl, by go_num, HROW4.out, Lib.hid (fun h => Bool.noConfusion h), by rw [HO2.out, List.length_append]; have := HXL.out; have := HOL.out; omega, HZ4.out, HB4.out, HX4.out⟩
        case measure => simp [intOf]; have := HLT.out; omega
      | true =>
        obtain rfl : E2 = 0 := by rw [HX2.out]; unfold encE; rw [hm]; rfl
        have HM := Lib.hid hm
        clear hm
        have wS : IntKind.u64.wrap ((f : Int) + (i : Int)) = (f : Int) + (i : Int) := by rw [IntKind.wrap_u64]; have := HFL.out; have := HLEN.out; omega
        have wI : IntKind.u64.wrap (i : Int) = (i : Int) := by rw [IntKind.wrap_u64]; have := HLEN.out; omega
        by_cases hseq : ss = f + i
        case neg =>
          have j0 : ((ss : Int) == (f : Int) + (i : Int)) = false := by rw [beq_eq_false_iff_ne]; omega
          have i0 : decide ((ss : Int) = (f : Int) + (i : Int)) = false := decide_eq_false (by omega)
          clear hseq
          go_wp2_with (go_at_call 11; (with_reducible refine (encG kk ss tt aa cc bb.length bb X 0 wr rfl HX1.out HX2.out CS.out CN.out CC.out CL.out (Nat.le_trans H3.out (by decide)) (tabC_then HBr.out (Nat.le_refl _) HT.out)).mono ?_); rintro e w3 ⟨xa, xc, rfl, xs, xz, _, _, bq⟩; have HB3 := Lib.hid (below_then HBr.out bq HBr.out.size); have HXS := Lib.hid xs; have HXZ := Lib.hid xz; have HROW3 := Lib.hid (rb_then HROW.out bq (Nat.le_refl _)); have HX3 := Lib.hid ((bq.block _ (Array.getElem?_eq_some_iff.1 HXr.out).1).trans HXr.out); have HZ3 := Lib.hid (Nat.le_trans HBASE.out bq.size); clear c0 c1 c2 c3 q0 q1; have c0 := cell_then bq (Nat.le_refl _) C0.out; have c1 := cell_then bq (Nat.le_refl _) C1.out; have c2 := cell_then bq (Nat.le_refl _) C2.out; obtain ⟨q0, q1⟩ := Sz.two_cells HX3.out; clear bq xs xz)
          go_quiet (fail)
          go_wp2_with (at_builtin; (refine app_sl rfl _ _ rfl base _ O rfl HROW3.out xa X.length xc X rfl rfl HXZ.out HXS.out (by have := HXL.out; have := HOL.out; have := HLT.out; have := HLEN.out; omega) HZ3.out ?_; intro v4 w4 o4 b4; obtain ⟨O2, hO2⟩ : ∃ O2, O2 = O ++ X := ⟨_, rfl⟩; rw [← hO2] at o4; have HO2 := Lib.hid hO2; have HROW4 := Lib.hid o4; obtain ⟨na, nc, rfl, _⟩ := rb_sl o4; have HB4 := Lib.hid (b4 _ _ HZ1.out (below_drewN HB3.out _)); have HW4 := Lib.hid (b4 _ _ (Nat.le_refl _) (below_drewN (Below.refl base w3) _)); have HX4 := Lib.hid ((HW4.out.block _ HXL0.out).trans HX3.out); have HZ4 := Lib.hid (Nat.le_trans HZ3.out HW4.out.size); clear o4 b4 hO2 c0 c1 c2 q0 q1))
          go_roundw
          case rel => exact ⟨i + 1, false, O2, na, nc, HLT.out, rfl, rfl, by go_num, HROW4.out, Lib.hid (fun h => Bool.noConfusion h), by rw [HO2.out, List.length_append]; have := HXL.out; have := HOL.out; omega, HZ4.out, HB4.out, HX4.out⟩
          case measure => simp [intOf]; have := HLT.out; omega
        have j0 : ((ss : Int) == (f : Int) + (i : Int)) = true := by rw [beq_iff_eq]; omega
        have i0 : decide ((ss : Int) = (f : Int) + (i : Int)) = true := decide_eq_true (by omega)
        have HSQ := Lib.hid hseq
        clear hseq
        by_cases hi0 : i = 0
        case pos =>
          have z0 : ((i : Int) == 0) = true := by rw [beq_iff_eq]; omega
          have z1 : decide ((i : Int) = 0) = true := decide_eq_true (by omega)
          have z2 : decide ((0 : Int) < (i : Int)) = false := decide_eq_false (by omega)
          have z3 : decide (0 < i) = false := decide_eq_false (by omega)
          have HI0 := Lib.hid hi0
          clear hi0
          by_cases hk : kk = 1
          case pos =>
            have HJN := Lib.hid (show FileI N f k s t b (i + 1) (O ++ encL (k i) (s i) (t i) (b i)) from file_next HJ2.out.2 (by rw [← HKK.out, ← HSS.out, ← HTT.out, ← HBB.out]; exact HM.out) (by rw [← HBB.out]; exact H3.out) (by rw [← HSS.out]; exact HSQ.out) (fun _ => by rw [← HKK.out]; exact hk) (fun h => by have := HI0.out; omega))
            have k0 : (kk == 1) = true := by rw [beq_iff_eq]; exact hk
            have k1 : decide (kk = 1) = true := decide_eq_true hk
            clear hk
            go_wp2_with (go_at_call 11; (with_reducible refine (encG kk ss tt aa cc bb.length bb X 0 wr rfl HX1.out HX2.out CS.out CN.out CC.out CL.out (Nat.le_trans H3.out (by decide)) (tabC_then HBr.out (Nat.le_refl _) HT.out)).mono ?_); rintro e w3 ⟨xa, xc, rfl, xs, xz, _, _, bq⟩; have HB3 := Lib.hid (below_then HBr.out bq HBr.out.size); have HXS := Lib.hid xs; have HXZ := Lib.hid xz; have HROW3 := Lib.hid (rb_then HROW.out bq (Nat.le_refl _)); have HX3 := Lib.hid ((bq.block _ (Array.getElem?_eq_some_iff.1 HXr.out).1).trans HXr.out); have HZ3 := Lib.hid (Nat.le_trans HBASE.out bq.size); clear c0 c1 c2 c3 q0 q1; have c0 := cell_then bq (Nat.le_refl _) C0.out; have c1 := cell_then bq (Nat.le_refl _) C1.out; have c2 := cell_then bq (Nat.le_refl _) C2.out; obtain ⟨q0, q1⟩ := Sz.two_cells HX3.out; clear bq xs xz)
            go_quiet (fail)
            go_wp2_with (at_builtin; (refine app_sl rfl _ _ rfl base _ O rfl HROW3.out xa X.length xc X rfl rfl HXZ.out HXS.out (by have := HXL.out; have := HOL.out; have := HLT.out; have := HLEN.out; omega) HZ3.out ?_; intro v4 w4 o4 b4; obtain ⟨O2, hO2⟩ : ∃ O2, O2 = O ++ X := ⟨_, rfl⟩; rw [← hO2] at o4; have HO2 := Lib.hid hO2; have HROW4 := Lib.hid o4; obtain ⟨na, nc, rfl, _⟩ := rb_sl o4; have HB4 := Lib.hid (b4 _ _ HZ1.out (below_drewN HB3.out _)); have HW4 := Lib.hid (b4 _ _ (Nat.le_refl _) (below_drewN (Below.refl base w3) _)); have HX4 := Lib.hid ((HW4.out.block _ HXL0.out).trans HX3.out); have HZ4 := Lib.hid (Nat.le_trans HZ3.out HW4.out.size); clear o4 b4 hO2 c0 c1 c2 q0 q1))
            go_roundw
            case rel => exact ⟨i + 1, true, O2, na, nc, HLT.out, rfl, rfl, by go_num, HROW4.out, Lib.hid (fun _ => ⟨HJ2.out.1, by rw [HO2.out, HX1.out, HKK.out, HSS.out, HTT.out, HBB.out]; exact HJN.out⟩), by rw [HO2.out, List.length_append]; have := HXL.out; have := HOL.out; omega, HZ4.out, HB4.out, HX4.out⟩
            case measure => simp [intOf]; have := HLT.out; omega
          case neg =>
            have k0 : (kk == 1) = false := by rw [beq_eq_false_iff_ne]; exact hk
            have k1 : decide (kk = 1) = false := decide_eq_false hk
            clear hk
            go_wp2_with (go_at_call 11; (with_reducible refine (encG kk ss tt aa cc bb.length bb X 0 wr rfl HX1.out HX2.out CS.out CN.out CC.out CL.out (Nat.le_trans H3.out (by decide)) (tabC_then HBr.out (Nat.le_refl _) HT.out)).mono ?_); rintro e w3 ⟨xa, xc, rfl, xs, xz, _, _, bq⟩; have HB3 := Lib.hid (below_then HBr.out bq HBr.out.size); have HXS := Lib.hid xs; have HXZ := Lib.hid xz; have HROW3 := Lib.hid (rb_then HROW.out bq (Nat.le_refl _)); have HX3 := Lib.hid ((bq.block _ (Array.getElem?_eq_some_iff.1 HXr.out).1).trans HXr.out); have HZ3 := Lib.hid (Nat.le_trans HBASE.out bq.size); clear c0 c1 c2 c3 q0 q1; have c0 := cell_then bq (Nat.le_refl _) C0.out; have c1 := cell_then bq (Nat.le_refl _) C1.out; have c2 := cell_then bq (Nat.le_refl _) C2.out; obtain ⟨q0, q1⟩ := Sz.two_cells HX3.out; clear bq xs xz)
            go_quiet (fail)
            go_wp2_with (at_builtin; (refine app_sl rfl _ _ rfl base _ O rfl HROW3.out xa X.length xc X rfl rfl HXZ.out HXS.out (by have := HXL.out; have := HOL.out; have := HLT.out; have := HLEN.out; omega) HZ3.out ?_; intro v4 w4 o4 b4; obtain ⟨O2, hO2⟩ : ∃ O2, O2 = O ++ X := ⟨_, rfl⟩; rw [← hO2] at o4; have HO2 := Lib.hid hO2; have HROW4 := Lib.hid o4; obtain ⟨na, nc, rfl, _⟩ := rb_sl o4; have HB4 := Lib.hid (b4 _ _ HZ1.out (below_drewN HB3.out _)); have HW4 := Lib.hid (b4 _ _ (Nat.le_refl _) (below_drewN (Below.refl base w3) _)); have HX4 := Lib.hid ((HW4.out.block _ HXL0.out).trans HX3.out); have HZ4 := Lib.hid (Nat.le_trans HZ3.out HW4.out.size); clear o4 b4 hO2 c0 c1 c2 q0 q1))
            go_roundw
            case rel => exact ⟨i + 1, false, O2, na, nc, HLT.out, rfl, rfl, by go_num, HROW4.out, Lib.hid (fun h => Bool.noConfusion h), by rw [HO2.out, List.length_append]; have := HXL.out; have := HOL.out; omega, HZ4.out, HB4.out, HX4.out⟩
            case measure => simp [intOf]; have := HLT.out; omega
        case neg =>
          have hip : i - 1 < len := by omega
          obtain ⟨pt, hpt⟩ : ∃ z, z = t (i - 1) := ⟨_, rfl⟩
          have P2 := Lib.hid (HRr.out.c2 (i - 1) hip)
          rw [← hpt] at P2
          have HPT := Lib.hid hpt
          have p2 := P2.out
          have z0 : ((i : Int) == 0) = false := by rw [beq_eq_false_iff_ne]; omega
          have z1 : decide ((i : Int) = 0) = false := decide_eq_false (by omega)
          have z2 : decide ((0 : Int) < (i : Int)) = true := decide_eq_true (by omega)
          have z3 : decide (0 < i) = true := decide_eq_true (by omega)
          have x0 : IntKind.i64.wrap ((i : Int) - 1) = ((i - 1 : Nat) : Int) := by rw [IntWalk.i64_in _ (by have := HLEN.out; omega)]; omega
          have hi1 : 0 < i := Nat.pos_of_ne_zero hi0
          have HI0 := Lib.hid hi0
          clear hpt hi0
          by_cases hk : pt ≤ tt
          case pos =>
            have HJN := Lib.hid (show FileI N f k s t b (i + 1) (O ++ encL (k i) (s i) (t i) (b i)) from file_next HJ2.out.2 (by rw [← HKK.out, ← HSS.out, ← HTT.out, ← HBB.out]; exact HM.out) (by rw [← HBB.out]; exact H3.out) (by rw [← HSS.out]; exact HSQ.out) (fun h => absurd h HI0.out) (fun h => by rw [← HPT.out, ← HTT.out]; exact hk))
            have t0 : decide ((pt : Int) ≤ (tt : Int)) = true := decide_eq_true (by omega)
            have t1 : decide (pt ≤ tt) = true := decide_eq_true hk
            clear hk
            go_wp2_with (go_at_call 11; (with_reducible refine (encG kk ss tt aa cc bb.length bb X 0 wr rfl HX1.out HX2.out CS.out CN.out CC.out CL.out (Nat.le_trans H3.out (by decide)) (tabC_then HBr.out (Nat.le_refl _) HT.out)).mono ?_); rintro e w3 ⟨xa, xc, rfl, xs, xz, _, _, bq⟩; have HB3 := Lib.hid (below_then HBr.out bq HBr.out.size); have HXS := Lib.hid xs; have HXZ := Lib.hid xz; have HROW3 := Lib.hid (rb_then HROW.out bq (Nat.le_refl _)); have HX3 := Lib.hid ((bq.block _ (Array.getElem?_eq_some_iff.1 HXr.out).1).trans HXr.out); have HZ3 := Lib.hid (Nat.le_trans HBASE.out bq.size); clear c0 c1 c2 c3 q0 q1; have c0 := cell_then bq (Nat.le_refl _) C0.out; have c1 := cell_then bq (Nat.le_refl _) C1.out; have c2 := cell_then bq (Nat.le_refl _) C2.out; obtain ⟨q0, q1⟩ := Sz.two_cells HX3.out; have p2 := cell_then bq (Nat.le_refl _) P2.out; clear bq xs xz)
            go_quiet (fail)
            go_wp2_with (at_builtin; (refine app_sl rfl _ _ rfl base _ O rfl HROW3.out xa X.length xc X rfl rfl HXZ.out HXS.out (by have := HXL.out; have := HOL.out; have := HLT.out; have := HLEN.out; omega) HZ3.out ?_; intro v4 w4 o4 b4; obtain ⟨O2, hO2⟩ : ∃ O2, O2 = O ++ X := ⟨_, rfl⟩; rw [← hO2] at o4; have HO2 := Lib.hid hO2; have HROW4 := Lib.hid o4; obtain ⟨na, nc, rfl, _⟩ := rb_sl o4; have HB4 := Lib.hid (b4 _ _ HZ1.out (below_drewN HB3.out _)); have HW4 := Lib.hid (b4 _ _ (Nat.le_refl _) (below_drewN (Below.refl base w3) _)); have HX4 := Lib.hid ((HW4.out.block _ HXL0.out).trans HX3.out); have HZ4 := Lib.hid (Nat.le_trans HZ3.out HW4.out.size); clear o4 b4 hO2 c0 c1 c2 q0 q1))
            go_roundw
            case rel => exact ⟨i + 1, true, O2, na, nc, HLT.out, rfl, rfl, by go_num, HROW4.out, Lib.hid (fun _ => ⟨HJ2.out.1, by rw [HO2.out, HX1.out, HKK.out, HSS.out, HTT.out, HBB.out]; exact HJN.out⟩), by rw [HO2.out, List.length_append]; have := HXL.out; have := HOL.out; omega, HZ4.out, HB4.out, HX4.out⟩
            case measure => simp [intOf]; have := HLT.out; omega
          case neg =>
            have t0 : decide ((pt : Int) ≤ (tt : Int)) = false := decide_eq_false (by omega)
            have t1 : decide (pt ≤ tt) = false := decide_eq_false hk
            clear hk
            go_wp2_with (go_at_call 11; (with_reducible refine (encG kk ss tt aa cc bb.length bb X 0 wr rfl HX1.out HX2.out CS.out CN.out CC.out CL.out (Nat.le_trans H3.out (by decide)) (tabC_then HBr.out (Nat.le_refl _) HT.out)).mono ?_); rintro e w3 ⟨xa, xc, rfl, xs, xz, _, _, bq⟩; have HB3 := Lib.hid (below_then HBr.out bq HBr.out.size); have HXS := Lib.hid xs; have HXZ := Lib.hid xz; have HROW3 := Lib.hid (rb_then HROW.out bq (Nat.le_refl _)); have HX3 := Lib.hid ((bq.block _ (Array.getElem?_eq_some_iff.1 HXr.out).1).trans HXr.out); have HZ3 := Lib.hid (Nat.le_trans HBASE.out bq.size); clear c0 c1 c2 c3 q0 q1; have c0 := cell_then bq (Nat.le_refl _) C0.out; have c1 := cell_then bq (Nat.le_refl _) C1.out; have c2 := cell_then bq (Nat.le_refl _) C2.out; obtain ⟨q0, q1⟩ := Sz.two_cells HX3.out; have p2 := cell_then bq (Nat.le_refl _) P2.out; clear bq xs xz)
            go_quiet (fail)
            go_wp2_with (at_builtin; (refine app_sl rfl _ _ rfl base _ O rfl HROW3.out xa X.length xc X rfl rfl HXZ.out HXS.out (by have := HXL.out; have := HOL.out; have := HLT.out; have := HLEN.out; omega) HZ3.out ?_; intro v4 w4 o4 b4; obtain ⟨O2, hO2⟩ : ∃ O2, O2 = O ++ X := ⟨_, rfl⟩; rw [← hO2] at o4; have HO2 := Lib.hid hO2; have HROW4 := Lib.hid o4; obtain ⟨na, nc, rfl, _⟩ := rb_sl o4; have HB4 := Lib.hid (b4 _ _ HZ1.out (below_drewN HB3.out _)); have HW4 := Lib.hid (b4 _ _ (Nat.le_refl _) (below_drewN (Below.refl base w3) _)); have HX4 := Lib.hid ((HW4.out.block _ HXL0.out).trans HX3.out); have HZ4 := Lib.hid (Nat.le_trans HZ3.out HW4.out.size); clear o4 b4 hO2 c0 c1 c2 q0 q1))
            go_roundw
            case rel => exact ⟨i + 1, false, O2, na, nc, HLT.out, rfl, rfl, by go_num, HROW4.out, Lib.hid (fun h => Bool.noConfusion h), by rw [HO2.out, List.length_append]; have := HXL.out; have := HOL.out; omega, HZ4.out, HB4.out, HX4.out⟩
            case measure => simp [intOf]; have := HLT.out; omega

end Go.Proofs.YtabgelmmjpjejaaDoor.Ub
