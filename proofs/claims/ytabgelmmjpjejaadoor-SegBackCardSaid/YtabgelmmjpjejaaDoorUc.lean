/- SegBack: the walk. -/
import Derived.Test.YtabgelmmjpjejaaDoorUb
import Derived.Test.YtabgelmmjpjejaaDoorSf
import Derived.Deep.CutRange
import Derived.Deep.CutBlock
set_option linter.unusedVariables false
namespace Go.Proofs.YtabgelmmjpjejaaDoor.Uc
open Go Go.RowKit Kit Crc Var Get Ref3 Copy Bytes Bx Py Py2 Np Go.Proofs.YtabgelmmjpjejaaDoor.Nm Ry Rz Dn Df Dd Da Dc Rs Rf Rg Ar Bg Hd Ho Sn Rh Sr Sf So Sp Sq Sl2 Sl3 Sx Sv Ss Sy Sz Ua Ub


theorem fileD (n : Int) (f : Nat) (a : Option Addr) (len cap : Nat) (hl : len ≤ 30) (blk off : Nat) (k : Nat → Int) (s t : Nat → Nat) (ad : Nat → Option Addr) (c : Nat → Nat) (b : Nat → List Nat) (hA : 0 < len → a = some ⟨blk, off, none⟩) (h300 : ∀ i, i < len → (b i).length ≤ 300) :
    ∃ N : Nat, ∀ w, TabC w → RA w blk off len k s t ad c b → Calls Tryd.prog 35 #[.agg #[.int .i64 n, .int .u64 (f : Int)], .slice a len cap] w (FlP n N f len k s t b w) := by
  obtain ⟨E, ok0, N, hE, hN, KH⟩ := hdq n f
  exact ⟨N, fun w hT hR => fileC n f a len cap w hT hl blk off k s t ad c b hA hR h300 E ok0 N hE hN KH⟩
/-- what Read answers, told by a list. -/
def RbP (L : List (Dec × Nat)) (m gd N F : Nat) (w : World) (e : Ending) (w' : World) : Prop := ∃ (ps : List PV) (base : Nat) (sa : Option Addr) (sc : Nat), e = .returned (.tuple #[.agg #[.int .i64 (N : Int), .int .u64 (F : Int), .slice sa m sc, .int .i64 (gd : Int)], .int .i64 0]) ∧ ScanI w' base (.slice sa m sc) ps ∧ w.heap.size ≤ base ∧ absP ps = L ∧ Below w.heap.size w w'
theorem readB (a : Option Addr) (n cap : Nat) (l : List Nat) (N F m gd : Nat) (L : List (Dec × Nat)) (w : World) (hn : n = l.length) (hs : Sl w a l) (hcap : l.length ≤ cap) (hl : ∀ c ∈ l, c < 256) (hlen : l.length ≤ 90000) (hT : TabC w) (hY : hdY l) (hN : N = hdN l) (hF : F = hdV l) (hP : rdP l F = (L, gd)) (hm : L.length = m) :
    Calls Tryd.prog 29 #[.slice a n cap] w (RbP L m gd N F w) := by
  refine (readAll a n cap l N F w hn hs hcap hl hlen hT hY hN hF).mono ?_
  rintro e w' ⟨ps, g, base, sa, sc, rfl, h1, h2, h3, h4⟩
  rw [hP] at h3
  obtain ⟨e1, rfl⟩ := Prod.mk.inj h3
  have e2 : ps.length = m := by rw [← hm, ← e1]; simp [absP]
  subst e2
  exact ⟨ps, base, sa, sc, rfl, h1, h2, e1, h4⟩
/-- what a good file is, to its reader. -/
structure GF (N f len : Nat) (O : List Nat) (rs : List R4) : Prop where
  ok : hdOk N f
  len : rs.length = len
  eqO : O = hdL N f ++ rs.flatMap R4.enc
  may : ∀ r ∈ rs, r.may
  all : allF f rs [] 20
  lt : ∀ x ∈ O, x < 256
  ol : O.length = 20 + totL rs
  small : O.length ≤ 90000
theorem good_of {N f len : Nat} {k : Nat → Int} {s t : Nat → Nat} {b : Nat → List Nat} {O : List Nat} (h : FileI N f k s t b len O) (hl : len ≤ 30) (hlt : ∀ i, i < len → ∀ x ∈ b i, x < 256) : ∃ rs, GF N f len O rs ∧ MatR k s t b rs := by
  obtain ⟨h1, rs, hrl, hO, hM, hA, hS⟩ := h
  have hall := mat_all hM
  have hol : O.length = 20 + totL rs := by rw [hO, List.length_append, hdL_len, totL_flat]
  refine ⟨rs, ⟨h1, hrl, hO, fun r hr => (hall r hr).1, hA, ?_, hol, ?_⟩, hM⟩
  · rw [hO]
    intro x hx
    rcases List.mem_append.1 hx with hx | hx
    · exact hdL_lt N f x hx
    · obtain ⟨r, hr, hx⟩ := List.mem_flatMap.1 hx
      obtain ⟨j, hj, rfl⟩ := List.getElem_of_mem hr
      obtain ⟨_, _, _, e4, e5, _⟩ := hM j hj
      exact enc_lt e5 (by rw [← e4]; exact hlt j (by omega)) x hx
  · have := flat_len hall
    rw [totL_flat] at this
    omega
theorem GF.read {N f len : Nat} {O : List Nat} {rs : List R4} (h : GF N f len O rs) : rdP O f = (listP rs 20, O.length) := by
  rw [h.ol, h.eqO, rdP_run f rs (hdL N f) (hdL_len N f) h.may, runL_all f rs [] 20 h.all]; rfl
theorem GF.cut {N f len : Nat} {O : List Nat} {rs : List R4} (h : GF N f len O rs) (k : Nat) (hk : 20 ≤ k) (hk2 : k ≤ O.length) : rdP (O.take k) f = ((listP rs 20).take (cutR rs (k - 20)).length, 20 + totL (cutR rs (k - 20))) := by
  have e := h.eqO
  rw [e] at hk2 ⊢
  exact rdP_cut f rs (hdL N f) (hdL_len N f) h.may h.all k hk hk2
theorem GF.head {N f len : Nat} {O : List Nat} {rs : List R4} (h : GF N f len O rs) (Z : List Nat) (hZ : Z = O) : hdN O = N ∧ hdV O = f ∧ hdY O := by
  rw [h.eqO]; exact hd_good N f _ h.ok
theorem GF.headCut {N f len : Nat} {O : List Nat} {rs : List R4} (h : GF N f len O rs) (k : Nat) (hk : 20 ≤ k) : hdN (O.take k) = N ∧ hdV (O.take k) = f ∧ hdY (O.take k) := by
  have e : O.take k = hdL N f ++ (rs.flatMap R4.enc).take (k - 20) := by
    rw [h.eqO, List.take_append, List.take_of_length_le (by rw [hdL_len]; exact hk), hdL_len]
  rw [e]; exact hd_good N f _ h.ok
theorem no_head {l : List Nat} (h : l.length < 20) : ¬ hdY l := fun hh => by have := hh.1; omega
/-- where the next part begins. -/
theorem listP_next (rs : List R4) : ∀ g j, (h : j + 1 < (listP rs g).length) → (listP rs g)[j + 1].2 = ((listP rs g)[j]'(by omega)).2 + ((listP rs g)[j]'(by omega)).1.n := by
  induction rs with
  | nil => intro g j h; exact absurd h (Nat.not_lt_zero _)
  | cons r rs ih =>
    intro g j h
    cases j with
    | zero =>
      cases rs with
      | nil => exact absurd (Nat.lt_of_succ_lt_succ h) (Nat.not_lt_zero _)
      | cons q rs => rfl
    | succ j => exact ih (g + r.enc.length) j (Nat.lt_of_succ_lt_succ h)
theorem listP_pos (rs : List R4) : ∀ g j, (h : j < (listP rs g).length) → 0 < (listP rs g)[j].1.n := by
  induction rs with
  | nil => intro g j h; exact absurd h (Nat.not_lt_zero _)
  | cons r rs ih =>
    intro g j h
    cases j with
    | zero =>
      show 0 < r.enc.length
      have a := varL_pos r.s
      unfold R4.enc; rw [recL_len]; omega
    | succ j => exact ih (g + r.enc.length) j (Nat.lt_of_succ_lt_succ h)
theorem listP_first {rs : List R4} {L : List (Dec × Nat)} (h : L = listP rs 20) (h0 : 0 < L.length) : 20 = L[0].2 := by
  subst h
  cases rs with
  | nil => exact absurd h0 (Nat.not_lt_zero _)
  | cons r rs => rfl
theorem listP_nextL {rs : List R4} {L : List (Dec × Nat)} (hL : L = listP rs 20) (j : Nat) (h : j + 1 < L.length) : L[j + 1].2 = (L[j]'(by omega)).2 + (L[j]'(by omega)).1.n := by subst hL; exact listP_next rs 20 j h
theorem listP_posL {rs : List R4} {L : List (Dec × Nat)} (hL : L = listP rs 20) (j : Nat) (h : j < L.length) : 0 < L[j].1.n := by subst hL; exact listP_pos rs 20 j h
theorem sub_to {va : Option Addr} {l M : List Nat} {cap : Nat} {w : World} (hs : Sl w va l) (h0 : va = none → cap = 0) (hcap : l.length ≤ cap) (j : Nat) (hj : j ≤ l.length) (hM : M = l.take j) :
    ∃ a' c', (∀ w1, (Instr.sliceAt 23 (.slice va l.length cap) none (some (.int .i64 (j : Int))) none).run Tryd.prog w1 = .ok (.slice a' j c') w1) ∧ Sl w a' M ∧ M.length ≤ c' ∧ M.length = j := by
  have hl : M.length = j := by rw [hM, List.length_take]; omega
  obtain ⟨a', c', e, h1, h2, h3, h4⟩ := sub_val hs h0 hcap 0 j (Nat.zero_le _) hj
  rw [List.drop_zero, Nat.sub_zero, ← hM] at h1
  exact ⟨a', c', fun w1 => by rw [run_sub va l.length cap _ _ 0 j w1 lo_none (hi_some rfl) (Nat.zero_le _) hj hcap, e]; rfl, h1, by rw [hl]; omega, hl⟩
theorem cut_tot (rs : List R4) : ∀ c, totL (cutR rs c) ≤ c := by
  induction rs with
  | nil => intro c; exact Nat.zero_le _
  | cons r rs ih =>
    intro c
    rw [cutR]
    split
    · have := ih (c - r.enc.length)
      show r.enc.length + totL _ ≤ c
      omega
    · exact Nat.zero_le _
theorem rem_nat (C n : Nat) : Int.tmod (C : Int) ((n : Int) + 1) = ((C % (n + 1) : Nat) : Int) := rfl
theorem whichL {rs : List R4} {L : List (Dec × Nat)} (hL : L = listP rs 20) (c i : Nat) (h : i < L.length) : L[i].2 + L[i].1.n ≤ 20 + c ↔ i < (cutR rs c).length := by subst hL; exact cut_which rs c 20 i h
theorem endL {rs : List R4} {L : List (Dec × Nat)} (hL : L = listP rs 20) (c : Nat) : ((cutR rs c).length = 0 ∧ 20 + totL (cutR rs c) = 20) ∨ (∃ h : (cutR rs c).length - 1 < L.length, 0 < (cutR rs c).length ∧ 20 + totL (cutR rs c) = L[(cutR rs c).length - 1].2 + L[(cutR rs c).length - 1].1.n) := by
  subst hL
  rcases cut_end rs c 20 with ⟨h1, h2⟩ | h
  · exact .inl ⟨by rw [h1]; rfl, by rw [h2]⟩
  · exact .inr h
theorem Sm2_elem {α : Type} {l m : List α} (h : l = m) (j : Nat) (hj : j < l.length) : l[j] = m[j]'(h ▸ hj) := by subst h; rfl
theorem part_facts {k : Nat → Int} {s t : Nat → Nat} {b : Nat → List Nat} {rs : List R4} {ps : List PV} {L : List (Dec × Nat)} (hL : L = listP rs 20) (h : absP ps = L) (hm : MatR k s t b rs) (j : Nat) (hj : j < ps.length) (hjL : j < L.length) :
    sameR (ps[j].D.k : Int) ps[j].D.s ps[j].D.t ps[j].D.b (k j) (s j) (t j) (b j) = true ∧ ps[j].D.b = b j ∧ ps[j].at' = L[j].2 ∧ ps[j].D = L[j].1 := by
  have e2 : (absP ps)[j]'(by rw [h]; exact hjL) = (ps[j].D, ps[j].at') := by simp [absP]
  subst h
  have hr : j < rs.length := by rw [← listP_len rs 20, ← hL]; exact hjL
  have e3 := listP_dec rs 20 j hr (by rw [← hL]; exact hjL)
  have e4 : ps[j].D = rs[j].dec := by
    rw [← e3]
    have : (absP ps)[j].1 = ps[j].D := by rw [e2]
    rw [← this]
    congr 1
    exact Sm2_elem hL j hjL
  obtain ⟨h1, h2, h3, h4, _⟩ := hm j hr
  refine ⟨?_, ?_, ?_, ?_⟩
  · rw [e4, h1, h2, h3, h4]; simp [sameR, R4.dec]
  · rw [e4, h4]; rfl
  · rw [e2]
  · rw [e2]

set_option maxRecDepth 100000 in
set_option maxHeartbeats 8000000 in
theorem main (n : Int) (f : Nat) (a : Option Addr) (len cap : Nat) (cut : Int) (w : World) (hT : TabC w) (hP : TabP w) (blk off : Nat) (k : Nat → Int) (s t : Nat → Nat) (ad : Nat → Option Addr) (c : Nat → Nat) (b : Nat → List Nat) (hA : 0 < len → a = some ⟨blk, off, none⟩) (hR : RA w blk off len k s t ad c b) :
    Calls Tryd.prog 7 #[.agg #[.int .i64 n, .int .u64 (f : Int)], .slice a len cap, .int .i64 cut] w (OutP w) := by
  have HT := Lib.hid hT
  have HP := Lib.hid hP
  have HA := Lib.hid hA
  have HR := Lib.hid hR
  clear hT hP hA hR
  by_cases hl : len ≤ 30
  case neg =>
    have d : decide ((30 : Int) < (len : Int)) = true := decide_eq_true (by omega)
    have d2 : (30 : Int) < (len : Int) := by omega
    clear hl
    have HB0 := Lib.hid ((Below.refl w.heap.size w).alloc (Nat.le_refl _) (.cells #[.int .i64 n, .int .u64 (f : Int)] 49))
    have HX0 := Lib.hid (heap_alloc_last w (.cells #[.int .i64 n, .int .u64 (f : Int)] 49))
    go_enter Tryd.func7, Tryd.ntmps7
    go_wp2_with fail
    generalize w.alloc (.cells #[.int .i64 n, .int .u64 (f : Int)] 49) = w0 at *
    obtain ⟨q0, q1⟩ := Sz.two_cells HX0.out
    go_wp2_with (first
      | (go_at_call 24; (with_reducible refine (first16 w0 (tabC_then HB0.out (Nat.le_refl _) HT.out) (tabP_then HB0.out HP.out)).mono ?_); rintro e w1 ⟨rfl, bq⟩; have HB1 := Lib.hid (below_then HB0.out bq HB0.out.size); clear bq)
      | (go_at_call 24; (with_reducible refine (first16 w1 (tabC_then HB1.out (Nat.le_refl _) HT.out) (tabP_then HB1.out HP.out)).mono ?_); rintro e w2 ⟨rfl, bq⟩; have HB2 := Lib.hid (below_then HB1.out bq HB1.out.size); clear bq))
    go_ret
    exact ⟨rfl, HB2.out⟩
  have HLEN := Lib.hid hl
  have d : decide ((30 : Int) < (len : Int)) = false := decide_eq_false (by omega)
  have d2 : ¬ (30 : Int) < (len : Int) := by omega
  clear hl
  by_cases hc : cut < 0
  case pos =>
    have HB0 := Lib.hid ((Below.refl w.heap.size w).alloc (Nat.le_refl _) (.cells #[.int .i64 n, .int .u64 (f : Int)] 49))
    have HX0 := Lib.hid (heap_alloc_last w (.cells #[.int .i64 n, .int .u64 (f : Int)] 49))
    go_enter Tryd.func7, Tryd.ntmps7
    go_wp2_with fail
    generalize w.alloc (.cells #[.int .i64 n, .int .u64 (f : Int)] 49) = w0 at *
    obtain ⟨q0, q1⟩ := Sz.two_cells HX0.out
    go_wp2_with (first
      | (go_at_call 24; (with_reducible refine (first16 w0 (tabC_then HB0.out (Nat.le_refl _) HT.out) (tabP_then HB0.out HP.out)).mono ?_); rintro e w1 ⟨rfl, bq⟩; have HB1 := Lib.hid (below_then HB0.out bq HB0.out.size); clear bq)
      | (go_at_call 24; (with_reducible refine (first16 w1 (tabC_then HB1.out (Nat.le_refl _) HT.out) (tabP_then HB1.out HP.out)).mono ?_); rintro e w2 ⟨rfl, bq⟩; have HB2 := Lib.hid (below_then HB1.out bq HB1.out.size); clear bq))
    go_ret
    exact ⟨rfl, HB2.out⟩
  have HB0 := Lib.hid ((Below.refl w.heap.size w).alloc (Nat.le_refl _) (.cells #[.int .i64 n, .int .u64 (f : Int)] 49))
  have HX0 := Lib.hid (heap_alloc_last w (.cells #[.int .i64 n, .int .u64 (f : Int)] 49))
  go_enter Tryd.func7, Tryd.ntmps7
  go_wp2_with fail
  generalize w.alloc (.cells #[.int .i64 n, .int .u64 (f : Int)] 49) = w0 at *
  obtain ⟨q0, q1⟩ := Sz.two_cells HX0.out
  go_wp2_with (first
    | (go_at_call 24; (with_reducible refine (first16 w0 (tabC_then HB0.out (Nat.le_refl _) HT.out) (tabP_then HB0.out HP.out)).mono ?_); rintro e w1 ⟨rfl, bq⟩; have HB1 := Lib.hid (below_then HB0.out bq HB0.out.size); have HX1 := Lib.hid ((bq.block _ (Array.getElem?_eq_some_iff.1 HX0.out).1).trans HX0.out); clear bq))
  clear q0 q1
  go_loopw [7] (fun s7 wr => ∃ i : Nat, i ≤ len ∧ s7 = .int .i64 (i : Int) ∧ Hid (∀ j, j < i → (b j).length ≤ 300) ∧ w1 = wr) (fun s7 _ => len - (intOf s7).toNat)
  case atStart => exact ⟨0, Nat.zero_le _, rfl, Lib.hid (fun j h => absurd h (Nat.not_lt_zero _)), rfl⟩
  case round =>
    obtain ⟨i, hi, rfl, H3, rfl⟩ := hrel
    have hl30 := HLEN.out
    have HR1 := Lib.hid (HR.out.then_ HB1.out (Nat.le_refl _))
    by_cases hlt : i < len
    case pos =>
      have ha := HA.out (Nat.lt_of_le_of_lt (Nat.zero_le _) hlt)
      subst ha
      have c3 := HR1.out.c3 i hlt
      have HLT := Lib.hid hlt
      obtain ⟨bb, hbb⟩ : ∃ z, z = b i := ⟨_, rfl⟩
      rw [← hbb] at c3
      have HBB := Lib.hid hbb
      clear hbb
      by_cases h3 : bb.length ≤ 300
      case pos =>
        have d3 : decide ((300 : Int) < (bb.length : Int)) = false := decide_eq_false (by omega)
        have d4 : ¬ (300 : Int) < (bb.length : Int) := by omega
        have H33 := Lib.hid h3
        clear h3
        go_wp2_with fail
        go_roundw
        case rel => exact ⟨i + 1, HLT.out, by go_num, Lib.hid (fun j hj => by
          by_cases hji : j < i
          · exact H3.out j hji
          · obtain rfl : j = i := by omega
            rw [← HBB.out]; exact H33.out), by first | rfl | trivial⟩
        case measure => simp [intOf]; have := HLT.out; omega
      case neg =>
        have d3 : decide ((300 : Int) < (bb.length : Int)) = true := decide_eq_true (by omega)
        have d4 : (300 : Int) < (bb.length : Int) := by omega
        go_wp2_with (go_at_call 24; (with_reducible refine (first16 w1 (tabC_then HB1.out (Nat.le_refl _) HT.out) (tabP_then HB1.out HP.out)).mono ?_); rintro e w2 ⟨rfl, bq⟩; have HB2 := Lib.hid (below_then HB1.out bq HB1.out.size); clear bq)
        go_ret
        exact ⟨rfl, HB2.out⟩
    obtain rfl : i = len := Nat.le_antisymm hi (Nat.not_lt.1 hlt)
    obtain ⟨N, hKF⟩ := fileD n f a i cap hl30 blk off k s t ad c b HA.out H3.out
    have KF := Lib.hid hKF
    obtain ⟨q0, q1⟩ := Sz.two_cells HX1.out
    clear hKF hlt hi
    go_upto_region 11 with (go_at_call 35; (with_reducible refine (KF.out w1 (tabC_then HB1.out (Nat.le_refl _) HT.out) HR1.out).mono ?_); rintro e w3 ⟨okb, va, vc, O, base, rfl, o3, z3, hok, bq⟩; have HB3 := Lib.hid (below_then HB1.out bq HB1.out.size); have HROW := Lib.hid o3; have HOK := Lib.hid hok; have HX3 := Lib.hid ((bq.block _ (Array.getElem?_eq_some_iff.1 HX1.out).1).trans HX1.out); have HR3 := Lib.hid (HR.out.then_ HB3.out (Nat.le_refl _)); clear o3 z3 hok bq q0 q1)
    cases okb with
    | false =>
      go_wp2_with (go_at_call 24; (with_reducible refine (first16 w3 (tabC_then HB3.out (Nat.le_refl _) HT.out) (tabP_then HB3.out HP.out)).mono ?_); rintro e w4 ⟨rfl, bq⟩; have HB4 := Lib.hid (below_then HB3.out bq HB3.out.size); clear bq)
      go_ret
      exact ⟨rfl, HB4.out⟩
    | true =>
      obtain ⟨hN, hF⟩ := HOK.out rfl
      subst hN
      obtain ⟨rs, hg, hm⟩ := good_of hF HLEN.out (fun j hj => HR.out.lt j hj)
      have HG := Lib.hid hg
      have HM := Lib.hid hm
      have HNR := Lib.hid (show 1 ≤ N ∧ N ≤ 999999 from ⟨hg.ok.1, hg.ok.2.1⟩)
      obtain ⟨L, hL⟩ : ∃ L, L = listP rs 20 := ⟨_, rfl⟩
      have HL := Lib.hid hL
      have HLL := Lib.hid (show L.length = i by rw [hL, listP_len]; exact hg.len)
      have HRD := Lib.hid (show rdP O f = (L, O.length) by rw [hL]; exact hg.read)
      obtain ⟨y1, y2, y3⟩ := hg.head O rfl
      have HY1 := Lib.hid y1.symm
      have HY2 := Lib.hid y2.symm
      have HY3 := Lib.hid y3
      have HOS := Lib.hid (rb_sl' HROW.out)
      have HOC : Hid (O.length ≤ vc) := Lib.hid (by
        obtain ⟨xa, xc, e, h, _⟩ := rb_sl HROW.out
        injection e with _ _ e3
        rw [e3]; exact h)
      have HOX := Lib.hid hg.lt
      have HOZ : Hid (va = none → vc = 0) := Lib.hid (by
        obtain ⟨xa, xc, e, _, _, h, _⟩ := rb_sl HROW.out
        injection e with e1 _ e3
        rw [e1, e3]; exact h)
      have HON := Lib.hid hg.small
      have hon := HON.out
      clear hF hg hm hL y1 y2 y3 HOK
      obtain ⟨q0, q1⟩ := Sz.two_cells HX3.out
      go_upto_region 14 with (go_at_call 29; (with_reducible refine (readB va O.length vc O N f i O.length L w3 rfl HOS.out HOC.out HOX.out HON.out (tabC_then HB3.out (Nat.le_refl _) HT.out) HY3.out HY1.out HY2.out HRD.out HLL.out).mono ?_); rintro e w4 ⟨ps, bs, sa, sc, rfl, hI, hbs, hP, bq⟩; have HB4 := Lib.hid (below_then HB3.out bq HB3.out.size); have HI4 := Lib.hid hI; have HPS := Lib.hid hP; have HRW4 := Lib.hid (rb_then HROW.out bq (Nat.le_refl _)); have HX4 := Lib.hid ((bq.block _ (Array.getElem?_eq_some_iff.1 HX3.out).1).trans HX3.out); clear hI hbs hP bq q0 q1)
      have hba := (Below.refl w4.heap.size w4).alloc (Nat.le_refl _) (.cells #[.int .i64 (N : Int), .int .u64 (f : Int), .slice sa i sc, .int .i64 (O.length : Int)] 56)
      have HRD5 := Lib.hid (heap_alloc_last w4 (.cells #[.int .i64 (N : Int), .int .u64 (f : Int), .slice sa i sc, .int .i64 (O.length : Int)] 56))
      have HB5 := Lib.hid (below_then HB4.out hba HB4.out.size)
      have HI5 := Lib.hid (scan_then HI4.out hba (Nat.le_refl _))
      have HX5 := Lib.hid ((hba.block _ (Array.getElem?_eq_some_iff.1 HX4.out).1).trans HX4.out)
      have HRW5 := Lib.hid (rb_then HRW4.out hba (Nat.le_refl _))
      clear hba
      generalize w4.alloc (.cells #[.int .i64 (N : Int), .int .u64 (f : Int), .slice sa i sc, .int .i64 (O.length : Int)] 56) = w5 at *
      generalize w4.heap.size = g10 at *
      obtain ⟨q0, q1⟩ := Sz.two_cells HX5.out
      go_wp2_with (first
        | (go_at_call 31; (with_reducible refine (nameIn N w5 HNR.out.1 HNR.out.2 (tabP_then HB5.out HP.out)).mono ?_); rintro e w6 ⟨rfl, bq⟩; have HB6 := Lib.hid (below_then HB5.out bq HB5.out.size); have HI6 := Lib.hid (scan_then HI5.out bq (Nat.le_refl _)); have HX6 := Lib.hid ((bq.block _ (Array.getElem?_eq_some_iff.1 HX5.out).1).trans HX5.out); have HRD6 := Lib.hid ((bq.block _ (Array.getElem?_eq_some_iff.1 HRD5.out).1).trans HRD5.out); have HRW6 := Lib.hid (rb_then HRW5.out bq (Nat.le_refl _)); clear bq q0 q1)
        | (go_at_call 25; (with_reducible refine (numYes N w6 HNR.out.1 HNR.out.2 (tabP_then HB6.out HP.out)).mono ?_); rintro e w7 ⟨rfl, bq⟩; have HB7 := Lib.hid (below_then HB6.out bq HB6.out.size); have HI7 := Lib.hid (scan_then HI6.out bq (Nat.le_refl _)); have HX7 := Lib.hid ((bq.block _ (Array.getElem?_eq_some_iff.1 HX6.out).1).trans HX6.out); have HRD7 := Lib.hid ((bq.block _ (Array.getElem?_eq_some_iff.1 HRD6.out).1).trans HRD6.out); have HRW7 := Lib.hid (rb_then HRW6.out bq (Nat.le_refl _)); obtain ⟨q0, q1⟩ := Sz.two_cells HX7.out; obtain ⟨p0, p1, p2, p3, _, _, _, _⟩ := Sr.four_cells HRD7.out; clear bq))
      clear q0 q1 p0 p1 p2 p3
      obtain ⟨wo, hwo⟩ : ∃ wo : World, wo = w7 := ⟨_, rfl⟩
      go_loopw [14, 15] (fun s14 s15 wv => ∃ j at2 : Nat, j ≤ i ∧ s15 = .int .i64 (j : Int) ∧ s14 = .int .i64 (at2 : Int) ∧ Hid (∀ h : j < L.length, at2 = L[j].2) ∧ ScanI wv bs (.slice sa i sc) ps ∧ wv.heap[g10]? = some (.cells #[.int .i64 (N : Int), .int .u64 (f : Int), .slice sa i sc, .int .i64 (O.length : Int)] 56 (0, 0)) ∧ Rb wv base (.slice va O.length vc) O ∧ Below w.heap.size w wv) (fun _ s15 _ => i - (intOf s15).toNat)
      case atStart => exact ⟨0, 20, Nat.zero_le _, rfl, rfl, Lib.hid (fun h => listP_first HL.out h), HI7.out, HRD7.out, HRW7.out, HB7.out⟩
      case round =>
        obtain ⟨j, at2, hj, rfl, rfl, HAT, hI, hR8, hW8, hB8⟩ := hrel
        have HI8 := Lib.hid hI
        have HRD8 := Lib.hid hR8
        have HRW8 := Lib.hid hW8
        have HB8 := Lib.hid hB8
        clear hI hR8 hW8 hB8
        by_cases hlt : j < i
        case pos =>
          have HLT := Lib.hid hlt
          have hpl : ps.length = i := by rw [← HLL.out, ← HPS.out]; simp [absP]
          have hjp : j < ps.length := by rw [hpl]; exact hlt
          have hjL : j < L.length := by rw [HLL.out]; exact hlt
          have hI9 : ScanI wr bs (.slice sa ps.length sc) ps := by rw [hpl]; exact HI8.out
          obtain ⟨g5, hg5⟩ : ∃ g5, sa = some ⟨g5, 0, none⟩ := by
            obtain ⟨a5, c5, e5, h5⟩ := scan_slice hI9
            injection e5 with e5
            rw [e5]
            exact h5 (by intro e; rw [e] at hjp; simp at hjp)
          subst hg5
          have hpm : ps[j] ∈ ps := List.getElem_mem hjp
          obtain ⟨hsame, hdb, hat, hdd⟩ := part_facts HL.out HPS.out HM.out j hjp hjL
          have HD0 : Hid (∀ i, i < 6 → wr.cell? ⟨g5, j * 6 + i, none⟩ = (pcells ps[j])[i]?) := Lib.hid (scan_cells hI9 j hjp)
          have HDB := Lib.hid (HI8.out.2 _ hpm)
          have ha := HA.out (Nat.lt_of_le_of_lt (Nat.zero_le _) hlt)
          subst ha
          have HRj := Lib.hid (HR.out.then_ HB8.out (Nat.le_refl _))
          have hat2 : at2 = ps[j].at' := by rw [hat]; exact HAT.out hjL
          obtain ⟨EN, hEN⟩ : ∃ z, z = ps[j].at' + ps[j].D.n := ⟨_, rfl⟩
          have hpos : 0 < ps[j].D.n := by rw [hdd]; exact listP_posL HL.out j hjL
          have HNEXT := Lib.hid (show ∀ h : j + 1 < L.length, EN = L[j + 1].2 from fun h => by rw [hEN, hat, hdd]; exact (listP_nextL HL.out j h).symm)
          obtain ⟨DK, hDK⟩ : ∃ z, z = ps[j].D.k := ⟨_, rfl⟩
          obtain ⟨DS, hDS⟩ : ∃ z, z = ps[j].D.s := ⟨_, rfl⟩
          obtain ⟨DT, hDT⟩ : ∃ z, z = ps[j].D.t := ⟨_, rfl⟩
          obtain ⟨DB, hDB⟩ : ∃ z, z = ps[j].D.b := ⟨_, rfl⟩
          obtain ⟨da, hda⟩ : ∃ z, z = ps[j].a := ⟨_, rfl⟩
          obtain ⟨dc, hdc⟩ : ∃ z, z = ps[j].c := ⟨_, rfl⟩
          obtain ⟨kk, hkk⟩ : ∃ z, z = k j := ⟨_, rfl⟩
          obtain ⟨ss, hss⟩ : ∃ z, z = s j := ⟨_, rfl⟩
          obtain ⟨tt, htt⟩ : ∃ z, z = t j := ⟨_, rfl⟩
          obtain ⟨aa, haa⟩ : ∃ z, z = ad j := ⟨_, rfl⟩
          obtain ⟨cc, hcc⟩ : ∃ z, z = c j := ⟨_, rfl⟩
          obtain ⟨bb, hbb⟩ : ∃ z, z = b j := ⟨_, rfl⟩
          have HDS : Hid (Sl wr da DB) := Lib.hid (by
            rw [hda, hDB]
            rcases HDB.out with h | ⟨xb, xo, e1, e2, _⟩
            · exact .inl h
            · exact .inr ⟨xb, xo, e1, e2⟩)
          have CS : Hid (Sl wr aa bb) := Lib.hid (by rw [haa, hbb]; exact HRj.out.sl j hlt)
          have CL : Hid (∀ x ∈ bb, x < 256) := Lib.hid (by rw [hbb]; exact HRj.out.lt j hlt)
          have HDL : Hid (∀ x ∈ DB, x < 256) := Lib.hid (by rw [hDB, hdb, ← hbb]; exact CL.out)
          have HSAME := Lib.hid (show true = sameR (DK : Int) DS DT DB kk ss tt bb from by rw [hDK, hDS, hDT, hDB, hkk, hss, htt, hbb]; exact hsame.symm)
          have KS := Lib.hid (show ∀ W, Below wr.heap.size wr W → W.cell? ⟨g10, 2, none⟩ = some (.slice (some ⟨g5, 0, none⟩) i sc) ∧ W.cell? ⟨g5, j * 6, none⟩ = some (.int .i64 (DK : Int)) ∧ W.cell? ⟨g5, j * 6 + 1, none⟩ = some (.int .u64 (DS : Int)) ∧ W.cell? ⟨g5, j * 6 + 2, none⟩ = some (.int .u64 (DT : Int)) ∧ W.cell? ⟨g5, j * 6 + 3, none⟩ = some (.slice da DB.length dc) ∧ W.cell? ⟨g5, j * 6 + 4, none⟩ = some (.int .i64 (at2 : Int)) ∧ W.cell? ⟨g5, j * 6 + 5, none⟩ = some (.int .i64 (EN : Int)) ∧ W.cell? ⟨blk, off + j * 4, none⟩ = some (.int .i64 kk) ∧ W.cell? ⟨blk, off + j * 4 + 1, none⟩ = some (.int .u64 (ss : Int)) ∧ W.cell? ⟨blk, off + j * 4 + 2, none⟩ = some (.int .u64 (tt : Int)) ∧ W.cell? ⟨blk, off + j * 4 + 3, none⟩ = some (.slice aa bb.length cc) ∧ Below wr.heap.size wr W from fun W h => by
            refine ⟨cell_then h (Nat.le_refl _) (Sr.four_cells HRD8.out).2.2.1, cell_then h (Nat.le_refl _) ?_, cell_then h (Nat.le_refl _) ?_, cell_then h (Nat.le_refl _) ?_, cell_then h (Nat.le_refl _) ?_, cell_then h (Nat.le_refl _) ?_, cell_then h (Nat.le_refl _) ?_, cell_then h (Nat.le_refl _) ?_, cell_then h (Nat.le_refl _) ?_, cell_then h (Nat.le_refl _) ?_, cell_then h (Nat.le_refl _) ?_, h⟩
            · rw [hDK]; exact HD0.out 0 (by decide)
            · rw [hDS]; exact HD0.out 1 (by decide)
            · rw [hDT]; exact HD0.out 2 (by decide)
            · rw [hda, hDB, hdc]; exact HD0.out 3 (by decide)
            · rw [hat2]; exact HD0.out 4 (by decide)
            · rw [hEN]; exact HD0.out 5 (by decide)
            · rw [hkk]; exact HRj.out.c0 j hlt
            · rw [hss]; exact HRj.out.c1 j hlt
            · rw [htt]; exact HRj.out.c2 j hlt
            · rw [haa, hbb, hcc]; exact HRj.out.c3 j hlt)
          have KB := Lib.hid (show ∀ W, (W.cell? ⟨g10, 2, none⟩ = some (.slice (some ⟨g5, 0, none⟩) i sc) ∧ W.cell? ⟨g5, j * 6, none⟩ = some (.int .i64 (DK : Int)) ∧ W.cell? ⟨g5, j * 6 + 1, none⟩ = some (.int .u64 (DS : Int)) ∧ W.cell? ⟨g5, j * 6 + 2, none⟩ = some (.int .u64 (DT : Int)) ∧ W.cell? ⟨g5, j * 6 + 3, none⟩ = some (.slice da DB.length dc) ∧ W.cell? ⟨g5, j * 6 + 4, none⟩ = some (.int .i64 (at2 : Int)) ∧ W.cell? ⟨g5, j * 6 + 5, none⟩ = some (.int .i64 (EN : Int)) ∧ W.cell? ⟨blk, off + j * 4, none⟩ = some (.int .i64 kk) ∧ W.cell? ⟨blk, off + j * 4 + 1, none⟩ = some (.int .u64 (ss : Int)) ∧ W.cell? ⟨blk, off + j * 4 + 2, none⟩ = some (.int .u64 (tt : Int)) ∧ W.cell? ⟨blk, off + j * 4 + 3, none⟩ = some (.slice aa bb.length cc) ∧ Below wr.heap.size wr W) → Below wr.heap.size wr W from fun W h => h.2.2.2.2.2.2.2.2.2.2.2)
          have dE : decide ((EN : Int) ≤ (at2 : Int)) = false := decide_eq_false (by omega)
          have dN : decide (EN ≤ at2) = false := decide_eq_false (by omega)
          have dM : ¬ (EN : Int) ≤ (at2 : Int) := by omega
          clear HD0 HDB hDK hDS hDT hDB hda hdc hkk hss htt haa hcc hbb hat2 hEN hpos hat hdd hdb hsame hpm hjp hjL hpl hI9 hj
          go_wp2_with fail
          refine wp_region_held_drew (S := (fun W => W.cell? ⟨g10, 2, none⟩ = some (.slice (some ⟨g5, 0, none⟩) i sc) ∧ W.cell? ⟨g5, j * 6, none⟩ = some (.int .i64 (DK : Int)) ∧ W.cell? ⟨g5, j * 6 + 1, none⟩ = some (.int .u64 (DS : Int)) ∧ W.cell? ⟨g5, j * 6 + 2, none⟩ = some (.int .u64 (DT : Int)) ∧ W.cell? ⟨g5, j * 6 + 3, none⟩ = some (.slice da DB.length dc) ∧ W.cell? ⟨g5, j * 6 + 4, none⟩ = some (.int .i64 (at2 : Int)) ∧ W.cell? ⟨g5, j * 6 + 5, none⟩ = some (.int .i64 (EN : Int)) ∧ W.cell? ⟨blk, off + j * 4, none⟩ = some (.int .i64 kk) ∧ W.cell? ⟨blk, off + j * 4 + 1, none⟩ = some (.int .u64 (ss : Int)) ∧ W.cell? ⟨blk, off + j * 4 + 2, none⟩ = some (.int .u64 (tt : Int)) ∧ W.cell? ⟨blk, off + j * 4 + 3, none⟩ = some (.slice aa bb.length cc) ∧ Below wr.heap.size wr W)) (by kernel_rfl) ?_ (fun hHeld => ?_)
          · ((try dsimp only); ((try dsimp only); (first | (with_reducible exact KS.out _ hN) | (with_reducible exact hHeld) | exact KS.out _ (Below.refl _ _).drew | exact KS.out _ (Below.refl _ _))))
          refine wpAnyH_take (i := 0) (oi := { dst := some 114, op := Op.fieldAddr 56 (Operand.tmp 10) 1, type := 0, pos := _, after := #[], guard := none }) (v := ?_) rfl (by kernel_rfl) (by kernel_rfl) (by kernel_rfl) (fun _ _ _ h => h) (Or.inl ⟨by rfl, ?_⟩) (by assumption) ?_
          rotate_left
          · ((intro w hSw); (try dsimp only at hSw); go_simp; (try with_reducible rfl))
          try simp only [Act.put, List.setIfInBounds_toArray, List.set_cons_zero, List.set_cons_succ]
          refine wpAnyH_take (i := 1) (oi := { dst := some 115, op := Op.load 54 (Operand.tmp 114), type := 54, pos := _, after := #[{ on := 0, ground := Ground.data }], guard := none }) (v := ?_) rfl (by kernel_rfl) (by kernel_rfl) (by kernel_rfl) (fun _ _ _ h => h) (Or.inl ⟨by rfl, ?_⟩) (by assumption) ?_
          rotate_left
          · ((intro w hSw); (try dsimp only at hSw); go_simp; (try with_reducible rfl))
          try simp only [Act.put, List.setIfInBounds_toArray, List.set_cons_zero, List.set_cons_succ]
          refine wpAnyH_take (i := 2) (oi := { dst := some 116, op := Op.move (Operand.tmp 15), type := 3, pos := _, after := #[], guard := none }) (v := ?_) rfl (by kernel_rfl) (by kernel_rfl) (by kernel_rfl) (fun _ _ _ h => h) (Or.inl ⟨by rfl, ?_⟩) (by assumption) ?_
          rotate_left
          · ((intro w hSw); (try dsimp only at hSw); go_simp; (try with_reducible rfl))
          try simp only [Act.put, List.setIfInBounds_toArray, List.set_cons_zero, List.set_cons_succ]
          refine wpAnyH_take (i := 3) (oi := { dst := some 117, op := Op.indexAddr 54 (Operand.tmp 115) (Operand.tmp 116), type := 0, pos := _, after := #[{ on := 1, ground := Ground.data }, { on := 2, ground := Ground.data }], guard := none }) (v := ?_) rfl (by kernel_rfl) (by kernel_rfl) (by kernel_rfl) (fun _ _ _ h => h) (Or.inl ⟨by rfl, ?_⟩) (by assumption) ?_
          rotate_left
          · ((intro w hSw); (try dsimp only at hSw); go_simp; (try with_reducible rfl))
          try simp only [Act.put, List.setIfInBounds_toArray, List.set_cons_zero, List.set_cons_succ]
          refine wpAnyH_take (i := 4) (oi := { dst := some 118, op := Op.fieldAddr 72 (Operand.tmp 117) 0, type := 0, pos := _, after := #[{ on := 3, ground := Ground.data }], guard := none }) (v := ?_) rfl (by kernel_rfl) (by kernel_rfl) (by kernel_rfl) (fun _ _ _ h => h) (Or.inl ⟨by rfl, ?_⟩) (by assumption) ?_
          rotate_left
          · ((intro w hSw); (try dsimp only at hSw); go_simp; (try with_reducible rfl))
          try simp only [Act.put, List.setIfInBounds_toArray, List.set_cons_zero, List.set_cons_succ]
          refine wpAnyH_take (i := 5) (oi := { dst := some 119, op := Op.load 25 (Operand.tmp 118), type := 25, pos := _, after := #[{ on := 4, ground := Ground.data }], guard := none }) (v := ?_) rfl (by kernel_rfl) (by kernel_rfl) (by kernel_rfl) (fun _ _ _ h => h) (Or.inl ⟨by rfl, ?_⟩) (by assumption) ?_
          rotate_left
          · ((intro w hSw); (try dsimp only at hSw); go_simp; (try with_reducible rfl))
          try simp only [Act.put, List.setIfInBounds_toArray, List.set_cons_zero, List.set_cons_succ]
          refine wpAnyH_take (i := 6) (oi := { dst := some 120, op := Op.move (Operand.tmp 1), type := 68, pos := _, after := #[], guard := none }) (v := ?_) rfl (by kernel_rfl) (by kernel_rfl) (by kernel_rfl) (fun _ _ _ h => h) (Or.inl ⟨by rfl, ?_⟩) (by assumption) ?_
          rotate_left
          · ((intro w hSw); (try dsimp only at hSw); go_simp; (try with_reducible rfl))
          try simp only [Act.put, List.setIfInBounds_toArray, List.set_cons_zero, List.set_cons_succ]
          refine wpAnyH_take (i := 7) (oi := { dst := some 121, op := Op.move (Operand.tmp 15), type := 3, pos := _, after := #[], guard := none }) (v := ?_) rfl (by kernel_rfl) (by kernel_rfl) (by kernel_rfl) (fun _ _ _ h => h) (Or.inl ⟨by rfl, ?_⟩) (by assumption) ?_
          rotate_left
          · ((intro w hSw); (try dsimp only at hSw); go_simp; (try with_reducible rfl))
          try simp only [Act.put, List.setIfInBounds_toArray, List.set_cons_zero, List.set_cons_succ]
          refine wpAnyH_take (i := 8) (oi := { dst := some 122, op := Op.indexAddr 68 (Operand.tmp 120) (Operand.tmp 121), type := 0, pos := _, after := #[{ on := 6, ground := Ground.data }, { on := 7, ground := Ground.data }], guard := none }) (v := ?_) rfl (by kernel_rfl) (by kernel_rfl) (by kernel_rfl) (fun _ _ _ h => h) (Or.inl ⟨by rfl, ?_⟩) (by assumption) ?_
          rotate_left
          · ((intro w hSw); (try dsimp only at hSw); go_simp; (try with_reducible rfl))
          try simp only [Act.put, List.setIfInBounds_toArray, List.set_cons_zero, List.set_cons_succ]
          refine wpAnyH_take (i := 9) (oi := { dst := some 123, op := Op.load 25 (Operand.tmp 122), type := 25, pos := _, after := #[{ on := 8, ground := Ground.data }], guard := none }) (v := ?_) rfl (by kernel_rfl) (by kernel_rfl) (by kernel_rfl) (fun _ _ _ h => h) (Or.inl ⟨by rfl, ?_⟩) (by assumption) ?_
          rotate_left
          · ((intro w hSw); (try dsimp only at hSw); go_simp; (try with_reducible rfl))
          try simp only [Act.put, List.setIfInBounds_toArray, List.set_cons_zero, List.set_cons_succ]
          refine wpAnyH_ready (rs := [10]) (by kernel_rfl) (by simp) ?_
          refine (AllReadyH.cons (o := { dst := some 124, op := Op.call { callee := Callee.value (Operand.func 20), args := #[Operand.tmp 119, Operand.tmp 123], argTypes := #[25, 25] }, type := 4, pos := _, after := #[{ on := 5, ground := Ground.data }, { on := 9, ground := Ground.data }], guard := none }) rfl (fun K hK => ?_) AllReadyH.nil)
          go_simp
          (go_at_call 20; (with_reducible refine (sameK (DK : Int) DS DT da DB.length dc DB kk ss tt aa bb.length cc bb _ rfl rfl (sl_then (KB.out _ hHeld) (Nat.le_refl _) HDS.out) (sl_then (KB.out _ hHeld) (Nat.le_refl _) CS.out) HDL.out CL.out true HSAME.out).mono ?_); rintro e wa ⟨rfl, ba⟩; have hN := below_then (KB.out _ hHeld) ba (KB.out _ hHeld).size; clear ba)
          go_wp2_with fail
          refine hK.out _ _ ?_ (fun hHeld => ?_)
          · ((try dsimp only); ((try dsimp only); (first | (with_reducible exact KS.out _ hN) | (with_reducible exact hHeld) | exact KS.out _ (Below.refl _ _).drew | exact KS.out _ (Below.refl _ _))))
          clear hK K
          try simp only [Act.put, List.setIfInBounds_toArray, List.set_cons_zero, List.set_cons_succ]
          refine wpAnyH_take (i := 11) (oi := { dst := some 125, op := Op.unOp UnOp.not 4 (Operand.tmp 124), type := 4, pos := _, after := #[{ on := 10, ground := Ground.data }], guard := none }) (v := ?_) rfl (by kernel_rfl) (by kernel_rfl) (by kernel_rfl) (fun _ _ _ h => h) (Or.inl ⟨by rfl, ?_⟩) (by assumption) ?_
          rotate_left
          · ((intro w hSw); (try dsimp only at hSw); go_simp; (try with_reducible rfl))
          try simp only [Act.put, List.setIfInBounds_toArray, List.set_cons_zero, List.set_cons_succ]
          refine wpAnyH_take (i := 12) (oi := { dst := some 126, op := Op.move (Operand.tmp 125), type := 4, pos := _, after := #[{ on := 11, ground := Ground.data }, { on := 10, ground := Ground.chain }], guard := none }) (v := ?_) rfl (by kernel_rfl) (by kernel_rfl) (by kernel_rfl) (fun _ _ _ h => h) (Or.inl ⟨by rfl, ?_⟩) (by assumption) ?_
          rotate_left
          · ((intro w hSw); (try dsimp only at hSw); go_simp; (try with_reducible rfl))
          try simp only [Act.put, List.setIfInBounds_toArray, List.set_cons_zero, List.set_cons_succ]
          refine wpAnyH_take (i := 13) (oi := { dst := some 127, op := Op.fieldAddr 56 (Operand.tmp 10) 1, type := 0, pos := _, after := #[{ on := 12, ground := Ground.guard }], guard := some (12, false) }) (v := ?_) rfl (by kernel_rfl) (by kernel_rfl) (by kernel_rfl) (fun _ _ _ h => h) (Or.inl ⟨by rfl, ?_⟩) (by assumption) ?_
          rotate_left
          · ((intro w hSw); (try dsimp only at hSw); go_simp; (try with_reducible rfl))
          try simp only [Act.put, List.setIfInBounds_toArray, List.set_cons_zero, List.set_cons_succ]
          refine wpAnyH_take (i := 14) (oi := { dst := some 128, op := Op.load 54 (Operand.tmp 127), type := 54, pos := _, after := #[{ on := 13, ground := Ground.data }, { on := 12, ground := Ground.guard }], guard := some (12, false) }) (v := ?_) rfl (by kernel_rfl) (by kernel_rfl) (by kernel_rfl) (fun _ _ _ h => h) (Or.inl ⟨by rfl, ?_⟩) (by assumption) ?_
          rotate_left
          · ((intro w hSw); (try dsimp only at hSw); go_simp; (try with_reducible rfl))
          try simp only [Act.put, List.setIfInBounds_toArray, List.set_cons_zero, List.set_cons_succ]
          refine wpAnyH_take (i := 15) (oi := { dst := some 129, op := Op.move (Operand.tmp 15), type := 3, pos := _, after := #[{ on := 12, ground := Ground.guard }], guard := some (12, false) }) (v := ?_) rfl (by kernel_rfl) (by kernel_rfl) (by kernel_rfl) (fun _ _ _ h => h) (Or.inl ⟨by rfl, ?_⟩) (by assumption) ?_
          rotate_left
          · ((intro w hSw); (try dsimp only at hSw); go_simp; (try with_reducible rfl))
          try simp only [Act.put, List.setIfInBounds_toArray, List.set_cons_zero, List.set_cons_succ]
          refine wpAnyH_take (i := 16) (oi := { dst := some 130, op := Op.indexAddr 54 (Operand.tmp 128) (Operand.tmp 129), type := 0, pos := _, after := #[{ on := 14, ground := Ground.data }, { on := 15, ground := Ground.data }, { on := 12, ground := Ground.guard }], guard := some (12, false) }) (v := ?_) rfl (by kernel_rfl) (by kernel_rfl) (by kernel_rfl) (fun _ _ _ h => h) (Or.inl ⟨by rfl, ?_⟩) (by assumption) ?_
          rotate_left
          · ((intro w hSw); (try dsimp only at hSw); go_simp; (try with_reducible rfl))
          try simp only [Act.put, List.setIfInBounds_toArray, List.set_cons_zero, List.set_cons_succ]
          refine wpAnyH_take (i := 17) (oi := { dst := some 131, op := Op.fieldAddr 72 (Operand.tmp 130) 1, type := 0, pos := _, after := #[{ on := 16, ground := Ground.data }, { on := 12, ground := Ground.guard }], guard := some (12, false) }) (v := ?_) rfl (by kernel_rfl) (by kernel_rfl) (by kernel_rfl) (fun _ _ _ h => h) (Or.inl ⟨by rfl, ?_⟩) (by assumption) ?_
          rotate_left
          · ((intro w hSw); (try dsimp only at hSw); go_simp; (try with_reducible rfl))
          try simp only [Act.put, List.setIfInBounds_toArray, List.set_cons_zero, List.set_cons_succ]
          refine wpAnyH_take (i := 18) (oi := { dst := some 132, op := Op.load 3 (Operand.tmp 131), type := 3, pos := _, after := #[{ on := 17, ground := Ground.data }, { on := 12, ground := Ground.guard }], guard := some (12, false) }) (v := ?_) rfl (by kernel_rfl) (by kernel_rfl) (by kernel_rfl) (fun _ _ _ h => h) (Or.inl ⟨by rfl, ?_⟩) (by assumption) ?_
          rotate_left
          · ((intro w hSw); (try dsimp only at hSw); go_simp; (try with_reducible rfl))
          try simp only [Act.put, List.setIfInBounds_toArray, List.set_cons_zero, List.set_cons_succ]
          refine wpAnyH_take (i := 19) (oi := { dst := some 133, op := Op.move (Operand.tmp 14), type := 3, pos := _, after := #[{ on := 12, ground := Ground.guard }], guard := some (12, false) }) (v := ?_) rfl (by kernel_rfl) (by kernel_rfl) (by kernel_rfl) (fun _ _ _ h => h) (Or.inl ⟨by rfl, ?_⟩) (by assumption) ?_
          rotate_left
          · ((intro w hSw); (try dsimp only at hSw); go_simp; (try with_reducible rfl))
          try simp only [Act.put, List.setIfInBounds_toArray, List.set_cons_zero, List.set_cons_succ]
          refine wpAnyH_take (i := 20) (oi := { dst := some 134, op := Op.binOp BinOp.neq 3 (Operand.tmp 132) (Operand.tmp 133) 3, type := 4, pos := _, after := #[{ on := 18, ground := Ground.data }, { on := 19, ground := Ground.data }, { on := 12, ground := Ground.guard }], guard := some (12, false) }) (v := ?_) rfl (by kernel_rfl) (by kernel_rfl) (by kernel_rfl) (fun _ _ _ h => h) (Or.inl ⟨by rfl, ?_⟩) (by assumption) ?_
          rotate_left
          · ((intro w hSw); (try dsimp only at hSw); go_simp; (try with_reducible rfl))
          try simp only [Act.put, List.setIfInBounds_toArray, List.set_cons_zero, List.set_cons_succ]
          refine wpAnyH_take (i := 21) (oi := { dst := some 135, op := Op.pick (Operand.tmp 126) (Operand.const (Value.bool true)) (Operand.tmp 134), type := 4, pos := _, after := #[{ on := 12, ground := Ground.data }, { on := 20, ground := Ground.data }], guard := none }) (v := ?_) rfl (by kernel_rfl) (by kernel_rfl) (by kernel_rfl) (fun _ _ _ h => h) (Or.inl ⟨by rfl, ?_⟩) (by assumption) ?_
          rotate_left
          · ((intro w hSw); (try dsimp only at hSw); go_simp; (try with_reducible rfl))
          try simp only [Act.put, List.setIfInBounds_toArray, List.set_cons_zero, List.set_cons_succ]
          refine wpAnyH_take (i := 22) (oi := { dst := some 136, op := Op.move (Operand.tmp 135), type := 4, pos := _, after := #[{ on := 21, ground := Ground.data }, { on := 12, ground := Ground.chain }], guard := none }) (v := ?_) rfl (by kernel_rfl) (by kernel_rfl) (by kernel_rfl) (fun _ _ _ h => h) (Or.inl ⟨by rfl, ?_⟩) (by assumption) ?_
          rotate_left
          · ((intro w hSw); (try dsimp only at hSw); go_simp; (try with_reducible rfl))
          try simp only [Act.put, List.setIfInBounds_toArray, List.set_cons_zero, List.set_cons_succ]
          refine wpAnyH_take (i := 23) (oi := { dst := some 137, op := Op.fieldAddr 56 (Operand.tmp 10) 1, type := 0, pos := _, after := #[{ on := 22, ground := Ground.guard }], guard := some (22, false) }) (v := ?_) rfl (by kernel_rfl) (by kernel_rfl) (by kernel_rfl) (fun _ _ _ h => h) (Or.inl ⟨by rfl, ?_⟩) (by assumption) ?_
          rotate_left
          · ((intro w hSw); (try dsimp only at hSw); go_simp; (try with_reducible rfl))
          try simp only [Act.put, List.setIfInBounds_toArray, List.set_cons_zero, List.set_cons_succ]
          refine wpAnyH_take (i := 24) (oi := { dst := some 138, op := Op.load 54 (Operand.tmp 137), type := 54, pos := _, after := #[{ on := 23, ground := Ground.data }, { on := 22, ground := Ground.guard }], guard := some (22, false) }) (v := ?_) rfl (by kernel_rfl) (by kernel_rfl) (by kernel_rfl) (fun _ _ _ h => h) (Or.inl ⟨by rfl, ?_⟩) (by assumption) ?_
          rotate_left
          · ((intro w hSw); (try dsimp only at hSw); go_simp; (try with_reducible rfl))
          try simp only [Act.put, List.setIfInBounds_toArray, List.set_cons_zero, List.set_cons_succ]
          refine wpAnyH_take (i := 25) (oi := { dst := some 139, op := Op.move (Operand.tmp 15), type := 3, pos := _, after := #[{ on := 22, ground := Ground.guard }], guard := some (22, false) }) (v := ?_) rfl (by kernel_rfl) (by kernel_rfl) (by kernel_rfl) (fun _ _ _ h => h) (Or.inl ⟨by rfl, ?_⟩) (by assumption) ?_
          rotate_left
          · ((intro w hSw); (try dsimp only at hSw); go_simp; (try with_reducible rfl))
          try simp only [Act.put, List.setIfInBounds_toArray, List.set_cons_zero, List.set_cons_succ]
          refine wpAnyH_take (i := 26) (oi := { dst := some 140, op := Op.indexAddr 54 (Operand.tmp 138) (Operand.tmp 139), type := 0, pos := _, after := #[{ on := 24, ground := Ground.data }, { on := 25, ground := Ground.data }, { on := 22, ground := Ground.guard }], guard := some (22, false) }) (v := ?_) rfl (by kernel_rfl) (by kernel_rfl) (by kernel_rfl) (fun _ _ _ h => h) (Or.inl ⟨by rfl, ?_⟩) (by assumption) ?_
          rotate_left
          · ((intro w hSw); (try dsimp only at hSw); go_simp; (try with_reducible rfl))
          try simp only [Act.put, List.setIfInBounds_toArray, List.set_cons_zero, List.set_cons_succ]
          refine wpAnyH_take (i := 27) (oi := { dst := some 141, op := Op.fieldAddr 72 (Operand.tmp 140) 2, type := 0, pos := _, after := #[{ on := 26, ground := Ground.data }, { on := 22, ground := Ground.guard }], guard := some (22, false) }) (v := ?_) rfl (by kernel_rfl) (by kernel_rfl) (by kernel_rfl) (fun _ _ _ h => h) (Or.inl ⟨by rfl, ?_⟩) (by assumption) ?_
          rotate_left
          · ((intro w hSw); (try dsimp only at hSw); go_simp; (try with_reducible rfl))
          try simp only [Act.put, List.setIfInBounds_toArray, List.set_cons_zero, List.set_cons_succ]
          refine wpAnyH_take (i := 28) (oi := { dst := some 142, op := Op.load 3 (Operand.tmp 141), type := 3, pos := _, after := #[{ on := 27, ground := Ground.data }, { on := 22, ground := Ground.guard }], guard := some (22, false) }) (v := ?_) rfl (by kernel_rfl) (by kernel_rfl) (by kernel_rfl) (fun _ _ _ h => h) (Or.inl ⟨by rfl, ?_⟩) (by assumption) ?_
          rotate_left
          · ((intro w hSw); (try dsimp only at hSw); go_simp; (try with_reducible rfl))
          try simp only [Act.put, List.setIfInBounds_toArray, List.set_cons_zero, List.set_cons_succ]
          refine wpAnyH_take (i := 29) (oi := { dst := some 143, op := Op.move (Operand.tmp 14), type := 3, pos := _, after := #[{ on := 22, ground := Ground.guard }], guard := some (22, false) }) (v := ?_) rfl (by kernel_rfl) (by kernel_rfl) (by kernel_rfl) (fun _ _ _ h => h) (Or.inl ⟨by rfl, ?_⟩) (by assumption) ?_
          rotate_left
          · ((intro w hSw); (try dsimp only at hSw); go_simp; (try with_reducible rfl))
          try simp only [Act.put, List.setIfInBounds_toArray, List.set_cons_zero, List.set_cons_succ]
          refine wpAnyH_take (i := 30) (oi := { dst := some 144, op := Op.binOp BinOp.leq 3 (Operand.tmp 142) (Operand.tmp 143) 3, type := 4, pos := _, after := #[{ on := 28, ground := Ground.data }, { on := 29, ground := Ground.data }, { on := 22, ground := Ground.guard }], guard := some (22, false) }) (v := ?_) rfl (by kernel_rfl) (by kernel_rfl) (by kernel_rfl) (fun _ _ _ h => h) (Or.inl ⟨by rfl, ?_⟩) (by assumption) ?_
          rotate_left
          · ((intro w hSw); (try dsimp only at hSw); go_simp; (try with_reducible rfl))
          try simp only [Act.put, List.setIfInBounds_toArray, List.set_cons_zero, List.set_cons_succ]
          refine wpAnyH_take (i := 31) (oi := { dst := some 145, op := Op.pick (Operand.tmp 136) (Operand.const (Value.bool true)) (Operand.tmp 144), type := 4, pos := _, after := #[{ on := 22, ground := Ground.data }, { on := 30, ground := Ground.data }], guard := none }) (v := ?_) rfl (by kernel_rfl) (by kernel_rfl) (by kernel_rfl) (fun _ _ _ h => h) (Or.inl ⟨by rfl, ?_⟩) (by assumption) ?_
          rotate_left
          · ((intro w hSw); (try dsimp only at hSw); go_simp; (try with_reducible rfl))
          try simp only [Act.put, List.setIfInBounds_toArray, List.set_cons_zero, List.set_cons_succ]
          refine wpAnyH_done (by kernel_rfl) ?_ _
          clear hN
          obtain ⟨p2, _, _, _, _, _, p5, _⟩ := KS.out _ (KB.out _ hHeld)
          go_wp2
          go_roundw
          case rel => exact ⟨j + 1, EN, HLT.out, by go_num, rfl, Lib.hid (fun h => HNEXT.out h), scan_then HI8.out (KB.out _ hHeld) (Nat.le_refl _), ((KB.out _ hHeld).block _ (Array.getElem?_eq_some_iff.1 HRD8.out).1).trans HRD8.out, rb_then HRW8.out (KB.out _ hHeld) (Nat.le_refl _), below_then HB8.out (KB.out _ hHeld) HB8.out.size⟩
          case measure => simp [intOf]; have := HLT.out; omega

        case neg =>
          obtain rfl : j = i := Nat.le_antisymm hj (Nat.not_lt.1 hlt)
          obtain ⟨p0, p1, p2, p3, _, _, _, _⟩ := Sr.four_cells HRD8.out
          obtain ⟨C, rfl⟩ := Int.eq_ofNat_of_zero_le (show 0 ≤ cut by omega)
          obtain ⟨K, hK⟩ : ∃ K, K = C % (O.length + 1) := ⟨_, rfl⟩
          have hK2 : K ≤ O.length := by rw [hK]; exact Nat.le_of_lt_succ (Nat.mod_lt C (Nat.succ_pos _))
          have m1 : Int.tmod (C : Int) ((O.length : Int) + 1) = (K : Int) := by rw [hK]; exact rem_nat C O.length
          have m2 : ¬ (O.length : Int) + 1 = 0 := by omega
          have HK2 := Lib.hid hK2
          obtain ⟨M, hMM⟩ : ∃ M, M = O.take K := ⟨_, rfl⟩
          obtain ⟨ma, mc, hsub, hms, hmc, hml⟩ := sub_to (rb_sl' HRW8.out) HOZ.out HOC.out K hK2 hMM
          have HMS := Lib.hid hms
          have HMC := Lib.hid hmc
          have HML := Lib.hid hml.symm
          have HMT := Lib.hid hMM
          have HMX := Lib.hid (show ∀ x ∈ M, x < 256 by rw [hMM]; exact fun x hx => HOX.out x (List.mem_of_mem_take hx))
          have HMN := Lib.hid (show M.length ≤ 90000 by rw [hml]; omega)
          clear hK hms hmc hml hMM hlt hj
          by_cases h20 : K < 20
          case pos =>
            have u1 : (K : Int) < 20 := by omega
            have HNH := Lib.hid (show ¬ hdY M from no_head (by have := HML.out; omega))
            clear h20
            go_wp2_with (first
              | (go_at_call 29; (with_reducible refine (readNo ma K mc M wr HML.out HMS.out HMC.out HMX.out (tabC_then HB8.out (Nat.le_refl _) HT.out) HNH.out).mono ?_); rintro e w9 ⟨rfl, bq⟩; have HB9 := Lib.hid (below_then HB8.out bq HB8.out.size); have HBA := Lib.hid (below_then HB9.out ((Below.refl w9.heap.size w9).alloc (Nat.le_refl _) (.cells #[.int .i64 0, .int .u64 0, .slice none 0 0, .int .i64 0] 56)) HB9.out.size); have HRN := Lib.hid (heap_alloc_last w9 (.cells #[.int .i64 0, .int .u64 0, .slice none 0 0, .int .i64 0] 56)); clear bq p0 p1 p2 p3)
              | (go_at_call 24; (with_reducible refine (first16 (w9.alloc (.cells #[.int .i64 0, .int .u64 0, .slice none 0 0, .int .i64 0] 56)) (tabC_then HBA.out (Nat.le_refl _) HT.out) (tabP_then HBA.out HP.out)).mono ?_); rintro e w10 ⟨rfl, bq⟩; have HBB := Lib.hid (below_then HBA.out bq HBA.out.size); have HRM := Lib.hid ((bq.block _ (Array.getElem?_eq_some_iff.1 HRN.out).1).trans HRN.out); obtain ⟨_, _, n2, n3, _, _, _, _⟩ := Sr.four_cells HRM.out; clear bq))
            go_ret
            exact ⟨rfl, HBB.out⟩
          have u1 : ¬ (K : Int) < 20 := by omega
          have h20' : 20 ≤ K := Nat.not_lt.1 h20
          obtain ⟨m, hm⟩ : ∃ m, m = (cutR rs (K - 20)).length := ⟨_, rfl⟩
          obtain ⟨gd, hgd⟩ : ∃ g, g = 20 + totL (cutR rs (K - 20)) := ⟨_, rfl⟩
          obtain ⟨y1, y2, y3⟩ := HG.out.headCut K h20'
          rw [← HMT.out] at y1 y2 y3
          have HZ1 := Lib.hid y1.symm
          have HZ2 := Lib.hid y2.symm
          have HZ3 := Lib.hid y3
          have hmi : m ≤ j := by rw [hm]; have := cut_len rs (K - 20); rw [HG.out.len] at this; exact this
          have HRC := Lib.hid (show rdP M f = (L.take m, gd) by rw [HMT.out, HL.out, hm, hgd]; exact HG.out.cut K h20' hK2)
          have HRCL := Lib.hid (show (L.take m).length = m by rw [List.length_take, HLL.out]; omega)
          have HWH := Lib.hid (show ∀ q, (h : q < L.length) → (L[q].2 + L[q].1.n ≤ K ↔ q < m) from fun q h => by
            have := whichL HL.out (K - 20) q h
            rw [← hm] at this
            rw [← this]
            omega)
          have HEND := Lib.hid (show (m = 0 ∧ gd = 20) ∨ (∃ h : m - 1 < L.length, 0 < m ∧ gd = L[m - 1].2 + L[m - 1].1.n) by
            rw [hgd, hm]; exact endL HL.out (K - 20))
          have u2 : ¬ (K : Int) < (gd : Int) := by rw [hgd]; have := cut_tot rs (K - 20); omega
          have u3 : ¬ (j : Int) < (m : Int) := by omega
          have HMI := Lib.hid hmi
          clear h20 h20' hm hgd y1 y2 y3 hmi hK2
          go_upto_region 26 with (go_at_call 29; (with_reducible refine (readB ma K mc M N f m gd (L.take m) wr HML.out HMS.out HMC.out HMX.out HMN.out (tabC_then HB8.out (Nat.le_refl _) HT.out) HZ3.out HZ1.out HZ2.out HRC.out HRCL.out).mono ?_); rintro e w9 ⟨ps2, bs2, sa2, sc2, rfl, _, _, _, bq⟩; have HB9 := Lib.hid (below_then HB8.out bq HB8.out.size); have HI9 := Lib.hid (scan_then HI8.out bq (Nat.le_refl _)); have HRD9 := Lib.hid ((bq.block _ (Array.getElem?_eq_some_iff.1 HRD8.out).1).trans HRD8.out); clear bq p0 p1 p2 p3)
          have hba := (Below.refl w9.heap.size w9).alloc (Nat.le_refl _) (.cells #[.int .i64 (N : Int), .int .u64 (f : Int), .slice sa2 m sc2, .int .i64 (gd : Int)] 56)
          have HRNA := Lib.hid (heap_alloc_last w9 (.cells #[.int .i64 (N : Int), .int .u64 (f : Int), .slice sa2 m sc2, .int .i64 (gd : Int)] 56))
          have HBA := Lib.hid (below_then HB9.out hba HB9.out.size)
          have HIA := Lib.hid (scan_then HI9.out hba (Nat.le_refl _))
          have HRDA := Lib.hid ((hba.block _ (Array.getElem?_eq_some_iff.1 HRD9.out).1).trans HRD9.out)
          clear hba
          generalize w9.alloc (.cells #[.int .i64 (N : Int), .int .u64 (f : Int), .slice sa2 m sc2, .int .i64 (gd : Int)] 56) = wA at *
          generalize w9.heap.size = g17 at *
          obtain ⟨_, _, n2, n3, _, _, _, _⟩ := Sr.four_cells HRNA.out
          go_wp2_with fail
          clear n2 n3
          go_loopw [19] (fun s19 wv => ∃ q : Nat, q ≤ j ∧ s19 = .int .i64 (q : Int) ∧ ScanI wv bs (.slice sa j sc) ps ∧ wv.heap[g10]? = some (.cells #[.int .i64 (N : Int), .int .u64 (f : Int), .slice sa j sc, .int .i64 (O.length : Int)] 56 (0, 0)) ∧ wv.heap[g17]? = some (.cells #[.int .i64 (N : Int), .int .u64 (f : Int), .slice sa2 m sc2, .int .i64 (gd : Int)] 56 (0, 0)) ∧ Below w.heap.size w wv) (fun s19 _ => j - (intOf s19).toNat)
          case atStart => exact ⟨0, Nat.zero_le _, rfl, HIA.out, HRDA.out, HRNA.out, HBA.out⟩
          case round =>
            obtain ⟨q, hq, rfl, hI, hRD, hRN, hBQ⟩ := hrel
            have HIQ := Lib.hid hI
            have HRDQ := Lib.hid hRD
            have HRNQ := Lib.hid hRN
            have HBQ := Lib.hid hBQ
            clear hI hRD hRN hBQ
            have hpl : ps.length = j := by rw [← HLL.out, ← HPS.out]; simp [absP]
            have hI9 : ScanI wr bs (.slice sa ps.length sc) ps := by rw [hpl]; exact HIQ.out
            by_cases hlt : q < j
            case pos =>
              have HLT := Lib.hid hlt
              have hjp : q < ps.length := by rw [hpl]; exact hlt
              have hjL : q < L.length := by rw [HLL.out]; exact hlt
              obtain ⟨g5, hg5⟩ : ∃ g5, sa = some ⟨g5, 0, none⟩ := by
                obtain ⟨a5, c5, e5, h5⟩ := scan_slice hI9
                injection e5 with e5
                rw [e5]
                exact h5 (by intro e; rw [e] at hjp; simp at hjp)
              subst hg5
              obtain ⟨hsame, hdb, hat, hdd⟩ := part_facts HL.out HPS.out HM.out q hjp hjL
              obtain ⟨EN, hEN⟩ : ∃ z, z = ps[q].at' + ps[q].D.n := ⟨_, rfl⟩
              have hw := HWH.out q hjL
              rw [← hdd, ← hat, ← hEN] at hw
              have z5 : wr.cell? ⟨g5, q * 6 + 5, none⟩ = some (.int .i64 (EN : Int)) := by rw [hEN]; exact scan_cells hI9 q hjp 5 (by decide)
              obtain ⟨_, _, p2, _, _, _, _, _⟩ := Sr.four_cells HRDQ.out
              obtain ⟨_, _, n2, _, _, _, _, _⟩ := Sr.four_cells HRNQ.out
              have lt1 : (q : Int) < (j : Int) := by omega
              clear hEN hat hdd hdb hsame hpl hI9 hjp hjL hq
              by_cases hqm : q < m
              case pos =>
                have dA : decide ((EN : Int) ≤ (K : Int)) = true := decide_eq_true (by have := hw.2 hqm; omega)
                have dA2 : decide (EN ≤ K) = true := decide_eq_true (hw.2 hqm)
                have dB : decide ((q : Int) < (m : Int)) = true := decide_eq_true (by omega)
                have dB2 : decide (q < m) = true := decide_eq_true hqm
                clear hw hqm
                go_wp2_with fail
                go_quiet (fail)
                go_wp2_with fail
                go_roundw
                case rel => exact ⟨q + 1, HLT.out, by go_num, scan_then HIQ.out (below_drewN (Below.refl _ _) _) (Nat.le_refl _), HRDQ.out, HRNQ.out, below_drewN HBQ.out _⟩
                case measure => simp [intOf]; have := HLT.out; omega
              case neg =>
                have hne : ¬ EN ≤ K := fun h => hqm (hw.1 h)
                have dA : decide ((EN : Int) ≤ (K : Int)) = false := decide_eq_false (by omega)
                have dA2 : decide (EN ≤ K) = false := decide_eq_false hne
                have dB : decide ((q : Int) < (m : Int)) = false := decide_eq_false (by omega)
                have dB2 : decide (q < m) = false := decide_eq_false hqm
                clear hw hqm hne
                go_wp2_with fail
                go_quiet (fail)
                go_wp2_with fail
                go_roundw
                case rel => exact ⟨q + 1, HLT.out, by go_num, scan_then HIQ.out (below_drewN (Below.refl _ _) _) (Nat.le_refl _), HRDQ.out, HRNQ.out, below_drewN HBQ.out _⟩
                case measure => simp [intOf]; have := HLT.out; omega
            obtain rfl : q = j := Nat.le_antisymm hq (Nat.not_lt.1 hlt)
            have nlt : ¬ (q : Int) < (q : Int) := by omega
            by_cases hm0 : m = 0
            case pos =>
              have hg20 : gd = 20 := by
                rcases HEND.out with h | ⟨_, h, _⟩
                · exact h.2
                · omega
              have KS := Lib.hid (show ∀ W, Below wr.heap.size wr W → W.cell? ⟨g17, 2, none⟩ = some (.slice sa2 m sc2) ∧ W.cell? ⟨g17, 3, none⟩ = some (.int .i64 (gd : Int)) ∧ Below wr.heap.size wr W from fun W h => ⟨cell_then h (Nat.le_refl _) (Sr.four_cells HRNQ.out).2.2.1, cell_then h (Nat.le_refl _) (Sr.four_cells HRNQ.out).2.2.2.1, h⟩)
              have KB := Lib.hid (show ∀ W, (W.cell? ⟨g17, 2, none⟩ = some (.slice sa2 m sc2) ∧ W.cell? ⟨g17, 3, none⟩ = some (.int .i64 (gd : Int)) ∧ Below wr.heap.size wr W) → Below wr.heap.size wr W from fun W h => h.2.2)
              have b0 : ((m : Int) == 0) = true := by rw [beq_iff_eq]; omega
              have b1 : decide ((m : Int) = 0) = true := decide_eq_true (by omega)
              have b2 : decide (m = 0) = true := decide_eq_true hm0
              have b3 : ((gd : Int) == 20) = true := by rw [beq_iff_eq]; omega
              have b4 : decide ((gd : Int) = 20) = true := decide_eq_true (by omega)
              have b5 : decide (gd = 20) = true := decide_eq_true hg20
              clear hm0 hg20 hI9 hpl hlt hq
              go_wp2_with fail
              refine wp_region_held_drew (S := (fun W => W.cell? ⟨g17, 2, none⟩ = some (.slice sa2 m sc2) ∧ W.cell? ⟨g17, 3, none⟩ = some (.int .i64 (gd : Int)) ∧ Below wr.heap.size wr W)) (by kernel_rfl) ?_ (fun hHeld => ?_)
              · ((try dsimp only); ((try dsimp only); (first | (with_reducible exact KS.out _ hN) | (with_reducible exact hHeld) | exact KS.out _ (Below.refl _ _).drew | exact KS.out _ (Below.refl _ _))))
              refine wpAnyH_ready (rs := [0]) (by kernel_rfl) (by simp) ?_
              refine (AllReadyH.cons (o := { dst := some 213, op := Op.call { callee := Callee.value (Operand.func 24), args := #[], argTypes := #[] }, type := 4, pos := _, after := #[], guard := none }) rfl (fun K hK => ?_) AllReadyH.nil)
              go_simp
              (go_at_call 24; (with_reducible refine (first16 _ (tabC_then (below_then HBQ.out (KB.out _ hHeld) HBQ.out.size) (Nat.le_refl _) HT.out) (tabP_then (below_then HBQ.out (KB.out _ hHeld) HBQ.out.size) HP.out)).mono ?_); rintro e wa ⟨rfl, ba⟩; have hN := below_then (KB.out _ hHeld) ba (KB.out _ hHeld).size; clear ba)
              go_wp2_with fail
              refine hK.out _ _ ?_ (fun hHeld => ?_)
              · ((try dsimp only); ((try dsimp only); (first | (with_reducible exact KS.out _ hN) | (with_reducible exact hHeld) | exact KS.out _ (Below.refl _ _).drew | exact KS.out _ (Below.refl _ _))))
              clear hK K
              try simp only [Act.put, List.setIfInBounds_toArray, List.set_cons_zero, List.set_cons_succ]
              refine wpAnyH_take (i := 1) (oi := { dst := some 214, op := Op.move (Operand.tmp 213), type := 4, pos := _, after := #[{ on := 0, ground := Ground.data }, { on := 0, ground := Ground.chain }], guard := none }) (v := ?_) rfl (by kernel_rfl) (by kernel_rfl) (by kernel_rfl) (fun _ _ _ h => h) (Or.inl ⟨by rfl, ?_⟩) (by assumption) ?_
              rotate_left
              · ((intro w hSw); (try dsimp only at hSw); go_simp; (try with_reducible rfl))
              try simp only [Act.put, List.setIfInBounds_toArray, List.set_cons_zero, List.set_cons_succ]
              refine wpAnyH_take (i := 2) (oi := { dst := some 215, op := Op.fieldAddr 56 (Operand.tmp 17) 1, type := 0, pos := _, after := #[{ on := 1, ground := Ground.guard }], guard := some (1, true) }) (v := ?_) rfl (by kernel_rfl) (by kernel_rfl) (by kernel_rfl) (fun _ _ _ h => h) (Or.inl ⟨by rfl, ?_⟩) (by assumption) ?_
              rotate_left
              · ((intro w hSw); (try dsimp only at hSw); go_simp; (try with_reducible rfl))
              try simp only [Act.put, List.setIfInBounds_toArray, List.set_cons_zero, List.set_cons_succ]
              refine wpAnyH_take (i := 3) (oi := { dst := some 216, op := Op.load 54 (Operand.tmp 215), type := 54, pos := _, after := #[{ on := 2, ground := Ground.data }, { on := 1, ground := Ground.guard }], guard := some (1, true) }) (v := ?_) rfl (by kernel_rfl) (by kernel_rfl) (by kernel_rfl) (fun _ _ _ h => h) (Or.inl ⟨by rfl, ?_⟩) (by assumption) ?_
              rotate_left
              · ((intro w hSw); (try dsimp only at hSw); go_simp; (try with_reducible rfl))
              try simp only [Act.put, List.setIfInBounds_toArray, List.set_cons_zero, List.set_cons_succ]
              refine wpAnyH_take (i := 4) (oi := { dst := some 217, op := Op.call { callee := Callee.builtin Builtin.len, args := #[Operand.tmp 216], argTypes := #[54] }, type := 3, pos := _, after := #[{ on := 3, ground := Ground.data }, { on := 1, ground := Ground.guard }], guard := some (1, true) }) (v := ?_) rfl (by kernel_rfl) (by kernel_rfl) (by kernel_rfl) (fun _ _ _ h => h) (Or.inl ⟨by rfl, ?_⟩) (by assumption) ?_
              rotate_left
              · ((intro w hSw); (try dsimp only at hSw); go_simp; (try with_reducible rfl))
              try simp only [Act.put, List.setIfInBounds_toArray, List.set_cons_zero, List.set_cons_succ]
              refine wpAnyH_take (i := 5) (oi := { dst := some 218, op := Op.binOp BinOp.eql 3 (Operand.tmp 217) (Operand.const (Value.int IntKind.i64 0)) 3, type := 4, pos := _, after := #[{ on := 4, ground := Ground.data }, { on := 1, ground := Ground.guard }], guard := some (1, true) }) (v := ?_) rfl (by kernel_rfl) (by kernel_rfl) (by kernel_rfl) (fun _ _ _ h => h) (Or.inl ⟨by rfl, ?_⟩) (by assumption) ?_
              rotate_left
              · ((intro w hSw); (try dsimp only at hSw); go_simp; (try with_reducible rfl))
              try simp only [Act.put, List.setIfInBounds_toArray, List.set_cons_zero, List.set_cons_succ]
              refine wpAnyH_take (i := 6) (oi := { dst := some 219, op := Op.move (Operand.tmp 218), type := 4, pos := _, after := #[{ on := 5, ground := Ground.data }, { on := 1, ground := Ground.chain }, { on := 1, ground := Ground.guard }], guard := some (1, true) }) (v := ?_) rfl (by kernel_rfl) (by kernel_rfl) (by kernel_rfl) (fun _ _ _ h => h) (Or.inl ⟨by rfl, ?_⟩) (by assumption) ?_
              rotate_left
              · ((intro w hSw); (try dsimp only at hSw); go_simp; (try with_reducible rfl))
              try simp only [Act.put, List.setIfInBounds_toArray, List.set_cons_zero, List.set_cons_succ]
              refine wpAnyH_take (i := 7) (oi := { dst := some 220, op := Op.fieldAddr 56 (Operand.tmp 17) 2, type := 0, pos := _, after := #[{ on := 6, ground := Ground.guard }], guard := some (6, true) }) (v := ?_) rfl (by kernel_rfl) (by kernel_rfl) (by kernel_rfl) (fun _ _ _ h => h) (Or.inl ⟨by rfl, ?_⟩) (by assumption) ?_
              rotate_left
              · ((intro w hSw); (try dsimp only at hSw); go_simp; (try with_reducible rfl))
              try simp only [Act.put, List.setIfInBounds_toArray, List.set_cons_zero, List.set_cons_succ]
              refine wpAnyH_take (i := 8) (oi := { dst := some 221, op := Op.load 3 (Operand.tmp 220), type := 3, pos := _, after := #[{ on := 7, ground := Ground.data }, { on := 6, ground := Ground.guard }], guard := some (6, true) }) (v := ?_) rfl (by kernel_rfl) (by kernel_rfl) (by kernel_rfl) (fun _ _ _ h => h) (Or.inl ⟨by rfl, ?_⟩) (by assumption) ?_
              rotate_left
              · ((intro w hSw); (try dsimp only at hSw); go_simp; (try with_reducible rfl))
              try simp only [Act.put, List.setIfInBounds_toArray, List.set_cons_zero, List.set_cons_succ]
              refine wpAnyH_take (i := 9) (oi := { dst := some 222, op := Op.binOp BinOp.eql 3 (Operand.tmp 221) (Operand.const (Value.int IntKind.i64 20)) 3, type := 4, pos := _, after := #[{ on := 8, ground := Ground.data }, { on := 6, ground := Ground.guard }], guard := some (6, true) }) (v := ?_) rfl (by kernel_rfl) (by kernel_rfl) (by kernel_rfl) (fun _ _ _ h => h) (Or.inl ⟨by rfl, ?_⟩) (by assumption) ?_
              rotate_left
              · ((intro w hSw); (try dsimp only at hSw); go_simp; (try with_reducible rfl))
              try simp only [Act.put, List.setIfInBounds_toArray, List.set_cons_zero, List.set_cons_succ]
              refine wpAnyH_take (i := 10) (oi := { dst := some 223, op := Op.pick (Operand.tmp 219) (Operand.tmp 222) (Operand.const (Value.bool false)), type := 4, pos := _, after := #[{ on := 6, ground := Ground.data }, { on := 9, ground := Ground.data }, { on := 1, ground := Ground.guard }], guard := some (1, true) }) (v := ?_) rfl (by kernel_rfl) (by kernel_rfl) (by kernel_rfl) (fun _ _ _ h => h) (Or.inl ⟨by rfl, ?_⟩) (by assumption) ?_
              rotate_left
              · ((intro w hSw); (try dsimp only at hSw); go_simp; (try with_reducible rfl))
              try simp only [Act.put, List.setIfInBounds_toArray, List.set_cons_zero, List.set_cons_succ]
              refine wpAnyH_take (i := 11) (oi := { dst := some 224, op := Op.move (Operand.tmp 223), type := 4, pos := _, after := #[{ on := 10, ground := Ground.data }, { on := 6, ground := Ground.chain }, { on := 1, ground := Ground.guard }], guard := some (1, true) }) (v := ?_) rfl (by kernel_rfl) (by kernel_rfl) (by kernel_rfl) (fun _ _ _ h => h) (Or.inl ⟨by rfl, ?_⟩) (by assumption) ?_
              rotate_left
              · ((intro w hSw); (try dsimp only at hSw); go_simp; (try with_reducible rfl))
              try simp only [Act.put, List.setIfInBounds_toArray, List.set_cons_zero, List.set_cons_succ]
              refine wpAnyH_take (i := 12) (oi := { dst := some 225, op := Op.fieldAddr 56 (Operand.tmp 17) 1, type := 0, pos := _, after := #[{ on := 11, ground := Ground.guard }], guard := some (11, false) }) (v := undef) rfl (by kernel_rfl) (by kernel_rfl) (by kernel_rfl) (fun _ _ _ h => h) (Or.inr ⟨by rfl, rfl⟩) (by assumption) ?_
              try simp only [Act.put, List.setIfInBounds_toArray, List.set_cons_zero, List.set_cons_succ]
              refine wpAnyH_take (i := 13) (oi := { dst := some 226, op := Op.load 54 (Operand.tmp 225), type := 54, pos := _, after := #[{ on := 12, ground := Ground.data }, { on := 11, ground := Ground.guard }], guard := some (11, false) }) (v := undef) rfl (by kernel_rfl) (by kernel_rfl) (by kernel_rfl) (fun _ _ _ h => h) (Or.inr ⟨by rfl, rfl⟩) (by assumption) ?_
              try simp only [Act.put, List.setIfInBounds_toArray, List.set_cons_zero, List.set_cons_succ]
              refine wpAnyH_take (i := 14) (oi := { dst := some 227, op := Op.call { callee := Callee.builtin Builtin.len, args := #[Operand.tmp 226], argTypes := #[54] }, type := 3, pos := _, after := #[{ on := 13, ground := Ground.data }, { on := 11, ground := Ground.guard }], guard := some (11, false) }) (v := undef) rfl (by kernel_rfl) (by kernel_rfl) (by kernel_rfl) (fun _ _ _ h => h) (Or.inr ⟨by rfl, rfl⟩) (by assumption) ?_
              try simp only [Act.put, List.setIfInBounds_toArray, List.set_cons_zero, List.set_cons_succ]
              refine wpAnyH_take (i := 15) (oi := { dst := some 228, op := Op.binOp BinOp.gtr 3 (Operand.tmp 227) (Operand.const (Value.int IntKind.i64 0)) 3, type := 4, pos := _, after := #[{ on := 14, ground := Ground.data }, { on := 11, ground := Ground.guard }], guard := some (11, false) }) (v := undef) rfl (by kernel_rfl) (by kernel_rfl) (by kernel_rfl) (fun _ _ _ h => h) (Or.inr ⟨by rfl, rfl⟩) (by assumption) ?_
              try simp only [Act.put, List.setIfInBounds_toArray, List.set_cons_zero, List.set_cons_succ]
              refine wpAnyH_take (i := 16) (oi := { dst := some 229, op := Op.move (Operand.tmp 228), type := 4, pos := _, after := #[{ on := 15, ground := Ground.data }, { on := 11, ground := Ground.chain }, { on := 11, ground := Ground.guard }], guard := some (11, false) }) (v := undef) rfl (by kernel_rfl) (by kernel_rfl) (by kernel_rfl) (fun _ _ _ h => h) (Or.inr ⟨by rfl, rfl⟩) (by assumption) ?_
              try simp only [Act.put, List.setIfInBounds_toArray, List.set_cons_zero, List.set_cons_succ]
              refine wpAnyH_take (i := 17) (oi := { dst := some 230, op := Op.fieldAddr 56 (Operand.tmp 17) 2, type := 0, pos := _, after := #[{ on := 16, ground := Ground.guard }], guard := some (16, true) }) (v := undef) rfl (by kernel_rfl) (by kernel_rfl) (by kernel_rfl) (fun _ _ _ h => h) (Or.inr ⟨by rfl, rfl⟩) (by assumption) ?_
              try simp only [Act.put, List.setIfInBounds_toArray, List.set_cons_zero, List.set_cons_succ]
              refine wpAnyH_take (i := 18) (oi := { dst := some 231, op := Op.load 3 (Operand.tmp 230), type := 3, pos := _, after := #[{ on := 17, ground := Ground.data }, { on := 16, ground := Ground.guard }], guard := some (16, true) }) (v := undef) rfl (by kernel_rfl) (by kernel_rfl) (by kernel_rfl) (fun _ _ _ h => h) (Or.inr ⟨by rfl, rfl⟩) (by assumption) ?_
              try simp only [Act.put, List.setIfInBounds_toArray, List.set_cons_zero, List.set_cons_succ]
              refine wpAnyH_take (i := 19) (oi := { dst := some 232, op := Op.fieldAddr 56 (Operand.tmp 10) 1, type := 0, pos := _, after := #[{ on := 16, ground := Ground.guard }], guard := some (16, true) }) (v := undef) rfl (by kernel_rfl) (by kernel_rfl) (by kernel_rfl) (fun _ _ _ h => h) (Or.inr ⟨by rfl, rfl⟩) (by assumption) ?_
              try simp only [Act.put, List.setIfInBounds_toArray, List.set_cons_zero, List.set_cons_succ]
              refine wpAnyH_take (i := 20) (oi := { dst := some 233, op := Op.load 54 (Operand.tmp 232), type := 54, pos := _, after := #[{ on := 19, ground := Ground.data }, { on := 16, ground := Ground.guard }], guard := some (16, true) }) (v := undef) rfl (by kernel_rfl) (by kernel_rfl) (by kernel_rfl) (fun _ _ _ h => h) (Or.inr ⟨by rfl, rfl⟩) (by assumption) ?_
              try simp only [Act.put, List.setIfInBounds_toArray, List.set_cons_zero, List.set_cons_succ]
              refine wpAnyH_take (i := 21) (oi := { dst := some 234, op := Op.fieldAddr 56 (Operand.tmp 17) 1, type := 0, pos := _, after := #[{ on := 16, ground := Ground.guard }], guard := some (16, true) }) (v := undef) rfl (by kernel_rfl) (by kernel_rfl) (by kernel_rfl) (fun _ _ _ h => h) (Or.inr ⟨by rfl, rfl⟩) (by assumption) ?_
              try simp only [Act.put, List.setIfInBounds_toArray, List.set_cons_zero, List.set_cons_succ]
              refine wpAnyH_take (i := 22) (oi := { dst := some 235, op := Op.load 54 (Operand.tmp 234), type := 54, pos := _, after := #[{ on := 21, ground := Ground.data }, { on := 16, ground := Ground.guard }], guard := some (16, true) }) (v := undef) rfl (by kernel_rfl) (by kernel_rfl) (by kernel_rfl) (fun _ _ _ h => h) (Or.inr ⟨by rfl, rfl⟩) (by assumption) ?_
              try simp only [Act.put, List.setIfInBounds_toArray, List.set_cons_zero, List.set_cons_succ]
              refine wpAnyH_take (i := 23) (oi := { dst := some 236, op := Op.call { callee := Callee.builtin Builtin.len, args := #[Operand.tmp 235], argTypes := #[54] }, type := 3, pos := _, after := #[{ on := 22, ground := Ground.data }, { on := 16, ground := Ground.guard }], guard := some (16, true) }) (v := undef) rfl (by kernel_rfl) (by kernel_rfl) (by kernel_rfl) (fun _ _ _ h => h) (Or.inr ⟨by rfl, rfl⟩) (by assumption) ?_
              try simp only [Act.put, List.setIfInBounds_toArray, List.set_cons_zero, List.set_cons_succ]
              refine wpAnyH_take (i := 24) (oi := { dst := some 237, op := Op.binOp BinOp.sub 3 (Operand.tmp 236) (Operand.const (Value.int IntKind.i64 1)) 3, type := 3, pos := _, after := #[{ on := 23, ground := Ground.data }, { on := 16, ground := Ground.guard }], guard := some (16, true) }) (v := undef) rfl (by kernel_rfl) (by kernel_rfl) (by kernel_rfl) (fun _ _ _ h => h) (Or.inr ⟨by rfl, rfl⟩) (by assumption) ?_
              try simp only [Act.put, List.setIfInBounds_toArray, List.set_cons_zero, List.set_cons_succ]
              refine wpAnyH_take (i := 25) (oi := { dst := some 238, op := Op.indexAddr 54 (Operand.tmp 233) (Operand.tmp 237), type := 0, pos := _, after := #[{ on := 20, ground := Ground.data }, { on := 24, ground := Ground.data }, { on := 16, ground := Ground.guard }], guard := some (16, true) }) (v := undef) rfl (by kernel_rfl) (by kernel_rfl) (by kernel_rfl) (fun _ _ _ h => h) (Or.inr ⟨by rfl, rfl⟩) (by assumption) ?_
              try simp only [Act.put, List.setIfInBounds_toArray, List.set_cons_zero, List.set_cons_succ]
              refine wpAnyH_take (i := 26) (oi := { dst := some 239, op := Op.fieldAddr 72 (Operand.tmp 238) 2, type := 0, pos := _, after := #[{ on := 25, ground := Ground.data }, { on := 16, ground := Ground.guard }], guard := some (16, true) }) (v := undef) rfl (by kernel_rfl) (by kernel_rfl) (by kernel_rfl) (fun _ _ _ h => h) (Or.inr ⟨by rfl, rfl⟩) (by assumption) ?_
              try simp only [Act.put, List.setIfInBounds_toArray, List.set_cons_zero, List.set_cons_succ]
              refine wpAnyH_take (i := 27) (oi := { dst := some 240, op := Op.load 3 (Operand.tmp 239), type := 3, pos := _, after := #[{ on := 26, ground := Ground.data }, { on := 16, ground := Ground.guard }], guard := some (16, true) }) (v := undef) rfl (by kernel_rfl) (by kernel_rfl) (by kernel_rfl) (fun _ _ _ h => h) (Or.inr ⟨by rfl, rfl⟩) (by assumption) ?_
              try simp only [Act.put, List.setIfInBounds_toArray, List.set_cons_zero, List.set_cons_succ]
              refine wpAnyH_take (i := 28) (oi := { dst := some 241, op := Op.binOp BinOp.eql 3 (Operand.tmp 231) (Operand.tmp 240) 3, type := 4, pos := _, after := #[{ on := 18, ground := Ground.data }, { on := 27, ground := Ground.data }, { on := 16, ground := Ground.guard }], guard := some (16, true) }) (v := undef) rfl (by kernel_rfl) (by kernel_rfl) (by kernel_rfl) (fun _ _ _ h => h) (Or.inr ⟨by rfl, rfl⟩) (by assumption) ?_
              try simp only [Act.put, List.setIfInBounds_toArray, List.set_cons_zero, List.set_cons_succ]
              refine wpAnyH_take (i := 29) (oi := { dst := some 242, op := Op.pick (Operand.tmp 229) (Operand.tmp 241) (Operand.const (Value.bool false)), type := 4, pos := _, after := #[{ on := 16, ground := Ground.data }, { on := 28, ground := Ground.data }, { on := 11, ground := Ground.guard }], guard := some (11, false) }) (v := undef) rfl (by kernel_rfl) (by kernel_rfl) (by kernel_rfl) (fun _ _ _ h => h) (Or.inr ⟨by rfl, rfl⟩) (by assumption) ?_
              try simp only [Act.put, List.setIfInBounds_toArray, List.set_cons_zero, List.set_cons_succ]
              refine wpAnyH_take (i := 30) (oi := { dst := some 243, op := Op.pick (Operand.tmp 224) (Operand.const (Value.bool true)) (Operand.tmp 242), type := 4, pos := _, after := #[{ on := 11, ground := Ground.data }, { on := 29, ground := Ground.data }, { on := 1, ground := Ground.guard }], guard := some (1, true) }) (v := ?_) rfl (by kernel_rfl) (by kernel_rfl) (by kernel_rfl) (fun _ _ _ h => h) (Or.inl ⟨by rfl, ?_⟩) (by assumption) ?_
              rotate_left
              · ((intro w hSw); (try dsimp only at hSw); go_simp; (try with_reducible rfl))
              try simp only [Act.put, List.setIfInBounds_toArray, List.set_cons_zero, List.set_cons_succ]
              refine wpAnyH_take (i := 31) (oi := { dst := some 244, op := Op.pick (Operand.tmp 214) (Operand.tmp 243) (Operand.const (Value.bool false)), type := 4, pos := _, after := #[{ on := 1, ground := Ground.data }, { on := 30, ground := Ground.data }], guard := none }) (v := ?_) rfl (by kernel_rfl) (by kernel_rfl) (by kernel_rfl) (fun _ _ _ h => h) (Or.inl ⟨by rfl, ?_⟩) (by assumption) ?_
              rotate_left
              · ((intro w hSw); (try dsimp only at hSw); go_simp; (try with_reducible rfl))
              try simp only [Act.put, List.setIfInBounds_toArray, List.set_cons_zero, List.set_cons_succ]
              refine wpAnyH_take (i := 32) (oi := { dst := some 6, op := Op.assign (Operand.tmp 244), type := 4, pos := _, after := #[{ on := 31, ground := Ground.data }, { on := 16, ground := Ground.chain }, { on := 0, ground := Ground.phase }, { on := 1, ground := Ground.phase }, { on := 2, ground := Ground.phase }, { on := 3, ground := Ground.phase }, { on := 4, ground := Ground.phase }, { on := 5, ground := Ground.phase }, { on := 6, ground := Ground.phase }, { on := 7, ground := Ground.phase }, { on := 8, ground := Ground.phase }, { on := 9, ground := Ground.phase }, { on := 10, ground := Ground.phase }, { on := 11, ground := Ground.phase }, { on := 12, ground := Ground.phase }, { on := 13, ground := Ground.phase }, { on := 14, ground := Ground.phase }, { on := 15, ground := Ground.phase }, { on := 16, ground := Ground.phase }, { on := 17, ground := Ground.phase }, { on := 18, ground := Ground.phase }, { on := 19, ground := Ground.phase }, { on := 20, ground := Ground.phase }, { on := 21, ground := Ground.phase }, { on := 22, ground := Ground.phase }, { on := 23, ground := Ground.phase }, { on := 24, ground := Ground.phase }, { on := 25, ground := Ground.phase }, { on := 26, ground := Ground.phase }, { on := 27, ground := Ground.phase }, { on := 28, ground := Ground.phase }, { on := 29, ground := Ground.phase }, { on := 30, ground := Ground.phase }, { on := 31, ground := Ground.phase }], guard := none }) (v := ?_) rfl (by kernel_rfl) (by kernel_rfl) (by kernel_rfl) (fun _ _ _ h => h) (Or.inl ⟨by rfl, ?_⟩) (by assumption) ?_
              rotate_left
              · ((intro w hSw); (try dsimp only at hSw); go_simp; (try with_reducible rfl))
              try simp only [Act.put, List.setIfInBounds_toArray, List.set_cons_zero, List.set_cons_succ]
              refine wpAnyH_done (by kernel_rfl) ?_ _
              clear hN
              go_wp2
              go_ret
              exact ⟨rfl, below_then HBQ.out (KB.out _ hHeld) HBQ.out.size⟩

            have hm1 : 0 < m := Nat.pos_of_ne_zero hm0
            obtain ⟨z, hz⟩ : ∃ z, z = m - 1 := ⟨_, rfl⟩
            have hzq : z < q := by have := HMI.out; omega
            have hjp : z < ps.length := by rw [hpl]; exact hzq
            have hjL : z < L.length := by rw [HLL.out]; exact hzq
            obtain ⟨g5, hg5⟩ : ∃ g5, sa = some ⟨g5, 0, none⟩ := by
              obtain ⟨a5, c5, e5, h5⟩ := scan_slice hI9
              injection e5 with e5
              rw [e5]
              exact h5 (by intro e; rw [e] at hjp; simp at hjp)
            subst hg5
            obtain ⟨hsame, hdb, hat, hdd⟩ := part_facts HL.out HPS.out HM.out z hjp hjL
            have hgd : gd = ps[z].at' + ps[z].D.n := by
              rcases HEND.out with h | ⟨h1, h2, h3⟩
              · omega
              · rw [hat, hdd, h3]
                subst hz; rfl
            have Z5 : Hid (wr.cell? ⟨g5, z * 6 + 5, none⟩ = some (.int .i64 (gd : Int))) := Lib.hid (by rw [hgd]; exact scan_cells hI9 z hjp 5 (by decide))
            have KS := Lib.hid (show ∀ W, Below wr.heap.size wr W → W.cell? ⟨g17, 2, none⟩ = some (.slice sa2 m sc2) ∧ W.cell? ⟨g17, 3, none⟩ = some (.int .i64 (gd : Int)) ∧ W.cell? ⟨g10, 2, none⟩ = some (.slice (some ⟨g5, 0, none⟩) q sc) ∧ W.cell? ⟨g5, z * 6 + 5, none⟩ = some (.int .i64 (gd : Int)) ∧ Below wr.heap.size wr W from fun W h => ⟨cell_then h (Nat.le_refl _) (Sr.four_cells HRNQ.out).2.2.1, cell_then h (Nat.le_refl _) (Sr.four_cells HRNQ.out).2.2.2.1, cell_then h (Nat.le_refl _) (Sr.four_cells HRDQ.out).2.2.1, cell_then h (Nat.le_refl _) Z5.out, h⟩)
            have KB := Lib.hid (show ∀ W, (W.cell? ⟨g17, 2, none⟩ = some (.slice sa2 m sc2) ∧ W.cell? ⟨g17, 3, none⟩ = some (.int .i64 (gd : Int)) ∧ W.cell? ⟨g10, 2, none⟩ = some (.slice (some ⟨g5, 0, none⟩) q sc) ∧ W.cell? ⟨g5, z * 6 + 5, none⟩ = some (.int .i64 (gd : Int)) ∧ Below wr.heap.size wr W) → Below wr.heap.size wr W from fun W h => h.2.2.2.2)
            have b0 : ((m : Int) == 0) = false := by rw [beq_eq_false_iff_ne]; omega
            have b1 : decide ((m : Int) = 0) = false := decide_eq_false (by omega)
            have b2 : decide (m = 0) = false := decide_eq_false hm0
            have b3 : decide ((0 : Int) < (m : Int)) = true := decide_eq_true (by omega)
            have b4 : decide (0 < m) = true := decide_eq_true hm1
            have b5 : (0 : Int) < (m : Int) := by omega
            have x0 : IntKind.i64.wrap (z : Int) = (z : Int) := IntWalk.i64_in _ (by have := HMI.out; have := HLEN.out; omega)
            have x1 : (m : Int) - 1 = (z : Int) := by omega
            have x2 : (z : Int) < (q : Int) := by omega
            clear hm0 hm1 hz hjp hjL hsame hdb hat hdd hgd hI9 hpl hlt hq
            go_wp2_with fail
            refine wp_region_held_drew (S := (fun W => W.cell? ⟨g17, 2, none⟩ = some (.slice sa2 m sc2) ∧ W.cell? ⟨g17, 3, none⟩ = some (.int .i64 (gd : Int)) ∧ W.cell? ⟨g10, 2, none⟩ = some (.slice (some ⟨g5, 0, none⟩) q sc) ∧ W.cell? ⟨g5, z * 6 + 5, none⟩ = some (.int .i64 (gd : Int)) ∧ Below wr.heap.size wr W)) (by kernel_rfl) ?_ (fun hHeld => ?_)
            · ((try dsimp only); ((try dsimp only); (first | (with_reducible exact KS.out _ hN) | (with_reducible exact hHeld) | exact KS.out _ (Below.refl _ _).drew | exact KS.out _ (Below.refl _ _))))
            refine wpAnyH_ready (rs := [0]) (by kernel_rfl) (by simp) ?_
            refine (AllReadyH.cons (o := { dst := some 213, op := Op.call { callee := Callee.value (Operand.func 24), args := #[], argTypes := #[] }, type := 4, pos := _, after := #[], guard := none }) rfl (fun K hK => ?_) AllReadyH.nil)
            go_simp
            (go_at_call 24; (with_reducible refine (first16 _ (tabC_then (below_then HBQ.out (KB.out _ hHeld) HBQ.out.size) (Nat.le_refl _) HT.out) (tabP_then (below_then HBQ.out (KB.out _ hHeld) HBQ.out.size) HP.out)).mono ?_); rintro e wa ⟨rfl, ba⟩; have hN := below_then (KB.out _ hHeld) ba (KB.out _ hHeld).size; clear ba)
            go_wp2_with fail
            refine hK.out _ _ ?_ (fun hHeld => ?_)
            · ((try dsimp only); ((try dsimp only); (first | (with_reducible exact KS.out _ hN) | (with_reducible exact hHeld) | exact KS.out _ (Below.refl _ _).drew | exact KS.out _ (Below.refl _ _))))
            clear hK K
            try simp only [Act.put, List.setIfInBounds_toArray, List.set_cons_zero, List.set_cons_succ]
            refine wpAnyH_take (i := 1) (oi := { dst := some 214, op := Op.move (Operand.tmp 213), type := 4, pos := _, after := #[{ on := 0, ground := Ground.data }, { on := 0, ground := Ground.chain }], guard := none }) (v := ?_) rfl (by kernel_rfl) (by kernel_rfl) (by kernel_rfl) (fun _ _ _ h => h) (Or.inl ⟨by rfl, ?_⟩) (by assumption) ?_
            rotate_left
            · ((intro w hSw); (try dsimp only at hSw); go_simp; (try with_reducible rfl))
            try simp only [Act.put, List.setIfInBounds_toArray, List.set_cons_zero, List.set_cons_succ]
            refine wpAnyH_take (i := 2) (oi := { dst := some 215, op := Op.fieldAddr 56 (Operand.tmp 17) 1, type := 0, pos := _, after := #[{ on := 1, ground := Ground.guard }], guard := some (1, true) }) (v := ?_) rfl (by kernel_rfl) (by kernel_rfl) (by kernel_rfl) (fun _ _ _ h => h) (Or.inl ⟨by rfl, ?_⟩) (by assumption) ?_
            rotate_left
            · ((intro w hSw); (try dsimp only at hSw); go_simp; (try with_reducible rfl))
            try simp only [Act.put, List.setIfInBounds_toArray, List.set_cons_zero, List.set_cons_succ]
            refine wpAnyH_take (i := 3) (oi := { dst := some 216, op := Op.load 54 (Operand.tmp 215), type := 54, pos := _, after := #[{ on := 2, ground := Ground.data }, { on := 1, ground := Ground.guard }], guard := some (1, true) }) (v := ?_) rfl (by kernel_rfl) (by kernel_rfl) (by kernel_rfl) (fun _ _ _ h => h) (Or.inl ⟨by rfl, ?_⟩) (by assumption) ?_
            rotate_left
            · ((intro w hSw); (try dsimp only at hSw); go_simp; (try with_reducible rfl))
            try simp only [Act.put, List.setIfInBounds_toArray, List.set_cons_zero, List.set_cons_succ]
            refine wpAnyH_take (i := 4) (oi := { dst := some 217, op := Op.call { callee := Callee.builtin Builtin.len, args := #[Operand.tmp 216], argTypes := #[54] }, type := 3, pos := _, after := #[{ on := 3, ground := Ground.data }, { on := 1, ground := Ground.guard }], guard := some (1, true) }) (v := ?_) rfl (by kernel_rfl) (by kernel_rfl) (by kernel_rfl) (fun _ _ _ h => h) (Or.inl ⟨by rfl, ?_⟩) (by assumption) ?_
            rotate_left
            · ((intro w hSw); (try dsimp only at hSw); go_simp; (try with_reducible rfl))
            try simp only [Act.put, List.setIfInBounds_toArray, List.set_cons_zero, List.set_cons_succ]
            refine wpAnyH_take (i := 5) (oi := { dst := some 218, op := Op.binOp BinOp.eql 3 (Operand.tmp 217) (Operand.const (Value.int IntKind.i64 0)) 3, type := 4, pos := _, after := #[{ on := 4, ground := Ground.data }, { on := 1, ground := Ground.guard }], guard := some (1, true) }) (v := ?_) rfl (by kernel_rfl) (by kernel_rfl) (by kernel_rfl) (fun _ _ _ h => h) (Or.inl ⟨by rfl, ?_⟩) (by assumption) ?_
            rotate_left
            · ((intro w hSw); (try dsimp only at hSw); go_simp; (try with_reducible rfl))
            try simp only [Act.put, List.setIfInBounds_toArray, List.set_cons_zero, List.set_cons_succ]
            refine wpAnyH_take (i := 6) (oi := { dst := some 219, op := Op.move (Operand.tmp 218), type := 4, pos := _, after := #[{ on := 5, ground := Ground.data }, { on := 1, ground := Ground.chain }, { on := 1, ground := Ground.guard }], guard := some (1, true) }) (v := ?_) rfl (by kernel_rfl) (by kernel_rfl) (by kernel_rfl) (fun _ _ _ h => h) (Or.inl ⟨by rfl, ?_⟩) (by assumption) ?_
            rotate_left
            · ((intro w hSw); (try dsimp only at hSw); go_simp; (try with_reducible rfl))
            try simp only [Act.put, List.setIfInBounds_toArray, List.set_cons_zero, List.set_cons_succ]
            refine wpAnyH_take (i := 7) (oi := { dst := some 220, op := Op.fieldAddr 56 (Operand.tmp 17) 2, type := 0, pos := _, after := #[{ on := 6, ground := Ground.guard }], guard := some (6, true) }) (v := undef) rfl (by kernel_rfl) (by kernel_rfl) (by kernel_rfl) (fun _ _ _ h => h) (Or.inr ⟨by rfl, rfl⟩) (by assumption) ?_
            try simp only [Act.put, List.setIfInBounds_toArray, List.set_cons_zero, List.set_cons_succ]
            refine wpAnyH_take (i := 8) (oi := { dst := some 221, op := Op.load 3 (Operand.tmp 220), type := 3, pos := _, after := #[{ on := 7, ground := Ground.data }, { on := 6, ground := Ground.guard }], guard := some (6, true) }) (v := undef) rfl (by kernel_rfl) (by kernel_rfl) (by kernel_rfl) (fun _ _ _ h => h) (Or.inr ⟨by rfl, rfl⟩) (by assumption) ?_
            try simp only [Act.put, List.setIfInBounds_toArray, List.set_cons_zero, List.set_cons_succ]
            refine wpAnyH_take (i := 9) (oi := { dst := some 222, op := Op.binOp BinOp.eql 3 (Operand.tmp 221) (Operand.const (Value.int IntKind.i64 20)) 3, type := 4, pos := _, after := #[{ on := 8, ground := Ground.data }, { on := 6, ground := Ground.guard }], guard := some (6, true) }) (v := undef) rfl (by kernel_rfl) (by kernel_rfl) (by kernel_rfl) (fun _ _ _ h => h) (Or.inr ⟨by rfl, rfl⟩) (by assumption) ?_
            try simp only [Act.put, List.setIfInBounds_toArray, List.set_cons_zero, List.set_cons_succ]
            refine wpAnyH_take (i := 10) (oi := { dst := some 223, op := Op.pick (Operand.tmp 219) (Operand.tmp 222) (Operand.const (Value.bool false)), type := 4, pos := _, after := #[{ on := 6, ground := Ground.data }, { on := 9, ground := Ground.data }, { on := 1, ground := Ground.guard }], guard := some (1, true) }) (v := ?_) rfl (by kernel_rfl) (by kernel_rfl) (by kernel_rfl) (fun _ _ _ h => h) (Or.inl ⟨by rfl, ?_⟩) (by assumption) ?_
            rotate_left
            · ((intro w hSw); (try dsimp only at hSw); go_simp; (try with_reducible rfl))
            try simp only [Act.put, List.setIfInBounds_toArray, List.set_cons_zero, List.set_cons_succ]
            refine wpAnyH_take (i := 11) (oi := { dst := some 224, op := Op.move (Operand.tmp 223), type := 4, pos := _, after := #[{ on := 10, ground := Ground.data }, { on := 6, ground := Ground.chain }, { on := 1, ground := Ground.guard }], guard := some (1, true) }) (v := ?_) rfl (by kernel_rfl) (by kernel_rfl) (by kernel_rfl) (fun _ _ _ h => h) (Or.inl ⟨by rfl, ?_⟩) (by assumption) ?_
            rotate_left
            · ((intro w hSw); (try dsimp only at hSw); go_simp; (try with_reducible rfl))
            try simp only [Act.put, List.setIfInBounds_toArray, List.set_cons_zero, List.set_cons_succ]
            refine wpAnyH_take (i := 12) (oi := { dst := some 225, op := Op.fieldAddr 56 (Operand.tmp 17) 1, type := 0, pos := _, after := #[{ on := 11, ground := Ground.guard }], guard := some (11, false) }) (v := ?_) rfl (by kernel_rfl) (by kernel_rfl) (by kernel_rfl) (fun _ _ _ h => h) (Or.inl ⟨by rfl, ?_⟩) (by assumption) ?_
            rotate_left
            · ((intro w hSw); (try dsimp only at hSw); go_simp; (try with_reducible rfl))
            try simp only [Act.put, List.setIfInBounds_toArray, List.set_cons_zero, List.set_cons_succ]
            refine wpAnyH_take (i := 13) (oi := { dst := some 226, op := Op.load 54 (Operand.tmp 225), type := 54, pos := _, after := #[{ on := 12, ground := Ground.data }, { on := 11, ground := Ground.guard }], guard := some (11, false) }) (v := ?_) rfl (by kernel_rfl) (by kernel_rfl) (by kernel_rfl) (fun _ _ _ h => h) (Or.inl ⟨by rfl, ?_⟩) (by assumption) ?_
            rotate_left
            · ((intro w hSw); (try dsimp only at hSw); go_simp; (try with_reducible rfl))
            try simp only [Act.put, List.setIfInBounds_toArray, List.set_cons_zero, List.set_cons_succ]
            refine wpAnyH_take (i := 14) (oi := { dst := some 227, op := Op.call { callee := Callee.builtin Builtin.len, args := #[Operand.tmp 226], argTypes := #[54] }, type := 3, pos := _, after := #[{ on := 13, ground := Ground.data }, { on := 11, ground := Ground.guard }], guard := some (11, false) }) (v := ?_) rfl (by kernel_rfl) (by kernel_rfl) (by kernel_rfl) (fun _ _ _ h => h) (Or.inl ⟨by rfl, ?_⟩) (by assumption) ?_
            rotate_left
            · ((intro w hSw); (try dsimp only at hSw); go_simp; (try with_reducible rfl))
            try simp only [Act.put, List.setIfInBounds_toArray, List.set_cons_zero, List.set_cons_succ]
            refine wpAnyH_take (i := 15) (oi := { dst := some 228, op := Op.binOp BinOp.gtr 3 (Operand.tmp 227) (Operand.const (Value.int IntKind.i64 0)) 3, type := 4, pos := _, after := #[{ on := 14, ground := Ground.data }, { on := 11, ground := Ground.guard }], guard := some (11, false) }) (v := ?_) rfl (by kernel_rfl) (by kernel_rfl) (by kernel_rfl) (fun _ _ _ h => h) (Or.inl ⟨by rfl, ?_⟩) (by assumption) ?_
            rotate_left
            · ((intro w hSw); (try dsimp only at hSw); go_simp; (try with_reducible rfl))
            try simp only [Act.put, List.setIfInBounds_toArray, List.set_cons_zero, List.set_cons_succ]
            refine wpAnyH_take (i := 16) (oi := { dst := some 229, op := Op.move (Operand.tmp 228), type := 4, pos := _, after := #[{ on := 15, ground := Ground.data }, { on := 11, ground := Ground.chain }, { on := 11, ground := Ground.guard }], guard := some (11, false) }) (v := ?_) rfl (by kernel_rfl) (by kernel_rfl) (by kernel_rfl) (fun _ _ _ h => h) (Or.inl ⟨by rfl, ?_⟩) (by assumption) ?_
            rotate_left
            · ((intro w hSw); (try dsimp only at hSw); go_simp; (try with_reducible rfl))
            try simp only [Act.put, List.setIfInBounds_toArray, List.set_cons_zero, List.set_cons_succ]
            refine wpAnyH_take (i := 17) (oi := { dst := some 230, op := Op.fieldAddr 56 (Operand.tmp 17) 2, type := 0, pos := _, after := #[{ on := 16, ground := Ground.guard }], guard := some (16, true) }) (v := ?_) rfl (by kernel_rfl) (by kernel_rfl) (by kernel_rfl) (fun _ _ _ h => h) (Or.inl ⟨by rfl, ?_⟩) (by assumption) ?_
            rotate_left
            · ((intro w hSw); (try dsimp only at hSw); go_simp; (try with_reducible rfl))
            try simp only [Act.put, List.setIfInBounds_toArray, List.set_cons_zero, List.set_cons_succ]
            refine wpAnyH_take (i := 18) (oi := { dst := some 231, op := Op.load 3 (Operand.tmp 230), type := 3, pos := _, after := #[{ on := 17, ground := Ground.data }, { on := 16, ground := Ground.guard }], guard := some (16, true) }) (v := ?_) rfl (by kernel_rfl) (by kernel_rfl) (by kernel_rfl) (fun _ _ _ h => h) (Or.inl ⟨by rfl, ?_⟩) (by assumption) ?_
            rotate_left
            · ((intro w hSw); (try dsimp only at hSw); go_simp; (try with_reducible rfl))
            try simp only [Act.put, List.setIfInBounds_toArray, List.set_cons_zero, List.set_cons_succ]
            refine wpAnyH_take (i := 19) (oi := { dst := some 232, op := Op.fieldAddr 56 (Operand.tmp 10) 1, type := 0, pos := _, after := #[{ on := 16, ground := Ground.guard }], guard := some (16, true) }) (v := ?_) rfl (by kernel_rfl) (by kernel_rfl) (by kernel_rfl) (fun _ _ _ h => h) (Or.inl ⟨by rfl, ?_⟩) (by assumption) ?_
            rotate_left
            · ((intro w hSw); (try dsimp only at hSw); go_simp; (try with_reducible rfl))
            try simp only [Act.put, List.setIfInBounds_toArray, List.set_cons_zero, List.set_cons_succ]
            refine wpAnyH_take (i := 20) (oi := { dst := some 233, op := Op.load 54 (Operand.tmp 232), type := 54, pos := _, after := #[{ on := 19, ground := Ground.data }, { on := 16, ground := Ground.guard }], guard := some (16, true) }) (v := ?_) rfl (by kernel_rfl) (by kernel_rfl) (by kernel_rfl) (fun _ _ _ h => h) (Or.inl ⟨by rfl, ?_⟩) (by assumption) ?_
            rotate_left
            · ((intro w hSw); (try dsimp only at hSw); go_simp; (try with_reducible rfl))
            try simp only [Act.put, List.setIfInBounds_toArray, List.set_cons_zero, List.set_cons_succ]
            refine wpAnyH_take (i := 21) (oi := { dst := some 234, op := Op.fieldAddr 56 (Operand.tmp 17) 1, type := 0, pos := _, after := #[{ on := 16, ground := Ground.guard }], guard := some (16, true) }) (v := ?_) rfl (by kernel_rfl) (by kernel_rfl) (by kernel_rfl) (fun _ _ _ h => h) (Or.inl ⟨by rfl, ?_⟩) (by assumption) ?_
            rotate_left
            · ((intro w hSw); (try dsimp only at hSw); go_simp; (try with_reducible rfl))
            try simp only [Act.put, List.setIfInBounds_toArray, List.set_cons_zero, List.set_cons_succ]
            refine wpAnyH_take (i := 22) (oi := { dst := some 235, op := Op.load 54 (Operand.tmp 234), type := 54, pos := _, after := #[{ on := 21, ground := Ground.data }, { on := 16, ground := Ground.guard }], guard := some (16, true) }) (v := ?_) rfl (by kernel_rfl) (by kernel_rfl) (by kernel_rfl) (fun _ _ _ h => h) (Or.inl ⟨by rfl, ?_⟩) (by assumption) ?_
            rotate_left
            · ((intro w hSw); (try dsimp only at hSw); go_simp; (try with_reducible rfl))
            try simp only [Act.put, List.setIfInBounds_toArray, List.set_cons_zero, List.set_cons_succ]
            refine wpAnyH_take (i := 23) (oi := { dst := some 236, op := Op.call { callee := Callee.builtin Builtin.len, args := #[Operand.tmp 235], argTypes := #[54] }, type := 3, pos := _, after := #[{ on := 22, ground := Ground.data }, { on := 16, ground := Ground.guard }], guard := some (16, true) }) (v := ?_) rfl (by kernel_rfl) (by kernel_rfl) (by kernel_rfl) (fun _ _ _ h => h) (Or.inl ⟨by rfl, ?_⟩) (by assumption) ?_
            rotate_left
            · ((intro w hSw); (try dsimp only at hSw); go_simp; (try with_reducible rfl))
            try simp only [Act.put, List.setIfInBounds_toArray, List.set_cons_zero, List.set_cons_succ]
            refine wpAnyH_take (i := 24) (oi := { dst := some 237, op := Op.binOp BinOp.sub 3 (Operand.tmp 236) (Operand.const (Value.int IntKind.i64 1)) 3, type := 3, pos := _, after := #[{ on := 23, ground := Ground.data }, { on := 16, ground := Ground.guard }], guard := some (16, true) }) (v := ?_) rfl (by kernel_rfl) (by kernel_rfl) (by kernel_rfl) (fun _ _ _ h => h) (Or.inl ⟨by rfl, ?_⟩) (by assumption) ?_
            rotate_left
            · ((intro w hSw); (try dsimp only at hSw); go_simp; (try with_reducible rfl))
            try simp only [Act.put, List.setIfInBounds_toArray, List.set_cons_zero, List.set_cons_succ]
            refine wpAnyH_take (i := 25) (oi := { dst := some 238, op := Op.indexAddr 54 (Operand.tmp 233) (Operand.tmp 237), type := 0, pos := _, after := #[{ on := 20, ground := Ground.data }, { on := 24, ground := Ground.data }, { on := 16, ground := Ground.guard }], guard := some (16, true) }) (v := ?_) rfl (by kernel_rfl) (by kernel_rfl) (by kernel_rfl) (fun _ _ _ h => h) (Or.inl ⟨by rfl, ?_⟩) (by assumption) ?_
            rotate_left
            · ((intro w hSw); (try dsimp only at hSw); go_simp; (try with_reducible rfl))
            try simp only [Act.put, List.setIfInBounds_toArray, List.set_cons_zero, List.set_cons_succ]
            refine wpAnyH_take (i := 26) (oi := { dst := some 239, op := Op.fieldAddr 72 (Operand.tmp 238) 2, type := 0, pos := _, after := #[{ on := 25, ground := Ground.data }, { on := 16, ground := Ground.guard }], guard := some (16, true) }) (v := ?_) rfl (by kernel_rfl) (by kernel_rfl) (by kernel_rfl) (fun _ _ _ h => h) (Or.inl ⟨by rfl, ?_⟩) (by assumption) ?_
            rotate_left
            · ((intro w hSw); (try dsimp only at hSw); go_simp; (try with_reducible rfl))
            try simp only [Act.put, List.setIfInBounds_toArray, List.set_cons_zero, List.set_cons_succ]
            refine wpAnyH_take (i := 27) (oi := { dst := some 240, op := Op.load 3 (Operand.tmp 239), type := 3, pos := _, after := #[{ on := 26, ground := Ground.data }, { on := 16, ground := Ground.guard }], guard := some (16, true) }) (v := ?_) rfl (by kernel_rfl) (by kernel_rfl) (by kernel_rfl) (fun _ _ _ h => h) (Or.inl ⟨by rfl, ?_⟩) (by assumption) ?_
            rotate_left
            · ((intro w hSw); (try dsimp only at hSw); go_simp; (try with_reducible rfl))
            try simp only [Act.put, List.setIfInBounds_toArray, List.set_cons_zero, List.set_cons_succ]
            refine wpAnyH_take (i := 28) (oi := { dst := some 241, op := Op.binOp BinOp.eql 3 (Operand.tmp 231) (Operand.tmp 240) 3, type := 4, pos := _, after := #[{ on := 18, ground := Ground.data }, { on := 27, ground := Ground.data }, { on := 16, ground := Ground.guard }], guard := some (16, true) }) (v := ?_) rfl (by kernel_rfl) (by kernel_rfl) (by kernel_rfl) (fun _ _ _ h => h) (Or.inl ⟨by rfl, ?_⟩) (by assumption) ?_
            rotate_left
            · ((intro w hSw); (try dsimp only at hSw); go_simp; (try with_reducible rfl))
            try simp only [Act.put, List.setIfInBounds_toArray, List.set_cons_zero, List.set_cons_succ]
            refine wpAnyH_take (i := 29) (oi := { dst := some 242, op := Op.pick (Operand.tmp 229) (Operand.tmp 241) (Operand.const (Value.bool false)), type := 4, pos := _, after := #[{ on := 16, ground := Ground.data }, { on := 28, ground := Ground.data }, { on := 11, ground := Ground.guard }], guard := some (11, false) }) (v := ?_) rfl (by kernel_rfl) (by kernel_rfl) (by kernel_rfl) (fun _ _ _ h => h) (Or.inl ⟨by rfl, ?_⟩) (by assumption) ?_
            rotate_left
            · ((intro w hSw); (try dsimp only at hSw); go_simp; (try with_reducible rfl))
            try simp only [Act.put, List.setIfInBounds_toArray, List.set_cons_zero, List.set_cons_succ]
            refine wpAnyH_take (i := 30) (oi := { dst := some 243, op := Op.pick (Operand.tmp 224) (Operand.const (Value.bool true)) (Operand.tmp 242), type := 4, pos := _, after := #[{ on := 11, ground := Ground.data }, { on := 29, ground := Ground.data }, { on := 1, ground := Ground.guard }], guard := some (1, true) }) (v := ?_) rfl (by kernel_rfl) (by kernel_rfl) (by kernel_rfl) (fun _ _ _ h => h) (Or.inl ⟨by rfl, ?_⟩) (by assumption) ?_
            rotate_left
            · ((intro w hSw); (try dsimp only at hSw); go_simp; (try with_reducible rfl))
            try simp only [Act.put, List.setIfInBounds_toArray, List.set_cons_zero, List.set_cons_succ]
            refine wpAnyH_take (i := 31) (oi := { dst := some 244, op := Op.pick (Operand.tmp 214) (Operand.tmp 243) (Operand.const (Value.bool false)), type := 4, pos := _, after := #[{ on := 1, ground := Ground.data }, { on := 30, ground := Ground.data }], guard := none }) (v := ?_) rfl (by kernel_rfl) (by kernel_rfl) (by kernel_rfl) (fun _ _ _ h => h) (Or.inl ⟨by rfl, ?_⟩) (by assumption) ?_
            rotate_left
            · ((intro w hSw); (try dsimp only at hSw); go_simp; (try with_reducible rfl))
            try simp only [Act.put, List.setIfInBounds_toArray, List.set_cons_zero, List.set_cons_succ]
            refine wpAnyH_take (i := 32) (oi := { dst := some 6, op := Op.assign (Operand.tmp 244), type := 4, pos := _, after := #[{ on := 31, ground := Ground.data }, { on := 16, ground := Ground.chain }, { on := 0, ground := Ground.phase }, { on := 1, ground := Ground.phase }, { on := 2, ground := Ground.phase }, { on := 3, ground := Ground.phase }, { on := 4, ground := Ground.phase }, { on := 5, ground := Ground.phase }, { on := 6, ground := Ground.phase }, { on := 7, ground := Ground.phase }, { on := 8, ground := Ground.phase }, { on := 9, ground := Ground.phase }, { on := 10, ground := Ground.phase }, { on := 11, ground := Ground.phase }, { on := 12, ground := Ground.phase }, { on := 13, ground := Ground.phase }, { on := 14, ground := Ground.phase }, { on := 15, ground := Ground.phase }, { on := 16, ground := Ground.phase }, { on := 17, ground := Ground.phase }, { on := 18, ground := Ground.phase }, { on := 19, ground := Ground.phase }, { on := 20, ground := Ground.phase }, { on := 21, ground := Ground.phase }, { on := 22, ground := Ground.phase }, { on := 23, ground := Ground.phase }, { on := 24, ground := Ground.phase }, { on := 25, ground := Ground.phase }, { on := 26, ground := Ground.phase }, { on := 27, ground := Ground.phase }, { on := 28, ground := Ground.phase }, { on := 29, ground := Ground.phase }, { on := 30, ground := Ground.phase }, { on := 31, ground := Ground.phase }], guard := none }) (v := ?_) rfl (by kernel_rfl) (by kernel_rfl) (by kernel_rfl) (fun _ _ _ h => h) (Or.inl ⟨by rfl, ?_⟩) (by assumption) ?_
            rotate_left
            · ((intro w hSw); (try dsimp only at hSw); go_simp; (try with_reducible rfl))
            try simp only [Act.put, List.setIfInBounds_toArray, List.set_cons_zero, List.set_cons_succ]
            refine wpAnyH_done (by kernel_rfl) ?_ _
            clear hN
            go_wp2
            go_ret
            exact ⟨rfl, below_then HBQ.out (KB.out _ hHeld) HBQ.out.size⟩


end Go.Proofs.YtabgelmmjpjejaaDoor.Uc
