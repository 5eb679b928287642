/- GridPairs: the walk. -/
import Derived.Test.YtfdjmlncdbpkgaaOg
import Derived.Deep.CutBlock
set_option linter.unusedVariables false
namespace Go.Proofs.Ytfdjmlncdbpkgaa.Pw
open Go Go.RowKit Kit Gm Gv Fl Me Cp Sl Gg Gh Gp Gq Gk Gs Gt Gu Lw Sm Pr Og

set_option maxRecDepth 100000 in
set_option maxHeartbeats 1000000 in
theorem walkNo (rows cols : Int) (a : Option Addr) (len cap : Nat) (W : World) (hs : sizeB rows cols = false) :
    Calls Try.prog 4 #[.int .i64 rows, .int .i64 cols, .slice a len cap] W fun e w' => e = .returned (.bool true) ∧ Below W.heap.size W w' := by
  have HN := Lib.hid (fun w => newNo rows cols w hs)
  clear hs
  go_enter Try.func4, Try.ntmps4
  go_wp2_with (first
    | (go_at_call 9; (first
      | ((with_reducible refine (firstC W).mono ?_); rintro e w1 ⟨rfl, hb⟩; have HB1 := Lib.hid hb; clear hb)
      | ((with_reducible refine (firstC _).mono ?_); rintro e w2 ⟨rfl, hb⟩; have HB2 := Lib.hid (below_then HB1.out hb HB1.out.size); clear hb)))
    | (go_at_call 10; (with_reducible refine (HN.out _).mono ?_); rintro e w' ⟨rfl, rfl⟩))
  go_ret
  exact ⟨rfl, HB2.out⟩
set_option maxRecDepth 100000 in
set_option maxHeartbeats 1000000 in
theorem walkLen (R C : Nat) (rows cols : Int) (a : Option Addr) (len cap : Nat) (W : World) (hR : rows = (R : Int)) (hC : cols = (C : Int)) (hs : 1 ≤ R ∧ R ≤ 60 ∧ 1 ≤ C ∧ C ≤ 200) (h : 100 < len) :
    Calls Try.prog 4 #[.int .i64 rows, .int .i64 cols, .slice a len cap] W fun e w' => e = .returned (.bool true) ∧ Below W.heap.size W w' := by
  have HR := Lib.hid hR
  have HC := Lib.hid hC
  have HS := Lib.hid hs
  clear hs hC hR
  go_enter Try.func4, Try.ntmps4
  go_wp2_with (first
    | (go_at_call 9; (first
      | ((with_reducible refine (firstC W).mono ?_); rintro e w1 ⟨rfl, hb⟩; have HB1 := Lib.hid hb; clear hb)
      | ((with_reducible refine (firstTp W _ p b R C _ HT.out).mono ?_); rintro e w2 ⟨rfl, ht⟩; have HE := Lib.hid ht; clear ht)))
    | (go_at_call 10; (with_reducible refine (newT W R C _ HB1.out HS.out _ rfl rows cols HR.out HC.out).mono ?_); rintro e w' ⟨p, b, rfl, ht⟩; have HT := Lib.hid ht; clear ht))
  go_ret
  exact ⟨rfl, HE.out.bel⟩
theorem X5 {j x C : Nat} (h : (j : Int).tmod (C : Int) = (x : Int)) : x ≤ j := by
  rw [IntWalk.rem_in _ _ (Int.natCast_nonneg _), ← Int.natCast_emod] at h
  have := Nat.mod_le j C
  omega
set_option maxRecDepth 100000 in
set_option maxHeartbeats 8000000 in
theorem mainW (R0 C0 len : Nat) (a : Option Addr) (cap : Nat) (F : Nat → GO) (W : World) (hs : 1 ≤ R0 ∧ R0 ≤ 60 ∧ 1 ≤ C0 ∧ C0 ≤ 200) (hl : len ≤ 100) (hops : IsOps W a len cap F) :
    Calls Try.prog 4 #[.int .i64 (R0 : Int), .int .i64 (C0 : Int), .slice a len cap] W fun e w' => e = .returned (.bool true) ∧ Below W.heap.size W w' := by
  have HS := Lib.hid hs
  have HOps := Lib.hid hops
  have HI0 := Lib.hid (iv_new R0 C0)
  have t1 : decide (100 < (len : Int)) = false := by simp; omega
  have t2 : decide (100 < len) = false := by simp; omega
  clear hs hops
  go_enter Try.func4, Try.ntmps4
  go_wp2_with (first
    | (go_at_call 9; (with_reducible refine (firstC W).mono ?_); rintro e w1 ⟨rfl, hb⟩; have HB1 := Lib.hid hb; clear hb)
    | (go_at_call 10; (with_reducible refine (newT W R0 C0 _ HB1.out HS.out _ rfl (R0 : Int) (C0 : Int) rfl rfl).mono ?_); rintro e w' ⟨p, b0, rfl, ht⟩; have HT0 := Lib.hid ht; clear ht))
  go_loopw [9] (fun s9 wr => ∃ (i b R C : Nat) (L : List Ce), i ≤ len ∧ s9 = .int .i64 i ∧ Hid (Tp W wr p b R C L) ∧ Hid (Iv R C L)) (fun s9 _ => len - (intOf s9).toNat)
  case atStart => exact ⟨0, _, _, _, _, Nat.zero_le _, rfl, HT0, HI0⟩
  case round =>
    clear HT0 HI0 HS
    obtain ⟨i, b, R, C, L, hi, rfl, HT, HI⟩ := hrel
    by_cases hlt : i < len
    · obtain ⟨ob, off, rfl, hop⟩ := op_at HOps.out i hlt
      have hop2 := hop _ HT.out.bel
      clear hop
      generalize F i = g at hop2
      obtain ⟨gk, gr, gc, gn, xr, xf, xg, xb, xw⟩ := g
      obtain ⟨o0, o1, o2, o3, o4, o5, o6, o7, o8⟩ := hop2
      dsimp only at o0 o1 o2 o3 o4 o5 o6 o7 o8
      have hfr := Og.Tp.fresh HT.out
      have HT1 := Lib.hid (HT.out.then_ (below_one wr (.cells #[.int .i64 0, .int .i64 0, .int .i64 0, .int .i64 0, .int .i32 0, .int .i64 0, .int .i64 0, .int .i64 0, .int .i64 0] 39)))
      have HO1 := Lib.hid (zero_op wr)
      have HFr := Lib.hid hfr
      clear hfr
      generalize hwa : wr.alloc (.cells #[.int .i64 0, .int .i64 0, .int .i64 0, .int .i64 0, .int .i32 0, .int .i64 0, .int .i64 0, .int .i64 0, .int .i64 0] 39) = wa at HT1 HO1
      generalize hk : wr.heap.size = k at HO1 HFr
      go_upto_block 2 with ((with_reducible refine wpList_store_op rfl _ _ rfl k ⟨gk, gr, gc, gn, ⟨xr, xf, xg, xb, xw⟩⟩ zeroO rfl rfl HO1.out ?_); intro w2 ho2 hk2; have HO2 := Lib.hid ho2; have HT2 := Lib.hid (Og.Tp.other HT1.out hk2 HFr.out.1 HFr.out.2.1 HFr.out.2.2); clear ho2 hk2 o0 o1 o2 o3 o4 o5 o6 o7 o8 hwa hk; obtain ⟨k0, k1, k2, k3, k4, k5, k6, k7, k8⟩ := HO2.out.nine; dsimp only at k0 k1 k2 k3 k4 k5 k6 k7 k8)
      go_cut [10] from 36 to 201 (fun s10 wx => ∃ o : Nat, s10 = .pointer (some ⟨o, 0, none⟩) ∧ Ti W wx p)
      case first =>
        by_cases e0 : gk = 0
        · subst e0
          go_wp2_with (go_at_call 21; (with_reducible refine (putI W _ p b R C L HT2.out HI.out gr gc ⟨xr, xf, xg, xb, xw⟩).mono ?_); rintro e w5 ⟨rfl, ht⟩; have HTI := Lib.hid ht; clear ht)
          go_meet
          exact ⟨_, rfl, HTI.out⟩
        · have d0 : (gk == 0) = false := by simpa using e0
          clear e0
          by_cases e1 : gk = 1
          · subst e1
            go_wp2_with (go_at_call 22; (with_reducible refine (eraseI W _ p b R C L HT2.out HI.out gr gc gn xf xg xb).mono ?_); rintro e w5 ⟨rfl, ht⟩; have HTI := Lib.hid ht; clear ht)
            go_meet
            exact ⟨_, rfl, HTI.out⟩
          · have d1 : (gk == 1) = false := by simpa using e1
            clear e1
            by_cases e2 : gk = 2
            · subst e2
              go_wp2_with (go_at_call 23; (with_reducible refine (shiftI W _ p b R C L HT2.out HI.out gr gc gn xf xg xb).mono ?_); rintro e w5 ⟨rfl, ht⟩; have HTI := Lib.hid ht; clear ht)
              go_meet
              exact ⟨_, rfl, HTI.out⟩
            · have d2 : (gk == 2) = false := by simpa using e2
              clear e2
              by_cases e3 : gk = 3
              · subst e3
                go_wp2_with (go_at_call 24; (with_reducible refine (scrollI W _ p b R C L HT2.out HI.out gr gc gn xf xg xb).mono ?_); rintro e w5 ⟨rfl, ht⟩; have HTI := Lib.hid ht; clear ht)
                go_meet
                exact ⟨_, rfl, HTI.out⟩
              · have d3 : (gk == 3) = false := by simpa using e3
                clear e3
                by_cases e4 : gk = 4
                · subst e4
                  go_wp2_with (go_at_call 25; (with_reducible refine (resizeI W _ p b R C L HT2.out HI.out gr gc).mono ?_); rintro e w5 ⟨v, rfl, ht⟩; have HTI := Lib.hid ht; clear ht)
                  go_meet
                  exact ⟨_, rfl, HTI.out⟩
                · have d4 : (gk == 4) = false := by simpa using e4
                  clear e4
                  by_cases e5 : gk = 5
                  · subst e5
                    go_wp2_with (go_at_call 26; (with_reducible refine (fillI W _ p b R C L HT2.out HI.out ⟨xr, xf, xg, xb, xw⟩).mono ?_); rintro e w5 ⟨rfl, ht⟩; have HTI := Lib.hid ht; clear ht)
                    go_meet
                    exact ⟨_, rfl, HTI.out⟩
                  · have d5 : (gk == 5) = false := by simpa using e5
                    clear e5
                    go_wp2
                    go_meet
                    exact ⟨_, rfl, b, R, C, L, HT2.out, HI.out⟩
      case rest =>
        obtain ⟨o, rfl, b2, R2, C2, L2, ht, hi2⟩ := hcut
        have HT3 := Lib.hid ht
        have HI2 := Lib.hid hi2
        obtain ⟨n, hn⟩ : ∃ n, L2.length = n := ⟨_, rfl⟩
        have HN := Lib.hid hn
        have Hn := Lib.hid (show n ≤ 12000 by rw [← hn]; exact ht.g.small)
        have HC1 := Lib.hid ht.g.c1
        have HC2 := Lib.hid ht.g.c2
        have HL0 := Lib.hid (show 0 < L2.length from ht.g.view.pos)
        have r1 := ht.g.r1
        have r2 := ht.g.r2
        have c1 := ht.g.c1
        have c2 := ht.g.c2
        have hm : (C2 : Int) * (R2 : Int) = (n : Int) := by rw [← hn, hi2.len, Int.mul_comm]; exact (Int.natCast_mul _ _).symm
        have E1 := Lib.hid (wr_of (x := (C2 : Int) * (R2 : Int)) (by rw [hm]; exact Int.natCast_nonneg _) (by rw [hm]; have := Hn.out; omega) hm)
        clear ht hi2 hm HT2 HO2 HT1 HO1 HT HI k0 k1 k2 k3 k4 k5 k6 k7 k8 hn
        have e1 := E1.out.1
        have e2 := E1.out.2
        go_wp2_with (first
          | (go_at_call 18; (with_reducible refine (cellsC p b2 R2 C2 _ L2 _ HT3.out.g.view).mono ?_); rintro e w6 ⟨kb, kc, rfl, hkb, hkn, hkc, hcs, hb⟩; have HT5 := Lib.hid (HT3.out.then_ hb); have HCS := Lib.hid hcs; clear hcs hb hkb HT3; rw [HN.out] at hkn ⊢)
          | (go_at_call 16; (with_reducible refine (colsT W p b2 R2 C2 L2 _ HT5.out).mono ?_); rintro e w' ⟨rfl, rfl⟩)
          | (go_at_call 15; (with_reducible refine (rowsT W p b2 R2 C2 L2 _ HT5.out).mono ?_); rintro e w' ⟨rfl, rfl⟩))
        clear e1 e2 r1 r2 c1 c2
        go_loopw [13] (fun s13 wr => ∃ j : Nat, j ≤ n ∧ s13 = .int .i64 j ∧ Hid (Tp W wr p b2 R2 C2 L2) ∧ Hid (CS wr kb L2)) (fun s13 _ => n - (intOf s13).toNat)
        case atStart => exact ⟨0, Nat.zero_le _, rfl, HT5, HCS⟩
        case round =>
          obtain ⟨j, hj, rfl, HTj, HCj⟩ := hrel
          by_cases hjn : j < n
          · have hjL : j < L2.length := by rw [HN.out]; exact hjn
            obtain ⟨hmay, hway⟩ := iv_at HI2.out HC1.out j L2[j] (List.getElem?_eq_getElem hjL)
            have c0 : wr.cell? ⟨kb, j * 5, none⟩ = some (.int .i32 (L2[j]).r) := HCj.out j hjL 0 (by omega)
            have c1 : wr.cell? ⟨kb, j * 5 + 1, none⟩ = some (.int .i64 (L2[j]).fl) := HCj.out j hjL 1 (by omega)
            have c2 : wr.cell? ⟨kb, j * 5 + 2, none⟩ = some (.int .i64 (L2[j]).fg) := HCj.out j hjL 2 (by omega)
            have c3 : wr.cell? ⟨kb, j * 5 + 3, none⟩ = some (.int .i64 (L2[j]).bg) := HCj.out j hjL 3 (by omega)
            have c4 : wr.cell? ⟨kb, j * 5 + 4, none⟩ = some (.int .i64 (L2[j]).wd) := HCj.out j hjL 4 (by omega)
            have hnb1 : ∀ d, L2[j + 1]? = some d → wr.cell? ⟨kb, (j + 1) * 5 + 4, none⟩ = some (.int .i64 d.wd) := fun d hd => by
              obtain ⟨hd1, hd2⟩ := List.getElem?_eq_some_iff.1 hd
              rw [← hd2]; exact HCj.out (j + 1) hd1 4 (by omega)
            have hnb2 : ∀ d, L2[j - 1]? = some d → wr.cell? ⟨kb, (j - 1) * 5 + 4, none⟩ = some (.int .i64 d.wd) := fun d hd => by
              obtain ⟨hd1, hd2⟩ := List.getElem?_eq_some_iff.1 hd
              rw [← hd2]; exact HCj.out (j - 1) hd1 4 (by omega)
            have hj1n : L2[j + 1]? ≠ none → j + 1 < n := fun h => by
              by_cases h2 : j + 1 < n
              · exact h2
              · exact absurd (List.getElem?_eq_none (by rw [HN.out]; omega)) h
            obtain ⟨c, hc⟩ : ∃ c, c = L2[j] := ⟨_, rfl⟩
            rw [← hc] at hmay hway c0 c1 c2 c3 c4
            clear hc
            obtain ⟨cr, cf, cg, cb, cw⟩ := c
            dsimp only at hway c0 c1 c2 c3 c4
            have HMay := Lib.hid (fun w => mayK ⟨cr, cf, cg, cb, cw⟩ true w hmay)
            have hmod : (j : Int).tmod (C2 : Int) = ((j % C2 : Nat) : Int) := by rw [IntWalk.rem_in _ _ (Int.natCast_nonneg _)]; exact (Int.natCast_emod j C2).symm
            obtain ⟨x, hx⟩ : ∃ x, x = j % C2 := ⟨_, rfl⟩
            rw [← hx] at hmod hway
            have z1 : ¬ (C2 : Int) = 0 := by have := HC1.out; omega
            have z2 : ¬ C2 = 0 := by have := HC1.out; omega
            have z3 : C2 ≤ 200 := HC2.out
            have z4 : x < C2 := by rw [hx]; exact Nat.mod_lt _ (by omega)
            have z5 : n ≤ 12000 := Hn.out
            clear hmay hx
            rcases hway with hw | ⟨hw, h1, d, hd, hdw⟩ | ⟨hw, h1, d, hd, hdw⟩
            · subst hw
              clear hnb1 hnb2 hj1n hmod
              go_wp2_with (go_at_call 27; (with_reducible refine (HMay.out _).mono ?_); rintro e w7 ⟨rfl, hb⟩; have HT6 := Lib.hid (HTj.out.then_ hb); have HC6 := Lib.hid (CS.then_ HCj.out HL0.out hb); clear hb)
              exact ⟨⟨j + 1, by omega, by go_num, HT6, HC6⟩, by simp only [intOf]; omega⟩
            · subst hw
              have e4 := hnb1 d hd
              rw [hdw] at e4
              have e5 : j + 1 < n := hj1n (by rw [hd]; simp)
              have e6 : ((x : Int) == (C2 : Int) - 1) = false := by rw [beq_eq_false_iff_ne]; omega
              clear hnb1 hnb2 hj1n hd hdw
              go_wp2_with (go_at_call 27; (with_reducible refine (HMay.out _).mono ?_); rintro e w7 ⟨rfl, hb⟩; have HT6 := Lib.hid (HTj.out.then_ hb); have HC6 := Lib.hid (CS.then_ HCj.out HL0.out hb); clear hb)
              exact ⟨⟨j + 1, by omega, by go_num, HT6, HC6⟩, by simp only [intOf]; omega⟩
            · subst hw
              obtain ⟨y, hy⟩ : ∃ y, j = y + 1 := ⟨j - 1, by have := h1; have h5 : x ≤ j := X5 hmod; omega⟩
              have e4 := hnb2 d hd
              rw [hdw, hy, show y + 1 - 1 = y by omega] at e4
              have e6 : ((x : Int) == 0) = false := by rw [beq_eq_false_iff_ne]; omega
              have e7 : (j : Int) - 1 = (y : Int) := by omega
              have e8 : y < n := by omega
              clear hnb1 hnb2 hj1n hd hdw hy
              go_wp2_with (go_at_call 27; (with_reducible refine (HMay.out _).mono ?_); rintro e w7 ⟨rfl, hb⟩; have HT6 := Lib.hid (HTj.out.then_ hb); have HC6 := Lib.hid (CS.then_ HCj.out HL0.out hb); clear hb)
              exact ⟨⟨j + 1, by omega, by go_num, HT6, HC6⟩, by simp only [intOf]; omega⟩
          · obtain rfl : n = j := by omega
            go_wp2
            exact ⟨⟨i + 1, b2, R2, C2, L2, by omega, by go_num, HTj, HI2⟩, by simp only [intOf]; omega⟩
    · obtain rfl : len = i := by omega
      go_wp2_with (go_at_call 9; (with_reducible refine (firstTp W _ p b R C _ HT.out).mono ?_); rintro e w8 ⟨rfl, ht⟩; have HE := Lib.hid ht; clear ht)
      go_ret
      exact ⟨rfl, HE.out.bel⟩
/-- GridPairs. -/
theorem walk (rows cols : Int) (a : Option Addr) (len cap : Nat) (F : Nat → GO) (W : World) (_ : (Lit.int .i64 rows).wf = true) (_ : (Lit.int .i64 cols).wf = true) (hops : IsOps W a len cap F) :
    Calls Try.prog 4 #[.int .i64 rows, .int .i64 cols, .slice a len cap] W fun e w' => e = .returned (.bool true) ∧ Below W.heap.size W w' := by
  by_cases hs : 1 ≤ rows ∧ rows ≤ 60 ∧ 1 ≤ cols ∧ cols ≤ 200
  · obtain ⟨R, hR⟩ := Int.eq_ofNat_of_zero_le (show 0 ≤ rows by omega)
    obtain ⟨C, hC⟩ := Int.eq_ofNat_of_zero_le (show 0 ≤ cols by omega)
    have hS2 : 1 ≤ R ∧ R ≤ 60 ∧ 1 ≤ C ∧ C ≤ 200 := by omega
    by_cases h1 : 100 < len
    · exact walkLen R C rows cols a len cap W hR hC hS2 h1
    · subst hR hC
      exact mainW R C len a cap F W hS2 (by omega) hops
  · refine walkNo rows cols a len cap W ?_
    unfold sizeB
    exact decide_eq_false (by omega)
end Go.Proofs.Ytfdjmlncdbpkgaa.Pw
