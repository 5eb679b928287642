/- The document's Hmac. -/
import Derived.Test.YtmfkfpgomglplaaDoorDs
import Derived.RegionTactic
import Derived.ChangeAlike
set_option linter.unusedVariables false
namespace Go.Proofs.YtmfkfpgomglplaaDoor.Dh
open Go Go.RowKit Kit Mb Sha Ap Mc1 Sc Mx Sb Pd Su Pa Hm Mm Tg Mf Pk Se Op Dq Db Ds


def stq (l : List Nat) (c i : Nat) : List Nat := ((zs64 l).take i).map (fun x => x ^^^ c) ++ List.replicate (64 - i) 0
theorem stq_len (l : List Nat) (c i : Nat) (h : l.length ≤ 64) (hi : i ≤ 64) : (stq l c i).length = 64 := by
  have := zs64_len l h
  simp [stq]; omega
theorem stq_zero (l : List Nat) (c : Nat) : stq l c 0 = List.replicate 64 0 := by simp [stq]
theorem stq_all (l : List Nat) (c : Nat) (h : l.length ≤ 64) : stq l c 64 = padK l c := by
  rw [← stp_all l c h, stp, stq, List.drop_eq_nil_of_le (by rw [zs64_len l h]; omega)]; rfl
theorem stq_next (l : List Nat) (c i : Nat) (h : l.length ≤ 64) (hi : i < 64) : (stq l c i).set i ((zs64 l).getD i 0 ^^^ c) = stq l c (i + 1) := by
  have hz := zs64_len l h
  have ht : (zs64 l).take (i + 1) = (zs64 l).take i ++ [(zs64 l)[i]] := List.take_succ_eq_append_getElem (by omega)
  have hg : (zs64 l).getD i 0 = (zs64 l)[i] := by rw [List.getD_eq_getElem?_getD]; simp [hz, hi]
  have hle : (((zs64 l).take i).map (fun x => x ^^^ c)).length = i := by simp; omega
  have hr : List.replicate (64 - i) 0 = 0 :: List.replicate (64 - (i + 1)) 0 := by rw [← List.replicate_succ]; congr 1; omega
  rw [stq, stq, ht, hg, hr, List.set_append_right _ _ (by omega), hle, Nat.sub_self, List.set_cons_zero, List.map_append, List.append_assoc]; rfl
theorem zs64_in (l : List Nat) (i : Nat) (h : i < l.length) : (zs64 l).getD i 0 = l[i] := by
  rw [List.getD_eq_getElem?_getD, zs64, List.getElem?_append_left h]; simp [h]
theorem zs64_out (l : List Nat) (i : Nat) (h : l.length ≤ i) : (zs64 l).getD i 0 = 0 := by
  rw [List.getD_eq_getElem?_getD, zs64, List.getElem?_append_right h]
  cases hx : (List.replicate (64 - l.length) 0)[i - l.length]? with
  | none => rfl
  | some v => have := (List.mem_replicate.1 (List.mem_of_getElem? hx)).2; simp [this]
theorem bb_other {w : World} {g b i : Nat} {l : List Nat} {v : Value} (h : Bb w g l) (hb : g ≠ b) : Bb (w.setCell ⟨b, i, none⟩ v) g l := by
  unfold Bb at *; rw [heap_setCell_other w _ _ _ hb]; exact h
/-- a slice's bytes behind a row of one's own, that row's block alone being written. -/
theorem app_slg {ops : Array Oper} {rest : List Oper} {o : Oper} {a : Act} {Q : Exit → Act → World → Prop} {w : World} (hgd : o.guard = none) (s x : Operand)
    (ho : o.op = .call { callee := .builtin .append, args := #[s, x], argTypes := #[22, 22] }) (base : Nat) (v : Value) (l : List Nat) (hs : a.eval s = v) (hown : Rb w base v l)
    (ad : Option Addr) (n cap : Nat) (m : List Nat) (hx : a.eval x = .slice ad n cap) (hn : n = m.length) (h0 : ad = none → cap = 0) (hm : Sl w ad m) (hlen : l.length + m.length ≤ 1000000) (hbase : base ≤ w.heap.size)
    (h : ∀ v' w', Rb w' base v' (l ++ m) → w.grownBy w' v.ownBlock → wpList Tryd.prog ops Q rest (a.put o.dst v') w') : wpList Tryd.prog ops Q (o :: rest) a w := by
  subst hn
  obtain ⟨i0, hi, hz0, hz1, hz2⟩ := info_parts info5
  cases ad with
  | none =>
    obtain rfl := h0 rfl
    have hm0 : m = [] := by
      rcases hm with h | ⟨_, _, e, _⟩
      · exact h
      · cases e
    subst hm0
    refine wpList_append_own_none hgd s x 22 ho base 5 i0 1 Tryd.underlying22 hi v _ _ hs hown hx ?_
    exact h v w (by rw [List.append_nil]; exact hown) ⟨rfl, rfl, rfl, Nat.le_refl _, fun _ _ _ => rfl⟩
  | some y =>
    refine wpList_append_own w hgd s x 22 ho base 5 i0 (.int .u8 0) 1 1 Tryd.underlying22 hi hz0 hz1 hz2 rfl (by decide) v _ _ hs hown y m.length cap (cellsOf m) hx (by simp [cellsOf]) (sl_cells hm) cellsOf_one (by unfold maxLen; omega) (by omega) hbase ?_
    intro v' w' h2 h3 _
    refine h v' w' ?_ h3
    rw [cellsOf_app] at h2
    exact rb_of h2 (by simp) rfl
theorem dsumG (a : Option Addr) (n cap : Nat) (l : List Nat) (w : World) (hn : n = l.length) (hs : Sl w a l) (h0 : a = none → cap = 0) (hcap : l.length ≤ cap) (hl : ∀ c ∈ l, c < 256) (hlen : l.length ≤ 900000) :
    Calls Tryd.prog 17 #[.slice a n cap] w (SumP l w) := by subst hn; exact dsumC a cap l w hs h0 hcap hl hlen
/-- two rows of noughts, of one's own, apart. -/
def Two0 (W : World) (gi go : Nat) (w : World) : Prop := Bb w gi (List.replicate 64 0) ∧ Bb w go (List.replicate 64 0) ∧ gi ≠ go ∧ W.heap.size ≤ gi ∧ W.heap.size ≤ go ∧ Below W.heap.size W w
theorem two_a (w : World) (Z : Array Value) (h : Z = (cellsOf (List.replicate 64 0)).toArray) : Two0 w w.heap.size (w.heap.size + 1) ((w.alloc (.cells Z 5)).alloc (.cells Z 5)) := by
  subst h
  refine ⟨?_, ?_, by omega, Nat.le_refl _, by omega, ((Below.refl _ w).alloc (Nat.le_refl _) _).alloc (by simp) _⟩
  · unfold Bb; rw [Below.heap_alloc _ _ _ (by simp)]; exact heap_alloc_last w _
  · unfold Bb; have := heap_alloc_last (w.alloc (.cells (cellsOf (List.replicate 64 0)).toArray 5)) (.cells (cellsOf (List.replicate 64 0)).toArray 5); simpa using this
theorem two_b (w : World) (Z : Array Value) (h : Z = (cellsOf (List.replicate 64 0)).toArray) : Two0 w (w.heap.size + 1) w.heap.size ((w.alloc (.cells Z 5)).alloc (.cells Z 5)) := by
  obtain ⟨a, b, c, d, e, f⟩ := two_a w Z h
  exact ⟨b, a, fun h => c h.symm, e, d, f⟩

set_option maxRecDepth 100000 in
set_option maxHeartbeats 4000000 in
theorem dhmacL (ka : Option Addr) (kc : Nat) (key : List Nat) (ta : Option Addr) (tc : Nat) (text : List Nat) (w : World) (hs : Sl w ka key) (h0 : ka = none → kc = 0) (hcap : key.length ≤ kc) (hl : ∀ c ∈ key, c < 256) (hlen : key.length ≤ 800000)
    (ts : Sl w ta text) (t0 : ta = none → tc = 0) (tcap : text.length ≤ tc) (tl : ∀ c ∈ text, c < 256) (tlen : text.length ≤ 800000) (hk : 64 < key.length) :
    Calls Tryd.prog 19 #[.slice ka key.length kc, .slice ta text.length tc] w (HmP key text w) := by
  have HS := Lib.hid hs
  have HNO := Lib.hid h0
  have HCP := Lib.hid hcap
  have HX := Lib.hid hl
  have HN := Lib.hid (show key.length ≤ 900000 by omega)
  have HTS := Lib.hid ts
  have HT0 := Lib.hid t0
  have HTL := Lib.hid tl
  have HTN := Lib.hid tlen
  have hmk : ∀ w : World, (Instr.makeSlice 22 (.int .i64 64) (.int .i64 64)).run Tryd.prog w = .ok (.slice (some ⟨w.heap.size, 0, none⟩) 64 64) (w.alloc (.cells (madeCells #[.int .u8 0] 64) 5)) := run_make_row' (P := Tryd.prog) 22 5 (.int .u8 0) 1 Tryd.underlying22 info5 rfl .i64 .i64 64 (by omega) (by omega)
  obtain ⟨Z, hZ⟩ : ∃ Z : Array Value, Z = madeCells #[.int .u8 0] 64 := ⟨_, rfl⟩
  have HZ := Lib.hid (show Z = (cellsOf (List.replicate 64 0)).toArray by rw [hZ]; kernel_rfl)
  rw [← hZ] at hmk
  clear hZ

  obtain ⟨K, hK⟩ : ∃ K, K = sha key := ⟨_, rfl⟩
  have HMK := Lib.hid (show keyL key = K by unfold keyL; rw [if_pos hk, hK])
  have HKL := Lib.hid (show K.length ≤ 64 by rw [hK, sha_len]; omega)
  have HKX := Lib.hid (show ∀ c ∈ K, c < 256 by rw [hK]; exact sha_lt key)
  have HKK := Lib.hid hK
  have t1 : 64 < (key.length : Int) := by omega
  clear hs h0 hcap hl hlen ts t0 tcap tl tlen hK hk
  go_enter Tryd.func19, Tryd.ntmps19
  go_wp2_with (go_at_call 17; (with_reducible refine (dsumC ka kc key w HS.out HNO.out HCP.out HX.out HN.out).mono ?_); rintro e w1 ⟨v1, rfl, o1, b1⟩; rw [← HKK.out] at o1; obtain ⟨ka1, kc1, rfl, hkc, hks, hk0, hkx⟩ := rb_sl o1; have HB1 := Lib.hid b1; have HK1 := Lib.hid hks; have HTS1 := Lib.hid (sl_then b1 (Nat.le_refl _) HTS.out); clear b1 o1 hkc hks hk0 hkx)
  clear t1

  go_region
  · have HTW := Lib.hid (two_a w1 Z HZ.out)
    generalize (w1.alloc (.cells Z 5)).alloc (.cells Z 5) = W3 at *
    generalize w1.heap.size + 1 = go at *
    generalize w1.heap.size = gi at *
    clear hmk
    as_aux_lemma =>
      go_wp2
      go_loopw [7] (fun s7 wr => ∃ i : Nat, i ≤ 64 ∧ s7 = .int .i64 (i : Int) ∧ Bb wr gi (stq K 54 i) ∧ Bb wr go (stq K 92 i) ∧ Below w1.heap.size w1 wr) (fun s7 _ => 64 - (intOf s7).toNat)
      case atStart => exact ⟨0, by omega, rfl, by rw [stq_zero]; exact HTW.out.1, by rw [stq_zero]; exact HTW.out.2.1, HTW.out.2.2.2.2.2.drew⟩
      case round =>
        obtain ⟨i, hi, rfl, hA, hC, hB⟩ := hrel
        by_cases hlt : i < 64
        · have cA := hA.cell i (by rw [stq_len K 54 i HKL.out hi]; exact hlt)
          have fA := hA.free i
          have cC := hC.cell i (by rw [stq_len K 92 i HKL.out hi]; exact hlt)
          have fC := hC.free i
          obtain ⟨z, hz⟩ : ∃ z, z = (zs64 K).getD i 0 := ⟨_, rfl⟩
          have hz8 : z < 256 := by rw [hz]; exact zs64_lt K HKX.out i
          obtain ⟨X1, hX1⟩ : ∃ x, x = z ^^^ 54 := ⟨_, rfl⟩
          obtain ⟨X2, hX2⟩ : ∃ x, x = z ^^^ 92 := ⟨_, rfl⟩
          have n1 : (stq K 54 i).set i X1 = stq K 54 (i + 1) := by rw [hX1, hz]; exact stq_next K 54 i HKL.out hlt
          have n2 : (stq K 92 i).set i X2 = stq K 92 (i + 1) := by rw [hX2, hz]; exact stq_next K 92 i HKL.out hlt
          have hB' := hB
          have NX := Lib.hid (show ∀ W, W = (wr.setCell ⟨gi, i, none⟩ (.int .u8 (X1 : Int))).setCell ⟨go, i, none⟩ (.int .u8 (X2 : Int)) → Bb W gi (stq K 54 (i + 1)) ∧ Bb W go (stq K 92 (i + 1)) ∧ Below w1.heap.size w1 W from fun W hW => by
            subst hW
            have ne := HTW.out.2.2.1
            refine ⟨?_, ?_, (hB.setCell (p := ⟨gi, i, none⟩) HTW.out.2.2.2.1 _).setCell (p := ⟨go, i, none⟩) HTW.out.2.2.2.2.1 _⟩
            · rw [← n1]; exact bb_other (hA.set i X1) ne
            · rw [← n2]; exact Bb.set (bb_other hC (fun h => ne h.symm)) i X2)
          have gC : (wr.setCell ⟨gi, i, none⟩ (.int .u8 (X1 : Int))).cell? ⟨go, i, none⟩ = _ := past_set cC (fun h => HTW.out.2.2.1 h.symm)
          have gF : (wr.setCell ⟨gi, i, none⟩ (.int .u8 (X1 : Int))).frozen? ⟨go, i, none⟩ = false := Bb.free (bb_other (v := .int .u8 (X1 : Int)) (i := i) hC (fun h => HTW.out.2.2.1 h.symm)) i
          have HNE := Lib.hid HTW.out.2.2.1
          have hS := sl_then hB (Nat.le_refl _) HK1.out
          clear hA hC hB hB' n1 n2
          by_cases hk : i < K.length
          · have hki : K[i] = z := by rw [hz, zs64_in K i hk]
            obtain ⟨b, off, rfl, hcl⟩ := sl_at hS (by omega)
            have ck := hcl i hk
            rw [hki] at ck
            have x1 : bits .xor .u8 (z : Int) 54 = (X1 : Int) := by rw [hX1]; exact u8_xn z 54 hz8 (by decide)
            have x2 : bits .xor .u8 (z : Int) 92 = (X2 : Int) := by rw [hX2]; exact u8_xn z 92 hz8 (by decide)
            clear hcl hki hz hX1 hX2 hS hz8
            generalize (stq K 54 i).getD i 0 = Y1 at *
            generalize (stq K 92 i).getD i 0 = Y2 at *
            go_wp2
            go_roundw
            case rel => exact ⟨i + 1, by omega, by go_num, NX.out _ rfl⟩
            case measure => simp [intOf]; omega
          · have hz0 : z = 0 := by rw [hz, zs64_out K i (by omega)]
            have x1 : bits .xor .u8 0 54 = (X1 : Int) := by rw [hX1, hz0]; exact u8_xn 0 54 (by decide) (by decide)
            have x2 : bits .xor .u8 0 92 = (X2 : Int) := by rw [hX2, hz0]; exact u8_xn 0 92 (by decide) (by decide)
            have tk : ¬ (i : Int) < (K.length : Int) := by omega
            clear hz hX1 hX2 hS hz0 hz8
            generalize (stq K 54 i).getD i 0 = Y1 at *
            generalize (stq K 92 i).getD i 0 = Y2 at *
            go_wp2
            go_roundw
            case rel => exact ⟨i + 1, by omega, by go_num, NX.out _ rfl⟩
            case measure => simp [intOf]; omega
        · obtain rfl : i = 64 := by omega
          obtain ⟨P, hP⟩ : ∃ P, P = padK K 54 := ⟨_, rfl⟩
          obtain ⟨PO, hPO⟩ : ∃ PO, PO = padK K 92 := ⟨_, rfl⟩
          have lp := stq_len K 54 64 HKL.out (Nat.le_refl _)
          have lo := stq_len K 92 64 HKL.out (Nat.le_refl _)
          have oA := hA.own (base := w1.heap.size) HTW.out.2.2.2.1 (by rw [lp]; decide)
          have oC := hC.own (base := w1.heap.size) HTW.out.2.2.2.2.1 (by rw [lo]; decide)
          rw [lp, stq_all K 54 HKL.out, ← hP] at oA
          rw [lo, stq_all K 92 HKL.out, ← hPO] at oC
          have HOA := Lib.hid oA
          have HOC := Lib.hid oC
          have HNE := Lib.hid HTW.out.2.2.1
          have HGI := Lib.hid HTW.out.2.2.2.1
          have HBW := Lib.hid hB
          have HTSR := Lib.hid (sl_then hB (Nat.le_refl _) HTS1.out)
          have HPL := Lib.hid (show P.length = 64 by rw [hP]; exact padK_len K 54 HKL.out)
          have HPOL := Lib.hid (show PO.length = 64 by rw [hPO]; exact padK_len K 92 HKL.out)
          have HPX := Lib.hid (show ∀ c ∈ P, c < 256 by rw [hP]; exact padK_lt K 54 HKX.out (by omega))
          have HPOX := Lib.hid (show ∀ c ∈ PO, c < 256 by rw [hPO]; exact padK_lt K 92 HKX.out (by omega))
          obtain ⟨L, hL⟩ : ∃ L, L = P ++ text := ⟨_, rfl⟩
          obtain ⟨SI, hSI⟩ : ∃ SI, SI = sha L := ⟨_, rfl⟩
          obtain ⟨FL, hFL⟩ : ∃ FL, FL = PO ++ SI := ⟨_, rfl⟩
          have HL := Lib.hid hL
          have HSI := Lib.hid hSI
          have HFL := Lib.hid hFL
          have HMA := Lib.hid (show hmac key text = sha FL by unfold hmac; rw [HMK.out, hFL, hSI, hL, hP, hPO])
          have HPT := Lib.hid (show P.length + text.length ≤ 1000000 by rw [HPL.out]; have := HTN.out; omega)
          have HLL := Lib.hid (show L.length ≤ 900000 by rw [hL, List.length_append, HPL.out]; have := HTN.out; omega)
          have HLX := Lib.hid (show ∀ c ∈ L, c < 256 by rw [hL]; exact fun c hc => (List.mem_append.1 hc).elim (HPX.out c) (HTL.out c))
          have HSL := Lib.hid (show SI.length = 32 by rw [hSI]; exact sha_len L)
          have HPS := Lib.hid (show PO.length + SI.length ≤ 1000000 by rw [HPOL.out, HSL.out]; decide)
          have HFX := Lib.hid (show ∀ c ∈ FL, c < 256 by rw [hFL, hSI]; exact fun c hc => (List.mem_append.1 hc).elim (HPOX.out c) (sha_lt L c))
          have HFLL := Lib.hid (show FL.length ≤ 900000 by rw [hFL, List.length_append, HPOL.out, HSL.out]; decide)
          clear hA hC hB hP hPO lp lo oA oC hL hSI hFL hi hlt
          as_aux_lemma =>
            go_wp2_with (first
              | (at_builtin; refine app_slg rfl _ _ rfl w1.heap.size (.slice (some ⟨gi, 0, none⟩) 64 64) P rfl HOA.out ta text.length tc text rfl rfl HT0.out HTSR.out HPT.out HBW.out.size ?_; intro v5 w5 o5 g5; rw [← HL.out] at o5; obtain ⟨la, lc, rfl, hlc, hls, hl0, hlx⟩ := rb_sl o5; have HLC := Lib.hid hlc; have HLS := Lib.hid hls; have HL0 := Lib.hid hl0; have HOC5 := Lib.hid (show Rb w5 w1.heap.size (.slice (some ⟨go, 0, none⟩) 64 64) PO from World.ownsRow.kept HOC.out g5 (.inr (fun h => HNE.out (by injection h with h; exact h.symm)))); have HB5 := Lib.hid (HBW.out.grown g5 HBW.out.size (fun k hk => by injection hk with hk; rw [← hk]; exact HGI.out)); clear o5 g5 hlc hls hl0 hlx)
              | (go_at_call 17; (with_reducible refine (dsumG la L.length lc L w5 rfl HLS.out HL0.out HLC.out HLX.out HLL.out).mono ?_); rintro e w6 ⟨v6, rfl, o6, b6⟩; rw [← HSI.out] at o6; obtain ⟨sa, sc, rfl, hsc, hss, hs0, hsx⟩ := rb_sl o6; have HSS := Lib.hid hss; have HS0 := Lib.hid hs0; have HOC6 := Lib.hid (rb_then HOC5.out b6 (Nat.le_refl _)); have HB6 := Lib.hid (below_then HB5.out b6 HB5.out.size); clear o6 b6 hsc hss hs0 hsx)
              | (at_builtin; refine app_sl rfl _ _ rfl w1.heap.size (.slice (some ⟨go, 0, none⟩) 64 64) PO rfl HOC6.out sa SI.length sc SI rfl rfl HS0.out HSS.out HPS.out HB6.out.size ?_; intro v7 w7 o7 b7; rw [← HFL.out] at o7; obtain ⟨fa, fc, rfl, hfc, hfs, hf0, hfx⟩ := rb_sl o7; have HFS := Lib.hid hfs; have HFC := Lib.hid hfc; have HF0 := Lib.hid hf0; have HB7 := Lib.hid (b7 _ _ (Nat.le_refl _) HB6.out); clear o7 b7 hfc hfs hf0 hfx)
              | (go_at_call 17; (with_reducible refine (dsumG fa FL.length fc FL w7 rfl HFS.out HF0.out HFC.out HFX.out HFLL.out).mono ?_); rintro e w8 ⟨v8, rfl, o8, b8⟩; have HO8 := Lib.hid o8; have HB8 := Lib.hid (below_then HB7.out b8 HB7.out.size); clear o8 b8))
            go_ret
            exact hmP_mk (by rw [HMA.out]; exact rb_base HO8.out (Nat.le_trans HB1.out.size HB7.out.size)) (below_then HB1.out HB8.out HB1.out.size)

  · have HTW := Lib.hid (two_b w1 Z HZ.out)
    generalize (w1.alloc (.cells Z 5)).alloc (.cells Z 5) = W3 at *
    generalize w1.heap.size + 1 = gi at *
    generalize w1.heap.size = go at *
    clear hmk
    as_aux_lemma =>
      go_wp2
      go_loopw [7] (fun s7 wr => ∃ i : Nat, i ≤ 64 ∧ s7 = .int .i64 (i : Int) ∧ Bb wr gi (stq K 54 i) ∧ Bb wr go (stq K 92 i) ∧ Below w1.heap.size w1 wr) (fun s7 _ => 64 - (intOf s7).toNat)
      case atStart => exact ⟨0, by omega, rfl, by rw [stq_zero]; exact HTW.out.1, by rw [stq_zero]; exact HTW.out.2.1, HTW.out.2.2.2.2.2.drew⟩
      case round =>
        obtain ⟨i, hi, rfl, hA, hC, hB⟩ := hrel
        by_cases hlt : i < 64
        · have cA := hA.cell i (by rw [stq_len K 54 i HKL.out hi]; exact hlt)
          have fA := hA.free i
          have cC := hC.cell i (by rw [stq_len K 92 i HKL.out hi]; exact hlt)
          have fC := hC.free i
          obtain ⟨z, hz⟩ : ∃ z, z = (zs64 K).getD i 0 := ⟨_, rfl⟩
          have hz8 : z < 256 := by rw [hz]; exact zs64_lt K HKX.out i
          obtain ⟨X1, hX1⟩ : ∃ x, x = z ^^^ 54 := ⟨_, rfl⟩
          obtain ⟨X2, hX2⟩ : ∃ x, x = z ^^^ 92 := ⟨_, rfl⟩
          have n1 : (stq K 54 i).set i X1 = stq K 54 (i + 1) := by rw [hX1, hz]; exact stq_next K 54 i HKL.out hlt
          have n2 : (stq K 92 i).set i X2 = stq K 92 (i + 1) := by rw [hX2, hz]; exact stq_next K 92 i HKL.out hlt
          have hB' := hB
          have NX := Lib.hid (show ∀ W, W = (wr.setCell ⟨gi, i, none⟩ (.int .u8 (X1 : Int))).setCell ⟨go, i, none⟩ (.int .u8 (X2 : Int)) → Bb W gi (stq K 54 (i + 1)) ∧ Bb W go (stq K 92 (i + 1)) ∧ Below w1.heap.size w1 W from fun W hW => by
            subst hW
            have ne := HTW.out.2.2.1
            refine ⟨?_, ?_, (hB.setCell (p := ⟨gi, i, none⟩) HTW.out.2.2.2.1 _).setCell (p := ⟨go, i, none⟩) HTW.out.2.2.2.2.1 _⟩
            · rw [← n1]; exact bb_other (hA.set i X1) ne
            · rw [← n2]; exact Bb.set (bb_other hC (fun h => ne h.symm)) i X2)
          have gC : (wr.setCell ⟨gi, i, none⟩ (.int .u8 (X1 : Int))).cell? ⟨go, i, none⟩ = _ := past_set cC (fun h => HTW.out.2.2.1 h.symm)
          have gF : (wr.setCell ⟨gi, i, none⟩ (.int .u8 (X1 : Int))).frozen? ⟨go, i, none⟩ = false := Bb.free (bb_other (v := .int .u8 (X1 : Int)) (i := i) hC (fun h => HTW.out.2.2.1 h.symm)) i
          have HNE := Lib.hid HTW.out.2.2.1
          have hS := sl_then hB (Nat.le_refl _) HK1.out
          clear hA hC hB hB' n1 n2
          by_cases hk : i < K.length
          · have hki : K[i] = z := by rw [hz, zs64_in K i hk]
            obtain ⟨b, off, rfl, hcl⟩ := sl_at hS (by omega)
            have ck := hcl i hk
            rw [hki] at ck
            have x1 : bits .xor .u8 (z : Int) 54 = (X1 : Int) := by rw [hX1]; exact u8_xn z 54 hz8 (by decide)
            have x2 : bits .xor .u8 (z : Int) 92 = (X2 : Int) := by rw [hX2]; exact u8_xn z 92 hz8 (by decide)
            clear hcl hki hz hX1 hX2 hS hz8
            generalize (stq K 54 i).getD i 0 = Y1 at *
            generalize (stq K 92 i).getD i 0 = Y2 at *
            go_wp2
            go_roundw
            case rel => exact ⟨i + 1, by omega, by go_num, NX.out _ rfl⟩
            case measure => simp [intOf]; omega
          · have hz0 : z = 0 := by rw [hz, zs64_out K i (by omega)]
            have x1 : bits .xor .u8 0 54 = (X1 : Int) := by rw [hX1, hz0]; exact u8_xn 0 54 (by decide) (by decide)
            have x2 : bits .xor .u8 0 92 = (X2 : Int) := by rw [hX2, hz0]; exact u8_xn 0 92 (by decide) (by decide)
            have tk : ¬ (i : Int) < (K.length : Int) := by omega
            clear hz hX1 hX2 hS hz0 hz8
            generalize (stq K 54 i).getD i 0 = Y1 at *
            generalize (stq K 92 i).getD i 0 = Y2 at *
            go_wp2
            go_roundw
            case rel => exact ⟨i + 1, by omega, by go_num, NX.out _ rfl⟩
            case measure => simp [intOf]; omega
        · obtain rfl : i = 64 := by omega
          obtain ⟨P, hP⟩ : ∃ P, P = padK K 54 := ⟨_, rfl⟩
          obtain ⟨PO, hPO⟩ : ∃ PO, PO = padK K 92 := ⟨_, rfl⟩
          have lp := stq_len K 54 64 HKL.out (Nat.le_refl _)
          have lo := stq_len K 92 64 HKL.out (Nat.le_refl _)
          have oA := hA.own (base := w1.heap.size) HTW.out.2.2.2.1 (by rw [lp]; decide)
          have oC := hC.own (base := w1.heap.size) HTW.out.2.2.2.2.1 (by rw [lo]; decide)
          rw [lp, stq_all K 54 HKL.out, ← hP] at oA
          rw [lo, stq_all K 92 HKL.out, ← hPO] at oC
          have HOA := Lib.hid oA
          have HOC := Lib.hid oC
          have HNE := Lib.hid HTW.out.2.2.1
          have HGI := Lib.hid HTW.out.2.2.2.1
          have HBW := Lib.hid hB
          have HTSR := Lib.hid (sl_then hB (Nat.le_refl _) HTS1.out)
          have HPL := Lib.hid (show P.length = 64 by rw [hP]; exact padK_len K 54 HKL.out)
          have HPOL := Lib.hid (show PO.length = 64 by rw [hPO]; exact padK_len K 92 HKL.out)
          have HPX := Lib.hid (show ∀ c ∈ P, c < 256 by rw [hP]; exact padK_lt K 54 HKX.out (by omega))
          have HPOX := Lib.hid (show ∀ c ∈ PO, c < 256 by rw [hPO]; exact padK_lt K 92 HKX.out (by omega))
          obtain ⟨L, hL⟩ : ∃ L, L = P ++ text := ⟨_, rfl⟩
          obtain ⟨SI, hSI⟩ : ∃ SI, SI = sha L := ⟨_, rfl⟩
          obtain ⟨FL, hFL⟩ : ∃ FL, FL = PO ++ SI := ⟨_, rfl⟩
          have HL := Lib.hid hL
          have HSI := Lib.hid hSI
          have HFL := Lib.hid hFL
          have HMA := Lib.hid (show hmac key text = sha FL by unfold hmac; rw [HMK.out, hFL, hSI, hL, hP, hPO])
          have HPT := Lib.hid (show P.length + text.length ≤ 1000000 by rw [HPL.out]; have := HTN.out; omega)
          have HLL := Lib.hid (show L.length ≤ 900000 by rw [hL, List.length_append, HPL.out]; have := HTN.out; omega)
          have HLX := Lib.hid (show ∀ c ∈ L, c < 256 by rw [hL]; exact fun c hc => (List.mem_append.1 hc).elim (HPX.out c) (HTL.out c))
          have HSL := Lib.hid (show SI.length = 32 by rw [hSI]; exact sha_len L)
          have HPS := Lib.hid (show PO.length + SI.length ≤ 1000000 by rw [HPOL.out, HSL.out]; decide)
          have HFX := Lib.hid (show ∀ c ∈ FL, c < 256 by rw [hFL, hSI]; exact fun c hc => (List.mem_append.1 hc).elim (HPOX.out c) (sha_lt L c))
          have HFLL := Lib.hid (show FL.length ≤ 900000 by rw [hFL, List.length_append, HPOL.out, HSL.out]; decide)
          clear hA hC hB hP hPO lp lo oA oC hL hSI hFL hi hlt
          as_aux_lemma =>
            go_wp2_with (first
              | (at_builtin; refine app_slg rfl _ _ rfl w1.heap.size (.slice (some ⟨gi, 0, none⟩) 64 64) P rfl HOA.out ta text.length tc text rfl rfl HT0.out HTSR.out HPT.out HBW.out.size ?_; intro v5 w5 o5 g5; rw [← HL.out] at o5; obtain ⟨la, lc, rfl, hlc, hls, hl0, hlx⟩ := rb_sl o5; have HLC := Lib.hid hlc; have HLS := Lib.hid hls; have HL0 := Lib.hid hl0; have HOC5 := Lib.hid (show Rb w5 w1.heap.size (.slice (some ⟨go, 0, none⟩) 64 64) PO from World.ownsRow.kept HOC.out g5 (.inr (fun h => HNE.out (by injection h with h; exact h.symm)))); have HB5 := Lib.hid (HBW.out.grown g5 HBW.out.size (fun k hk => by injection hk with hk; rw [← hk]; exact HGI.out)); clear o5 g5 hlc hls hl0 hlx)
              | (go_at_call 17; (with_reducible refine (dsumG la L.length lc L w5 rfl HLS.out HL0.out HLC.out HLX.out HLL.out).mono ?_); rintro e w6 ⟨v6, rfl, o6, b6⟩; rw [← HSI.out] at o6; obtain ⟨sa, sc, rfl, hsc, hss, hs0, hsx⟩ := rb_sl o6; have HSS := Lib.hid hss; have HS0 := Lib.hid hs0; have HOC6 := Lib.hid (rb_then HOC5.out b6 (Nat.le_refl _)); have HB6 := Lib.hid (below_then HB5.out b6 HB5.out.size); clear o6 b6 hsc hss hs0 hsx)
              | (at_builtin; refine app_sl rfl _ _ rfl w1.heap.size (.slice (some ⟨go, 0, none⟩) 64 64) PO rfl HOC6.out sa SI.length sc SI rfl rfl HS0.out HSS.out HPS.out HB6.out.size ?_; intro v7 w7 o7 b7; rw [← HFL.out] at o7; obtain ⟨fa, fc, rfl, hfc, hfs, hf0, hfx⟩ := rb_sl o7; have HFS := Lib.hid hfs; have HFC := Lib.hid hfc; have HF0 := Lib.hid hf0; have HB7 := Lib.hid (b7 _ _ (Nat.le_refl _) HB6.out); clear o7 b7 hfc hfs hf0 hfx)
              | (go_at_call 17; (with_reducible refine (dsumG fa FL.length fc FL w7 rfl HFS.out HF0.out HFC.out HFX.out HFLL.out).mono ?_); rintro e w8 ⟨v8, rfl, o8, b8⟩; have HO8 := Lib.hid o8; have HB8 := Lib.hid (below_then HB7.out b8 HB7.out.size); clear o8 b8))
            go_ret
            exact hmP_mk (by rw [HMA.out]; exact rb_base HO8.out (Nat.le_trans HB1.out.size HB7.out.size)) (below_then HB1.out HB8.out HB1.out.size)

set_option maxRecDepth 100000 in
set_option maxHeartbeats 4000000 in
theorem dhmacS (ka1 : Option Addr) (kc : Nat) (K : List Nat) (ta : Option Addr) (tc : Nat) (text : List Nat) (w w1 : World) (hb : Below w.heap.size w w1) (hs : Sl w1 ka1 K) (h0 : ka1 = none → kc = 0) (hcap : K.length ≤ kc) (hl : ∀ c ∈ K, c < 256) (hlen : K.length ≤ 800000)
    (ts : Sl w1 ta text) (t0 : ta = none → tc = 0) (tcap : text.length ≤ tc) (tl : ∀ c ∈ text, c < 256) (tlen : text.length ≤ 800000) (hk : K.length ≤ 64) :
    Calls Tryd.prog 19 #[.slice ka1 K.length kc, .slice ta text.length tc] w1 (HmP K text w) := by
  have HS := Lib.hid hs
  have HTS := Lib.hid ts
  have HT0 := Lib.hid t0
  have HTL := Lib.hid tl
  have HTN := Lib.hid tlen
  have hmk : ∀ w : World, (Instr.makeSlice 22 (.int .i64 64) (.int .i64 64)).run Tryd.prog w = .ok (.slice (some ⟨w.heap.size, 0, none⟩) 64 64) (w.alloc (.cells (madeCells #[.int .u8 0] 64) 5)) := run_make_row' (P := Tryd.prog) 22 5 (.int .u8 0) 1 Tryd.underlying22 info5 rfl .i64 .i64 64 (by omega) (by omega)
  obtain ⟨Z, hZ⟩ : ∃ Z : Array Value, Z = madeCells #[.int .u8 0] 64 := ⟨_, rfl⟩
  have HZ := Lib.hid (show Z = (cellsOf (List.replicate 64 0)).toArray by rw [hZ]; kernel_rfl)
  rw [← hZ] at hmk
  clear hZ

  have HMK := Lib.hid (show keyL K = K by unfold keyL; rw [if_neg (by omega)])
  have HKL := Lib.hid hk
  have HKX := Lib.hid hl
  have t1 : ¬ 64 < (K.length : Int) := by omega
  have HB1 := Lib.hid hb
  have HK1 := HS
  have HTS1 := HTS
  clear hs h0 hcap hl hlen ts t0 tcap tl tlen hk hb
  go_enter Tryd.func19, Tryd.ntmps19
  go_wp2
  clear t1

  go_region
  · have HTW := Lib.hid (two_a w1 Z HZ.out)
    generalize (w1.alloc (.cells Z 5)).alloc (.cells Z 5) = W3 at *
    generalize w1.heap.size + 1 = go at *
    generalize w1.heap.size = gi at *
    clear hmk
    as_aux_lemma =>
      go_wp2
      go_loopw [7] (fun s7 wr => ∃ i : Nat, i ≤ 64 ∧ s7 = .int .i64 (i : Int) ∧ Bb wr gi (stq K 54 i) ∧ Bb wr go (stq K 92 i) ∧ Below w1.heap.size w1 wr) (fun s7 _ => 64 - (intOf s7).toNat)
      case atStart => exact ⟨0, by omega, rfl, by rw [stq_zero]; exact HTW.out.1, by rw [stq_zero]; exact HTW.out.2.1, HTW.out.2.2.2.2.2.drew⟩
      case round =>
        obtain ⟨i, hi, rfl, hA, hC, hB⟩ := hrel
        by_cases hlt : i < 64
        · have cA := hA.cell i (by rw [stq_len K 54 i HKL.out hi]; exact hlt)
          have fA := hA.free i
          have cC := hC.cell i (by rw [stq_len K 92 i HKL.out hi]; exact hlt)
          have fC := hC.free i
          obtain ⟨z, hz⟩ : ∃ z, z = (zs64 K).getD i 0 := ⟨_, rfl⟩
          have hz8 : z < 256 := by rw [hz]; exact zs64_lt K HKX.out i
          obtain ⟨X1, hX1⟩ : ∃ x, x = z ^^^ 54 := ⟨_, rfl⟩
          obtain ⟨X2, hX2⟩ : ∃ x, x = z ^^^ 92 := ⟨_, rfl⟩
          have n1 : (stq K 54 i).set i X1 = stq K 54 (i + 1) := by rw [hX1, hz]; exact stq_next K 54 i HKL.out hlt
          have n2 : (stq K 92 i).set i X2 = stq K 92 (i + 1) := by rw [hX2, hz]; exact stq_next K 92 i HKL.out hlt
          have hB' := hB
          have NX := Lib.hid (show ∀ W, W = (wr.setCell ⟨gi, i, none⟩ (.int .u8 (X1 : Int))).setCell ⟨go, i, none⟩ (.int .u8 (X2 : Int)) → Bb W gi (stq K 54 (i + 1)) ∧ Bb W go (stq K 92 (i + 1)) ∧ Below w1.heap.size w1 W from fun W hW => by
            subst hW
            have ne := HTW.out.2.2.1
            refine ⟨?_, ?_, (hB.setCell (p := ⟨gi, i, none⟩) HTW.out.2.2.2.1 _).setCell (p := ⟨go, i, none⟩) HTW.out.2.2.2.2.1 _⟩
            · rw [← n1]; exact bb_other (hA.set i X1) ne
            · rw [← n2]; exact Bb.set (bb_other hC (fun h => ne h.symm)) i X2)
          have gC : (wr.setCell ⟨gi, i, none⟩ (.int .u8 (X1 : Int))).cell? ⟨go, i, none⟩ = _ := past_set cC (fun h => HTW.out.2.2.1 h.symm)
          have gF : (wr.setCell ⟨gi, i, none⟩ (.int .u8 (X1 : Int))).frozen? ⟨go, i, none⟩ = false := Bb.free (bb_other (v := .int .u8 (X1 : Int)) (i := i) hC (fun h => HTW.out.2.2.1 h.symm)) i
          have HNE := Lib.hid HTW.out.2.2.1
          have hS := sl_then hB (Nat.le_refl _) HK1.out
          clear hA hC hB hB' n1 n2
          by_cases hk : i < K.length
          · have hki : K[i] = z := by rw [hz, zs64_in K i hk]
            obtain ⟨b, off, rfl, hcl⟩ := sl_at hS (by omega)
            have ck := hcl i hk
            rw [hki] at ck
            have x1 : bits .xor .u8 (z : Int) 54 = (X1 : Int) := by rw [hX1]; exact u8_xn z 54 hz8 (by decide)
            have x2 : bits .xor .u8 (z : Int) 92 = (X2 : Int) := by rw [hX2]; exact u8_xn z 92 hz8 (by decide)
            clear hcl hki hz hX1 hX2 hS hz8
            generalize (stq K 54 i).getD i 0 = Y1 at *
            generalize (stq K 92 i).getD i 0 = Y2 at *
            go_wp2
            go_roundw
            case rel => exact ⟨i + 1, by omega, by go_num, NX.out _ rfl⟩
            case measure => simp [intOf]; omega
          · have hz0 : z = 0 := by rw [hz, zs64_out K i (by omega)]
            have x1 : bits .xor .u8 0 54 = (X1 : Int) := by rw [hX1, hz0]; exact u8_xn 0 54 (by decide) (by decide)
            have x2 : bits .xor .u8 0 92 = (X2 : Int) := by rw [hX2, hz0]; exact u8_xn 0 92 (by decide) (by decide)
            have tk : ¬ (i : Int) < (K.length : Int) := by omega
            clear hz hX1 hX2 hS hz0 hz8
            generalize (stq K 54 i).getD i 0 = Y1 at *
            generalize (stq K 92 i).getD i 0 = Y2 at *
            go_wp2
            go_roundw
            case rel => exact ⟨i + 1, by omega, by go_num, NX.out _ rfl⟩
            case measure => simp [intOf]; omega
        · obtain rfl : i = 64 := by omega
          obtain ⟨P, hP⟩ : ∃ P, P = padK K 54 := ⟨_, rfl⟩
          obtain ⟨PO, hPO⟩ : ∃ PO, PO = padK K 92 := ⟨_, rfl⟩
          have lp := stq_len K 54 64 HKL.out (Nat.le_refl _)
          have lo := stq_len K 92 64 HKL.out (Nat.le_refl _)
          have oA := hA.own (base := w1.heap.size) HTW.out.2.2.2.1 (by rw [lp]; decide)
          have oC := hC.own (base := w1.heap.size) HTW.out.2.2.2.2.1 (by rw [lo]; decide)
          rw [lp, stq_all K 54 HKL.out, ← hP] at oA
          rw [lo, stq_all K 92 HKL.out, ← hPO] at oC
          have HOA := Lib.hid oA
          have HOC := Lib.hid oC
          have HNE := Lib.hid HTW.out.2.2.1
          have HGI := Lib.hid HTW.out.2.2.2.1
          have HBW := Lib.hid hB
          have HTSR := Lib.hid (sl_then hB (Nat.le_refl _) HTS1.out)
          have HPL := Lib.hid (show P.length = 64 by rw [hP]; exact padK_len K 54 HKL.out)
          have HPOL := Lib.hid (show PO.length = 64 by rw [hPO]; exact padK_len K 92 HKL.out)
          have HPX := Lib.hid (show ∀ c ∈ P, c < 256 by rw [hP]; exact padK_lt K 54 HKX.out (by omega))
          have HPOX := Lib.hid (show ∀ c ∈ PO, c < 256 by rw [hPO]; exact padK_lt K 92 HKX.out (by omega))
          obtain ⟨L, hL⟩ : ∃ L, L = P ++ text := ⟨_, rfl⟩
          obtain ⟨SI, hSI⟩ : ∃ SI, SI = sha L := ⟨_, rfl⟩
          obtain ⟨FL, hFL⟩ : ∃ FL, FL = PO ++ SI := ⟨_, rfl⟩
          have HL := Lib.hid hL
          have HSI := Lib.hid hSI
          have HFL := Lib.hid hFL
          have HMA := Lib.hid (show hmac K text = sha FL by unfold hmac; rw [HMK.out, hFL, hSI, hL, hP, hPO])
          have HPT := Lib.hid (show P.length + text.length ≤ 1000000 by rw [HPL.out]; have := HTN.out; omega)
          have HLL := Lib.hid (show L.length ≤ 900000 by rw [hL, List.length_append, HPL.out]; have := HTN.out; omega)
          have HLX := Lib.hid (show ∀ c ∈ L, c < 256 by rw [hL]; exact fun c hc => (List.mem_append.1 hc).elim (HPX.out c) (HTL.out c))
          have HSL := Lib.hid (show SI.length = 32 by rw [hSI]; exact sha_len L)
          have HPS := Lib.hid (show PO.length + SI.length ≤ 1000000 by rw [HPOL.out, HSL.out]; decide)
          have HFX := Lib.hid (show ∀ c ∈ FL, c < 256 by rw [hFL, hSI]; exact fun c hc => (List.mem_append.1 hc).elim (HPOX.out c) (sha_lt L c))
          have HFLL := Lib.hid (show FL.length ≤ 900000 by rw [hFL, List.length_append, HPOL.out, HSL.out]; decide)
          clear hA hC hB hP hPO lp lo oA oC hL hSI hFL hi hlt
          as_aux_lemma =>
            go_wp2_with (first
              | (at_builtin; refine app_slg rfl _ _ rfl w1.heap.size (.slice (some ⟨gi, 0, none⟩) 64 64) P rfl HOA.out ta text.length tc text rfl rfl HT0.out HTSR.out HPT.out HBW.out.size ?_; intro v5 w5 o5 g5; rw [← HL.out] at o5; obtain ⟨la, lc, rfl, hlc, hls, hl0, hlx⟩ := rb_sl o5; have HLC := Lib.hid hlc; have HLS := Lib.hid hls; have HL0 := Lib.hid hl0; have HOC5 := Lib.hid (show Rb w5 w1.heap.size (.slice (some ⟨go, 0, none⟩) 64 64) PO from World.ownsRow.kept HOC.out g5 (.inr (fun h => HNE.out (by injection h with h; exact h.symm)))); have HB5 := Lib.hid (HBW.out.grown g5 HBW.out.size (fun k hk => by injection hk with hk; rw [← hk]; exact HGI.out)); clear o5 g5 hlc hls hl0 hlx)
              | (go_at_call 17; (with_reducible refine (dsumG la L.length lc L w5 rfl HLS.out HL0.out HLC.out HLX.out HLL.out).mono ?_); rintro e w6 ⟨v6, rfl, o6, b6⟩; rw [← HSI.out] at o6; obtain ⟨sa, sc, rfl, hsc, hss, hs0, hsx⟩ := rb_sl o6; have HSS := Lib.hid hss; have HS0 := Lib.hid hs0; have HOC6 := Lib.hid (rb_then HOC5.out b6 (Nat.le_refl _)); have HB6 := Lib.hid (below_then HB5.out b6 HB5.out.size); clear o6 b6 hsc hss hs0 hsx)
              | (at_builtin; refine app_sl rfl _ _ rfl w1.heap.size (.slice (some ⟨go, 0, none⟩) 64 64) PO rfl HOC6.out sa SI.length sc SI rfl rfl HS0.out HSS.out HPS.out HB6.out.size ?_; intro v7 w7 o7 b7; rw [← HFL.out] at o7; obtain ⟨fa, fc, rfl, hfc, hfs, hf0, hfx⟩ := rb_sl o7; have HFS := Lib.hid hfs; have HFC := Lib.hid hfc; have HF0 := Lib.hid hf0; have HB7 := Lib.hid (b7 _ _ (Nat.le_refl _) HB6.out); clear o7 b7 hfc hfs hf0 hfx)
              | (go_at_call 17; (with_reducible refine (dsumG fa FL.length fc FL w7 rfl HFS.out HF0.out HFC.out HFX.out HFLL.out).mono ?_); rintro e w8 ⟨v8, rfl, o8, b8⟩; have HO8 := Lib.hid o8; have HB8 := Lib.hid (below_then HB7.out b8 HB7.out.size); clear o8 b8))
            go_ret
            exact hmP_mk (by rw [HMA.out]; exact rb_base HO8.out (Nat.le_trans HB1.out.size HB7.out.size)) (below_then HB1.out HB8.out HB1.out.size)

  · have HTW := Lib.hid (two_b w1 Z HZ.out)
    generalize (w1.alloc (.cells Z 5)).alloc (.cells Z 5) = W3 at *
    generalize w1.heap.size + 1 = gi at *
    generalize w1.heap.size = go at *
    clear hmk
    as_aux_lemma =>
      go_wp2
      go_loopw [7] (fun s7 wr => ∃ i : Nat, i ≤ 64 ∧ s7 = .int .i64 (i : Int) ∧ Bb wr gi (stq K 54 i) ∧ Bb wr go (stq K 92 i) ∧ Below w1.heap.size w1 wr) (fun s7 _ => 64 - (intOf s7).toNat)
      case atStart => exact ⟨0, by omega, rfl, by rw [stq_zero]; exact HTW.out.1, by rw [stq_zero]; exact HTW.out.2.1, HTW.out.2.2.2.2.2.drew⟩
      case round =>
        obtain ⟨i, hi, rfl, hA, hC, hB⟩ := hrel
        by_cases hlt : i < 64
        · have cA := hA.cell i (by rw [stq_len K 54 i HKL.out hi]; exact hlt)
          have fA := hA.free i
          have cC := hC.cell i (by rw [stq_len K 92 i HKL.out hi]; exact hlt)
          have fC := hC.free i
          obtain ⟨z, hz⟩ : ∃ z, z = (zs64 K).getD i 0 := ⟨_, rfl⟩
          have hz8 : z < 256 := by rw [hz]; exact zs64_lt K HKX.out i
          obtain ⟨X1, hX1⟩ : ∃ x, x = z ^^^ 54 := ⟨_, rfl⟩
          obtain ⟨X2, hX2⟩ : ∃ x, x = z ^^^ 92 := ⟨_, rfl⟩
          have n1 : (stq K 54 i).set i X1 = stq K 54 (i + 1) := by rw [hX1, hz]; exact stq_next K 54 i HKL.out hlt
          have n2 : (stq K 92 i).set i X2 = stq K 92 (i + 1) := by rw [hX2, hz]; exact stq_next K 92 i HKL.out hlt
          have hB' := hB
          have NX := Lib.hid (show ∀ W, W = (wr.setCell ⟨gi, i, none⟩ (.int .u8 (X1 : Int))).setCell ⟨go, i, none⟩ (.int .u8 (X2 : Int)) → Bb W gi (stq K 54 (i + 1)) ∧ Bb W go (stq K 92 (i + 1)) ∧ Below w1.heap.size w1 W from fun W hW => by
            subst hW
            have ne := HTW.out.2.2.1
            refine ⟨?_, ?_, (hB.setCell (p := ⟨gi, i, none⟩) HTW.out.2.2.2.1 _).setCell (p := ⟨go, i, none⟩) HTW.out.2.2.2.2.1 _⟩
            · rw [← n1]; exact bb_other (hA.set i X1) ne
            · rw [← n2]; exact Bb.set (bb_other hC (fun h => ne h.symm)) i X2)
          have gC : (wr.setCell ⟨gi, i, none⟩ (.int .u8 (X1 : Int))).cell? ⟨go, i, none⟩ = _ := past_set cC (fun h => HTW.out.2.2.1 h.symm)
          have gF : (wr.setCell ⟨gi, i, none⟩ (.int .u8 (X1 : Int))).frozen? ⟨go, i, none⟩ = false := Bb.free (bb_other (v := .int .u8 (X1 : Int)) (i := i) hC (fun h => HTW.out.2.2.1 h.symm)) i
          have HNE := Lib.hid HTW.out.2.2.1
          have hS := sl_then hB (Nat.le_refl _) HK1.out
          clear hA hC hB hB' n1 n2
          by_cases hk : i < K.length
          · have hki : K[i] = z := by rw [hz, zs64_in K i hk]
            obtain ⟨b, off, rfl, hcl⟩ := sl_at hS (by omega)
            have ck := hcl i hk
            rw [hki] at ck
            have x1 : bits .xor .u8 (z : Int) 54 = (X1 : Int) := by rw [hX1]; exact u8_xn z 54 hz8 (by decide)
            have x2 : bits .xor .u8 (z : Int) 92 = (X2 : Int) := by rw [hX2]; exact u8_xn z 92 hz8 (by decide)
            clear hcl hki hz hX1 hX2 hS hz8
            generalize (stq K 54 i).getD i 0 = Y1 at *
            generalize (stq K 92 i).getD i 0 = Y2 at *
            go_wp2
            go_roundw
            case rel => exact ⟨i + 1, by omega, by go_num, NX.out _ rfl⟩
            case measure => simp [intOf]; omega
          · have hz0 : z = 0 := by rw [hz, zs64_out K i (by omega)]
            have x1 : bits .xor .u8 0 54 = (X1 : Int) := by rw [hX1, hz0]; exact u8_xn 0 54 (by decide) (by decide)
            have x2 : bits .xor .u8 0 92 = (X2 : Int) := by rw [hX2, hz0]; exact u8_xn 0 92 (by decide) (by decide)
            have tk : ¬ (i : Int) < (K.length : Int) := by omega
            clear hz hX1 hX2 hS hz0 hz8
            generalize (stq K 54 i).getD i 0 = Y1 at *
            generalize (stq K 92 i).getD i 0 = Y2 at *
            go_wp2
            go_roundw
            case rel => exact ⟨i + 1, by omega, by go_num, NX.out _ rfl⟩
            case measure => simp [intOf]; omega
        · obtain rfl : i = 64 := by omega
          obtain ⟨P, hP⟩ : ∃ P, P = padK K 54 := ⟨_, rfl⟩
          obtain ⟨PO, hPO⟩ : ∃ PO, PO = padK K 92 := ⟨_, rfl⟩
          have lp := stq_len K 54 64 HKL.out (Nat.le_refl _)
          have lo := stq_len K 92 64 HKL.out (Nat.le_refl _)
          have oA := hA.own (base := w1.heap.size) HTW.out.2.2.2.1 (by rw [lp]; decide)
          have oC := hC.own (base := w1.heap.size) HTW.out.2.2.2.2.1 (by rw [lo]; decide)
          rw [lp, stq_all K 54 HKL.out, ← hP] at oA
          rw [lo, stq_all K 92 HKL.out, ← hPO] at oC
          have HOA := Lib.hid oA
          have HOC := Lib.hid oC
          have HNE := Lib.hid HTW.out.2.2.1
          have HGI := Lib.hid HTW.out.2.2.2.1
          have HBW := Lib.hid hB
          have HTSR := Lib.hid (sl_then hB (Nat.le_refl _) HTS1.out)
          have HPL := Lib.hid (show P.length = 64 by rw [hP]; exact padK_len K 54 HKL.out)
          have HPOL := Lib.hid (show PO.length = 64 by rw [hPO]; exact padK_len K 92 HKL.out)
          have HPX := Lib.hid (show ∀ c ∈ P, c < 256 by rw [hP]; exact padK_lt K 54 HKX.out (by omega))
          have HPOX := Lib.hid (show ∀ c ∈ PO, c < 256 by rw [hPO]; exact padK_lt K 92 HKX.out (by omega))
          obtain ⟨L, hL⟩ : ∃ L, L = P ++ text := ⟨_, rfl⟩
          obtain ⟨SI, hSI⟩ : ∃ SI, SI = sha L := ⟨_, rfl⟩
          obtain ⟨FL, hFL⟩ : ∃ FL, FL = PO ++ SI := ⟨_, rfl⟩
          have HL := Lib.hid hL
          have HSI := Lib.hid hSI
          have HFL := Lib.hid hFL
          have HMA := Lib.hid (show hmac K text = sha FL by unfold hmac; rw [HMK.out, hFL, hSI, hL, hP, hPO])
          have HPT := Lib.hid (show P.length + text.length ≤ 1000000 by rw [HPL.out]; have := HTN.out; omega)
          have HLL := Lib.hid (show L.length ≤ 900000 by rw [hL, List.length_append, HPL.out]; have := HTN.out; omega)
          have HLX := Lib.hid (show ∀ c ∈ L, c < 256 by rw [hL]; exact fun c hc => (List.mem_append.1 hc).elim (HPX.out c) (HTL.out c))
          have HSL := Lib.hid (show SI.length = 32 by rw [hSI]; exact sha_len L)
          have HPS := Lib.hid (show PO.length + SI.length ≤ 1000000 by rw [HPOL.out, HSL.out]; decide)
          have HFX := Lib.hid (show ∀ c ∈ FL, c < 256 by rw [hFL, hSI]; exact fun c hc => (List.mem_append.1 hc).elim (HPOX.out c) (sha_lt L c))
          have HFLL := Lib.hid (show FL.length ≤ 900000 by rw [hFL, List.length_append, HPOL.out, HSL.out]; decide)
          clear hA hC hB hP hPO lp lo oA oC hL hSI hFL hi hlt
          as_aux_lemma =>
            go_wp2_with (first
              | (at_builtin; refine app_slg rfl _ _ rfl w1.heap.size (.slice (some ⟨gi, 0, none⟩) 64 64) P rfl HOA.out ta text.length tc text rfl rfl HT0.out HTSR.out HPT.out HBW.out.size ?_; intro v5 w5 o5 g5; rw [← HL.out] at o5; obtain ⟨la, lc, rfl, hlc, hls, hl0, hlx⟩ := rb_sl o5; have HLC := Lib.hid hlc; have HLS := Lib.hid hls; have HL0 := Lib.hid hl0; have HOC5 := Lib.hid (show Rb w5 w1.heap.size (.slice (some ⟨go, 0, none⟩) 64 64) PO from World.ownsRow.kept HOC.out g5 (.inr (fun h => HNE.out (by injection h with h; exact h.symm)))); have HB5 := Lib.hid (HBW.out.grown g5 HBW.out.size (fun k hk => by injection hk with hk; rw [← hk]; exact HGI.out)); clear o5 g5 hlc hls hl0 hlx)
              | (go_at_call 17; (with_reducible refine (dsumG la L.length lc L w5 rfl HLS.out HL0.out HLC.out HLX.out HLL.out).mono ?_); rintro e w6 ⟨v6, rfl, o6, b6⟩; rw [← HSI.out] at o6; obtain ⟨sa, sc, rfl, hsc, hss, hs0, hsx⟩ := rb_sl o6; have HSS := Lib.hid hss; have HS0 := Lib.hid hs0; have HOC6 := Lib.hid (rb_then HOC5.out b6 (Nat.le_refl _)); have HB6 := Lib.hid (below_then HB5.out b6 HB5.out.size); clear o6 b6 hsc hss hs0 hsx)
              | (at_builtin; refine app_sl rfl _ _ rfl w1.heap.size (.slice (some ⟨go, 0, none⟩) 64 64) PO rfl HOC6.out sa SI.length sc SI rfl rfl HS0.out HSS.out HPS.out HB6.out.size ?_; intro v7 w7 o7 b7; rw [← HFL.out] at o7; obtain ⟨fa, fc, rfl, hfc, hfs, hf0, hfx⟩ := rb_sl o7; have HFS := Lib.hid hfs; have HFC := Lib.hid hfc; have HF0 := Lib.hid hf0; have HB7 := Lib.hid (b7 _ _ (Nat.le_refl _) HB6.out); clear o7 b7 hfc hfs hf0 hfx)
              | (go_at_call 17; (with_reducible refine (dsumG fa FL.length fc FL w7 rfl HFS.out HF0.out HFC.out HFX.out HFLL.out).mono ?_); rintro e w8 ⟨v8, rfl, o8, b8⟩; have HO8 := Lib.hid o8; have HB8 := Lib.hid (below_then HB7.out b8 HB7.out.size); clear o8 b8))
            go_ret
            exact hmP_mk (by rw [HMA.out]; exact rb_base HO8.out (Nat.le_trans HB1.out.size HB7.out.size)) (below_then HB1.out HB8.out HB1.out.size)

theorem dhmacC (ka : Option Addr) (kc : Nat) (key : List Nat) (ta : Option Addr) (tc : Nat) (text : List Nat) (w : World) (hs : Sl w ka key) (h0 : ka = none → kc = 0) (hcap : key.length ≤ kc) (hl : ∀ c ∈ key, c < 256) (hlen : key.length ≤ 800000)
    (ts : Sl w ta text) (t0 : ta = none → tc = 0) (tcap : text.length ≤ tc) (tl : ∀ c ∈ text, c < 256) (tlen : text.length ≤ 800000) :
    Calls Tryd.prog 19 #[.slice ka key.length kc, .slice ta text.length tc] w (HmP key text w) := by
  by_cases hk : 64 < key.length
  · exact dhmacL ka kc key ta tc text w hs h0 hcap hl hlen ts t0 tcap tl tlen hk
  · exact dhmacS ka kc key ta tc text w w (Below.refl _ _) hs h0 hcap hl hlen ts t0 tcap tl tlen (by omega)
/-- the document's Tag. -/
theorem dtagC (ka : Option Addr) (kc : Nat) (key : List Nat) (ta : Option Addr) (tc : Nat) (text : List Nat) (w : World) (hs : Sl w ka key) (h0 : ka = none → kc = 0) (hcap : key.length ≤ kc) (hl : ∀ c ∈ key, c < 256) (hlen : key.length ≤ 800000)
    (ts : Sl w ta text) (t0 : ta = none → tc = 0) (tcap : text.length ≤ tc) (tl : ∀ c ∈ text, c < 256) (tlen : text.length ≤ 800000) :
    Calls Tryd.prog 21 #[.slice ka key.length kc, .slice ta text.length tc] w fun e w' => ∃ hb ho hc, e = .returned (.slice (some ⟨hb, ho, none⟩) 16 hc) ∧ Cells w' hb ho (tagL key text) ∧ 16 ≤ hc ∧ Below w.heap.size w w' := by
  have KH := Lib.hid (dhmacC ka kc key ta tc text w hs h0 hcap hl hlen ts t0 tcap tl tlen)
  obtain ⟨H, hH⟩ : ∃ H, H = hmac key text := ⟨_, rfl⟩
  have HH := Lib.hid hH
  have HL := Lib.hid (show H.length = 32 by rw [hH]; exact hmac_len _ _)
  obtain ⟨T, hT2⟩ : ∃ T, T = tagL key text := ⟨_, rfl⟩
  have HTT := Lib.hid (show T = H.take 16 by rw [hT2, hH]; rfl)
  have HTL := Lib.hid (show T.length = 16 by rw [hT2]; exact tagL_len _ _)
  rw [← hT2]
  clear hs h0 hcap hl hlen ts t0 tcap tl tlen hH hT2
  go_enter Tryd.func21, Tryd.ntmps21
  go_wp2_with (go_at_call 19; refine KH.out.mono ?_; rintro e w1 ⟨v1, rfl, o1, b1⟩; rw [← HH.out] at o1; obtain ⟨ha, hc, rfl, hcp, hsl, hn0, hx⟩ := rb_sl o1; obtain ⟨hb, ho, rfl, hcl⟩ := sl_at hsl (by rw [HL.out]; omega); have HST := Lib.hid hcl; have h16 : (16 : Int) ≤ (hc : Int) := (by rw [HL.out] at hcp; omega); have hc0 : ¬ hc = 0 := (by omega); have HB1 := Lib.hid b1; clear o1 b1 hcp hsl hn0 hx hcl)
  go_ret
  refine ⟨hb, ho, hc, rfl, fun i hi => ?_, by omega, HB1.out⟩
  have hi2 : i < H.length := by rw [HL.out]; rw [HTL.out] at hi; omega
  have := HST.out i hi2
  rw [this]
  congr 2
  simp [HTT.out]

end Go.Proofs.YtmfkfpgomglplaaDoor.Dh
