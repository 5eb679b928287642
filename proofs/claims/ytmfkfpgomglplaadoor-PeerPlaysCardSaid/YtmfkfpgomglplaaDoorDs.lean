/- The document's Sum. -/
import Derived.Test.YtmfkfpgomglplaaDoorDb
import Derived.Test.YtmfkfpgomglplaaDoorHm
set_option linter.unusedVariables false
namespace Go.Proofs.YtmfkfpgomglplaaDoor.Ds
open Go Go.RowKit Kit Mb Sha Ap Mc1 Sc Mx Sb Pd Su Pa Hm Mm Tg Mf Pk Se Op Dq Db


theorem lt_mix (s : St) (m : List Nat) : ∀ x ∈ words (mixS s m), x < 4294967296 := by
  intro x hx
  simp only [words, mixS, addS, List.mem_cons, List.not_mem_nil, or_false] at hx
  rcases hx with rfl | rfl | rfl | rfl | rfl | rfl | rfl | rfl <;> omega
theorem lt_takes (m : List Nat) (i : Nat) : ∀ x ∈ words (takes m st0 i), x < 4294967296 := by
  cases i with
  | zero => show ∀ x ∈ words st0, x < 4294967296; decide
  | succ i => exact lt_mix _ _
theorem words_lt (s : St) (h : ∀ x ∈ words s, x < 4294967296) (i : Nat) : (words s).getD i 0 < 4294967296 := by
  rw [List.getD_eq_getElem?_getD]
  cases hx : (words s)[i]? with
  | none => decide
  | some v => exact h v (List.mem_of_getElem? hx)
theorem blockG (s s2 : St) (gh hc gk : Nat) (a : Option Addr) (n cap : Nat) (m : List Nat) (w : World) (hl : ∀ c ∈ m, c < 256) (hm : m.length = 64) (hn : n = 64) (hs : Sl w a m) (hcap : n ≤ cap) (hh : R8 w gh (stL s)) (hk : R8 w gk kL) (hs2 : s2 = mixS s m) :
    Calls Tryd.prog 52 #[.slice (some ⟨gh, 0, none⟩) 8 hc, .slice (some ⟨gk, 0, none⟩) 64 64, .slice a n cap] w fun e w' => ∃ gv cv, e = .returned (.slice (some ⟨gv, 0, none⟩) 8 cv) ∧ R8 w' gv (stL s2) ∧ Below w.heap.size w w' := by
  subst hn hs2
  rcases hs with rfl | ⟨b, off, rfl, hc2⟩
  · simp at hm
  · refine (blockC s gh hc gk b off cap m w hl hm hc2 hcap hh hk).mono ?_
    rintro e w' ⟨gv, cv, rfl, h1, _, _, h4⟩
    exact ⟨gv, cv, rfl, h1, h4⟩
theorem constB (w : World) : Calls Tryd.prog 50 #[] w fun e w' => e = .returned (.slice (some ⟨w.heap.size, 0, none⟩) 64 64) ∧ R8 w' w.heap.size kL ∧ Below w.heap.size w w' := by
  refine (constC w).mono ?_
  rintro e w' ⟨rfl, rfl⟩
  exact ⟨rfl, R8.new w kL, (Below.refl _ _).alloc (Nat.le_refl _) _⟩
theorem copyG (a : Option Addr) (cap n : Nat) (l : List Nat) (w : World) (hn : n = l.length) (hm : l.length ≤ 1000000) (hc : Sl w a l) (h0 : a = none → cap = 0) : Calls Tryd.prog 14 #[.slice a n cap] w fun e w' => ∃ v, e = .returned v ∧ Rb w' w.heap.size v l ∧ Below w.heap.size w w' := by
  subst hn; exact copyC a cap l w hm hc h0
theorem stL_words (s : St) : stL s = words s := rfl
set_option maxRecDepth 100000 in
set_option maxHeartbeats 4000000 in
theorem dsumC (a : Option Addr) (cap : Nat) (l : List Nat) (w : World) (hs : Sl w a l) (h0 : a = none → cap = 0) (hcap : l.length ≤ cap) (hl : ∀ c ∈ l, c < 256) (hlen : l.length ≤ 900000) :
    Calls Tryd.prog 17 #[.slice a l.length cap] w (SumP l w) := by
  obtain ⟨n, hn⟩ : ∃ n, n = l.length := ⟨_, rfl⟩
  have HNL := Lib.hid hn
  have HS := Lib.hid hs
  have HNO := Lib.hid h0
  have HCP := Lib.hid hcap
  have HX := Lib.hid hl
  have HN := Lib.hid (show n ≤ 900000 by omega)
  have HLN := Lib.hid (show l.length ≤ 1000000 by omega)
  obtain ⟨N8, hN8⟩ : ∃ N8, N8 = 8 * n := ⟨_, rfl⟩
  have HN8 := Lib.hid hN8
  have e1 : IntKind.u64.wrap (n : Int) = (n : Int) := by rw [IntKind.wrap_u64]; omega
  have e8 : IntKind.u64.wrap (8 * (n : Int)) = (N8 : Int) := by rw [IntKind.wrap_u64]; omega
  have K8 := Lib.hid (fun w1 => eightC N8 w1 (by omega))
  have gl := Lib.hid (gap_lt n)
  have HEND := Lib.hid (show mid l (gap n) ++ be8 N8 = msg l by rw [hN8, hn]; simp [mid, msg, padL])
  have HMN := Lib.hid (show (msg l).length ≤ 1000000 by rw [msg_len]; have := gap_lt l.length; omega)
  have HMX := Lib.hid (msg_lt l hl)
  have HM64 := Lib.hid (msg_mod l)
  rw [← hn]
  clear hs h0 hcap hl hlen hn hN8
  have KC := Lib.hid (constB w)
  go_enter Tryd.func17, Tryd.ntmps17
  go_wp2_with (go_at_call 50; (with_reducible refine KC.out.mono ?_); rintro e w1 ⟨rfl, hk1, hb1⟩)
  have HW2 := Lib.hid (show R8 (w1.alloc (.cells #[.int .u32 1779033703, .int .u32 3144134277, .int .u32 1013904242, .int .u32 2773480762, .int .u32 1359893119, .int .u32 2600822924, .int .u32 528734635, .int .u32 1541459225] 79)) w1.heap.size (stL (takes (msg l) st0 0)) from R8.new w1 (stL st0))
  have HB2 := Lib.hid (hb1.alloc hb1.size (.cells #[.int .u32 1779033703, .int .u32 3144134277, .int .u32 1013904242, .int .u32 2773480762, .int .u32 1359893119, .int .u32 2600822924, .int .u32 528734635, .int .u32 1541459225] 79))
  have HK2 := Lib.hid (hk1.then_ ((Below.refl w1.heap.size w1).alloc (Nat.le_refl _) (.cells #[.int .u32 1779033703, .int .u32 3144134277, .int .u32 1013904242, .int .u32 2773480762, .int .u32 1359893119, .int .u32 2600822924, .int .u32 528734635, .int .u32 1541459225] 79)) hk1.lt)
  clear hk1 hb1
  as_aux_lemma =>
    generalize w1.alloc (.cells #[.int .u32 1779033703, .int .u32 3144134277, .int .u32 1013904242, .int .u32 2773480762, .int .u32 1359893119, .int .u32 2600822924, .int .u32 528734635, .int .u32 1541459225] 79) = W2 at *
    generalize w1.heap.size = gh at *
    generalize hgk : w.heap.size = gk at HK2 ⊢
    have HGK := Lib.hid hgk
    clear hgk
    obtain ⟨B, hB⟩ : ∃ B, B = W2.heap.size := ⟨_, rfl⟩
    have HBB := Lib.hid hB
    have HBW := Lib.hid (show Below B W2 W2 from Below.refl _ _)
    have HZW := Lib.hid (show B ≤ W2.heap.size from Nat.le_of_eq hB)
    have HSW := Lib.hid (sl_then HB2.out (Nat.le_refl _) HS.out)
    have HCB := Lib.hid (copyG a cap n l W2 HNL.out HLN.out HSW.out HNO.out)
    rw [← hB] at HCB
    clear hB
    go_wp2_with (first
      | (go_at_call 14; (with_reducible refine HCB.out.mono ?_); rintro e w3 ⟨v3, rfl, o3, b3⟩; have HO3 := Lib.hid o3; have HB3 := Lib.hid b3; clear o3 b3)
      | (at_builtin; refine app_sl rfl _ _ rfl B _ l rfl (rb_alloc HO3.out _) _ 1 1 [128] rfl rfl (fun h => by cases h) (sl_new w3 [128] _) (by have := HLN.out; have := HNL.out; have := HN.out; simp; omega) (by have := HB3.out.size; have := HZW.out; simp; omega) ?_; intro v4 w4 o4 b4; have HO4 := Lib.hid o4; have HB4 := Lib.hid (b4 _ _ (Nat.le_refl _) (HB3.out.alloc (Nat.le_trans HZW.out HB3.out.size) _)); clear o4 b4))
    as_aux_lemma =>
      go_loopw [5] (fun s5 wr => ∃ j : Nat, j ≤ gap n ∧ Rb wr B s5 (mid l j) ∧ Below B W2 wr) (fun s5 _ => gap n + 65 + n - lenV s5)
      case atStart => exact ⟨0, Nat.zero_le _, HO4.out, HB4.out⟩
      case round =>
        clear HO4 HB4 HO3 HB3
        obtain ⟨j, hj, hR, hBr⟩ := hrel
        obtain ⟨ad, cp, rfl, hcp, hSl, h00, hx⟩ := rb_sl hR
        have HR := Lib.hid hR
        have HBR := Lib.hid hBr
        have ml : (mid l j).length = n + 1 + j := by rw [mid_len, HNL.out]
        have hlb : (mid l j).length ≤ 900200 := by have := HN.out; have := gl.out; omega
        have nx := Lib.hid (mid_next l j)
        have M1 := Lib.hid ml
        clear hcp hSl h00 hx hR hBr ml
        by_cases hlt : j < gap n
        · have hne : (mid l j).length % 64 ≠ 56 := by
            have := gap_is n j (by omega)
            have := M1.out; omega
          have t1 : (((mid l j).length : Int) % 64 == 56) = false := by rw [beq_eq_false_iff_ne]; omega
          have t2 : (((mid l j).length : Int) % 64 != 56) = true := by simp only [bne, t1]; rfl
          have t3 : (((mid l j).length : Int).tmod 64 != 56) = true := by rw [Int.tmod_eq_emod_of_nonneg (by omega)]; exact t2
          clear hne t1
          generalize mid l j = X at *
          go_wp2_with (at_builtin; (refine app_sl rfl _ _ rfl B _ X rfl (rb_alloc HR.out _) _ 1 1 [0] rfl rfl (fun h => by cases h) (sl_new wr [0] _) (by simp; omega) (by have := HBR.out.size; have := HZW.out; simp; omega) ?_; intro v2 w2 o2 b2; have q2 := b2 _ _ (Nat.le_refl _) (HBR.out.alloc (Nat.le_trans HZW.out HBR.out.size) _)))
          obtain ⟨a2, c2, rfl, _⟩ := rb_sl o2
          have O2 := Lib.hid o2
          have Q3 := Lib.hid q2
          clear o2 b2 q2
          go_wp2
          go_roundw
          case rel => exact ⟨j + 1, by omega, by rw [← nx.out]; exact O2.out, Q3.out⟩
          case measure => simp [lenV]; have := gl.out; have := M1.out; omega
        · obtain rfl : j = gap n := by omega
          have heq : (mid l (gap n)).length % 64 = 56 := by
            have := (gap_is n (gap n) (by omega)).2 rfl
            have := M1.out; omega
          have t1 : (((mid l (gap n)).length : Int) % 64 == 56) = true := by rw [beq_iff_eq]; omega
          have t2 : (((mid l (gap n)).length : Int) % 64 != 56) = false := by simp only [bne, t1]; rfl
          have t3 : (((mid l (gap n)).length : Int).tmod 64 != 56) = false := by rw [Int.tmod_eq_emod_of_nonneg (by omega)]; exact t2
          clear heq t1 hj hlt nx
          as_aux_lemma =>
            obtain ⟨M, hM⟩ : ∃ M, M = msg l := ⟨_, rfl⟩
            obtain ⟨E8, hE8⟩ : ∃ E8, E8 = be8 N8 := ⟨_, rfl⟩
            obtain ⟨X, hX⟩ : ∃ X, X = mid l (gap n) := ⟨_, rfl⟩
            have HXL := Lib.hid (show X.length + E8.length ≤ 1000000 by rw [hE8, be8_len, hX]; omega)
            rw [← hE8, ← hX, ← hM] at HEND
            rw [← hM] at HMN HMX HM64 HW2
            rw [← hE8] at K8
            rw [← hX] at HR t2 t3 hlb ⊢
            have HM := Lib.hid hM
            clear hM hE8 hX M1
            go_wp2_with (first
              | (go_at_call 51; (with_reducible refine (K8.out wr).mono ?_); rintro e w5 ⟨v5, rfl, o5, b5⟩; obtain ⟨ea, ec, rfl, hec, hes, he0, hex⟩ := rb_sl o5; have HES := Lib.hid hes; have HE0 := Lib.hid he0; have HR5 := Lib.hid (rb_then HR.out b5 (Nat.le_refl _)); have HB5 := Lib.hid (below_then HBR.out b5 (Nat.le_trans HZW.out HBR.out.size)); clear o5 b5 hec hes he0 hex)
              | (at_builtin; refine app_sl rfl _ _ rfl B _ X rfl HR5.out ea E8.length ec E8 rfl rfl HE0.out HES.out HXL.out (Nat.le_trans HZW.out HB5.out.size) ?_; intro v6 w6 o6 b6; rw [HEND.out] at o6; obtain ⟨ma, mc, rfl, hmc, hms, hm0, hmx⟩ := rb_sl o6; have HMC := Lib.hid hmc; have HMS := Lib.hid hms; have HM0 := Lib.hid hm0; have HB6 := Lib.hid (b6 _ _ (Nat.le_refl _) HB5.out); clear o6 b6 hmc hms hm0 hmx))
            as_aux_lemma =>
              clear t2 t3 hlb HR HBR
              obtain ⟨q, hq⟩ : ∃ q, q = M.length / 64 := ⟨_, rfl⟩
              have HQ := Lib.hid (show M.length = 64 * q by have := HM64.out; omega)
              have HQQ := Lib.hid hq
              clear hq
              have HR6 := Lib.hid (HW2.out.then_ HB6.out (by rw [HBB.out]; exact HW2.out.lt))
              have HK6 := Lib.hid (HK2.out.then_ HB6.out (by rw [HBB.out]; exact HK2.out.lt))
              go_loopw [4, 6] (fun s4 s6 wr => ∃ i gh hc : Nat, i ≤ q ∧ s6 = .int .i64 ((64 * i : Nat) : Int) ∧ s4 = .slice (some ⟨gh, 0, none⟩) 8 hc ∧ R8 wr gh (stL (takes M st0 i)) ∧ Below w6.heap.size w6 wr) (fun _ s6 _ => 64 * q + 64 - (intOf s6).toNat)
              case atStart => exact ⟨0, gh, 8, Nat.zero_le _, rfl, rfl, HR6.out, Below.refl _ _⟩
              case round =>
                clear HR6
                obtain ⟨i, gh, hc, hi, rfl, rfl, hR, hBr⟩ := hrel
                have HR := Lib.hid hR
                have HBR := Lib.hid hBr
                have HSM := Lib.hid (sl_then hBr (Nat.le_refl _) HMS.out)
                have HKW := Lib.hid (HK6.out.then_ hBr HK6.out.lt)
                obtain ⟨A, hA⟩ : ∃ A, A = 64 * i := ⟨_, rfl⟩
                have HA := Lib.hid hA
                have nA : A ≤ 2000000 := by have := HMN.out; have := HQ.out; omega
                rw [← hA]
                by_cases hlt : i < q
                · have t1 : (A : Int) < (M.length : Int) := by have := HQ.out; omega
                  have HLE := Lib.hid (show A + 64 ≤ M.length by have := HQ.out; omega)
                  obtain ⟨S, hS⟩ : ∃ S, S = takes M st0 i := ⟨_, rfl⟩
                  obtain ⟨Bk, hBk⟩ : ∃ Bk, Bk = blk M i := ⟨_, rfl⟩
                  obtain ⟨S2, hS2⟩ : ∃ S2, S2 = mixS S Bk := ⟨_, rfl⟩
                  have HM2 := Lib.hid hS2
                  have HNXT := Lib.hid (show takes M st0 (i + 1) = S2 by rw [takes_succ, ← hS, ← hBk, hS2])
                  have HBX := Lib.hid (show ∀ c ∈ Bk, c < 256 by rw [hBk]; exact blk_lt M HMX.out i)
                  have HB64 := Lib.hid (show Bk.length = 64 by rw [hBk]; exact blk_len M i (by have := HQ.out; omega))
                  have HBKD := Lib.hid (show (M.drop A).take (A + 64 - A) = Bk by rw [hBk, hA]; unfold blk; congr 1; omega)
                  rw [← hS] at HR
                  clear hS hBk hS2 hR hBr hA
                  go_wp2_with (first
                    | (refine wpList_sub rfl (.tmp 37) (some (.tmp 38)) (some (.tmp 40)) rfl ma mc M rfl HSM.out HM0.out HMC.out A (A + 64) (lo_some rfl) (hi_some rfl) (Nat.le_add_right _ _) HLE.out ?_; intro a1 c1 n1 hn1 hsl1 hc1 h01 hbk1; have hn2 : n1 = 64 := (by rw [hn1, Nat.add_sub_cancel_left]); subst hn2; rw [HBKD.out] at hsl1; have HS1 := Lib.hid hsl1; have HC1 := Lib.hid hc1; clear hsl1 hc1 h01 hbk1 hn1)
                    | (go_at_call 52; (with_reducible refine (blockG S S2 gh hc gk a1 64 c1 Bk wr HBX.out HB64.out rfl HS1.out HC1.out HR.out HKW.out HM2.out).mono ?_); rintro e w7 ⟨gv, cv, rfl, q1, q2⟩; have HR7 := Lib.hid q1; have HB7 := Lib.hid (below_then HBR.out q2 HBR.out.size); clear q1 q2))
                  go_roundw
                  case rel => exact ⟨i + 1, gv, cv, by omega, by rw [show 64 * (i + 1) = A + 64 by have := HA.out; omega]; go_num, rfl, by rw [HNXT.out]; exact HR7.out, HB7.out⟩
                  case measure => simp [intOf]; have := HA.out; omega
                · obtain rfl : i = q := by omega
                  have t1 : ¬ (A : Int) < (M.length : Int) := by have := HQ.out; omega
                  obtain ⟨S, hS⟩ : ∃ S, S = takes M st0 i := ⟨_, rfl⟩
                  have HSHA := Lib.hid (show sha l = outS S by unfold sha; rw [← HM.out, ← HQQ.out, hS])
                  have HPOS := Lib.hid (show Pos S by rw [hS]; exact pos_takes _ _ pos_st0 _)
                  have HLT := Lib.hid (show ∀ x ∈ words S, x < 4294967296 by rw [hS]; exact lt_takes _ _)
                  rw [← hS] at HR
                  clear hS hR hBr hA hlt hi nA
                  go_wp2
                  as_aux_lemma =>
                    obtain ⟨wp, rfl⟩ : ∃ wp : World, wp = wr := ⟨_, rfl⟩
                    clear t1
                    go_loopw [7, 8] (fun s7 s8 wr => ∃ i : Nat, i ≤ 8 ∧ s8 = .int .i64 (i : Int) ∧ Rb wr wp.heap.size s7 (outW S i) ∧ Below wp.heap.size wp wr) (fun _ s8 _ => 8 - (intOf s8).toNat)
                    case atStart => exact ⟨0, Nat.zero_le _, rfl, rb_nil _ _, Below.refl _ _⟩
                    case round =>
                      obtain ⟨i, hi, rfl, hO, hBr⟩ := hrel
                      have HO := Lib.hid hO
                      have HBQ := Lib.hid hBr
                      obtain ⟨ad, cp, rfl, _, _, _, _⟩ := rb_sl hO
                      by_cases hlt : i < 8
                      · have c0 : wr.cell? ⟨gh, i, none⟩ = some (.int .u32 ((words S).getD i 0)) := (HR.out.then_ hBr HR.out.lt).cell i hlt
                        have nx := outW_next S i hlt
                        have hp := words_pos S HPOS.out i
                        have hq := words_lt S HLT.out i
                        have hol := outW_len S i
                        generalize (words S).getD i 0 = Y at *
                        obtain ⟨N, rfl⟩ : ∃ N : Nat, Y = (N : Int) := ⟨Y.toNat, by omega⟩
                        have KF := Lib.hid (fourC N wr (by omega))
                        have HNX := Lib.hid (show outW S i ++ be4 N = outW S (i + 1) by rw [← nx]; rfl)
                        have HOL := Lib.hid (show (outW S i).length + (be4 N).length ≤ 1000000 by rw [be4_len]; omega)
                        clear nx hp hq hol hO hBr
                        generalize outW S i = L at *
                        go_wp2_with (first
                          | (go_at_call 53; (with_reducible refine KF.out.mono ?_); rintro e w8 ⟨rfl, rfl⟩)
                          | (at_builtin; refine app_sl rfl _ _ rfl wp.heap.size _ L rfl (rb_alloc HO.out _) _ 4 4 (be4 N) rfl rfl (fun h => by cases h) (sl_new wr (be4 N) _) HOL.out (by have := HBQ.out.size; simp; omega) ?_; intro v2 w2 o2 b2; have O2 := Lib.hid o2; have Q3 := Lib.hid (b2 _ _ (Nat.le_refl _) (HBQ.out.alloc HBQ.out.size _)); clear o2 b2))
                        go_roundw
                        case rel => exact ⟨i + 1, by omega, by go_num, by rw [← HNX.out]; exact O2.out, Q3.out⟩
                        case measure => simp [intOf]; omega
                      · obtain rfl : i = 8 := by omega
                        have HF := Lib.hid (show outW S 8 = sha l by rw [outW_all, HSHA.out])
                        have HBF := Lib.hid (below_then HB2.out (below_then (HB6.out.mono (by rw [HBB.out]; exact Nat.le_refl _)) (below_then HBR.out hBr HBR.out.size) HB6.out.size) HB2.out.size)
                        clear hO hBr
                        generalize outW S 8 = L at *
                        go_wp2
                        go_ret
                        exact sumP_mk (by rw [← HF.out]; exact rb_base HO.out (Nat.le_trans HB2.out.size (Nat.le_trans HB6.out.size HBR.out.size))) HBF.out

end Go.Proofs.YtmfkfpgomglplaaDoor.Ds
