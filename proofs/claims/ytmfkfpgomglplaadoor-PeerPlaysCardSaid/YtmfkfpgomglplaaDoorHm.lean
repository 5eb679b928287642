/- mac.Hmac. -/
import Derived.Test.YtmfkfpgomglplaaDoorPa
import Derived.Test.YtmfkfpgomglplaaDoorSu
set_option linter.unusedVariables false
namespace Go.Proofs.YtmfkfpgomglplaaDoor.Hm
open Go Go.RowKit Kit Mb Sha Ap Mc1 Sc Mx Sb Pd Su Pa


theorem rb_base {w : World} {b1 b2 : Nat} {v : Value} {l : List Nat} (h : Rb w b1 v l) (hb : b2 ≤ b1) : Rb w b2 v l := by
  refine ⟨h.1, ?_⟩
  rcases h.2 with h | ⟨g, cap, cur, hv, hg, rest⟩
  · exact .inl h
  · exact .inr ⟨g, cap, cur, hv, Nat.le_trans hb hg, rest⟩
/-- one of the parts that are handed over. -/
structure Part where
  (a : Option Addr) (cap : Nat) (l : List Nat)
def Part.v (p : Part) : Value := .slice p.a p.l.length p.cap
def Pt (w : World) (p : Part) : Prop := Sl w p.a p.l ∧ (p.a = none → p.cap = 0) ∧ p.l.length ≤ p.cap ∧ ∀ c ∈ p.l, c < 256
def Pts (w : World) (a : Option Addr) (ps : List Part) : Prop :=
  (ps = [] ∨ ∃ b off, a = some ⟨b, off, none⟩ ∧ ∀ i, (h : i < ps.length) → w.cell? ⟨b, off + i, none⟩ = some ps[i].v) ∧ ∀ p ∈ ps, Pt w p
def catP (ps : List Part) : List Nat := ps.flatMap (·.l)
theorem catP_next (ps : List Part) (i : Nat) (h : i < ps.length) : catP (ps.take i) ++ ps[i].l = catP (ps.take (i + 1)) := by
  rw [catP, catP, List.take_succ_eq_append_getElem h, List.flatMap_append]; simp
theorem catP_le (ps : List Part) (i : Nat) : (catP (ps.take i)).length ≤ (catP ps).length := by
  have : catP ps = catP (ps.take i) ++ catP (ps.drop i) := by rw [catP, catP, catP, ← List.flatMap_append, List.take_append_drop]
  rw [this, List.length_append]; omega
theorem pt_then {B : Nat} {W w1 : World} (hb : Below B W w1) (hB : W.heap.size ≤ B) {p : Part} (h : Pt W p) : Pt w1 p := ⟨sl_then hb hB h.1, h.2⟩
theorem pts_then {B : Nat} {W w1 : World} (hb : Below B W w1) (hB : W.heap.size ≤ B) {a : Option Addr} {ps : List Part} (h : Pts W a ps) : Pts w1 a ps := by
  refine ⟨?_, fun p hp => pt_then hb hB (h.2 p hp)⟩
  rcases h.1 with h | ⟨b, off, e, h⟩
  · exact .inl h
  · exact .inr ⟨b, off, e, fun i hi => cell_then hb hB (h i hi)⟩
/-- what Hmac answers. -/
def HmP (key l : List Nat) (w : World) (e : Ending) (w' : World) : Prop := ∃ v, e = .returned v ∧ Rb w' w.heap.size v (hmac key l) ∧ Below w.heap.size w w'
theorem hmP_mk {key l : List Nat} {w w' : World} {v : Value} (h : Rb w' w.heap.size v (hmac key l)) (hb : Below w.heap.size w w') : HmP key l w (.returned v) w' := ⟨v, rfl, h, hb⟩
set_option maxRecDepth 100000 in
set_option maxHeartbeats 2000000 in
theorem hmacC (a : Option Addr) (cap : Nat) (l : List Nat) (pa : Option Addr) (pcap : Nat) (ps : List Part) (w : World) (hs : Sl w a l) (h0 : a = none → cap = 0) (hcap : l.length ≤ cap) (hl : ∀ c ∈ l, c < 256) (hlen : l.length ≤ 800000)
    (hps : Pts w pa ps) (hpl : ps.length ≤ 1000000) (hcat : (catP ps).length ≤ 800000) (hT : TabR w) (hB : TabB w) :
    Calls Tryd.prog 18 #[.slice a l.length cap, .slice pa ps.length pcap] w (HmP l (catP ps) w) := by
  have HS := Lib.hid hs
  have HNO := Lib.hid h0
  have HCP := Lib.hid hcap
  have HX := Lib.hid hl
  have HN := Lib.hid hlen
  have HPS := Lib.hid hps
  have HPL := Lib.hid hpl
  have HCT := Lib.hid hcat
  have HT := Lib.hid hT
  have HB := Lib.hid hB
  clear hs h0 hcap hl hlen hps hpl hcat hT hB
  by_cases hk : 64 < l.length
  · have t1 : ¬ l.length ≤ 64 := by omega
    obtain ⟨K, hK⟩ : ∃ K, K = sha l := ⟨_, rfl⟩
    have HMK := Lib.hid (show keyL l = K by unfold keyL; rw [if_pos hk, hK])
    have HKL := Lib.hid (show K.length ≤ 64 by rw [hK, sha_len]; omega)
    have HKX := Lib.hid (show ∀ c ∈ K, c < 256 by rw [hK]; exact sha_lt l)
    have HKK := Lib.hid hK
    clear hK
    go_enter Tryd.func18, Tryd.ntmps18
    go_wp2_with (first
      | (go_at_call 16; refine (sumC a cap l w HS.out HNO.out HCP.out HX.out (by have := HN.out; omega) HT.out HB.out).mono ?_; rintro e w1 ⟨v1, rfl, o1, b1⟩; rw [← HKK.out] at o1; obtain ⟨ka, kc, rfl, hkc, hks, hk0, hkx⟩ := rb_sl o1; have HB1 := Lib.hid b1; have HK1 := Lib.hid hks; have HKC := Lib.hid hkc; clear b1 o1 hkc hks hk0 hkx)
      | (go_at_call 54; refine (padC ka kc K 54 w1 HK1.out HKL.out HKX.out (by omega)).mono ?_; rintro e w2 ⟨v2, rfl, o2, b2⟩; have HO2 := Lib.hid o2; have HB2 := Lib.hid b2; clear b2 o2))
    have HW1 := HB1
    have HKS := HK1
    have HKB := HO2
    have HBA := HB2
    clear HK1 HB1 HB2 HO2 HKC hk t1

    obtain ⟨P, hP⟩ : ∃ P, P = padK K 54 := ⟨_, rfl⟩
    have HPP := Lib.hid hP
    have HPN := Lib.hid (show P.length = 64 by rw [hP]; exact padK_len K 54 HKL.out)
    rw [← hP] at HKB
    clear hP
    go_wp2
    go_loopw [5, 7, 17] (fun s5 s7 s17 wr => ∃ i : Nat, i ≤ ps.length ∧ s17 = .int .i64 (i : Int) ∧ Rb wr w1.heap.size s5 (P ++ catP (ps.take i)) ∧ Below w1.heap.size w1 wr) (fun _ _ s17 _ => ps.length - (intOf s17).toNat)
    case atStart => exact ⟨0, Nat.zero_le _, rfl, by simpa [catP] using HKB.out, HBA.out⟩
    case round =>
      clear HKB HBA
      obtain ⟨i, hi, rfl, hR, hB⟩ := hrel
      have HO := Lib.hid hR
      have HBB := Lib.hid hB
      obtain ⟨ad, cp, rfl, hcp, hSl, h0n, hbx⟩ := rb_sl hR
      have hle := catP_le ps i
      have hpn := HPL.out
      have hPS := pts_then (below_then HW1.out hB HW1.out.size) (Nat.le_refl _) HPS.out
      by_cases hlt : i < ps.length
      · have hPi := hPS.2 ps[i] (List.getElem_mem _)
        have nx := catP_next ps i hlt
        have hle2 := catP_le ps (i + 1)
        obtain ⟨pb, po, rfl, hcell⟩ : ∃ b off, pa = some ⟨b, off, none⟩ ∧ ∀ i, (h : i < ps.length) → wr.cell? ⟨b, off + i, none⟩ = some ps[i].v := by
          rcases hPS.1 with h | h
          · rw [h] at hlt; simp at hlt
          · exact h
        have c1 := hcell i hlt
        generalize ps[i] = q at *
        obtain ⟨qa, qc, ql⟩ := q
        unfold Part.v at c1
        dsimp only at c1 nx hPi
        have HQ := Lib.hid hPi
        rw [← nx, List.length_append] at hle2
        have NX := Lib.hid (show P ++ catP (ps.take i) ++ ql = P ++ catP (ps.take (i + 1)) by rw [← nx, List.append_assoc])
        have HLL := Lib.hid (show (P ++ catP (ps.take i)).length + ql.length ≤ 1000000 by have := HPN.out; have := HCT.out; rw [List.length_append]; omega)
        clear hcell hPi nx hle2 hle hR hB hcp hSl h0n hbx hPS
        generalize P ++ catP (ps.take i) = L at *
        go_wp2_with (at_builtin; (refine app_sl rfl _ _ rfl w1.heap.size _ L rfl HO.out qa ql.length qc ql rfl rfl HQ.out.2.1 HQ.out.1 HLL.out HBB.out.size ?_; intro v3 w3 o3 b3; have q3 := b3 _ _ (Nat.le_refl _) HBB.out))
        have O3 := Lib.hid o3
        have Q3 := Lib.hid q3
        clear o3 b3 q3
        go_wp2
        go_roundw
        case rel => exact ⟨i + 1, by omega, by go_num, by rw [← NX.out]; exact O3.out, Q3.out⟩
        case measure => simp [intOf]; omega
      · have ip : i = ps.length := by omega
        have hL : P ++ catP (ps.take i) = P ++ catP ps := by rw [ip, List.take_length]
        have HLL := Lib.hid (show (P ++ catP (ps.take i)).length ≤ 800064 by have := HPN.out; have := HCT.out; rw [List.length_append]; omega)
        have HLX := Lib.hid (show ∀ c ∈ P ++ catP (ps.take i), c < 256 by
          rw [hL, HPP.out]; intro c hc
          rcases List.mem_append.1 hc with h | h
          · exact padK_lt K 54 HKX.out (by omega) c h
          · obtain ⟨p, hp, hc⟩ := List.mem_flatMap.1 h
            exact (HPS.out.2 p hp).2.2.2 c hc)
        have HL := Lib.hid hL
        have HCP5 := Lib.hid hcp
        have HSL5 := Lib.hid hSl
        have HNO5 := Lib.hid h0n
        have kge : ¬ (i : Int) < (ps.length : Int) := by omega
        have HKW := Lib.hid (show Sl wr ka K from sl_then hB (Nat.le_refl _) HKS.out)
        clear hL ip hR hB hle hcp hSl h0n hbx hPS hi hlt
        generalize P ++ catP (ps.take i) = L at *
        obtain ⟨SI, hSI⟩ : ∃ SI, SI = sha L := ⟨_, rfl⟩
        have HSI := Lib.hid hSI
        have HSIL := Lib.hid (show SI.length = 32 by rw [hSI]; exact sha_len L)
        have HSIX := Lib.hid (show ∀ c ∈ SI, c < 256 by rw [hSI]; exact sha_lt L)
        obtain ⟨PO, hPO⟩ : ∃ PO, PO = padK K 92 := ⟨_, rfl⟩
        have HPL92 := Lib.hid (show PO.length = 64 by rw [hPO]; exact padK_len K 92 HKL.out)
        have HPX := Lib.hid (show ∀ c ∈ PO, c < 256 by rw [hPO]; exact padK_lt K 92 HKX.out (by omega))
        have HMA := Lib.hid (show hmac l (catP ps) = sha (PO ++ SI) by unfold hmac; rw [HMK.out, hSI, HL.out, HPP.out, hPO])
        have HPO := Lib.hid hPO
        obtain ⟨FL, hFL⟩ : ∃ FL, FL = PO ++ SI := ⟨_, rfl⟩
        have HLX5 := Lib.hid (show ∀ c ∈ FL, c < 256 by rw [hFL]; exact fun c hc => (List.mem_append.1 hc).elim (HPX.out c) (HSIX.out c))
        have HLL5 := Lib.hid (show FL.length ≤ 900000 by rw [hFL, List.length_append, HPL92.out, HSIL.out]; omega)
        have HPS2 := Lib.hid (show PO.length + SI.length ≤ 1000000 by rw [HPL92.out, HSIL.out]; omega)
        rw [← hFL] at HMA
        have HFL := Lib.hid hFL
        clear hSI hPO hFL
        go_wp2_with (first
          | (go_at_call 54; refine (padC ka kc K 92 wr HKW.out HKL.out HKX.out (by omega)).mono ?_; rintro e w3 ⟨v3, rfl, o3, b3⟩; rw [← HPO.out] at o3; have HO3 := Lib.hid o3; have HB3 := Lib.hid b3; clear b3 o3; have HSL6 := Lib.hid (show Sl w3 ad L from sl_then HB3.out (Nat.le_refl _) HSL5.out); have HBW3 := Lib.hid (below_then HW1.out (below_then HBB.out HB3.out HBB.out.size) HW1.out.size))
          | (go_at_call 16; (with_reducible refine (sumC ad cp L w3 HSL6.out HNO5.out HCP5.out HLX.out (by have := HLL.out; omega) (tabR_then HBW3.out HT.out) (tabB_then HBW3.out HB.out)).mono ?_); rintro e w4 ⟨v4, rfl, o4, b4⟩; rw [← HSI.out] at o4; obtain ⟨sa, sc, rfl, hsc, hss, hs0, hsx⟩ := rb_sl o4; have HO4 := Lib.hid (show Rb w4 wr.heap.size v3 PO from rb_then HO3.out b4 (Nat.le_refl _)); have HSS := Lib.hid hss; have HS0 := Lib.hid hs0; have HBW4 := Lib.hid (below_then HBW3.out b4 HBW3.out.size); have HSZ := Lib.hid (show w.heap.size ≤ wr.heap.size ∧ wr.heap.size ≤ w4.heap.size from ⟨(below_then HW1.out HBB.out HW1.out.size).size, Nat.le_trans HB3.out.size b4.size⟩); clear hss hs0 hsx hsc b4 o4)
          | (at_builtin; (refine app_sl rfl _ _ rfl wr.heap.size _ PO rfl HO4.out sa SI.length sc SI rfl rfl HS0.out HSS.out HPS2.out HSZ.out.2 ?_; intro v5 w5 o5 b5; rw [← HFL.out] at o5; have q5 := b5 _ _ HSZ.out.1 HBW4.out; obtain ⟨fa, fc, rfl, hfc, hfs, hf0, hfx⟩ := rb_sl o5; have HFS := Lib.hid hfs; have HFC := Lib.hid hfc; have HF0 := Lib.hid hf0; have HB5 := Lib.hid q5; clear hfs hfc hf0 hfx o5 b5 q5))
          | (go_at_call 16; (with_reducible refine (sumC fa fc FL w5 HFS.out HF0.out HFC.out HLX5.out HLL5.out (tabR_then HB5.out HT.out) (tabB_then HB5.out HB.out)).mono ?_); rintro e w6 ⟨v6, rfl, o6, b6⟩))
        have HO6 := Lib.hid (rb_base o6 HB5.out.size)
        have HB6 := Lib.hid (below_then HB5.out b6 HB5.out.size)
        clear o6 b6
        go_ret
        exact hmP_mk (by rw [HMA.out]; exact HO6.out) HB6.out
  · have t1 : l.length ≤ 64 := by omega
    have HMK := Lib.hid (show keyL l = l by unfold keyL; rw [if_neg hk])
    go_enter Tryd.func18, Tryd.ntmps18
    go_wp2_with (go_at_call 54; refine (padC a cap l 54 w HS.out t1 HX.out (by omega)).mono ?_; rintro e w2 ⟨v2, rfl, o2, b2⟩; have HO2 := Lib.hid o2; have HB2 := Lib.hid b2; clear b2 o2)
    obtain ⟨K, hK⟩ : ∃ K, K = l := ⟨_, rfl⟩
    have HKL := Lib.hid (show K.length ≤ 64 by rw [hK]; exact t1)
    have HKX := Lib.hid (show ∀ c ∈ K, c < 256 by rw [hK]; exact HX.out)
    obtain ⟨ka, hka⟩ : ∃ ka, ka = a := ⟨_, rfl⟩
    obtain ⟨kc, hkc⟩ : ∃ kc, kc = cap := ⟨_, rfl⟩
    have el : l.length = K.length := by rw [hK]
    have HBA := HB2
    have HW1 := Lib.hid (Below.refl w.heap.size w)
    have HKS := Lib.hid (show Sl w ka K by rw [hK, hka]; exact HS.out)
    have HKB := Lib.hid (show Rb w2 w.heap.size v2 (padK K 54) by rw [hK]; exact HO2.out)
    have HMK := Lib.hid (show keyL l = K by rw [hK]; exact HMK.out)
    rw [el, ← hka, ← hkc]
    clear hK el hka hkc HB2 HO2 hk t1

    obtain ⟨P, hP⟩ : ∃ P, P = padK K 54 := ⟨_, rfl⟩
    have HPP := Lib.hid hP
    have HPN := Lib.hid (show P.length = 64 by rw [hP]; exact padK_len K 54 HKL.out)
    rw [← hP] at HKB
    clear hP
    go_wp2
    go_loopw [5, 7, 17] (fun s5 s7 s17 wr => ∃ i : Nat, i ≤ ps.length ∧ s17 = .int .i64 (i : Int) ∧ Rb wr w.heap.size s5 (P ++ catP (ps.take i)) ∧ Below w.heap.size w wr) (fun _ _ s17 _ => ps.length - (intOf s17).toNat)
    case atStart => exact ⟨0, Nat.zero_le _, rfl, by simpa [catP] using HKB.out, HBA.out⟩
    case round =>
      clear HKB HBA
      obtain ⟨i, hi, rfl, hR, hB⟩ := hrel
      have HO := Lib.hid hR
      have HBB := Lib.hid hB
      obtain ⟨ad, cp, rfl, hcp, hSl, h0n, hbx⟩ := rb_sl hR
      have hle := catP_le ps i
      have hpn := HPL.out
      have hPS := pts_then (below_then HW1.out hB HW1.out.size) (Nat.le_refl _) HPS.out
      by_cases hlt : i < ps.length
      · have hPi := hPS.2 ps[i] (List.getElem_mem _)
        have nx := catP_next ps i hlt
        have hle2 := catP_le ps (i + 1)
        obtain ⟨pb, po, rfl, hcell⟩ : ∃ b off, pa = some ⟨b, off, none⟩ ∧ ∀ i, (h : i < ps.length) → wr.cell? ⟨b, off + i, none⟩ = some ps[i].v := by
          rcases hPS.1 with h | h
          · rw [h] at hlt; simp at hlt
          · exact h
        have c1 := hcell i hlt
        generalize ps[i] = q at *
        obtain ⟨qa, qc, ql⟩ := q
        unfold Part.v at c1
        dsimp only at c1 nx hPi
        have HQ := Lib.hid hPi
        rw [← nx, List.length_append] at hle2
        have NX := Lib.hid (show P ++ catP (ps.take i) ++ ql = P ++ catP (ps.take (i + 1)) by rw [← nx, List.append_assoc])
        have HLL := Lib.hid (show (P ++ catP (ps.take i)).length + ql.length ≤ 1000000 by have := HPN.out; have := HCT.out; rw [List.length_append]; omega)
        clear hcell hPi nx hle2 hle hR hB hcp hSl h0n hbx hPS
        generalize P ++ catP (ps.take i) = L at *
        go_wp2_with (at_builtin; (refine app_sl rfl _ _ rfl w.heap.size _ L rfl HO.out qa ql.length qc ql rfl rfl HQ.out.2.1 HQ.out.1 HLL.out HBB.out.size ?_; intro v3 w3 o3 b3; have q3 := b3 _ _ (Nat.le_refl _) HBB.out))
        have O3 := Lib.hid o3
        have Q3 := Lib.hid q3
        clear o3 b3 q3
        go_wp2
        go_roundw
        case rel => exact ⟨i + 1, by omega, by go_num, by rw [← NX.out]; exact O3.out, Q3.out⟩
        case measure => simp [intOf]; omega
      · have ip : i = ps.length := by omega
        have hL : P ++ catP (ps.take i) = P ++ catP ps := by rw [ip, List.take_length]
        have HLL := Lib.hid (show (P ++ catP (ps.take i)).length ≤ 800064 by have := HPN.out; have := HCT.out; rw [List.length_append]; omega)
        have HLX := Lib.hid (show ∀ c ∈ P ++ catP (ps.take i), c < 256 by
          rw [hL, HPP.out]; intro c hc
          rcases List.mem_append.1 hc with h | h
          · exact padK_lt K 54 HKX.out (by omega) c h
          · obtain ⟨p, hp, hc⟩ := List.mem_flatMap.1 h
            exact (HPS.out.2 p hp).2.2.2 c hc)
        have HL := Lib.hid hL
        have HCP5 := Lib.hid hcp
        have HSL5 := Lib.hid hSl
        have HNO5 := Lib.hid h0n
        have kge : ¬ (i : Int) < (ps.length : Int) := by omega
        have HKW := Lib.hid (show Sl wr ka K from sl_then hB (Nat.le_refl _) HKS.out)
        clear hL ip hR hB hle hcp hSl h0n hbx hPS hi hlt
        generalize P ++ catP (ps.take i) = L at *
        obtain ⟨SI, hSI⟩ : ∃ SI, SI = sha L := ⟨_, rfl⟩
        have HSI := Lib.hid hSI
        have HSIL := Lib.hid (show SI.length = 32 by rw [hSI]; exact sha_len L)
        have HSIX := Lib.hid (show ∀ c ∈ SI, c < 256 by rw [hSI]; exact sha_lt L)
        obtain ⟨PO, hPO⟩ : ∃ PO, PO = padK K 92 := ⟨_, rfl⟩
        have HPL92 := Lib.hid (show PO.length = 64 by rw [hPO]; exact padK_len K 92 HKL.out)
        have HPX := Lib.hid (show ∀ c ∈ PO, c < 256 by rw [hPO]; exact padK_lt K 92 HKX.out (by omega))
        have HMA := Lib.hid (show hmac l (catP ps) = sha (PO ++ SI) by unfold hmac; rw [HMK.out, hSI, HL.out, HPP.out, hPO])
        have HPO := Lib.hid hPO
        obtain ⟨FL, hFL⟩ : ∃ FL, FL = PO ++ SI := ⟨_, rfl⟩
        have HLX5 := Lib.hid (show ∀ c ∈ FL, c < 256 by rw [hFL]; exact fun c hc => (List.mem_append.1 hc).elim (HPX.out c) (HSIX.out c))
        have HLL5 := Lib.hid (show FL.length ≤ 900000 by rw [hFL, List.length_append, HPL92.out, HSIL.out]; omega)
        have HPS2 := Lib.hid (show PO.length + SI.length ≤ 1000000 by rw [HPL92.out, HSIL.out]; omega)
        rw [← hFL] at HMA
        have HFL := Lib.hid hFL
        clear hSI hPO hFL
        go_wp2_with (first
          | (go_at_call 54; refine (padC ka kc K 92 wr HKW.out HKL.out HKX.out (by omega)).mono ?_; rintro e w3 ⟨v3, rfl, o3, b3⟩; rw [← HPO.out] at o3; have HO3 := Lib.hid o3; have HB3 := Lib.hid b3; clear b3 o3; have HSL6 := Lib.hid (show Sl w3 ad L from sl_then HB3.out (Nat.le_refl _) HSL5.out); have HBW3 := Lib.hid (below_then HW1.out (below_then HBB.out HB3.out HBB.out.size) HW1.out.size))
          | (go_at_call 16; (with_reducible refine (sumC ad cp L w3 HSL6.out HNO5.out HCP5.out HLX.out (by have := HLL.out; omega) (tabR_then HBW3.out HT.out) (tabB_then HBW3.out HB.out)).mono ?_); rintro e w4 ⟨v4, rfl, o4, b4⟩; rw [← HSI.out] at o4; obtain ⟨sa, sc, rfl, hsc, hss, hs0, hsx⟩ := rb_sl o4; have HO4 := Lib.hid (show Rb w4 wr.heap.size v3 PO from rb_then HO3.out b4 (Nat.le_refl _)); have HSS := Lib.hid hss; have HS0 := Lib.hid hs0; have HBW4 := Lib.hid (below_then HBW3.out b4 HBW3.out.size); have HSZ := Lib.hid (show w.heap.size ≤ wr.heap.size ∧ wr.heap.size ≤ w4.heap.size from ⟨(below_then HW1.out HBB.out HW1.out.size).size, Nat.le_trans HB3.out.size b4.size⟩); clear hss hs0 hsx hsc b4 o4)
          | (at_builtin; (refine app_sl rfl _ _ rfl wr.heap.size _ PO rfl HO4.out sa SI.length sc SI rfl rfl HS0.out HSS.out HPS2.out HSZ.out.2 ?_; intro v5 w5 o5 b5; rw [← HFL.out] at o5; have q5 := b5 _ _ HSZ.out.1 HBW4.out; obtain ⟨fa, fc, rfl, hfc, hfs, hf0, hfx⟩ := rb_sl o5; have HFS := Lib.hid hfs; have HFC := Lib.hid hfc; have HF0 := Lib.hid hf0; have HB5 := Lib.hid q5; clear hfs hfc hf0 hfx o5 b5 q5))
          | (go_at_call 16; (with_reducible refine (sumC fa fc FL w5 HFS.out HF0.out HFC.out HLX5.out HLL5.out (tabR_then HB5.out HT.out) (tabB_then HB5.out HB.out)).mono ?_); rintro e w6 ⟨v6, rfl, o6, b6⟩))
        have HO6 := Lib.hid (rb_base o6 HB5.out.size)
        have HB6 := Lib.hid (below_then HB5.out b6 HB5.out.size)
        clear o6 b6
        go_ret
        exact hmP_mk (by rw [HMA.out]; exact HO6.out) HB6.out

end Go.Proofs.YtmfkfpgomglplaaDoor.Hm
