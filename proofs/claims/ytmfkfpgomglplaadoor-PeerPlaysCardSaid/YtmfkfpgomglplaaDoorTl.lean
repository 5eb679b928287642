/- PktTells: sealed, opened, as the document says. -/
import Derived.Test.YtmfkfpgomglplaaDoorDt
set_option linter.unusedVariables false
namespace Go.Proofs.YtmfkfpgomglplaaDoor.Tl
open Go Go.RowKit Kit Mb Sha Ap Mc1 Sc Mx Sb Pd Su Pa Hm Mm Tg Mf Pk Se Op Pe Ps Pt Oq Pg Ar Dq Db Ds Dh Dk Ms Of Pz Pb Dp Dr Dt


def sX (key : List Nat) (d v : Int) (n : Nat) (l : List Nat) : List Nat := if mayB d v n l.length = true then sealL key d.toNat v.toNat n l else []
def sE (d v : Int) (n len : Nat) : Int := if mayB d v n len = true then 0 else 1
def SgP (X : List Nat) (E : Int) (w : World) (e : Ending) (w' : World) : Prop := ∃ xa xc, e = .returned (.tuple #[.slice xa X.length xc, .int .i64 E]) ∧ Sl w' xa X ∧ Below w.heap.size w w'
theorem sealG (d v : Int) (n : Nat) (a : Option Addr) (m cap : Nat) (l X : List Nat) (E : Int) (ka : Option Addr) (kn kc : Nat) (key : List Nat) (w : World) (hX : X = sX key d v n l) (hE : E = sE d v n l.length) (hm : m = l.length) (hkn : kn = key.length)
    (hs : Sl w a l) (h0 : a = none → cap = 0) (hcap : l.length ≤ cap) (hl : ∀ c ∈ l, c < 256) (ks : Sl w ka key) (k0 : ka = none → kc = 0) (kcap : key.length ≤ kc) (kl : ∀ c ∈ key, c < 256) (klen : key.length ≤ 800000) (hT : TabR w) (hB : TabB w) :
    Calls Tryd.prog 24 #[.slice ka kn kc, .agg #[.int .i64 d, .int .i64 v, .int .u64 (n : Int), .slice a m cap]] w (SgP X E w) := by
  subst hX hE
  cases g : mayB d v n l.length with
  | true =>
    obtain ⟨D, V, rfl, rfl, h1, h2, h3, h4, h5, h6⟩ := may_nat g
    refine (sealK D V n a m cap l (sealL key D V n l) ka kn kc key w rfl hm hkn h1 h2 h3 h4 h5 h6 hs h0 hcap hl ks k0 kcap kl klen hT hB).mono ?_
    rintro e w' ⟨xb, xo, xc, rfl, q, _, _, b⟩
    have e1 : sX key (D : Int) (V : Int) n l = sealL key D V n l := by unfold sX; rw [if_pos g]; rfl
    have e2 : sE (D : Int) (V : Int) n l.length = 0 := by unfold sE; rw [if_pos g]
    rw [e1, e2]
    exact ⟨_, _, rfl, q, b⟩
  | false =>
    refine (sealN d v n a m cap l ka kc kn w hm g).mono ?_
    rintro e w' ⟨rfl, b⟩
    have e1 : sX key d v n l = [] := by unfold sX; rw [if_neg (by rw [g]; decide)]
    have e2 : sE d v n l.length = 1 := by unfold sE; rw [if_neg (by rw [g]; decide)]
    rw [e1, e2]
    exact ⟨none, 0, rfl, .inl rfl, b⟩
theorem dsealG (d v : Int) (n : Nat) (a : Option Addr) (m cap : Nat) (l X : List Nat) (E : Int) (ka : Option Addr) (kn kc : Nat) (key : List Nat) (w : World) (hX : X = sX key d v n l) (hE : E = sE d v n l.length) (hm : m = l.length) (hkn : kn = key.length)
    (hs : Sl w a l) (h0 : a = none → cap = 0) (hcap : l.length ≤ cap) (hl : ∀ c ∈ l, c < 256) (ks : Sl w ka key) (k0 : ka = none → kc = 0) (kcap : key.length ≤ kc) (kl : ∀ c ∈ key, c < 256) (klen : key.length ≤ 800000) :
    Calls Tryd.prog 25 #[.slice ka kn kc, .agg #[.int .i64 d, .int .i64 v, .int .u64 (n : Int), .slice a m cap]] w (SgP X E w) := by
  subst hX hE
  cases g : mayB d v n l.length with
  | true =>
    obtain ⟨D, V, rfl, rfl, h1, h2, h3, h4, h5, h6⟩ := may_nat g
    refine (dsealK D V n a m cap l (sealL key D V n l) ka kn kc key w rfl hm hkn h1 h2 h3 h4 h5 h6 hs h0 hcap hl ks k0 kcap kl klen).mono ?_
    rintro e w' ⟨xb, xo, xc, rfl, q, _, _, b⟩
    have e1 : sX key (D : Int) (V : Int) n l = sealL key D V n l := by unfold sX; rw [if_pos g]; rfl
    have e2 : sE (D : Int) (V : Int) n l.length = 0 := by unfold sE; rw [if_pos g]
    rw [e1, e2]
    exact ⟨_, _, rfl, q, b⟩
  | false =>
    refine (dsealN d v n a m cap l ka kc kn w hm g).mono ?_
    rintro e w' ⟨rfl, b⟩
    have e1 : sX key d v n l = [] := by unfold sX; rw [if_neg (by rw [g]; decide)]
    have e2 : sE d v n l.length = 1 := by unfold sE; rw [if_neg (by rw [g]; decide)]
    rw [e1, e2]
    exact ⟨none, 0, rfl, .inl rfl, b⟩
theorem sX_lt (key : List Nat) (d v : Int) (n : Nat) (l : List Nat) (hl : ∀ c ∈ l, c < 256) : ∀ c ∈ sX key d v n l, c < 256 := by
  unfold sX
  split
  · rename_i g
    obtain ⟨D, V, rfl, rfl, h1, h2, h3, h4, h5, h6⟩ := may_nat g
    exact sealL_lt _ _ _ _ _ (by simp; omega) (by simp; omega) hl
  · intro c hc; simp at hc
structure Op5 where
  (d v : Int) (n : Nat) (body : List Nat) (e : Int)
def oR (key b : List Nat) : Op5 :=
  if b.length < 26 then ⟨0, 0, 0, [], 3⟩ else
  if tagL key (b.take (b.length - 16)) = b.drop (b.length - 16) then
    if mayB ((b.getD 0 0 : Nat) : Int) ((b.getD 1 0 : Nat) : Int) (numL ((b.drop 2).take 8)) (b.length - 16 - 10) = true then
      ⟨((b.getD 0 0 : Nat) : Int), ((b.getD 1 0 : Nat) : Int), numL ((b.drop 2).take 8), (b.drop 10).take (b.length - 16 - 10), 0⟩
    else ⟨0, 0, 0, [], 2⟩
  else ⟨0, 0, 0, [], 15⟩
theorem oR_lt (key b : List Nat) (hb : ∀ c ∈ b, c < 256) : ∀ c ∈ (oR key b).body, c < 256 := by
  unfold oR
  split
  · intro c hc; simp at hc
  · split
    · split
      · exact fun c hc => hb c (List.mem_of_mem_drop (List.mem_of_mem_take hc))
      · intro c hc; simp at hc
    · intro c hc; simp at hc
/-- what Open answers. -/
def OgP (r : Op5) (w : World) (e : Ending) (w' : World) : Prop := ∃ sa sc, e = .returned (.tuple #[.agg #[.int .i64 r.d, .int .i64 r.v, .int .u64 (r.n : Int), .slice sa r.body.length sc], .int .i64 r.e]) ∧ Sl w' sa r.body ∧ Below w.heap.size w w'

theorem openG (ba : Option Addr) (bn bc : Nat) (b : List Nat) (ka : Option Addr) (kn kc : Nat) (key : List Nat) (w : World) (r : Op5) (hr : oR key b = r) (ebn : bn = b.length) (ekn : kn = key.length)
    (hlen : b.length ≤ 100000) (hbc : b.length ≤ bc) (hb : Sl w ba b) (hbx : ∀ c ∈ b, c < 256) (ks : Sl w ka key) (k0 : ka = none → kc = 0) (kcap : key.length ≤ kc) (kl : ∀ c ∈ key, c < 256) (klen : key.length ≤ 800000) (hT : TabR w) (hB : TabB w) :
    Calls Tryd.prog 27 #[.slice ka kn kc, .slice ba bn bc] w (OgP r w) := by
  by_cases h26 : b.length < 26
  · have e1 : oR key b = ⟨0, 0, 0, [], 3⟩ := by unfold oR; rw [if_pos h26]
    rw [e1] at hr; subst hr
    refine (openShortE ba bn bc ka kn kc w (by omega)).mono ?_
    rintro e w' ⟨rfl, b⟩
    exact ⟨none, 0, rfl, .inl rfl, b⟩
  · obtain ⟨bb, bo, rfl, hc⟩ := sl_at hb (by omega)
    by_cases ht : tagL key (b.take (b.length - 16)) = b.drop (b.length - 16)
    · cases hm : mayB ((b.getD 0 0 : Nat) : Int) ((b.getD 1 0 : Nat) : Int) (numL ((b.drop 2).take 8)) (b.length - 16 - 10) with
      | true =>
        have e1 : oR key b = ⟨((b.getD 0 0 : Nat) : Int), ((b.getD 1 0 : Nat) : Int), numL ((b.drop 2).take 8), (b.drop 10).take (b.length - 16 - 10), 0⟩ := by unfold oR; rw [if_neg h26, if_pos ht, if_pos hm]
        rw [e1] at hr; subst hr
        refine (openOkG bb bo bc bn kn b ka kc key w (b.length - 16) ebn ekn (by omega) (by omega) (by omega) hbc hc hbx ks k0 kcap kl klen hT hB ht _ _ _ _ rfl rfl rfl rfl hm).mono ?_
        rintro e w' ⟨sl, rfl, o, b⟩
        obtain ⟨sa, sc, rfl, _, q, _, _⟩ := rb_sl o
        exact ⟨sa, sc, rfl, q, b⟩
      | false =>
        have e1 : oR key b = ⟨0, 0, 0, [], 2⟩ := by unfold oR; rw [if_neg h26, if_pos ht, if_neg (by rw [hm]; decide)]
        rw [e1] at hr; subst hr
        subst ebn ekn
        refine (openForm bb bo bc b ka kc key w (b.length - 16) (by omega) (by omega) (by omega) hbc hc hbx ks k0 kcap kl klen hT hB ht _ _ _ _ rfl rfl rfl rfl hm).mono ?_
        rintro e w' ⟨rfl, b⟩
        exact ⟨none, 0, rfl, .inl rfl, b⟩
    · have e1 : oR key b = ⟨0, 0, 0, [], 15⟩ := by unfold oR; rw [if_neg h26, if_neg ht]
      rw [e1] at hr; subst hr
      refine (openTagG bb bo bc bn kn b ka kc key w (b.length - 16) ebn ekn (by omega) (by omega) (by omega) hbc hc hbx ks k0 kcap kl klen hT hB ht).mono ?_
      rintro e w' ⟨rfl, b⟩
      exact ⟨none, 0, rfl, .inl rfl, b⟩

theorem dopenG (ba : Option Addr) (bn bc : Nat) (b : List Nat) (ka : Option Addr) (kn kc : Nat) (key : List Nat) (w : World) (r : Op5) (hr : oR key b = r) (ebn : bn = b.length) (ekn : kn = key.length)
    (hlen : b.length ≤ 100000) (hbc : b.length ≤ bc) (hb : Sl w ba b) (hbx : ∀ c ∈ b, c < 256) (ks : Sl w ka key) (k0 : ka = none → kc = 0) (kcap : key.length ≤ kc) (kl : ∀ c ∈ key, c < 256) (klen : key.length ≤ 800000) :
    Calls Tryd.prog 28 #[.slice ka kn kc, .slice ba bn bc] w (OgP r w) := by
  by_cases h26 : b.length < 26
  · have e1 : oR key b = ⟨0, 0, 0, [], 3⟩ := by unfold oR; rw [if_pos h26]
    rw [e1] at hr; subst hr
    refine (dopenShort ba bn bc ka kn kc w (by omega)).mono ?_
    rintro e w' ⟨rfl, b⟩
    exact ⟨none, 0, rfl, .inl rfl, b⟩
  · obtain ⟨bb, bo, rfl, hc⟩ := sl_at hb (by omega)
    by_cases ht : tagL key (b.take (b.length - 16)) = b.drop (b.length - 16)
    · cases hm : mayB ((b.getD 0 0 : Nat) : Int) ((b.getD 1 0 : Nat) : Int) (numL ((b.drop 2).take 8)) (b.length - 16 - 10) with
      | true =>
        have e1 : oR key b = ⟨((b.getD 0 0 : Nat) : Int), ((b.getD 1 0 : Nat) : Int), numL ((b.drop 2).take 8), (b.drop 10).take (b.length - 16 - 10), 0⟩ := by unfold oR; rw [if_neg h26, if_pos ht, if_pos hm]
        rw [e1] at hr; subst hr
        refine (dopenOk bb bo bc bn kn b ka kc key w (b.length - 16) ebn ekn (by omega) (by omega) (by omega) hbc hc hbx ks k0 kcap kl klen ht _ _ _ _ rfl rfl rfl rfl hm).mono ?_
        rintro e w' ⟨sa, sc, rfl, q, b⟩
        exact ⟨sa, sc, rfl, q, b⟩
      | false =>
        have e1 : oR key b = ⟨0, 0, 0, [], 2⟩ := by unfold oR; rw [if_neg h26, if_pos ht, if_neg (by rw [hm]; decide)]
        rw [e1] at hr; subst hr
        refine (dopenForm bb bo bc bn kn b ka kc key w (b.length - 16) ebn ekn (by omega) (by omega) (by omega) hbc hc hbx ks k0 kcap kl klen ht _ _ _ _ rfl rfl rfl rfl hm).mono ?_
        rintro e w' ⟨rfl, b⟩
        exact ⟨none, 0, rfl, .inl rfl, b⟩
    · have e1 : oR key b = ⟨0, 0, 0, [], 15⟩ := by unfold oR; rw [if_neg h26, if_neg ht]
      rw [e1] at hr; subst hr
      refine (dopenTag bb bo bc bn kn b ka kc key w (b.length - 16) ebn ekn (by omega) (by omega) (by omega) hbc hc hbx ks k0 kcap kl klen ht).mono ?_
      rintro e w' ⟨rfl, b⟩
      exact ⟨none, 0, rfl, .inl rfl, b⟩

set_option maxRecDepth 100000 in
set_option maxHeartbeats 8000000 in
theorem tellsIn (ka : Option Addr) (kc : Nat) (key : List Nat) (d1 v1 : Int) (n1 : Nat) (a1 : Option Addr) (c1 : Nat) (l1 : List Nat) (d2 v2 : Int) (n2 : Nat) (a2 : Option Addr) (c2 : Nat) (l2 : List Nat) (ba : Option Addr) (bc : Nat) (b : List Nat) (w : World) (ks : Sl w ka key) (k0 : ka = none → kc = 0) (kcap : key.length ≤ kc) (kl : ∀ c ∈ key, c < 256) (klen : key.length ≤ 3000) (s1 : Sl w a1 l1) (z1 : a1 = none → c1 = 0) (k1 : l1.length ≤ c1) (x1 : ∀ c ∈ l1, c < 256) (m1 : l1.length ≤ 3000) (s2 : Sl w a2 l2) (z2 : a2 = none → c2 = 0) (k2 : l2.length ≤ c2) (x2 : ∀ c ∈ l2, c < 256) (m2 : l2.length ≤ 3000)
    (bs : Sl w ba b) (bcap : b.length ≤ bc) (bx : ∀ c ∈ b, c < 256) (bl : b.length ≤ 3000) (hT : TabR w) (hB : TabB w) :
    Calls Tryd.prog 6 #[.slice ka key.length kc, .agg #[.int .i64 d1, .int .i64 v1, .int .u64 (n1 : Int), .slice a1 l1.length c1], .agg #[.int .i64 d2, .int .i64 v2, .int .u64 (n2 : Int), .slice a2 l2.length c2], .slice ba b.length bc] w fun e w' => e = .returned (.bool true) ∧ Below w.heap.size w w' := by
  have HS1 := Lib.hid s1
  have HZ1 := Lib.hid z1
  have HC1 := Lib.hid k1
  have HX1 := Lib.hid x1
  have tl1 : ¬ 3000 < (l1.length : Int) := by omega
  have HS2 := Lib.hid s2
  have HZ2 := Lib.hid z2
  have HC2 := Lib.hid k2
  have HX2 := Lib.hid x2
  have tl2 : ¬ 3000 < (l2.length : Int) := by omega
  have HKS := Lib.hid ks
  have HK0 := Lib.hid k0
  have HKC := Lib.hid kcap
  have HKX := Lib.hid kl
  have HK8 := Lib.hid (show key.length ≤ 800000 by omega)
  have HBS := Lib.hid bs
  have HBC := Lib.hid bcap
  have HBX := Lib.hid bx
  have HBL := Lib.hid (show b.length ≤ 100000 by omega)
  have tk : ¬ 3000 < (key.length : Int) := by omega
  have tb : ¬ 3000 < (b.length : Int) := by omega
  have HT := Lib.hid hT
  have HB := Lib.hid hB
  obtain ⟨X, hX⟩ : ∃ X, X = sX key d1 v1 n1 l1 := ⟨_, rfl⟩
  have HX := Lib.hid hX
  have HXX := Lib.hid (show ∀ c ∈ X, c < 256 by rw [hX]; exact sX_lt _ _ _ _ _ x1)
  obtain ⟨EX, hEX⟩ : ∃ X, X = sE d1 v1 n1 l1.length := ⟨_, rfl⟩
  have HEX := Lib.hid hEX
  obtain ⟨RM, hRM⟩ : ∃ r, mayB d1 v1 n1 l1.length = r := ⟨_, rfl⟩
  have HRM := Lib.hid hRM
  obtain ⟨RS, hRS⟩ : ∃ r, r = sameB d1 v1 n1 l1 d2 v2 n2 l2 := ⟨_, rfl⟩
  have HRS := Lib.hid hRS
  have hx3 := oR_lt key b bx
  obtain ⟨⟨d3, v3, n3, l3, x3⟩, hR3⟩ : ∃ r, oR key b = r := ⟨_, rfl⟩
  rw [hR3] at hx3
  have HX3 := Lib.hid (show ∀ c ∈ l3, c < 256 from hx3)
  have HR3 := Lib.hid hR3
  have CL := Lib.hid (fun W (h : Below ((w.alloc (.cells #[.int .i64 d1, .int .i64 v1, .int .u64 (n1 : Int), .slice a1 l1.length c1] 35)).alloc (.cells #[.int .i64 d2, .int .i64 v2, .int .u64 (n2 : Int), .slice a2 l2.length c2] 35)).heap.size ((w.alloc (.cells #[.int .i64 d1, .int .i64 v1, .int .u64 (n1 : Int), .slice a1 l1.length c1] 35)).alloc (.cells #[.int .i64 d2, .int .i64 v2, .int .u64 (n2 : Int), .slice a2 l2.length c2] 35)) W) => boxes2 w W 35 _ _ _ _ _ _ _ _ h)
  have HBA := Lib.hid (show Below w.heap.size w ((w.alloc (.cells #[.int .i64 d1, .int .i64 v1, .int .u64 (n1 : Int), .slice a1 l1.length c1] 35)).alloc (.cells #[.int .i64 d2, .int .i64 v2, .int .u64 (n2 : Int), .slice a2 l2.length c2] 35)) from ((Below.refl _ w).alloc (Nat.le_refl _) _).alloc (by simp) _)
  clear ks k0 kcap kl klen s1 z1 k1 x1 m1 s2 z2 k2 x2 m2 hT hB hX hEX hRM hRS hx3 hR3 bs bcap bx bl
  go_enter Tryd.func6, Tryd.ntmps6
  go_wp2_with fail
  generalize ((w.alloc (.cells #[.int .i64 d1, .int .i64 v1, .int .u64 (n1 : Int), .slice a1 l1.length c1] 35)).alloc (.cells #[.int .i64 d2, .int .i64 v2, .int .u64 (n2 : Int), .slice a2 l2.length c2] 35)) = w0 at *
  have HKS0 := Lib.hid (sl_then HBA.out (Nat.le_refl _) HKS.out)
  have HS10 := Lib.hid (sl_then HBA.out (Nat.le_refl _) HS1.out)
  have HS20 := Lib.hid (sl_then HBA.out (Nat.le_refl _) HS2.out)
  have HBS0 := Lib.hid (sl_then HBA.out (Nat.le_refl _) HBS.out)
  have HT0 := Lib.hid (tabR_then HBA.out HT.out)
  have HB0 := Lib.hid (tabB_then HBA.out HB.out)
  have HQ0 := Lib.hid (Below.refl w0.heap.size w0)
  obtain ⟨p0, p1, p2, p3, q0, q1, q2, q3⟩ := CL.out _ HQ0.out
  go_wp2_with (first
    | (go_at_call 23; (with_reducible refine (pfirst w0 (tabR_then HQ0.out HT0.out) (tabB_then HQ0.out HB0.out)).mono ?_); rintro e wq1 ⟨rfl, bq⟩; have HQ1 := Lib.hid (below_then HQ0.out bq HQ0.out.size); clear bq; clear p0 p1 p2 p3 q0 q1 q2 q3; obtain ⟨p0, p1, p2, p3, q0, q1, q2, q3⟩ := CL.out _ HQ1.out)
    | (go_at_call 24; (with_reducible refine (sealG d1 v1 n1 a1 l1.length c1 l1 X EX ka key.length kc key wq1 HX.out HEX.out rfl rfl (sl_then HQ1.out (Nat.le_refl _) HS10.out) HZ1.out HC1.out HX1.out (sl_then HQ1.out (Nat.le_refl _) HKS0.out) HK0.out HKC.out HKX.out HK8.out (tabR_then HQ1.out HT0.out) (tabB_then HQ1.out HB0.out)).mono ?_); rintro e wq2 ⟨xa, xc, rfl, lx, bq⟩; have HQ2 := Lib.hid (below_then HQ1.out bq HQ1.out.size); have X_2 := Lib.hid lx; clear bq lx; clear p0 p1 p2 p3 q0 q1 q2 q3; obtain ⟨p0, p1, p2, p3, q0, q1, q2, q3⟩ := CL.out _ HQ2.out)
    | (go_at_call 26; (with_reducible refine (plainP d1 v1 (n1 : Int) a1 l1.length c1 wq2).mono ?_); rintro e wq3 ⟨rfl, bq⟩; have HQ3 := Lib.hid (below_then HQ2.out bq HQ2.out.size); have X_3 := Lib.hid (sl_then bq (Nat.le_refl _) X_2.out); clear bq; clear p0 p1 p2 p3 q0 q1 q2 q3; obtain ⟨p0, p1, p2, p3, q0, q1, q2, q3⟩ := CL.out _ HQ3.out)
    | (go_at_call 25; (with_reducible refine (dsealG d1 v1 n1 a1 l1.length c1 l1 X EX ka key.length kc key wq3 HX.out HEX.out rfl rfl (sl_then HQ3.out (Nat.le_refl _) HS10.out) HZ1.out HC1.out HX1.out (sl_then HQ3.out (Nat.le_refl _) HKS0.out) HK0.out HKC.out HKX.out HK8.out).mono ?_); rintro e wq4 ⟨ya, yc, rfl, ly, bq⟩; have HQ4 := Lib.hid (below_then HQ3.out bq HQ3.out.size); have X_4 := Lib.hid (sl_then bq (Nat.le_refl _) X_3.out); have Y_4 := Lib.hid ly; clear bq ly; clear p0 p1 p2 p3 q0 q1 q2 q3; obtain ⟨p0, p1, p2, p3, q0, q1, q2, q3⟩ := CL.out _ HQ4.out)
    | (go_at_call 27; (with_reducible refine (openG ba b.length bc b ka key.length kc key wq4 ⟨d3, v3, n3, l3, x3⟩ HR3.out rfl rfl HBL.out HBC.out (sl_then HQ4.out (Nat.le_refl _) HBS0.out) HBX.out (sl_then HQ4.out (Nat.le_refl _) HKS0.out) HK0.out HKC.out HKX.out HK8.out (tabR_then HQ4.out HT0.out) (tabB_then HQ4.out HB0.out)).mono ?_); rintro e wq5 ⟨ua, uc, rfl, lu, bq⟩; have HQ5 := Lib.hid (below_then HQ4.out bq HQ4.out.size); have X_5 := Lib.hid (sl_then bq (Nat.le_refl _) X_4.out); have Y_5 := Lib.hid (sl_then bq (Nat.le_refl _) Y_4.out); have U_5 := Lib.hid lu; clear bq lu; clear p0 p1 p2 p3 q0 q1 q2 q3; obtain ⟨p0, p1, p2, p3, q0, q1, q2, q3⟩ := CL.out _ HQ5.out; have r0 := past_alloc (o := .cells #[.int .i64 d3, .int .i64 v3, .int .u64 (n3 : Int), .slice ua l3.length uc] 35) p0; have r1 := past_alloc (o := .cells #[.int .i64 d3, .int .i64 v3, .int .u64 (n3 : Int), .slice ua l3.length uc] 35) p1; have r2 := past_alloc (o := .cells #[.int .i64 d3, .int .i64 v3, .int .u64 (n3 : Int), .slice ua l3.length uc] 35) p2; have r3 := past_alloc (o := .cells #[.int .i64 d3, .int .i64 v3, .int .u64 (n3 : Int), .slice ua l3.length uc] 35) p3; have r4 := past_alloc (o := .cells #[.int .i64 d3, .int .i64 v3, .int .u64 (n3 : Int), .slice ua l3.length uc] 35) q0; have r5 := past_alloc (o := .cells #[.int .i64 d3, .int .i64 v3, .int .u64 (n3 : Int), .slice ua l3.length uc] 35) q1; have r6 := past_alloc (o := .cells #[.int .i64 d3, .int .i64 v3, .int .u64 (n3 : Int), .slice ua l3.length uc] 35) q2; have r7 := past_alloc (o := .cells #[.int .i64 d3, .int .i64 v3, .int .u64 (n3 : Int), .slice ua l3.length uc] 35) q3)
    | (go_at_call 28; (with_reducible refine (dopenG ba b.length bc b ka key.length kc key _ ⟨d3, v3, n3, l3, x3⟩ HR3.out rfl rfl HBL.out HBC.out (sl_alloc (sl_then HQ5.out (Nat.le_refl _) HBS0.out) _) HBX.out (sl_alloc (sl_then HQ5.out (Nat.le_refl _) HKS0.out) _) HK0.out HKC.out HKX.out HK8.out).mono ?_); rintro e wq6 ⟨va, vc, rfl, lv, bq⟩; have HQU := Lib.hid bq; have HQ6 := Lib.hid (stepB HQ5.out _ bq); have X_6 := Lib.hid (sl_then bq (Nat.le_refl _) (sl_alloc X_5.out _)); have Y_6 := Lib.hid (sl_then bq (Nat.le_refl _) (sl_alloc Y_5.out _)); have U_6 := Lib.hid (sl_then bq (Nat.le_refl _) (sl_alloc U_5.out _)); have V_6 := Lib.hid lv; clear bq lv; clear p0 p1 p2 p3 q0 q1 q2 q3; obtain ⟨p0, p1, p2, p3, q0, q1, q2, q3⟩ := CL.out _ HQ6.out; clear r0 r1 r2 r3 r4 r5 r6 r7))
  have HQZ := Lib.hid (HQ6.out.alloc HQ6.out.size (.cells #[.int .i64 d3, .int .i64 v3, .int .u64 (n3 : Int), .slice va l3.length vc] 40))
  have CU := Lib.hid (show ∀ W, Below (wq6.alloc (.cells #[.int .i64 d3, .int .i64 v3, .int .u64 (n3 : Int), .slice va l3.length vc] 40)).heap.size (wq6.alloc (.cells #[.int .i64 d3, .int .i64 v3, .int .u64 (n3 : Int), .slice va l3.length vc] 40)) W → _ from fun W h => box1 wq5 W 35 _ _ _ _ (below_then HQU.out (below_then ((Below.refl _ wq6).alloc (Nat.le_refl _) (.cells #[.int .i64 d3, .int .i64 v3, .int .u64 (n3 : Int), .slice va l3.length vc] 40)) h (by simp)) HQU.out.size))
  have CV := Lib.hid (show ∀ W, Below (wq6.alloc (.cells #[.int .i64 d3, .int .i64 v3, .int .u64 (n3 : Int), .slice va l3.length vc] 40)).heap.size (wq6.alloc (.cells #[.int .i64 d3, .int .i64 v3, .int .u64 (n3 : Int), .slice va l3.length vc] 40)) W → _ from fun W h => box1 wq6 W 40 _ _ _ _ h)
  have HXz := Lib.hid (sl_alloc X_6.out (.cells #[.int .i64 d3, .int .i64 v3, .int .u64 (n3 : Int), .slice va l3.length vc] 40))
  have HYz := Lib.hid (sl_alloc Y_6.out (.cells #[.int .i64 d3, .int .i64 v3, .int .u64 (n3 : Int), .slice va l3.length vc] 40))
  have HUz := Lib.hid (sl_alloc U_6.out (.cells #[.int .i64 d3, .int .i64 v3, .int .u64 (n3 : Int), .slice va l3.length vc] 40))
  have HVz := Lib.hid (sl_alloc V_6.out (.cells #[.int .i64 d3, .int .i64 v3, .int .u64 (n3 : Int), .slice va l3.length vc] 40))
  clear p0 p1 p2 p3 q0 q1 q2 q3 HQU tk tb tl1 tl2
  as_aux_lemma =>
    generalize (wq6.alloc (.cells #[.int .i64 d3, .int .i64 v3, .int .u64 (n3 : Int), .slice va l3.length vc] 40)) = wz at *
    generalize wq5.heap.size = gu at *
    generalize wq6.heap.size = gv at *
    have HS1z := Lib.hid (sl_then HQZ.out (Nat.le_refl _) HS10.out)
    have HS2z := Lib.hid (sl_then HQZ.out (Nat.le_refl _) HS20.out)
    have HTz := Lib.hid (tabR_then HQZ.out HT0.out)
    have HBz := Lib.hid (tabB_then HQZ.out HB0.out)
    have KS := Lib.hid (show ∀ W, Below wz.heap.size wz W → W.cell? ⟨w.heap.size, 0, none⟩ = some (.int .i64 d1) ∧ W.cell? ⟨w.heap.size, 1, none⟩ = some (.int .i64 v1) ∧ W.cell? ⟨w.heap.size, 2, none⟩ = some (.int .u64 (n1 : Int)) ∧ W.cell? ⟨w.heap.size, 3, none⟩ = some (.slice a1 l1.length c1) ∧ W.cell? ⟨w.heap.size + 1, 0, none⟩ = some (.int .i64 d2) ∧ W.cell? ⟨w.heap.size + 1, 1, none⟩ = some (.int .i64 v2) ∧ W.cell? ⟨w.heap.size + 1, 2, none⟩ = some (.int .u64 (n2 : Int)) ∧ W.cell? ⟨w.heap.size + 1, 3, none⟩ = some (.slice a2 l2.length c2) ∧ W.cell? ⟨gu, 0, none⟩ = some (.int .i64 d3) ∧ W.cell? ⟨gu, 1, none⟩ = some (.int .i64 v3) ∧ W.cell? ⟨gu, 2, none⟩ = some (.int .u64 (n3 : Int)) ∧ W.cell? ⟨gu, 3, none⟩ = some (.slice ua l3.length uc) ∧ W.cell? ⟨gv, 0, none⟩ = some (.int .i64 d3) ∧ W.cell? ⟨gv, 1, none⟩ = some (.int .i64 v3) ∧ W.cell? ⟨gv, 2, none⟩ = some (.int .u64 (n3 : Int)) ∧ W.cell? ⟨gv, 3, none⟩ = some (.slice va l3.length vc) ∧ Below wz.heap.size wz W from fun W h => by
      obtain ⟨p0, p1, p2, p3, q0, q1, q2, q3⟩ := CL.out _ (below_then HQZ.out h HQZ.out.size)
      obtain ⟨u0, u1, u2, u3⟩ := CU.out _ h
      obtain ⟨y0, y1, y2, y3⟩ := CV.out _ h
      exact ⟨p0, p1, p2, p3, q0, q1, q2, q3, u0, u1, u2, u3, y0, y1, y2, y3, h⟩)
    have KB := Lib.hid (show ∀ W, (W.cell? ⟨w.heap.size, 0, none⟩ = some (.int .i64 d1) ∧ W.cell? ⟨w.heap.size, 1, none⟩ = some (.int .i64 v1) ∧ W.cell? ⟨w.heap.size, 2, none⟩ = some (.int .u64 (n1 : Int)) ∧ W.cell? ⟨w.heap.size, 3, none⟩ = some (.slice a1 l1.length c1) ∧ W.cell? ⟨w.heap.size + 1, 0, none⟩ = some (.int .i64 d2) ∧ W.cell? ⟨w.heap.size + 1, 1, none⟩ = some (.int .i64 v2) ∧ W.cell? ⟨w.heap.size + 1, 2, none⟩ = some (.int .u64 (n2 : Int)) ∧ W.cell? ⟨w.heap.size + 1, 3, none⟩ = some (.slice a2 l2.length c2) ∧ W.cell? ⟨gu, 0, none⟩ = some (.int .i64 d3) ∧ W.cell? ⟨gu, 1, none⟩ = some (.int .i64 v3) ∧ W.cell? ⟨gu, 2, none⟩ = some (.int .u64 (n3 : Int)) ∧ W.cell? ⟨gu, 3, none⟩ = some (.slice ua l3.length uc) ∧ W.cell? ⟨gv, 0, none⟩ = some (.int .i64 d3) ∧ W.cell? ⟨gv, 1, none⟩ = some (.int .i64 v3) ∧ W.cell? ⟨gv, 2, none⟩ = some (.int .u64 (n3 : Int)) ∧ W.cell? ⟨gv, 3, none⟩ = some (.slice va l3.length vc) ∧ Below wz.heap.size wz W) → Below wz.heap.size wz W from fun W h => h.2.2.2.2.2.2.2.2.2.2.2.2.2.2.2.2)
    clear CL CU CV
    go_wp2_with fail
    refine wp_region_held_drew (S := (fun W => W.cell? ⟨w.heap.size, 0, none⟩ = some (.int .i64 d1) ∧ W.cell? ⟨w.heap.size, 1, none⟩ = some (.int .i64 v1) ∧ W.cell? ⟨w.heap.size, 2, none⟩ = some (.int .u64 (n1 : Int)) ∧ W.cell? ⟨w.heap.size, 3, none⟩ = some (.slice a1 l1.length c1) ∧ W.cell? ⟨w.heap.size + 1, 0, none⟩ = some (.int .i64 d2) ∧ W.cell? ⟨w.heap.size + 1, 1, none⟩ = some (.int .i64 v2) ∧ W.cell? ⟨w.heap.size + 1, 2, none⟩ = some (.int .u64 (n2 : Int)) ∧ W.cell? ⟨w.heap.size + 1, 3, none⟩ = some (.slice a2 l2.length c2) ∧ W.cell? ⟨gu, 0, none⟩ = some (.int .i64 d3) ∧ W.cell? ⟨gu, 1, none⟩ = some (.int .i64 v3) ∧ W.cell? ⟨gu, 2, none⟩ = some (.int .u64 (n3 : Int)) ∧ W.cell? ⟨gu, 3, none⟩ = some (.slice ua l3.length uc) ∧ W.cell? ⟨gv, 0, none⟩ = some (.int .i64 d3) ∧ W.cell? ⟨gv, 1, none⟩ = some (.int .i64 v3) ∧ W.cell? ⟨gv, 2, none⟩ = some (.int .u64 (n3 : Int)) ∧ W.cell? ⟨gv, 3, none⟩ = some (.slice va l3.length vc) ∧ Below wz.heap.size wz W)) (by kernel_rfl) ?_ (fun hHeld => ?_)
    · ((try dsimp only); (first | (with_reducible exact KS.out _ hN) | (with_reducible exact hHeld) | exact KS.out _ (Below.refl _ _).drew | exact KS.out _ (Below.refl _ _)))
    refine wpAnyH_ready (rs := [0]) (by kernel_rfl) (by simp) ?_
    refine (AllReadyH.cons (o := { dst := some 65, op := Op.call { callee := Callee.value (Operand.func 23), args := #[], argTypes := #[] }, type := 4, pos := _, after := #[], guard := none }) rfl (fun K hK => ?_) AllReadyH.nil)
    go_simp
    (go_at_call 23; (with_reducible refine (pfirst _ (tabR_then (KB.out _ hHeld) HTz.out) (tabB_then (KB.out _ hHeld) HBz.out)).mono ?_); rintro e wa ⟨rfl, ba⟩; have hN := below_then (KB.out _ hHeld) ba (KB.out _ hHeld).size; clear ba)
    go_wp2_with fail
    refine hK.out _ _ ?_ (fun hHeld => ?_)
    · ((try dsimp only); (first | (with_reducible exact KS.out _ hN) | (with_reducible exact hHeld) | exact KS.out _ (Below.refl _ _).drew | exact KS.out _ (Below.refl _ _)))
    clear hK K
    try simp only [Act.put, List.setIfInBounds_toArray, List.set_cons_zero, List.set_cons_succ]
    refine wpAnyH_take (i := 1) (oi := { dst := some 66, op := Op.move (Operand.tmp 65), type := 4, pos := _, after := #[{ on := 0, ground := Ground.data }, { on := 0, ground := Ground.chain }], guard := none }) (v := ?_) rfl (by kernel_rfl) (by kernel_rfl) (by kernel_rfl) (fun _ _ _ h => h) (Or.inl ⟨by rfl, ?_⟩) (by assumption) ?_
    rotate_left
    · ((intro w hSw); (try dsimp only at hSw); go_simp; (try with_reducible rfl))
    try simp only [Act.put, List.setIfInBounds_toArray, List.set_cons_zero, List.set_cons_succ]
    refine wpAnyH_take (i := 2) (oi := { dst := some 67, op := Op.move (Operand.tmp 9), type := 22, pos := _, after := #[{ on := 1, ground := Ground.guard }], guard := some (1, true) }) (v := ?_) rfl (by kernel_rfl) (by kernel_rfl) (by kernel_rfl) (fun _ _ _ h => h) (Or.inl ⟨by rfl, ?_⟩) (by assumption) ?_
    rotate_left
    · ((intro w hSw); (try dsimp only at hSw); go_simp; (try with_reducible rfl))
    try simp only [Act.put, List.setIfInBounds_toArray, List.set_cons_zero, List.set_cons_succ]
    refine wpAnyH_take (i := 3) (oi := { dst := some 68, op := Op.move (Operand.tmp 11), type := 22, pos := _, after := #[{ on := 1, ground := Ground.guard }], guard := some (1, true) }) (v := ?_) rfl (by kernel_rfl) (by kernel_rfl) (by kernel_rfl) (fun _ _ _ h => h) (Or.inl ⟨by rfl, ?_⟩) (by assumption) ?_
    rotate_left
    · ((intro w hSw); (try dsimp only at hSw); go_simp; (try with_reducible rfl))
    try simp only [Act.put, List.setIfInBounds_toArray, List.set_cons_zero, List.set_cons_succ]
    refine wpAnyH_ready (rs := [4]) (by kernel_rfl) (by simp) ?_
    refine (AllReadyH.cons (o := { dst := some 69, op := Op.call { callee := Callee.value (Operand.func 15), args := #[Operand.tmp 67, Operand.tmp 68], argTypes := #[22, 22] }, type := 4, pos := _, after := #[{ on := 2, ground := Ground.data }, { on := 3, ground := Ground.data }, { on := 1, ground := Ground.chain }, { on := 1, ground := Ground.guard }], guard := some (1, true) }) rfl (fun K hK => ?_) AllReadyH.nil)
    go_simp
    (go_at_call 15; (with_reducible refine (bytesD xa ya xc yc X.length X.length X X _ true rfl rfl (sl_then (KB.out _ hHeld) (Nat.le_refl _) HXz.out) (sl_then (KB.out _ hHeld) (Nat.le_refl _) HYz.out) HXX.out HXX.out (decide_eq_true rfl).symm).mono ?_); rintro e wb ⟨rfl, rfl⟩)
    go_wp2_with fail
    refine hK.out _ _ ?_ (fun hHeld => ?_)
    · ((try dsimp only); (first | (with_reducible exact KS.out _ hN) | (with_reducible exact hHeld) | exact KS.out _ (Below.refl _ _).drew | exact KS.out _ (Below.refl _ _)))
    clear hK K
    try simp only [Act.put, List.setIfInBounds_toArray, List.set_cons_zero, List.set_cons_succ]
    refine wpAnyH_take (i := 5) (oi := { dst := some 70, op := Op.pick (Operand.tmp 66) (Operand.tmp 69) (Operand.const (Value.bool false)), type := 4, pos := _, after := #[{ on := 1, ground := Ground.data }, { on := 4, ground := Ground.data }], guard := none }) (v := ?_) rfl (by kernel_rfl) (by kernel_rfl) (by kernel_rfl) (fun _ _ _ h => h) (Or.inl ⟨by rfl, ?_⟩) (by assumption) ?_
    rotate_left
    · ((intro w hSw); (try dsimp only at hSw); go_simp; (try with_reducible rfl))
    try simp only [Act.put, List.setIfInBounds_toArray, List.set_cons_zero, List.set_cons_succ]
    refine wpAnyH_take (i := 6) (oi := { dst := some 71, op := Op.move (Operand.tmp 70), type := 4, pos := _, after := #[{ on := 5, ground := Ground.data }, { on := 4, ground := Ground.chain }], guard := none }) (v := ?_) rfl (by kernel_rfl) (by kernel_rfl) (by kernel_rfl) (fun _ _ _ h => h) (Or.inl ⟨by rfl, ?_⟩) (by assumption) ?_
    rotate_left
    · ((intro w hSw); (try dsimp only at hSw); go_simp; (try with_reducible rfl))
    try simp only [Act.put, List.setIfInBounds_toArray, List.set_cons_zero, List.set_cons_succ]
    refine wpAnyH_take (i := 7) (oi := { dst := some 72, op := Op.move (Operand.tmp 10), type := 36, pos := _, after := #[{ on := 6, ground := Ground.guard }], guard := some (6, true) }) (v := ?_) rfl (by kernel_rfl) (by kernel_rfl) (by kernel_rfl) (fun _ _ _ h => h) (Or.inl ⟨by rfl, ?_⟩) (by assumption) ?_
    rotate_left
    · ((intro w hSw); (try dsimp only at hSw); go_simp; (try with_reducible rfl))
    try simp only [Act.put, List.setIfInBounds_toArray, List.set_cons_zero, List.set_cons_succ]
    refine wpAnyH_take (i := 8) (oi := { dst := some 73, op := Op.move (Operand.tmp 12), type := 36, pos := _, after := #[{ on := 6, ground := Ground.guard }], guard := some (6, true) }) (v := ?_) rfl (by kernel_rfl) (by kernel_rfl) (by kernel_rfl) (fun _ _ _ h => h) (Or.inl ⟨by rfl, ?_⟩) (by assumption) ?_
    rotate_left
    · ((intro w hSw); (try dsimp only at hSw); go_simp; (try with_reducible rfl))
    try simp only [Act.put, List.setIfInBounds_toArray, List.set_cons_zero, List.set_cons_succ]
    refine wpAnyH_take (i := 9) (oi := { dst := some 74, op := Op.binOp BinOp.eql 36 (Operand.tmp 72) (Operand.tmp 73) 36, type := 4, pos := _, after := #[{ on := 7, ground := Ground.data }, { on := 8, ground := Ground.data }, { on := 6, ground := Ground.guard }], guard := some (6, true) }) (v := ?_) rfl (by kernel_rfl) (by kernel_rfl) (by kernel_rfl) (fun _ _ _ h => h) (Or.inl ⟨by rfl, ?_⟩) (by assumption) ?_
    rotate_left
    · ((intro w hSw); (try dsimp only at hSw); go_simp; (try with_reducible rfl))
    try simp only [Act.put, List.setIfInBounds_toArray, List.set_cons_zero, List.set_cons_succ]
    refine wpAnyH_take (i := 10) (oi := { dst := some 75, op := Op.pick (Operand.tmp 71) (Operand.tmp 74) (Operand.const (Value.bool false)), type := 4, pos := _, after := #[{ on := 6, ground := Ground.data }, { on := 9, ground := Ground.data }], guard := none }) (v := ?_) rfl (by kernel_rfl) (by kernel_rfl) (by kernel_rfl) (fun _ _ _ h => h) (Or.inl ⟨by rfl, ?_⟩) (by assumption) ?_
    rotate_left
    · ((intro w hSw); (try dsimp only at hSw); go_simp; (try with_reducible rfl))
    try simp only [Act.put, List.setIfInBounds_toArray, List.set_cons_zero, List.set_cons_succ]
    refine wpAnyH_take (i := 11) (oi := { dst := some 76, op := Op.move (Operand.tmp 75), type := 4, pos := _, after := #[{ on := 10, ground := Ground.data }, { on := 6, ground := Ground.chain }], guard := none }) (v := ?_) rfl (by kernel_rfl) (by kernel_rfl) (by kernel_rfl) (fun _ _ _ h => h) (Or.inl ⟨by rfl, ?_⟩) (by assumption) ?_
    rotate_left
    · ((intro w hSw); (try dsimp only at hSw); go_simp; (try with_reducible rfl))
    try simp only [Act.put, List.setIfInBounds_toArray, List.set_cons_zero, List.set_cons_succ]
    refine wpAnyH_take (i := 12) (oi := { dst := some 77, op := Op.load 35 (Operand.tmp 13), type := 35, pos := _, after := #[{ on := 11, ground := Ground.guard }], guard := some (11, true) }) (v := ?_) rfl (by kernel_rfl) (by kernel_rfl) (by kernel_rfl) (fun _ _ _ h => h) (Or.inl ⟨by rfl, ?_⟩) (by assumption) ?_
    rotate_left
    · ((intro w hSw); (try dsimp only at hSw); go_simp; (try with_reducible rfl))
    try simp only [Act.put, List.setIfInBounds_toArray, List.set_cons_zero, List.set_cons_succ]
    refine wpAnyH_take (i := 14) (oi := { dst := some 79, op := Op.load 40 (Operand.tmp 15), type := 40, pos := _, after := #[{ on := 11, ground := Ground.guard }], guard := some (11, true) }) (v := ?_) rfl (by kernel_rfl) (by kernel_rfl) (by kernel_rfl) (fun _ _ _ h => h) (Or.inl ⟨by rfl, ?_⟩) (by assumption) ?_
    rotate_left
    · ((intro w hSw); (try dsimp only at hSw); go_simp; (try with_reducible rfl))
    try simp only [Act.put, List.setIfInBounds_toArray, List.set_cons_zero, List.set_cons_succ]
    refine wpAnyH_ready (rs := [13]) (by kernel_rfl) (by simp) ?_
    refine (AllReadyH.cons (o := { dst := some 78, op := Op.call { callee := Callee.value (Operand.func 26), args := #[Operand.tmp 77], argTypes := #[35] }, type := 40, pos := _, after := #[{ on := 12, ground := Ground.data }, { on := 11, ground := Ground.chain }, { on := 11, ground := Ground.guard }], guard := some (11, true) }) rfl (fun K hK => ?_) AllReadyH.nil)
    go_simp
    (go_at_call 26; (with_reducible refine (plainP d3 v3 (n3 : Int) ua l3.length uc _).mono ?_); rintro e wa ⟨rfl, ba⟩; have hN := below_then (KB.out _ hHeld) ba (KB.out _ hHeld).size; clear ba)
    go_wp2_with fail
    refine hK.out _ _ ?_ (fun hHeld => ?_)
    · ((try dsimp only); (first | (with_reducible exact KS.out _ hN) | (with_reducible exact hHeld) | exact KS.out _ (Below.refl _ _).drew | exact KS.out _ (Below.refl _ _)))
    clear hK K
    try simp only [Act.put, List.setIfInBounds_toArray, List.set_cons_zero, List.set_cons_succ]
    refine wpAnyH_ready (rs := [15]) (by kernel_rfl) (by simp) ?_
    refine (AllReadyH.cons (o := { dst := some 80, op := Op.call { callee := Callee.value (Operand.func 29), args := #[Operand.tmp 78, Operand.tmp 79], argTypes := #[40, 40] }, type := 4, pos := _, after := #[{ on := 13, ground := Ground.data }, { on := 14, ground := Ground.data }, { on := 13, ground := Ground.chain }, { on := 11, ground := Ground.guard }], guard := some (11, true) }) rfl (fun K hK => ?_) AllReadyH.nil)
    go_simp
    (go_at_call 29; (with_reducible refine (dsameP d3 v3 n3 ua l3.length uc l3 d3 v3 n3 va l3.length vc l3 _ rfl rfl (sl_then (KB.out _ hHeld) (Nat.le_refl _) HUz.out) (sl_then (KB.out _ hHeld) (Nat.le_refl _) HVz.out) HX3.out HX3.out true (same_self _ _ _ _)).mono ?_); rintro e wa ⟨rfl, ba⟩; have hN := below_then (KB.out _ hHeld) ba (KB.out _ hHeld).size; clear ba)
    go_wp2_with fail
    refine hK.out _ _ ?_ (fun hHeld => ?_)
    · ((try dsimp only); (first | (with_reducible exact KS.out _ hN) | (with_reducible exact hHeld) | exact KS.out _ (Below.refl _ _).drew | exact KS.out _ (Below.refl _ _)))
    clear hK K
    try simp only [Act.put, List.setIfInBounds_toArray, List.set_cons_zero, List.set_cons_succ]
    refine wpAnyH_take (i := 16) (oi := { dst := some 81, op := Op.pick (Operand.tmp 76) (Operand.tmp 80) (Operand.const (Value.bool false)), type := 4, pos := _, after := #[{ on := 11, ground := Ground.data }, { on := 15, ground := Ground.data }], guard := none }) (v := ?_) rfl (by kernel_rfl) (by kernel_rfl) (by kernel_rfl) (fun _ _ _ h => h) (Or.inl ⟨by rfl, ?_⟩) (by assumption) ?_
    rotate_left
    · ((intro w hSw); (try dsimp only at hSw); go_simp; (try with_reducible rfl))
    try simp only [Act.put, List.setIfInBounds_toArray, List.set_cons_zero, List.set_cons_succ]
    refine wpAnyH_take (i := 17) (oi := { dst := some 82, op := Op.move (Operand.tmp 81), type := 4, pos := _, after := #[{ on := 16, ground := Ground.data }, { on := 15, ground := Ground.chain }], guard := none }) (v := ?_) rfl (by kernel_rfl) (by kernel_rfl) (by kernel_rfl) (fun _ _ _ h => h) (Or.inl ⟨by rfl, ?_⟩) (by assumption) ?_
    rotate_left
    · ((intro w hSw); (try dsimp only at hSw); go_simp; (try with_reducible rfl))
    try simp only [Act.put, List.setIfInBounds_toArray, List.set_cons_zero, List.set_cons_succ]
    refine wpAnyH_take (i := 18) (oi := { dst := some 83, op := Op.move (Operand.tmp 14), type := 36, pos := _, after := #[{ on := 17, ground := Ground.guard }], guard := some (17, true) }) (v := ?_) rfl (by kernel_rfl) (by kernel_rfl) (by kernel_rfl) (fun _ _ _ h => h) (Or.inl ⟨by rfl, ?_⟩) (by assumption) ?_
    rotate_left
    · ((intro w hSw); (try dsimp only at hSw); go_simp; (try with_reducible rfl))
    try simp only [Act.put, List.setIfInBounds_toArray, List.set_cons_zero, List.set_cons_succ]
    refine wpAnyH_take (i := 19) (oi := { dst := some 84, op := Op.move (Operand.tmp 16), type := 36, pos := _, after := #[{ on := 17, ground := Ground.guard }], guard := some (17, true) }) (v := ?_) rfl (by kernel_rfl) (by kernel_rfl) (by kernel_rfl) (fun _ _ _ h => h) (Or.inl ⟨by rfl, ?_⟩) (by assumption) ?_
    rotate_left
    · ((intro w hSw); (try dsimp only at hSw); go_simp; (try with_reducible rfl))
    try simp only [Act.put, List.setIfInBounds_toArray, List.set_cons_zero, List.set_cons_succ]
    refine wpAnyH_take (i := 20) (oi := { dst := some 85, op := Op.binOp BinOp.eql 36 (Operand.tmp 83) (Operand.tmp 84) 36, type := 4, pos := _, after := #[{ on := 18, ground := Ground.data }, { on := 19, ground := Ground.data }, { on := 17, ground := Ground.guard }], guard := some (17, true) }) (v := ?_) rfl (by kernel_rfl) (by kernel_rfl) (by kernel_rfl) (fun _ _ _ h => h) (Or.inl ⟨by rfl, ?_⟩) (by assumption) ?_
    rotate_left
    · ((intro w hSw); (try dsimp only at hSw); go_simp; (try with_reducible rfl))
    try simp only [Act.put, List.setIfInBounds_toArray, List.set_cons_zero, List.set_cons_succ]
    refine wpAnyH_take (i := 21) (oi := { dst := some 86, op := Op.pick (Operand.tmp 82) (Operand.tmp 85) (Operand.const (Value.bool false)), type := 4, pos := _, after := #[{ on := 17, ground := Ground.data }, { on := 20, ground := Ground.data }], guard := none }) (v := ?_) rfl (by kernel_rfl) (by kernel_rfl) (by kernel_rfl) (fun _ _ _ h => h) (Or.inl ⟨by rfl, ?_⟩) (by assumption) ?_
    rotate_left
    · ((intro w hSw); (try dsimp only at hSw); go_simp; (try with_reducible rfl))
    try simp only [Act.put, List.setIfInBounds_toArray, List.set_cons_zero, List.set_cons_succ]
    refine wpAnyH_take (i := 22) (oi := { dst := some 87, op := Op.move (Operand.tmp 86), type := 4, pos := _, after := #[{ on := 21, ground := Ground.data }, { on := 17, ground := Ground.chain }], guard := none }) (v := ?_) rfl (by kernel_rfl) (by kernel_rfl) (by kernel_rfl) (fun _ _ _ h => h) (Or.inl ⟨by rfl, ?_⟩) (by assumption) ?_
    rotate_left
    · ((intro w hSw); (try dsimp only at hSw); go_simp; (try with_reducible rfl))
    try simp only [Act.put, List.setIfInBounds_toArray, List.set_cons_zero, List.set_cons_succ]
    refine wpAnyH_take (i := 23) (oi := { dst := some 88, op := Op.load 35 (Operand.tmp 5), type := 35, pos := _, after := #[{ on := 22, ground := Ground.guard }], guard := some (22, true) }) (v := ?_) rfl (by kernel_rfl) (by kernel_rfl) (by kernel_rfl) (fun _ _ _ h => h) (Or.inl ⟨by rfl, ?_⟩) (by assumption) ?_
    rotate_left
    · ((intro w hSw); (try dsimp only at hSw); go_simp; (try with_reducible rfl))
    try simp only [Act.put, List.setIfInBounds_toArray, List.set_cons_zero, List.set_cons_succ]
    refine wpAnyH_take (i := 25) (oi := { dst := some 90, op := Op.load 35 (Operand.tmp 5), type := 35, pos := _, after := #[{ on := 22, ground := Ground.guard }], guard := some (22, true) }) (v := ?_) rfl (by kernel_rfl) (by kernel_rfl) (by kernel_rfl) (fun _ _ _ h => h) (Or.inl ⟨by rfl, ?_⟩) (by assumption) ?_
    rotate_left
    · ((intro w hSw); (try dsimp only at hSw); go_simp; (try with_reducible rfl))
    try simp only [Act.put, List.setIfInBounds_toArray, List.set_cons_zero, List.set_cons_succ]
    refine wpAnyH_ready (rs := [24]) (by kernel_rfl) (by simp) ?_
    refine (AllReadyH.cons (o := { dst := some 89, op := Op.call { callee := Callee.value (Operand.func 30), args := #[Operand.tmp 88], argTypes := #[35] }, type := 4, pos := _, after := #[{ on := 23, ground := Ground.data }, { on := 22, ground := Ground.chain }, { on := 22, ground := Ground.guard }], guard := some (22, true) }) rfl (fun K hK => ?_) AllReadyH.nil)
    go_simp
    (go_at_call 30; (with_reducible refine (mayE d1 v1 n1 a1 l1.length c1 l1 _ RM rfl HRM.out).mono ?_); rintro e wa ⟨rfl, ba⟩; have hN := below_then (KB.out _ hHeld) ba (KB.out _ hHeld).size; clear ba)
    go_wp2_with fail
    refine hK.out _ _ ?_ (fun hHeld => ?_)
    · ((try dsimp only); (first | (with_reducible exact KS.out _ hN) | (with_reducible exact hHeld) | exact KS.out _ (Below.refl _ _).drew | exact KS.out _ (Below.refl _ _)))
    clear hK K
    try simp only [Act.put, List.setIfInBounds_toArray, List.set_cons_zero, List.set_cons_succ]
    refine wpAnyH_ready (rs := [26]) (by kernel_rfl) (by simp) ?_
    refine (AllReadyH.cons (o := { dst := some 91, op := Op.call { callee := Callee.value (Operand.func 26), args := #[Operand.tmp 90], argTypes := #[35] }, type := 40, pos := _, after := #[{ on := 25, ground := Ground.data }, { on := 24, ground := Ground.chain }, { on := 22, ground := Ground.guard }], guard := some (22, true) }) rfl (fun K hK => ?_) AllReadyH.nil)
    go_simp
    (go_at_call 26; (with_reducible refine (plainP d1 v1 (n1 : Int) a1 l1.length c1 _).mono ?_); rintro e wa ⟨rfl, ba⟩; have hN := below_then (KB.out _ hHeld) ba (KB.out _ hHeld).size; clear ba)
    go_wp2_with fail
    refine hK.out _ _ ?_ (fun hHeld => ?_)
    · ((try dsimp only); (first | (with_reducible exact KS.out _ hN) | (with_reducible exact hHeld) | exact KS.out _ (Below.refl _ _).drew | exact KS.out _ (Below.refl _ _)))
    clear hK K
    try simp only [Act.put, List.setIfInBounds_toArray, List.set_cons_zero, List.set_cons_succ]
    refine wpAnyH_ready (rs := [27]) (by kernel_rfl) (by simp) ?_
    refine (AllReadyH.cons (o := { dst := some 92, op := Op.call { callee := Callee.value (Operand.func 31), args := #[Operand.tmp 91], argTypes := #[40] }, type := 4, pos := _, after := #[{ on := 26, ground := Ground.data }, { on := 26, ground := Ground.chain }, { on := 22, ground := Ground.guard }], guard := some (22, true) }) rfl (fun K hK => ?_) AllReadyH.nil)
    go_simp
    (go_at_call 31; (with_reducible refine (dmayE d1 v1 n1 a1 l1.length c1 l1 _ RM rfl HRM.out).mono ?_); rintro e wa ⟨rfl, ba⟩; have hN := below_then (KB.out _ hHeld) ba (KB.out _ hHeld).size; clear ba)
    go_wp2_with fail
    refine hK.out _ _ ?_ (fun hHeld => ?_)
    · ((try dsimp only); (first | (with_reducible exact KS.out _ hN) | (with_reducible exact hHeld) | exact KS.out _ (Below.refl _ _).drew | exact KS.out _ (Below.refl _ _)))
    clear hK K
    try simp only [Act.put, List.setIfInBounds_toArray, List.set_cons_zero, List.set_cons_succ]
    refine wpAnyH_take (i := 28) (oi := { dst := some 93, op := Op.binOp BinOp.eql 4 (Operand.tmp 89) (Operand.tmp 92) 4, type := 4, pos := _, after := #[{ on := 24, ground := Ground.data }, { on := 27, ground := Ground.data }, { on := 22, ground := Ground.guard }], guard := some (22, true) }) (v := ?_) rfl (by kernel_rfl) (by kernel_rfl) (by kernel_rfl) (fun _ _ _ h => h) (Or.inl ⟨by rfl, ?_⟩) (by assumption) ?_
    rotate_left
    · ((intro w hSw); (try dsimp only at hSw); go_simp; (try with_reducible rfl))
    try simp only [Act.put, List.setIfInBounds_toArray, List.set_cons_zero, List.set_cons_succ]
    refine wpAnyH_take (i := 29) (oi := { dst := some 94, op := Op.pick (Operand.tmp 87) (Operand.tmp 93) (Operand.const (Value.bool false)), type := 4, pos := _, after := #[{ on := 22, ground := Ground.data }, { on := 28, ground := Ground.data }], guard := none }) (v := ?_) rfl (by kernel_rfl) (by kernel_rfl) (by kernel_rfl) (fun _ _ _ h => h) (Or.inl ⟨by rfl, ?_⟩) (by assumption) ?_
    rotate_left
    · ((intro w hSw); (try dsimp only at hSw); go_simp; (try with_reducible rfl))
    try simp only [Act.put, List.setIfInBounds_toArray, List.set_cons_zero, List.set_cons_succ]
    refine wpAnyH_take (i := 30) (oi := { dst := some 95, op := Op.move (Operand.tmp 94), type := 4, pos := _, after := #[{ on := 29, ground := Ground.data }, { on := 27, ground := Ground.chain }], guard := none }) (v := ?_) rfl (by kernel_rfl) (by kernel_rfl) (by kernel_rfl) (fun _ _ _ h => h) (Or.inl ⟨by rfl, ?_⟩) (by assumption) ?_
    rotate_left
    · ((intro w hSw); (try dsimp only at hSw); go_simp; (try with_reducible rfl))
    try simp only [Act.put, List.setIfInBounds_toArray, List.set_cons_zero, List.set_cons_succ]
    refine wpAnyH_take (i := 31) (oi := { dst := some 96, op := Op.load 35 (Operand.tmp 5), type := 35, pos := _, after := #[{ on := 30, ground := Ground.guard }], guard := some (30, true) }) (v := ?_) rfl (by kernel_rfl) (by kernel_rfl) (by kernel_rfl) (fun _ _ _ h => h) (Or.inl ⟨by rfl, ?_⟩) (by assumption) ?_
    rotate_left
    · ((intro w hSw); (try dsimp only at hSw); go_simp; (try with_reducible rfl))
    try simp only [Act.put, List.setIfInBounds_toArray, List.set_cons_zero, List.set_cons_succ]
    refine wpAnyH_take (i := 32) (oi := { dst := some 97, op := Op.load 35 (Operand.tmp 6), type := 35, pos := _, after := #[{ on := 30, ground := Ground.guard }], guard := some (30, true) }) (v := ?_) rfl (by kernel_rfl) (by kernel_rfl) (by kernel_rfl) (fun _ _ _ h => h) (Or.inl ⟨by rfl, ?_⟩) (by assumption) ?_
    rotate_left
    · ((intro w hSw); (try dsimp only at hSw); go_simp; (try with_reducible rfl))
    try simp only [Act.put, List.setIfInBounds_toArray, List.set_cons_zero, List.set_cons_succ]
    refine wpAnyH_take (i := 34) (oi := { dst := some 99, op := Op.load 35 (Operand.tmp 5), type := 35, pos := _, after := #[{ on := 30, ground := Ground.guard }], guard := some (30, true) }) (v := ?_) rfl (by kernel_rfl) (by kernel_rfl) (by kernel_rfl) (fun _ _ _ h => h) (Or.inl ⟨by rfl, ?_⟩) (by assumption) ?_
    rotate_left
    · ((intro w hSw); (try dsimp only at hSw); go_simp; (try with_reducible rfl))
    try simp only [Act.put, List.setIfInBounds_toArray, List.set_cons_zero, List.set_cons_succ]
    refine wpAnyH_take (i := 36) (oi := { dst := some 101, op := Op.load 35 (Operand.tmp 6), type := 35, pos := _, after := #[{ on := 30, ground := Ground.guard }], guard := some (30, true) }) (v := ?_) rfl (by kernel_rfl) (by kernel_rfl) (by kernel_rfl) (fun _ _ _ h => h) (Or.inl ⟨by rfl, ?_⟩) (by assumption) ?_
    rotate_left
    · ((intro w hSw); (try dsimp only at hSw); go_simp; (try with_reducible rfl))
    try simp only [Act.put, List.setIfInBounds_toArray, List.set_cons_zero, List.set_cons_succ]
    refine wpAnyH_ready (rs := [33]) (by kernel_rfl) (by simp) ?_
    refine (AllReadyH.cons (o := { dst := some 98, op := Op.call { callee := Callee.value (Operand.func 32), args := #[Operand.tmp 96, Operand.tmp 97], argTypes := #[35, 35] }, type := 4, pos := _, after := #[{ on := 31, ground := Ground.data }, { on := 32, ground := Ground.data }, { on := 30, ground := Ground.chain }, { on := 30, ground := Ground.guard }], guard := some (30, true) }) rfl (fun K hK => ?_) AllReadyH.nil)
    go_simp
    (go_at_call 32; (with_reducible refine (sameP d1 v1 n1 a1 l1.length c1 l1 d2 v2 n2 a2 l2.length c2 l2 _ rfl rfl (sl_then (KB.out _ hHeld) (Nat.le_refl _) HS1z.out) (sl_then (KB.out _ hHeld) (Nat.le_refl _) HS2z.out) HX1.out HX2.out RS HRS.out).mono ?_); rintro e wa ⟨rfl, ba⟩; have hN := below_then (KB.out _ hHeld) ba (KB.out _ hHeld).size; clear ba)
    go_wp2_with fail
    refine hK.out _ _ ?_ (fun hHeld => ?_)
    · ((try dsimp only); (first | (with_reducible exact KS.out _ hN) | (with_reducible exact hHeld) | exact KS.out _ (Below.refl _ _).drew | exact KS.out _ (Below.refl _ _)))
    clear hK K
    try simp only [Act.put, List.setIfInBounds_toArray, List.set_cons_zero, List.set_cons_succ]
    refine wpAnyH_ready (rs := [35]) (by kernel_rfl) (by simp) ?_
    refine (AllReadyH.cons (o := { dst := some 100, op := Op.call { callee := Callee.value (Operand.func 26), args := #[Operand.tmp 99], argTypes := #[35] }, type := 40, pos := _, after := #[{ on := 34, ground := Ground.data }, { on := 33, ground := Ground.chain }, { on := 30, ground := Ground.guard }], guard := some (30, true) }) rfl (fun K hK => ?_) AllReadyH.nil)
    go_simp
    (go_at_call 26; (with_reducible refine (plainP d1 v1 (n1 : Int) a1 l1.length c1 _).mono ?_); rintro e wa ⟨rfl, ba⟩; have hN := below_then (KB.out _ hHeld) ba (KB.out _ hHeld).size; clear ba)
    go_wp2_with fail
    refine hK.out _ _ ?_ (fun hHeld => ?_)
    · ((try dsimp only); (first | (with_reducible exact KS.out _ hN) | (with_reducible exact hHeld) | exact KS.out _ (Below.refl _ _).drew | exact KS.out _ (Below.refl _ _)))
    clear hK K
    try simp only [Act.put, List.setIfInBounds_toArray, List.set_cons_zero, List.set_cons_succ]
    refine wpAnyH_ready (rs := [37]) (by kernel_rfl) (by simp) ?_
    refine (AllReadyH.cons (o := { dst := some 102, op := Op.call { callee := Callee.value (Operand.func 26), args := #[Operand.tmp 101], argTypes := #[35] }, type := 40, pos := _, after := #[{ on := 36, ground := Ground.data }, { on := 35, ground := Ground.chain }, { on := 30, ground := Ground.guard }], guard := some (30, true) }) rfl (fun K hK => ?_) AllReadyH.nil)
    go_simp
    (go_at_call 26; (with_reducible refine (plainP d2 v2 (n2 : Int) a2 l2.length c2 _).mono ?_); rintro e wa ⟨rfl, ba⟩; have hN := below_then (KB.out _ hHeld) ba (KB.out _ hHeld).size; clear ba)
    go_wp2_with fail
    refine hK.out _ _ ?_ (fun hHeld => ?_)
    · ((try dsimp only); (first | (with_reducible exact KS.out _ hN) | (with_reducible exact hHeld) | exact KS.out _ (Below.refl _ _).drew | exact KS.out _ (Below.refl _ _)))
    clear hK K
    try simp only [Act.put, List.setIfInBounds_toArray, List.set_cons_zero, List.set_cons_succ]
    refine wpAnyH_ready (rs := [38]) (by kernel_rfl) (by simp) ?_
    refine (AllReadyH.cons (o := { dst := some 103, op := Op.call { callee := Callee.value (Operand.func 29), args := #[Operand.tmp 100, Operand.tmp 102], argTypes := #[40, 40] }, type := 4, pos := _, after := #[{ on := 35, ground := Ground.data }, { on := 37, ground := Ground.data }, { on := 37, ground := Ground.chain }, { on := 30, ground := Ground.guard }], guard := some (30, true) }) rfl (fun K hK => ?_) AllReadyH.nil)
    go_simp
    (go_at_call 29; (with_reducible refine (dsameP d1 v1 n1 a1 l1.length c1 l1 d2 v2 n2 a2 l2.length c2 l2 _ rfl rfl (sl_then (KB.out _ hHeld) (Nat.le_refl _) HS1z.out) (sl_then (KB.out _ hHeld) (Nat.le_refl _) HS2z.out) HX1.out HX2.out RS HRS.out).mono ?_); rintro e wa ⟨rfl, ba⟩; have hN := below_then (KB.out _ hHeld) ba (KB.out _ hHeld).size; clear ba)
    go_wp2_with fail
    refine hK.out _ _ ?_ (fun hHeld => ?_)
    · ((try dsimp only); (first | (with_reducible exact KS.out _ hN) | (with_reducible exact hHeld) | exact KS.out _ (Below.refl _ _).drew | exact KS.out _ (Below.refl _ _)))
    clear hK K
    try simp only [Act.put, List.setIfInBounds_toArray, List.set_cons_zero, List.set_cons_succ]
    refine wpAnyH_take (i := 39) (oi := { dst := some 104, op := Op.binOp BinOp.eql 4 (Operand.tmp 98) (Operand.tmp 103) 4, type := 4, pos := _, after := #[{ on := 33, ground := Ground.data }, { on := 38, ground := Ground.data }, { on := 30, ground := Ground.guard }], guard := some (30, true) }) (v := ?_) rfl (by kernel_rfl) (by kernel_rfl) (by kernel_rfl) (fun _ _ _ h => h) (Or.inl ⟨by rfl, ?_⟩) (by assumption) ?_
    rotate_left
    · ((intro w hSw); (try dsimp only at hSw); go_simp; (try with_reducible rfl))
    try simp only [Act.put, List.setIfInBounds_toArray, List.set_cons_zero, List.set_cons_succ]
    refine wpAnyH_take (i := 40) (oi := { dst := some 105, op := Op.pick (Operand.tmp 95) (Operand.tmp 104) (Operand.const (Value.bool false)), type := 4, pos := _, after := #[{ on := 30, ground := Ground.data }, { on := 39, ground := Ground.data }], guard := none }) (v := ?_) rfl (by kernel_rfl) (by kernel_rfl) (by kernel_rfl) (fun _ _ _ h => h) (Or.inl ⟨by rfl, ?_⟩) (by assumption) ?_
    rotate_left
    · ((intro w hSw); (try dsimp only at hSw); go_simp; (try with_reducible rfl))
    try simp only [Act.put, List.setIfInBounds_toArray, List.set_cons_zero, List.set_cons_succ]
    refine wpAnyH_take (i := 41) (oi := { dst := some 8, op := Op.assign (Operand.tmp 105), type := 4, pos := _, after := #[{ on := 40, ground := Ground.data }, { on := 38, ground := Ground.chain }, { on := 0, ground := Ground.phase }, { on := 1, ground := Ground.phase }, { on := 2, ground := Ground.phase }, { on := 3, ground := Ground.phase }, { on := 4, ground := Ground.phase }, { on := 5, ground := Ground.phase }, { on := 6, ground := Ground.phase }, { on := 7, ground := Ground.phase }, { on := 8, ground := Ground.phase }, { on := 9, ground := Ground.phase }, { on := 10, ground := Ground.phase }, { on := 11, ground := Ground.phase }, { on := 12, ground := Ground.phase }, { on := 13, ground := Ground.phase }, { on := 14, ground := Ground.phase }, { on := 15, ground := Ground.phase }, { on := 16, ground := Ground.phase }, { on := 17, ground := Ground.phase }, { on := 18, ground := Ground.phase }, { on := 19, ground := Ground.phase }, { on := 20, ground := Ground.phase }, { on := 21, ground := Ground.phase }, { on := 22, ground := Ground.phase }, { on := 23, ground := Ground.phase }, { on := 24, ground := Ground.phase }, { on := 25, ground := Ground.phase }, { on := 26, ground := Ground.phase }, { on := 27, ground := Ground.phase }, { on := 28, ground := Ground.phase }, { on := 29, ground := Ground.phase }, { on := 30, ground := Ground.phase }, { on := 31, ground := Ground.phase }, { on := 32, ground := Ground.phase }, { on := 33, ground := Ground.phase }, { on := 34, ground := Ground.phase }, { on := 35, ground := Ground.phase }, { on := 36, ground := Ground.phase }, { on := 37, ground := Ground.phase }, { on := 38, ground := Ground.phase }, { on := 39, ground := Ground.phase }, { on := 40, ground := Ground.phase }], guard := none }) (v := ?_) rfl (by kernel_rfl) (by kernel_rfl) (by kernel_rfl) (fun _ _ _ h => h) (Or.inl ⟨by rfl, ?_⟩) (by assumption) ?_
    rotate_left
    · ((intro w hSw); (try dsimp only at hSw); go_simp; (try with_reducible rfl))
    try simp only [Act.put, List.setIfInBounds_toArray, List.set_cons_zero, List.set_cons_succ]
    refine wpAnyH_done (by kernel_rfl) ?_ _
    clear hN
    go_wp2
    go_ret
    exact ⟨by simp, below_then HBA.out (below_then HQZ.out (KB.out _ hHeld) HQZ.out.size) HBA.out.size⟩

set_option maxRecDepth 100000 in
theorem tellsOut (ka : Option Addr) (kn kc : Nat) (d1 v1 : Int) (n1 : Nat) (a1 : Option Addr) (m1 c1 : Nat) (d2 v2 : Int) (n2 : Nat) (a2 : Option Addr) (m2 c2 : Nat) (ba : Option Addr) (bn bc : Nat) (w : World) (hno : 3000 < kn ∨ 3000 < m1 ∨ 3000 < m2 ∨ 3000 < bn) (hT : TabR w) (hB : TabB w) :
    Calls Tryd.prog 6 #[.slice ka kn kc, .agg #[.int .i64 d1, .int .i64 v1, .int .u64 (n1 : Int), .slice a1 m1 c1], .agg #[.int .i64 d2, .int .i64 v2, .int .u64 (n2 : Int), .slice a2 m2 c2], .slice ba bn bc] w fun e w' => e = .returned (.bool true) ∧ Below w.heap.size w w' := by
  have CL := Lib.hid (fun W (h : Below ((w.alloc (.cells #[.int .i64 d1, .int .i64 v1, .int .u64 (n1 : Int), .slice a1 m1 c1] 35)).alloc (.cells #[.int .i64 d2, .int .i64 v2, .int .u64 (n2 : Int), .slice a2 m2 c2] 35)).heap.size ((w.alloc (.cells #[.int .i64 d1, .int .i64 v1, .int .u64 (n1 : Int), .slice a1 m1 c1] 35)).alloc (.cells #[.int .i64 d2, .int .i64 v2, .int .u64 (n2 : Int), .slice a2 m2 c2] 35)) W) => boxes2 w W 35 _ _ _ _ _ _ _ _ h)
  have HBA := Lib.hid (show Below w.heap.size w ((w.alloc (.cells #[.int .i64 d1, .int .i64 v1, .int .u64 (n1 : Int), .slice a1 m1 c1] 35)).alloc (.cells #[.int .i64 d2, .int .i64 v2, .int .u64 (n2 : Int), .slice a2 m2 c2] 35)) from ((Below.refl _ w).alloc (Nat.le_refl _) _).alloc (by simp) _)
  have HT0 := Lib.hid (tabR_then HBA.out hT)
  have HB0 := Lib.hid (tabB_then HBA.out hB)
  clear hT hB
  by_cases h0 : 3000 < (kn : Int)
  · clear hno
    go_enter Tryd.func6, Tryd.ntmps6
    go_wp2_with fail
    generalize ((w.alloc (.cells #[.int .i64 d1, .int .i64 v1, .int .u64 (n1 : Int), .slice a1 m1 c1] 35)).alloc (.cells #[.int .i64 d2, .int .i64 v2, .int .u64 (n2 : Int), .slice a2 m2 c2] 35)) = w0 at *
    have HQ0 := Lib.hid (Below.refl w0.heap.size w0)
    obtain ⟨p0, p1, p2, p3, q0, q1, q2, q3⟩ := CL.out _ HQ0.out
    go_wp2_with (first
      | (go_at_call 23; (with_reducible refine (pfirst w0 (tabR_then HQ0.out HT0.out) (tabB_then HQ0.out HB0.out)).mono ?_); rintro e wq1 ⟨rfl, bq⟩; have HQ1 := Lib.hid (below_then HQ0.out bq HQ0.out.size); clear bq; clear p0 p1 p2 p3 q0 q1 q2 q3; obtain ⟨p0, p1, p2, p3, q0, q1, q2, q3⟩ := CL.out _ HQ1.out)
      | (go_at_call 23; (with_reducible refine (pfirst wq1 (tabR_then HQ1.out HT0.out) (tabB_then HQ1.out HB0.out)).mono ?_); rintro e wq2 ⟨rfl, bq⟩; have HQ2 := Lib.hid (below_then HQ1.out bq HQ1.out.size); clear bq; clear p0 p1 p2 p3 q0 q1 q2 q3; obtain ⟨p0, p1, p2, p3, q0, q1, q2, q3⟩ := CL.out _ HQ2.out))
    go_ret
    exact ⟨rfl, below_then HBA.out HQ2.out HBA.out.size⟩
  ·
    by_cases h1 : 3000 < (m1 : Int)
    · clear hno
      go_enter Tryd.func6, Tryd.ntmps6
      go_wp2_with fail
      generalize ((w.alloc (.cells #[.int .i64 d1, .int .i64 v1, .int .u64 (n1 : Int), .slice a1 m1 c1] 35)).alloc (.cells #[.int .i64 d2, .int .i64 v2, .int .u64 (n2 : Int), .slice a2 m2 c2] 35)) = w0 at *
      have HQ0 := Lib.hid (Below.refl w0.heap.size w0)
      obtain ⟨p0, p1, p2, p3, q0, q1, q2, q3⟩ := CL.out _ HQ0.out
      go_wp2_with (first
        | (go_at_call 23; (with_reducible refine (pfirst w0 (tabR_then HQ0.out HT0.out) (tabB_then HQ0.out HB0.out)).mono ?_); rintro e wq1 ⟨rfl, bq⟩; have HQ1 := Lib.hid (below_then HQ0.out bq HQ0.out.size); clear bq; clear p0 p1 p2 p3 q0 q1 q2 q3; obtain ⟨p0, p1, p2, p3, q0, q1, q2, q3⟩ := CL.out _ HQ1.out)
        | (go_at_call 23; (with_reducible refine (pfirst wq1 (tabR_then HQ1.out HT0.out) (tabB_then HQ1.out HB0.out)).mono ?_); rintro e wq2 ⟨rfl, bq⟩; have HQ2 := Lib.hid (below_then HQ1.out bq HQ1.out.size); clear bq; clear p0 p1 p2 p3 q0 q1 q2 q3; obtain ⟨p0, p1, p2, p3, q0, q1, q2, q3⟩ := CL.out _ HQ2.out))
      go_ret
      exact ⟨rfl, below_then HBA.out HQ2.out HBA.out.size⟩
    ·
      by_cases h2 : 3000 < (m2 : Int)
      · clear hno
        go_enter Tryd.func6, Tryd.ntmps6
        go_wp2_with fail
        generalize ((w.alloc (.cells #[.int .i64 d1, .int .i64 v1, .int .u64 (n1 : Int), .slice a1 m1 c1] 35)).alloc (.cells #[.int .i64 d2, .int .i64 v2, .int .u64 (n2 : Int), .slice a2 m2 c2] 35)) = w0 at *
        have HQ0 := Lib.hid (Below.refl w0.heap.size w0)
        obtain ⟨p0, p1, p2, p3, q0, q1, q2, q3⟩ := CL.out _ HQ0.out
        go_wp2_with (first
          | (go_at_call 23; (with_reducible refine (pfirst w0 (tabR_then HQ0.out HT0.out) (tabB_then HQ0.out HB0.out)).mono ?_); rintro e wq1 ⟨rfl, bq⟩; have HQ1 := Lib.hid (below_then HQ0.out bq HQ0.out.size); clear bq; clear p0 p1 p2 p3 q0 q1 q2 q3; obtain ⟨p0, p1, p2, p3, q0, q1, q2, q3⟩ := CL.out _ HQ1.out)
          | (go_at_call 23; (with_reducible refine (pfirst wq1 (tabR_then HQ1.out HT0.out) (tabB_then HQ1.out HB0.out)).mono ?_); rintro e wq2 ⟨rfl, bq⟩; have HQ2 := Lib.hid (below_then HQ1.out bq HQ1.out.size); clear bq; clear p0 p1 p2 p3 q0 q1 q2 q3; obtain ⟨p0, p1, p2, p3, q0, q1, q2, q3⟩ := CL.out _ HQ2.out))
        go_ret
        exact ⟨rfl, below_then HBA.out HQ2.out HBA.out.size⟩
      ·
        by_cases h3 : 3000 < (bn : Int)
        · clear hno
          go_enter Tryd.func6, Tryd.ntmps6
          go_wp2_with fail
          generalize ((w.alloc (.cells #[.int .i64 d1, .int .i64 v1, .int .u64 (n1 : Int), .slice a1 m1 c1] 35)).alloc (.cells #[.int .i64 d2, .int .i64 v2, .int .u64 (n2 : Int), .slice a2 m2 c2] 35)) = w0 at *
          have HQ0 := Lib.hid (Below.refl w0.heap.size w0)
          obtain ⟨p0, p1, p2, p3, q0, q1, q2, q3⟩ := CL.out _ HQ0.out
          go_wp2_with (first
            | (go_at_call 23; (with_reducible refine (pfirst w0 (tabR_then HQ0.out HT0.out) (tabB_then HQ0.out HB0.out)).mono ?_); rintro e wq1 ⟨rfl, bq⟩; have HQ1 := Lib.hid (below_then HQ0.out bq HQ0.out.size); clear bq; clear p0 p1 p2 p3 q0 q1 q2 q3; obtain ⟨p0, p1, p2, p3, q0, q1, q2, q3⟩ := CL.out _ HQ1.out)
            | (go_at_call 23; (with_reducible refine (pfirst wq1 (tabR_then HQ1.out HT0.out) (tabB_then HQ1.out HB0.out)).mono ?_); rintro e wq2 ⟨rfl, bq⟩; have HQ2 := Lib.hid (below_then HQ1.out bq HQ1.out.size); clear bq; clear p0 p1 p2 p3 q0 q1 q2 q3; obtain ⟨p0, p1, p2, p3, q0, q1, q2, q3⟩ := CL.out _ HQ2.out))
          go_ret
          exact ⟨rfl, below_then HBA.out HQ2.out HBA.out.size⟩
        ·
          omega

theorem walk (a0 : Option Addr) (n0 c0 : Nat) (z0 : List Int) (d1 v1 n1 : Int) (a1 : Option Addr) (m1 c1 : Nat) (z1 : List Int) (d2 v2 n2 : Int) (a2 : Option Addr) (m2 c2 : Nat) (z2 : List Int) (ba : Option Addr) (bn bc : Nat) (z3 : List Int) (W : World) (w0 : IsRow .u8 W a0 n0 c0 z0)
    (_ : (Lit.int .i64 d1).wf = true) (_ : (Lit.int .i64 v1).wf = true) (w1 : (Lit.int .u64 n1).wf = true) (r1 : IsRow .u8 W a1 m1 c1 z1) (_ : (Lit.int .i64 d2).wf = true) (_ : (Lit.int .i64 v2).wf = true) (w2 : (Lit.int .u64 n2).wf = true) (r2 : IsRow .u8 W a2 m2 c2 z2) (r3 : IsRow .u8 W ba bn bc z3)
    (h1 : Lib.TabIs Tryd.prog W "tickertape/mac.rounds" .u32 [1116352408, 1899447441, 3049323471, 3921009573, 961987163, 1508970993, 2453635748, 2870763221, 3624381080, 310598401, 607225278, 1426881987, 1925078388, 2162078206, 2614888103, 3248222580, 3835390401, 4022224774, 264347078, 604807628, 770255983, 1249150122, 1555081692, 1996064986, 2554220882, 2821834349, 2952996808, 3210313671, 3336571891, 3584528711, 113926993, 338241895, 666307205, 773529912, 1294757372, 1396182291, 1695183700, 1986661051, 2177026350, 2456956037, 2730485921, 2820302411, 3259730800, 3345764771, 3516065817, 3600352804, 4094571909, 275423344, 430227734, 506948616, 659060556, 883997877, 958139571, 1322822218, 1537002063, 1747873779, 1955562222, 2024104815, 2227730452, 2361852424, 2428436474, 2756734187, 3204031479, 3329325298]) (h2 : Lib.TabIs Tryd.prog W "tickertape/mac.beginning" .u32 [1779033703, 3144134277, 1013904242, 2773480762, 1359893119, 2600822924, 528734635, 1541459225]) :
    Calls Tryd.prog 6 #[.slice a0 n0 c0, .agg #[.int .i64 d1, .int .i64 v1, .int .u64 n1, .slice a1 m1 c1], .agg #[.int .i64 d2, .int .i64 v2, .int .u64 n2, .slice a2 m2 c2], .slice ba bn bc] W fun e W' => e = .returned (.bool true) ∧ Below W.heap.size W W' := by
  have hT := tabR_of h1
  have hB := tabB_of h2
  obtain ⟨n1, rfl⟩ := Int.eq_ofNat_of_zero_le (inU w1).1
  obtain ⟨n2, rfl⟩ := Int.eq_ofNat_of_zero_le (inU w2).1
  by_cases hno : 3000 < n0 ∨ 3000 < m1 ∨ 3000 < m2 ∨ 3000 < bn
  · exact tellsOut a0 n0 c0 d1 v1 n1 a1 m1 c1 d2 v2 n2 a2 m2 c2 ba bn bc W hno hT hB
  · obtain ⟨key, rfl, kl, ks, k0, kcap, _⟩ := row_bytes w0
    obtain ⟨l1, rfl, x1, s1, y1, q1, _⟩ := row_bytes r1
    obtain ⟨l2, rfl, x2, s2, y2, q2, _⟩ := row_bytes r2
    obtain ⟨b, rfl, x3, s3, y3, q3, _⟩ := row_bytes r3
    exact tellsIn a0 c0 key d1 v1 n1 a1 c1 l1 d2 v2 n2 a2 c2 l2 ba bc b W ks k0 kcap kl (by omega) s1 y1 q1 x1 (by omega) s2 y2 q2 x2 (by omega) s3 q3 x3 (by omega) hT hB

end Go.Proofs.YtmfkfpgomglplaaDoor.Tl
