/- What is fed in pieces: the walk. -/
import Derived.Test.YtnaiefjbfpejbaaGc
set_option linter.unusedVariables false
namespace Go.Proofs.Ytnaiefjbfpejbaa.Gd
open Go Go.RowKit Kit Ep Eb Er Ea Es Et Eu Ev Ek Ew Ex Ey Ez Fa Fb Fc Fd Ga Gb Gc


theorem own_stand {w w' : World} {g size n : Nat} {u : Value} {e : TypeId} {xs : List Value} {cs : Array Value} (hf : Fr g (.slice none 0 0) (.slice none 0 0) w w') (hg : w.heap[g]? = some (.cells cs 49 (0, 0))) (h : w.ownsRow 0 e size u n xs) (he : e ≠ 49) : w'.ownsRow 0 e size u n xs := by
  refine ⟨h.1, ?_⟩
  rcases h.2 with h1 | ⟨g1, cap, cur, hu, h0, h1, rest⟩
  · exact .inl h1
  · refine .inr ⟨g1, cap, cur, hu, h0, ?_, rest⟩
    rw [hf.block g1 (lt_of h1) (fun e1 => ?_) (fun e => by cases e) (fun e => by cases e)]
    · exact h1
    · subst e1
      rw [hg] at h1
      injection h1 with h1; injection h1 with _ h1; exact he h1.symm
theorem pr_stand {w w' : World} {g g2 : Nat} {v2 x2 : Value} {p2 : Ps} {cs : Array Value} (h : PrV w g2 v2 x2 p2) (hf : Fr g (.slice none 0 0) (.slice none 0 0) w w') (hg : w.heap[g]? = some (.cells cs 49 (0, 0))) (hne : g2 ≠ g) : PrV w' g2 v2 x2 p2 :=
  ⟨(hf.block g2 h.lt hne (fun e => by cases e) (fun e => by cases e)).trans h.row, own_stand hf hg h.pa (by decide), own_stand hf hg h.tx (by decide), h.nil⟩
theorem evI_stand {w w' : World} {g : Nat} {V : Value} {qs : List EW} {cs : Array Value} (h : EvI w V qs) (hf : Fr g (.slice none 0 0) (.slice none 0 0) w w') (hg : w.heap[g]? = some (.cells cs 49 (0, 0))) : EvI w' V qs :=
  ⟨own_stand hf hg h.1 (by decide), fun q hq => own_stand hf hg (h.2 q hq) (by decide)⟩
theorem pa_le {qs : List EW} {l : List Int} (h : qs.map EW.E = (feedM (bg 0) l).2) : ∀ q ∈ qs, q.E.pa.length ≤ 100000 := by
  intro q hq
  have : q.E ∈ (feedM (bg 0) l).2 := by rw [← h]; exact List.mem_map_of_mem hq
  have := feed_pa l q.E this
  omega
/-- how far the second parser is. -/
def PieI (g : Nat) (w4 : World) (l : List Int) (s6 s7 : Value) (wr : World) : Prop := ∃ (i : Nat) (v x : Value) (qs : List EW) (vb : Option Addr) (cb : Nat), i ≤ l.length ∧ s6 = .slice vb qs.length cb ∧ s7 = .int .i64 (i : Int) ∧ StP g (.slice none 0 0) (.slice none 0 0) w4 (feedM (bg 0) (l.take i)).1 v x wr ∧ EvI wr s6 qs ∧ qs.map EW.E = (feedM (bg 0) (l.take i)).2 ∧ (∀ k, s6.ownBlock = some k → w4.heap.size ≤ k) ∧ (∀ q ∈ qs, ∀ k, (pvV q).ownBlock = some k → v.ownBlock ≠ some k)
theorem stateN (s : Nat) (g : Nat) (v x : Value) (p : Ps) (w : World) (h : PrV w g v x p) (hn : s = p.st) : Calls Try.prog 13 #[.pointer (some ⟨g, 0, none⟩)] w fun e w' => e = .returned (.int .i64 (s : Int)) ∧ w = w' := by
  subst hn; exact stateC g v x p w h
set_option maxRecDepth 100000 in
set_option maxHeartbeats 8000000 in
theorem main (a : Option Addr) (cap : Nat) (l : List Int) (w : World) (hl : l.length ≤ 2000) (hL : LRow w a l) :
    Calls Try.prog 4 #[.slice a l.length cap] w (OutP w) := by
  have HL := Lib.hid hL
  have HLN := Lib.hid hl
  have d0 : decide ((2000 : Int) < (l.length : Int)) = false := decide_eq_false (by omega)
  have HBW := Lib.hid (Below.refl w.heap.size w)
  clear hL
  go_enter Try.func4, Try.ntmps4
  go_wp2_with (first
    | (go_at_call 7; (with_reducible refine (first8 w).mono ?_); rintro e w1 ⟨rfl, bq⟩; have HB1 := Lib.hid (below_then HBW.out bq HBW.out.size); clear bq)
    | (go_at_call 8; (with_reducible refine (newC w1).mono ?_); rintro e w2 ⟨rfl, hw2⟩; have HN1 := Lib.hid (new_pr w1); have HG := Lib.hid HB1.out.size; have HZ2 := Lib.hid (show (w1.alloc (.cells #[.int .i64 0, .bool false, .int .i32 0, .int .i32 0, .slice none 0 0, .int .i64 0, .slice none 0 0] 49)).heap.size = w1.heap.size + 1 by simp); rw [hw2] at HN1 HZ2; have HB2 := Lib.hid (HB1.out.alloc HB1.out.size (.cells #[.int .i64 0, .bool false, .int .i32 0, .int .i32 0, .slice none 0 0, .int .i64 0, .slice none 0 0] 49)); rw [hw2] at HB2; clear hw2)
    | (go_at_call 8; (with_reducible refine (newC w2).mono ?_); rintro e w3 ⟨rfl, hw3⟩; have HN2 := Lib.hid (new_pr w2); have HN3 := Lib.hid (HN1.out.then_ ((Below.refl w2.heap.size w2).alloc (Nat.le_refl _) (.cells #[.int .i64 0, .bool false, .int .i32 0, .int .i32 0, .slice none 0 0, .int .i64 0, .slice none 0 0] 49)) (Nat.le_refl _)); have HB3 := Lib.hid (HB2.out.alloc HB2.out.size (.cells #[.int .i64 0, .bool false, .int .i32 0, .int .i32 0, .slice none 0 0, .int .i64 0, .slice none 0 0] 49)); rw [hw3] at HN2 HN3 HB3; clear hw3))
  have HPQ := Lib.hid (show w2.heap.size ≠ w1.heap.size by have := HZ2.out; omega)
  have HGQ := Lib.hid (show w.heap.size ≤ w2.heap.size by have := HZ2.out; have := HG.out; omega)
  have HL3 := Lib.hid (lrow_then HL.out HB3.out (Nat.le_refl _))
  have HFAR : Hid (∀ b off, l ≠ [] → a = some ⟨b, off, none⟩ → b ≠ w1.heap.size ∧ (Value.slice none 0 0).ownBlock ≠ some b ∧ (Value.slice none 0 0).ownBlock ≠ some b) := Lib.hid (fun b off h0 e => by
    obtain ⟨b2, o2, e2, h2⟩ := lrow_lt HL.out h0
    rw [e] at e2
    injection e2 with e2; injection e2 with e2 _
    refine ⟨fun e3 => ?_, (fun e3 => by cases e3), (fun e3 => by cases e3)⟩
    have := HG.out
    omega)
  have HK0 := Lib.hid (bg_ok 0 0)
  have HM0 := Lib.hid (show 0 + l.length ≤ 1000000 by have := HLN.out; omega)
  have HL0 := Lib.hid (show l.length ≤ 50000 by have := HLN.out; omega)
  go_wp2_with (go_at_call 11; (with_reducible refine (feedC a l.length cap l w1.heap.size (.slice none 0 0) (.slice none 0 0) (bg 0) 0 w3 rfl HN3.out HK0.out HM0.out HL0.out HL3.out HFAR.out).mono ?_); rintro e w4 hf; obtain ⟨v4, x4, qa, va, vc, rfl, hs, hI, hq, _, _⟩ := feedP_of hf rfl rfl; have HS4 := Lib.hid hs; have HI4 := Lib.hid hI; have HQ4 := Lib.hid hq; have HB4 := Lib.hid (st_below HB3.out hs HG.out); have HNQ := Lib.hid (pr_stand HN2.out hs.2.1 HN3.out.row HPQ.out); clear hf hs hI hq)
  have H0 := Lib.hid (show PieI w2.heap.size w4 l (.slice none 0 0) (.int .i64 0) w4 from ⟨0, _, _, [], none, 0, Nat.zero_le _, rfl, rfl, stP_refl HNQ.out, evI_nil w4, rfl, (fun k hk => by cases hk), (fun q hq => by cases hq)⟩)
  go_loopw [6, 7] (fun s6 s7 wr => PieI w2.heap.size w4 l s6 s7 wr) (fun _ s7 _ => l.length - (intOf s7).toNat)
  case atStart => exact H0.out
  case round =>
    obtain ⟨i, vq, xq, qb, vb, cb, hi, rfl, rfl, hS, hI, hq, hV, hsep⟩ := hrel
    have HS := Lib.hid hS
    have HI := Lib.hid hI
    have HQ := Lib.hid hq
    have HV := Lib.hid hV
    have HSEP := Lib.hid hsep
    have HBr := Lib.hid (st_below HB4.out hS HGQ.out)
    clear hS hI hq hV hsep
    by_cases hlt : i < l.length
    · obtain ⟨b, off, rfl, hb⟩ := lrow_lt HL.out (fun e => by rw [e] at hlt; exact absurd hlt (Nat.not_lt_zero _))
      obtain ⟨r, hr⟩ : ∃ r, r = l[i] := ⟨_, rfl⟩
      have cr : wr.cell? ⟨b, off + i, none⟩ = some (.int .i32 r) := by
        rcases lrow_then HL.out HBr.out (Nat.le_refl _) with h0 | ⟨b', off', e, hc⟩
        · rw [h0] at hlt; exact absurd hlt (Nat.not_lt_zero _)
        · injection e with e; injection e with e4 e5
          subst e4 e5
          rw [hr]; exact hc i hlt
      obtain ⟨q1, hq1⟩ : ∃ q1, q1 = (feedM (bg 0) (l.take i)).1 := ⟨_, rfl⟩
      obtain ⟨P2, hP2⟩ : ∃ P2, P2 = (feedM q1 [r]).1 := ⟨_, rfl⟩
      obtain ⟨es, hes⟩ : ∃ es, es = (feedM q1 [r]).2 := ⟨_, rfl⟩
      have hmore := feed_more (bg 0) l i hlt
      rw [← hr, ← hq1, ← hP2, ← hes] at hmore
      have HMORE := Lib.hid hmore
      have hst : P2.st ≤ 7 := by rw [← hmore.1]; exact feed_st _
      have HSQ : Hid (StP w2.heap.size (.slice none 0 0) (.slice none 0 0) w4 q1 vq xq wr) := Lib.hid (by rw [hq1]; exact HS.out)
      have HKQ : Hid (PsOk q1 i) := Lib.hid (by
        have h := feed_ok (bg_ok 0 0) (l.take i)
        rw [List.length_take, Nat.min_eq_left hi, ← hq1, Nat.zero_add] at h
        exact h)
      have HAR : Hid (#[.int .i32 r] = (rv [r]).toArray) := Lib.hid rfl
      have HN1' : Hid (1 = ([r] : List Int).length) := Lib.hid rfl
      have HM1 : Hid (i + ([r] : List Int).length ≤ 1000000) := Lib.hid (by have := HLN.out; simp; omega)
      have HL1 : Hid (([r] : List Int).length ≤ 50000) := Lib.hid (by simp)
      have HF1 : Hid ((feedM q1 [r]).1 = P2) := Lib.hid hP2.symm
      have HF2 : Hid ((feedM q1 [r]).2 = es) := Lib.hid hes.symm
      have HSA := Lib.hid (StP.alloc HSQ.out (.cells #[.int .i32 r] 21))
      have HIA := Lib.hid (evI_alloc HI.out (.cells #[.int .i32 r] 21))
      have HQN : Hid (qb.length + es.length ≤ 100000) := Lib.hid (by
        have e1 := congrArg List.length HQ.out
        rw [List.length_map] at e1
        have e2 := evs_le (bg 0) (l.take i)
        have e3 := evs_le q1 [r]
        rw [← hes] at e3
        rw [List.length_take] at e2
        have := HLN.out
        simp at e3
        omega)
      clear hmore hq1 hP2 hes hr
      go_wp2_with (first
        | (go_at_call 11; (with_reducible refine (feedLit [r] #[.int .i32 r] 1 wr.heap.size w2.heap.size vq xq q1 i wr HAR.out rfl HN1'.out (StP.pr HSQ.out) HKQ.out HM1.out HL1.out).mono ?_); rintro e w6 hf; obtain ⟨v6, x6, q6, ve, ce, rfl, hs, hI, hq, hV, hsep⟩ := feedP_of hf HF1.out HF2.out; have HS6 := Lib.hid (StP.trans HSA.out hs); have HI6 := Lib.hid hI; have HQ6 := Lib.hid hq; have HIB := Lib.hid (evI_fr (StP.pr HSA.out) hs.2.1 HIA.out HSEP.out); have HSE1 := Lib.hid (sep_step HIA.out HSEP.out hs.2.2.1); have HSE2 := Lib.hid (fun q hq k hk => (hsep q hq k hk).1); have HN6 : Hid (qb.length + q6.length ≤ 100000) := Lib.hid (by have := congrArg List.length hq; rw [List.length_map] at this; rw [this]; exact HQN.out); clear hf hs hI hq hV hsep)
        | (at_builtin; (refine app_all rfl _ _ rfl (.slice vb qb.length cb) (.slice ve q6.length ce) qb q6 rfl HIB.out rfl HI6.out HN6.out ?_; intro V7 w7 o7 b7 n7; obtain ⟨q7, hq7⟩ : ∃ q7, q7 = qb ++ q6 := ⟨_, rfl⟩; rw [← hq7] at o7; obtain ⟨vz, cz, rfl⟩ := own_slice7 o7.1; have HQ7 := Lib.hid hq7; have HI7 := Lib.hid o7; have HS7 := Lib.hid (StP.beside HS6.out HIB.out.1 b7 HV.out); have HN7 := Lib.hid n7; clear o7 b7 n7 hq7))
        | (go_at_call 13; (with_reducible refine (stateN P2.st w2.heap.size v6 x6 P2 w7 (StP.pr HS7.out) rfl).mono ?_); rintro e w' ⟨rfl, rfl⟩))
      refine ⟨⟨i + 1, v6, x6, q7, vz, cz, hlt, rfl, rfl, ?_, HI7.out, ?_, ?_, ?_⟩, ?_⟩
      · rw [HMORE.out.1]; exact HS7.out
      · rw [HMORE.out.2, HQ7.out, List.map_append, HQ.out, HQ6.out]
      · intro k hk
        rcases HN7.out k hk with h1 | h1
        · exact HV.out k h1
        · exact Nat.le_trans (HS6.out : StP _ _ _ _ _ _ _ _).2.1.size h1
      · intro q hq k hk
        rw [HQ7.out] at hq
        rcases List.mem_append.1 hq with hq | hq
        · exact HSE1.out q hq k hk
        · exact HSE2.out q hq k hk
      · show l.length - ((i : Int) + 1).toNat < l.length - (i : Int).toNat
        omega
    · have hie : i = l.length := Nat.le_antisymm hi (Nat.not_lt.1 hlt)
      subst hie
      clear hi hlt
      obtain ⟨Pl, hPl⟩ : ∃ Pl, Pl = (feedM (bg 0) l).1 := ⟨_, rfl⟩
      obtain ⟨es, hes⟩ : ∃ es, es = (feedM (bg 0) l).2 := ⟨_, rfl⟩
      have HSr : Hid (StP w2.heap.size (.slice none 0 0) (.slice none 0 0) w4 Pl vq xq wr) := Lib.hid (by have h := HS.out; rw [List.take_length, ← hPl] at h; exact h)
      have HQr : Hid (qb.map EW.E = es) := Lib.hid (by have h := HQ.out; rw [List.take_length, ← hes] at h; exact h)
      have HSp : Hid (PrV wr w1.heap.size v4 x4 Pl) := Lib.hid (by rw [hPl]; exact pr_stand (StP.pr HS4.out) (HS.out : StP _ _ _ _ _ _ _ _).2.1 HNQ.out.row (fun e => HPQ.out e.symm))
      have HIa := Lib.hid (evI_stand HI4.out (HS.out : StP _ _ _ _ _ _ _ _).2.1 HNQ.out.row)
      have HQa : Hid (qa.map EW.E = qb.map EW.E) := Lib.hid (by rw [HQr.out, hes]; exact HQ4.out)
      have HPA := Lib.hid (pa_le HQ4.out)
      have hlen : qb.length = qa.length := by have := congrArg List.length HQa.out; simpa using this.symm
      have HLE : Hid (qb.length ≤ l.length) := Lib.hid (by
        have e1 := congrArg List.length HQr.out
        rw [List.length_map, hes] at e1
        rw [e1]; exact evs_le (bg 0) l)
      have HKl : Hid (PsOk Pl l.length) := Lib.hid (by
        have h := feed_ok (bg_ok 0 0) l
        rw [← hPl, Nat.zero_add] at h; exact h)
      have HLEN := Lib.hid hlen
      have HQL : Hid (qa.length ≤ 100000) := Lib.hid (by have := HLE.out; have := HLN.out; omega)
      have HVG : Hid (∀ k, v4.ownBlock = some k → w.heap.size ≤ k) := Lib.hid (fun k hk => by
        rcases (HS4.out : StP _ _ _ _ _ _ _ _).2.2.1 k hk with h | h
        · cases h
        · exact Nat.le_trans HB3.out.size h)
      have HXG : Hid (∀ k, x4.ownBlock = some k → w.heap.size ≤ k) := Lib.hid (fun k hk => by
        rcases (HS4.out : StP _ _ _ _ _ _ _ _).2.2.2 k hk with h | h
        · cases h
        · exact Nat.le_trans HB3.out.size h)
      have hle : ¬ (l.length : Int) < (qb.length : Int) := by have := HLE.out; omega
      have hled : decide ((l.length : Int) < (qb.length : Int)) = false := decide_eq_false hle
      have hle2 : qa.length ≤ l.length := by rw [← hlen]; exact HLE.out
      have hled2 : decide ((l.length : Int) < (qa.length : Int)) = false := decide_eq_false (by omega)
      have nst : ((Pl.st : Int) != (Pl.st : Int)) = false := by simp
      have HA24 : Hid (#[.int .i32 24] = (rv [24]).toArray) := Lib.hid rfl
      have HA120 : Hid (#[.int .i32 120] = (rv [120]).toArray) := Lib.hid rfl
      have HN24 : Hid (1 = ([24] : List Int).length) := Lib.hid rfl
      have HN120 : Hid (1 = ([120] : List Int).length) := Lib.hid rfl
      have HM24 : Hid (l.length + ([24] : List Int).length ≤ 1000000) := Lib.hid (by have := HLN.out; simp; omega)
      have HM120 : Hid (0 + ([120] : List Int).length ≤ 1000000) := Lib.hid (by decide)
      have HL24 : Hid (([24] : List Int).length ≤ 50000) := Lib.hid (by decide)
      have HL120 : Hid (([120] : List Int).length ≤ 50000) := Lib.hid (by decide)
      have HF1 := Lib.hid (congrArg Prod.fst (feed_can Pl))
      have HF2 := Lib.hid (congrArg Prod.snd (feed_can Pl))
      have HF3 := Lib.hid (congrArg Prod.fst feed_x)
      have HF4 := Lib.hid (congrArg Prod.snd feed_x)
      clear hPl hes
      go_wp2_with (first
        | (go_at_call 14; (with_reducible refine (samesC va vb vc cb qa.length qa.length qa qb wr rfl rfl HIa.out HI.out HQa.out HPA.out HQL.out).mono ?_); rintro e w7 ⟨rfl, bq⟩; have HB7 := Lib.hid (below_then HBr.out bq HBr.out.size); have HP7 := Lib.hid (HSp.out.then_ bq (Nat.le_refl _)); have HR7 := Lib.hid ((StP.pr HSr.out).then_ bq (Nat.le_refl _)); clear bq)
        | (go_at_call 13; (with_reducible refine (stateN Pl.st w1.heap.size v4 x4 Pl w7 HP7.out rfl).mono ?_); rintro e w' ⟨rfl, rfl⟩)
        | (go_at_call 13; (with_reducible refine (stateN Pl.st w2.heap.size vq xq Pl w7 HR7.out rfl).mono ?_); rintro e w' ⟨rfl, rfl⟩)
        | (go_at_call 11; (with_reducible refine (feedLit [24] #[.int .i32 24] 1 w7.heap.size w1.heap.size v4 x4 Pl l.length w7 HA24.out rfl HN24.out HP7.out HKl.out HM24.out HL24.out).mono ?_); rintro e w8 hf; obtain ⟨v8, x8, q8, vf, cf, rfl, hs, _, hq, _, _⟩ := feedP_of hf HF1.out HF2.out; obtain rfl := List.map_eq_nil_iff.1 hq; have HS8 := Lib.hid hs; clear hf hs hq)
        | (go_at_call 11; (with_reducible refine (feedLit [120] #[.int .i32 120] 1 w8.heap.size w1.heap.size v8 x8 (bg 0) 0 w8 HA120.out rfl HN120.out (StP.pr HS8.out) HK0.out HM120.out HL120.out).mono ?_); rintro e w9 hf; obtain ⟨v9, x9, q9, vg, cg, rfl, hs, hI9, hq, _, _⟩ := feedP_of hf HF3.out HF4.out; obtain ⟨qz, rfl, hE⟩ := one_ev hq; obtain ⟨g9, c9, hVV⟩ := own_some7 hI9.1 (Nat.zero_lt_succ _); have hva : vg = some ⟨g9, 0, none⟩ := (by injection hVV); subst hva; have HS9 := Lib.hid (StP.trans (StP.alloc HS8.out (.cells #[.int .i32 120] 21)) hs); have HB9 := Lib.hid (fr_below (HB7.out.alloc HB7.out.size (.cells #[.int .i32 24] 21)) (HS9.out : StP _ _ _ _ _ _ _ _).2.1 HG.out HVG.out HXG.out); have e0 := ev_cells hI9 0 (Nat.zero_lt_succ _) 0 (by decide); have e1 := ev_cells hI9 0 (Nat.zero_lt_succ _) 1 (by decide); simp only [List.getElem_cons_zero, ecells, hE] at e0 e1; clear hf hs hI9 hq hVV hE)
        | (go_at_call 7; (with_reducible refine (first8 w9).mono ?_); rintro e w10 ⟨rfl, bq⟩; have HB10 := Lib.hid (below_then HB9.out bq HB9.out.size); have f0 := cell_then bq (Nat.le_refl _) e0; have f1 := cell_then bq (Nat.le_refl _) e1; clear e0 e1 bq))
      go_ret
      exact ⟨rfl, HB10.out⟩

end Go.Proofs.Ytnaiefjbfpejbaa.Gd
