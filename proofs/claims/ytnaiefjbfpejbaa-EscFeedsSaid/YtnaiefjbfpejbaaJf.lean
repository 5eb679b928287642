/- The document's parser: signs are fed. -/
import Derived.Test.YtnaiefjbfpejbaaJo
import Derived.Test.YtnaiefjbfpejbaaGc
set_option linter.unusedVariables false
namespace Go.Proofs.Ytnaiefjbfpejbaa.Jf
open Go Go.RowKit Kit Ep Eb Er Ea Es Et Eu Ev Ek Ew Ex Ey Ez Fa Ga Gb Ia Ib Ic Iq Jt Jo


/-- a row of the document's events, and their params beside it. -/
def EvJ (w : World) (V : Value) (qs : List EW) : Prop := w.ownsRow 0 50 7 V qs.length (qs.flatMap ecells) ∧ ∀ q ∈ qs, w.ownsRow 0 3 1 (pvV q) q.E.pa.length (iv q.E.pa)
theorem evJ_nil (w : World) : EvJ w (.slice none 0 0) [] := ⟨World.ownsRow_nil _ _ _ _, fun q hq => by cases hq⟩
theorem own_go {w w1 : World} {B base size n : Nat} {e : TypeId} {u : Value} {xs : List Value} (hu : w.ownsRow base e size u n xs) (hb : Below B w w1) (hB : w.heap.size ≤ B) : w1.ownsRow base e size u n xs := by
  refine ⟨hu.1, ?_⟩
  rcases hu.2 with h1 | ⟨g1, cap, cur, hv, h0, h1, rest⟩
  · exact .inl h1
  · exact .inr ⟨g1, cap, cur, hv, h0, (hb.block _ (Nat.lt_of_lt_of_le (lt_of h1) hB)).trans h1, rest⟩
theorem evJ_then {w w1 : World} {B : Nat} {V : Value} {qs : List EW} (h : EvJ w V qs) (hb : Below B w w1) (hB : w.heap.size ≤ B) : EvJ w1 V qs := ⟨own_go h.1 hb hB, fun q hq => own_go (h.2 q hq) hb hB⟩
/-- rows beside the document's parser that goes on. -/
theorem own_frQ {w w' : World} {g size n : Nat} {v x u : Value} {e : TypeId} {xs : List Value} {P : Qs} (hp : PrQ w g v x P) (hf : Fr g v x w w') (h : w.ownsRow 0 e size u n xs) (he : e ≠ 29) (hv : ∀ k, u.ownBlock = some k → v.ownBlock ≠ some k) (hx : ∀ k, u.ownBlock = some k → x.ownBlock ≠ some k) : w'.ownsRow 0 e size u n xs := by
  refine ⟨h.1, ?_⟩
  rcases h.2 with h1 | ⟨g1, cap, cur, hu, h0, h1, rest⟩
  · exact .inl h1
  · refine .inr ⟨g1, cap, cur, hu, h0, ?_, rest⟩
    rw [hf.block g1 (lt_of h1) (fun e1 => ?_) (hv g1 (by rw [hu]; rfl)) (hx g1 (by rw [hu]; rfl))]
    · exact h1
    · subst e1
      rw [hp.row] at h1
      injection h1 with h1; injection h1 with _ h1; exact he h1.symm
theorem kind_far {w : World} {e T size size2 n m k : Nat} {u v : Value} {xs ys : List Value} (h : w.ownsRow 0 e size u n xs) (h2 : w.ownsRow 0 T size2 v m ys) (hT : T ≠ e) (hk : u.ownBlock = some k) : v.ownBlock ≠ some k := by
  rcases h.2 with ⟨rfl, _⟩ | ⟨g1, cap, cur, rfl, _, h1, _⟩
  · cases hk
  · have : g1 = k := by injection hk
    subst this
    exact own_kind7 h2 h1 (fun e => hT e.symm)
theorem evJ_fr {w w' : World} {g : Nat} {v x V : Value} {P : Qs} {qs : List EW} (hp : PrQ w g v x P) (hf : Fr g v x w w') (h : EvJ w V qs) (hs : ∀ q ∈ qs, ∀ k, (pvV q).ownBlock = some k → v.ownBlock ≠ some k) : EvJ w' V qs :=
  ⟨own_frQ hp hf h.1 (by decide) (fun k hk => kind_far h.1 hp.pa (by decide) hk) (fun k hk => kind_far h.1 hp.tx (by decide) hk),
   fun q hq => own_frQ hp hf (h.2 q hq) (by decide) (hs q hq) (fun k hk => kind_far (h.2 q hq) hp.tx (by decide) hk)⟩
theorem info50 : (Try.prog.info? 50).map (fun i => (i.zero, i.size, i.bytes)) = some (some (.agg #[.int .i64 0, .int .i32 0, .slice none 0 0, .int .i32 0, .int .i32 0, .int .i32 0, .string ⟨#[]⟩]), 7, 72) := by kernel_rfl
theorem StQ.beside {g : Nat} {v x v' x' V : Value} {w w1 w2 : World} {p : Qs} {n : Nat} {xs : List Value} (h : StQ g v x w p v' x' w1) (hV : w1.ownsRow 0 50 7 V n xs) (hg : w1.grownBy w2 V.ownBlock) (hb : ∀ k, V.ownBlock = some k → w.heap.size ≤ k) : StQ g v x w p v' x' w2 :=
  ⟨⟨(hg.block g h.1.lt (fun e => own_kind7 hV h.1.row (by decide) e.symm)).trans h.1.row, own_other h.1.pa hV (by decide) hg, own_other h.1.tx hV (by decide) hg⟩,
   ⟨hg.os.trans h.2.1.os, hg.tape.trans h.2.1.tape, hg.output.trans h.2.1.output, Nat.le_trans h.2.1.size hg.size, fun k hk h1 h2 h3 => (hg.block k (Nat.lt_of_lt_of_le hk h.2.1.size) (fun e => by have := hb k e.symm; omega)).trans (h.2.1.block k hk h1 h2 h3)⟩, h.2.2.1, h.2.2.2⟩
/-- events more, ahead of what follows. -/
theorem app_evj {ops : Array Oper} {rest : List Oper} {o : Oper} {a : Act} {Q : Exit → Act → World → Prop} {w : World} (hgd : o.guard = none) (s y : Operand)
    (ho : o.op = .call { callee := .builtin .append, args := #[s, y], argTypes := #[31, 31] }) (V : Value) (qs ms : List EW) (hs : a.eval s = V) (hI : EvJ w V qs) (k m c : Nat) (hx : a.eval y = .slice (some ⟨k, 0, none⟩) m c) (hm : m = ms.length) (h0 : 0 < m) (hk : ∀ j u, (ms.flatMap ecells)[j]? = some u → w.cell? ⟨k, j, none⟩ = some u) (hms : ∀ q ∈ ms, w.ownsRow 0 3 1 (pvV q) q.E.pa.length (iv q.E.pa)) (hn : qs.length + m ≤ 100000)
    (h : ∀ V' w', EvJ w' V' (qs ++ ms) → w.grownBy w' V.ownBlock → New w V V' → wpList Try.prog ops Q rest (a.put o.dst V') w') : wpList Try.prog ops Q (o :: rest) a w := by
  have hl : ∀ l : List EW, (l.flatMap ecells).length = l.length * 7 := by
    intro l
    induction l with
    | nil => rfl
    | cons q l ih => rw [List.flatMap_cons, List.length_append, ih, List.length_cons, show (ecells q).length = 7 from rfl]; omega
  obtain ⟨v', w', hr, h2, h3, h4⟩ := run_own w 31 o.type 50 _ 7 72 info50 Try.underlying31 rfl (by decide) (by decide) V qs.length (qs.flatMap ecells) hI.1 ⟨k, 0, none⟩ m c (ms.flatMap ecells) (by rw [hl, hm]) (fun j u hj => by
    have hadd : (⟨k, 0, none⟩ : Addr).add j = ⟨k, j, none⟩ := by unfold Addr.add; split <;> simp_all
    rw [hadd]; exact hk j u hj) (fun u hu => by
      obtain ⟨q, _, hq⟩ := List.mem_flatMap.1 hu
      exact ecells_one q u hq) hn h0
  refine Lib.wpList_append_run_sl w hgd s y 31 ho _ _ hs hx hr (h v' w' ⟨?_, fun q hq => ?_⟩ h3 h4)
  · rw [List.length_append, List.flatMap_append, ← hm]; exact h2
  · rcases List.mem_append.1 hq with hq | hq
    · exact own_other (hI.2 q hq) hI.1 (by decide) h3
    · exact own_other (hms q hq) hI.1 (by decide) h3
/-- what a step told, behind what was told. -/
theorem app_ls {ops : Array Oper} {rest : List Oper} {o : Oper} {a : Act} {Q : Exit → Act → World → Prop} {w w0 : World} (hgd : o.guard = none) (s y : Operand)
    (ho : o.op = .call { callee := .builtin .append, args := #[s, y], argTypes := #[31, 31] }) (V X : Value) (qs : List EW) (L : List Ev) (hs : a.eval s = V) (hI : EvJ w V qs) (hx : a.eval y = X) (hX : LsQ w0 w X L) (hn : qs.length + 1 ≤ 100000)
    (h : ∀ V' w' ms, EvJ w' V' (qs ++ ms) → ms.map EW.E = L → w.grownBy w' V.ownBlock → New w V V' → (∀ q ∈ ms, ∀ j, (pvV q).ownBlock = some j → w0.heap.size ≤ j ∧ q.E.pa ≠ []) → wpList Try.prog ops Q rest (a.put o.dst V') w') : wpList Try.prog ops Q (o :: rest) a w := by
  rcases hX with ⟨rfl, rfl⟩ | ⟨E, k, pv, rfl, rfl, hk, hc, hp, hj⟩
  · obtain ⟨i0, hi, hz0, hz1, hz2⟩ := info_parts info50
    refine wpList_append_own_none hgd s y 31 ho 0 50 i0 7 Try.underlying31 hi V _ _ hs hI.1 hx ?_
    exact h V w [] (by rw [List.append_nil]; exact hI) rfl (World.grownBy.refl _ _) (New.refl _ _) (fun q hq => by cases hq)
  · obtain ⟨pa, pc, rfl⟩ := own_slice hp
    refine app_evj hgd s y ho V qs [⟨E, pa, pc⟩] hs hI k 1 1 hx rfl (by decide) (fun j u hu => ?_) (fun q hq => ?_) hn (fun V' w' h1 h2 h3 => h V' w' [⟨E, pa, pc⟩] h1 rfl h2 h3 (fun q hq j hjj => ?_))
    · rw [List.flatMap_cons, List.flatMap_nil, List.append_nil] at hu
      rw [cell_of_row w k j _ 50 _ hc]
      have e : (evC E (.slice pa E.pa.length pc)) = (ecells ⟨E, pa, pc⟩).toArray := rfl
      rw [e]; simpa using hu
    · obtain rfl := List.mem_singleton.1 hq; exact hp
    · obtain rfl := List.mem_singleton.1 hq; exact hj j hjj
/-- what the document's Feed answers. -/
def FeedJ (g : Nat) (v x : Value) (w : World) (p : Qs) (l : List Int) (e : Ending) (w' : World) : Prop := ∃ (v' x' : Value) (qs : List EW) (va : Option Addr) (vc : Nat), e = .returned (.slice va qs.length vc) ∧ StQ g v x w (feedQ p l).1 v' x' w' ∧ EvJ w' (.slice va qs.length vc) qs ∧ qs.map EW.E = (feedQ p l).2 ∧ (∀ k, (Value.slice va qs.length vc).ownBlock = some k → w.heap.size ≤ k) ∧ (∀ q ∈ qs, ∀ k, (pvV q).ownBlock = some k → v'.ownBlock ≠ some k ∧ w.heap.size ≤ k)
def FeedJI (g : Nat) (v x : Value) (w : World) (p : Qs) (l : List Int) (s5 s6 : Value) (wr : World) : Prop := ∃ (i : Nat) (v' x' : Value) (qs : List EW) (va : Option Addr) (vc : Nat), i ≤ l.length ∧ s5 = .slice va qs.length vc ∧ s6 = .int .i64 (i : Int) ∧ StQ g v x w (feedQ p (l.take i)).1 v' x' wr ∧ EvJ wr s5 qs ∧ qs.map EW.E = (feedQ p (l.take i)).2 ∧ (∀ k, s5.ownBlock = some k → w.heap.size ≤ k) ∧ (∀ q ∈ qs, ∀ k, (pvV q).ownBlock = some k → v'.ownBlock ≠ some k ∧ w.heap.size ≤ k)
theorem feedQ_snoc (p : Qs) (l : List Int) (r : Int) : feedQ p (l ++ [r]) = oneS (feedQ p l) r := by unfold feedQ; rw [List.foldl_append]; rfl
theorem fold_okQ (l : List Int) : ∀ (s : Qs × List Ev) (m : Nat), QOk s.1 m → QOk (l.foldl oneS s).1 (m + l.length) := by
  induction l with
  | nil => intro s m h; exact h
  | cons r l ih =>
    intro s m h
    rw [List.foldl_cons, List.length_cons, show m + (l.length + 1) = m + 1 + l.length by omega]
    exact ih _ _ (one_ok h r)
theorem feed_okQ {p : Qs} {m : Nat} (h : QOk p m) (l : List Int) : QOk (feedQ p l).1 (m + l.length) := fold_okQ l (p, []) m h
theorem ite_one {c : Prop} [Decidable c] {a b : Qs × List Ev} (ha : a.2.length ≤ 1) (hb : b.2.length ≤ 1) : (if c then a else b).2.length ≤ 1 := by split <;> assumption
theorem one_le1 (q : Qs) (r : Int) : (oneQ q r).2.length ≤ 1 := by
  unfold oneQ escapeQ betweenQ controlQ commandQ toldQ groundQ csiQ
  repeat' (first | refine ite_one ?_ ?_ | split)
  all_goals first | exact Nat.le_refl _ | exact Nat.zero_le _
theorem fold_leQ (l : List Int) : ∀ (s : Qs × List Ev), (l.foldl oneS s).2.length ≤ s.2.length + l.length := by
  induction l with
  | nil => intro s; exact Nat.le_refl _
  | cons r l ih =>
    intro s
    rw [List.foldl_cons, List.length_cons]
    have h := ih (oneS s r)
    have h2 : (oneS s r).2.length ≤ s.2.length + 1 := by
      show (s.2 ++ (oneQ s.1 r).2).length ≤ _
      have := one_le1 s.1 r
      rw [List.length_append]; omega
    omega
theorem evs_leQ (p : Qs) (l : List Int) : (feedQ p l).2.length ≤ l.length := by
  have := fold_leQ l (p, [])
  simpa [feedQ] using this
theorem one_st {q : Qs} (h : q.st ≤ 7) (r : Int) : (oneQ q r).1.st ≤ 7 := by
  have k : ∀ {c : Prop} [Decidable c] {a b : Qs × List Ev}, a.1.st ≤ 7 → b.1.st ≤ 7 → (if c then a else b).1.st ≤ 7 := by
    intro c _ a b ha hb; split <;> assumption
  unfold oneQ escapeQ betweenQ controlQ commandQ toldQ
  repeat' (first | refine k ?_ ?_ | split)
  all_goals first | exact h | exact Nat.le_of_ble_eq_true rfl | (show (if q.st = 4 then 6 else if q.st = 5 then 7 else 1 : Nat) ≤ 7; repeat' split; all_goals decide)
theorem fold_stQ (l : List Int) : ∀ (s : Qs × List Ev), s.1.st ≤ 7 → (l.foldl oneS s).1.st ≤ 7 := by
  induction l with
  | nil => intro s h; exact h
  | cons r l ih => intro s h; exact ih _ (one_st h r)
theorem feed_stQ {p : Qs} (h : p.st ≤ 7) (l : List Int) : (feedQ p l).1.st ≤ 7 := fold_stQ l (p, []) h
set_option maxRecDepth 100000 in
set_option maxHeartbeats 4000000 in
/-- signs are fed. -/
theorem feedQC (a : Option Addr) (n cap : Nat) (l : List Int) (g : Nat) (v x : Value) (p : Qs) (m : Nat) (w : World) (hn : n = l.length) (h : PrQ w g v x p) (hok : QOk p m) (hst : p.st ≤ 7) (hm : m + l.length ≤ 40000) (hl : LRow w a l) (hfar : ∀ b off, l ≠ [] → a = some ⟨b, off, none⟩ → b ≠ g ∧ v.ownBlock ≠ some b ∧ x.ownBlock ≠ some b) :
    Calls Try.prog 12 #[.pointer (some ⟨g, 0, none⟩), .slice a n cap] w (FeedJ g v x w p l) := by
  subst hn
  have HP := Lib.hid h
  have HOK := Lib.hid hok
  have HST := Lib.hid hst
  have HM := Lib.hid hm
  have HL := Lib.hid hl
  have HFAR := Lib.hid hfar
  have H0 := Lib.hid (show FeedJI g v x w p l (.slice none 0 0) (.int .i64 0) w from ⟨0, v, x, [], none, 0, Nat.zero_le _, rfl, rfl, stQ_refl h, evJ_nil w, rfl, (fun k hk => by cases hk), (fun q hq => by cases hq)⟩)
  clear h hok hm hl hfar hst
  go_enter Try.func12, Try.ntmps12
  go_wp2
  go_loopw [5, 6] (fun s5 s6 wr => FeedJI g v x w p l s5 s6 wr) (fun _ s6 _ => l.length - (intOf s6).toNat)
  case atStart => exact H0.out
  case round =>
    obtain ⟨i, v1, x1, qs, va, vc, hi, rfl, rfl, hS, hE, hq, hV, hsep⟩ := hrel
    have HS := Lib.hid hS
    have HE := Lib.hid hE
    have HQ := Lib.hid hq
    have HV := Lib.hid hV
    have HSEP := Lib.hid hsep
    have hl5 : l.length ≤ 40000 := by have := HM.out; omega
    clear hS hE hq hV hsep
    by_cases hlt : i < l.length
    · rcases HL.out with h0 | ⟨b, off, rfl, hc⟩
      · rw [h0] at hlt; exact absurd hlt (Nat.not_lt_zero _)
      obtain ⟨n1, n2, n3⟩ := HFAR.out b off (fun e => by rw [e] at hlt; exact absurd hlt (Nat.not_lt_zero _)) rfl
      obtain ⟨r, hr⟩ : ∃ r, r = l[i] := ⟨_, rfl⟩
      have cr := LRow.at HS.out.2.1 hc hlt n1 n2 n3
      rw [← hr] at cr
      obtain ⟨q1, hq1⟩ : ∃ q1, q1 = (feedQ p (l.take i)).1 := ⟨_, rfl⟩
      have HQ1 := Lib.hid hq1
      have HPR : Hid (PrQ wr g v1 x1 q1) := Lib.hid (by rw [hq1]; exact HS.out.1)
      have HKK : Hid (QOk q1 (m + i)) := Lib.hid (by
        have h := feed_okQ HOK.out (l.take i)
        rw [List.length_take, Nat.min_eq_left hi, ← hq1] at h
        exact h)
      have HMI : Hid (m + i ≤ 40000) := Lib.hid (by have := HM.out; omega)
      have HS7 : Hid (q1.st ≤ 7) := Lib.hid (by rw [hq1]; exact feed_stQ HST.out _)
      have HTK : Hid (feedQ p (l.take (i + 1)) = ((oneQ q1 r).1, (feedQ p (l.take i)).2 ++ (oneQ q1 r).2)) := Lib.hid (by
        rw [take_succ hlt, feedQ_snoc, ← hr]
        unfold oneS
        rw [← hq1])
      have HQL : Hid (qs.length + 1 ≤ 100000) := Lib.hid (by
        have e := congrArg List.length HQ.out
        rw [List.length_map] at e
        have := evs_leQ p (l.take i)
        rw [List.length_take] at this
        omega)
      have HX := Lib.hid (oneC r g v1 x1 q1 wr (m + i) HPR.out HKK.out HMI.out HS7.out)
      obtain ⟨L, hL⟩ : ∃ L, L = (oneQ q1 r).2 := ⟨_, rfl⟩
      obtain ⟨Q2, hQ2⟩ : ∃ Q, Q = (oneQ q1 r).1 := ⟨_, rfl⟩
      rw [← hL, ← hQ2] at HX HTK
      clear hL hQ2 hq1 hr n1 n2 n3 hc
      go_wp2_with (first
        | (go_at_call 18; (with_reducible refine HX.out.mono ?_); intro e w1 hx; obtain ⟨X, rfl, hls, v2, x2, hs, hcl⟩ := hx; have HLS := Lib.hid hls; have HS1 := Lib.hid hs; have HCL := Lib.hid hcl; have HE1 := Lib.hid (evJ_fr HPR.out hs.2.1 HE.out (fun q hq k hk => (HSEP.out q hq k hk).1)); have HS2 := Lib.hid (StQ.trans HS.out hs); clear hls hs hcl cr)
        | (at_builtin; (refine app_ls rfl _ _ rfl (.slice va qs.length vc) X qs L rfl HE1.out rfl HLS.out HQL.out ?_; intro V4 w4 ms o4 m4 b4 n4 p4; obtain ⟨qs', hqs⟩ : ∃ qs', qs' = qs ++ ms := ⟨_, rfl⟩; rw [← hqs] at o4; obtain ⟨na, nc, rfl⟩ := own_slice7 o4.1; have HQS := Lib.hid hqs; have HE4 := Lib.hid o4; have HM4 := Lib.hid m4; have HP4 := Lib.hid p4; have HS4 := Lib.hid (StQ.beside HS2.out HE1.out.1 b4 HV.out); have HN4 := Lib.hid n4; clear o4 b4 n4 m4 p4 hqs)))
      refine ⟨⟨i + 1, v2, x2, qs', na, nc, hlt, rfl, rfl, ?_, HE4.out, ?_, ?_, ?_⟩, ?_⟩
      · rw [HTK.out]; exact HS4.out
      · rw [HTK.out, HQS.out, List.map_append, HQ.out, HM4.out]
      · intro k hk
        rcases HN4.out k hk with h1 | h1
        · exact HV.out k h1
        · exact Nat.le_trans (HS2.out : StQ _ _ _ _ _ _ _ _).2.1.size h1
      · intro q hq k hk
        rw [HQS.out] at hq
        rcases List.mem_append.1 hq with hq | hq
        · refine ⟨fun e => ?_, (HSEP.out q hq k hk).2⟩
          rcases (HS1.out : StQ _ _ _ _ _ _ _ _).2.2.1 k e with h1 | h1
          · exact (HSEP.out q hq k hk).1 h1
          · have := ((HE.out.2 q hq).lt k hk).2
            omega
        · have h1 := HP4.out q hq k hk
          refine ⟨fun e => ?_, Nat.le_trans (HS.out : StQ _ _ _ _ _ _ _ _).2.1.size h1.1⟩
          have h2 := HCL.out q.E (by rw [← HM4.out]; exact List.mem_map_of_mem hq) h1.2
          rw [h2] at e
          have := (HPR.out.pa.lt k e).2
          omega
      · show l.length - ((i : Int) + 1).toNat < l.length - (i : Int).toNat
        omega
    · have hie : i = l.length := Nat.le_antisymm hi (Nat.not_lt.1 hlt)
      subst hie
      have HT : Hid (StQ g v x w (feedQ p l).1 v1 x1 wr ∧ qs.map EW.E = (feedQ p l).2) := Lib.hid (by
        have h1 := HS.out
        have h2 := HQ.out
        rw [List.take_length] at h1 h2
        exact ⟨h1, h2⟩)
      go_wp2
      go_ret
      exact ⟨v1, x1, qs, va, vc, rfl, HT.out.1, HE.out, HT.out.2, HV.out, HSEP.out⟩

end Go.Proofs.Ytnaiefjbfpejbaa.Jf
