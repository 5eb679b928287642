/- Signs are fed. -/
import Derived.Test.YtnaiefjbfpejbaaEy
set_option linter.unusedVariables false
namespace Go.Proofs.Ytnaiefjbfpejbaa.Ez
open Go Go.RowKit Kit Ep Eb Er Ea Es Et Eu Ev Ek Ew Ex Ey


theorem control_ev (p : Ps) (r : Int) : ((inControlM p r).2.kind = 4 ∧ (inControlM p r).1 = bg 0 ∧ (inControlM p r).2.pa = p.pa) ∨ ((inControlM p r).2.kind ≠ 4 ∧ (inControlM p r).2.pa = []) := by
  unfold inControlM endM
  repeat' split
  all_goals first | exact .inr ⟨fun hh => (by cases hh), rfl⟩ | exact .inl ⟨rfl, rfl, rfl⟩
theorem take_ev (p : Ps) (r : Int) : ((takeM p r).2.kind = 4 ∧ (takeM p r).1 = bg 0 ∧ (takeM p r).2.pa = p.pa) ∨ ((takeM p r).2.kind ≠ 4 ∧ (takeM p r).2.pa = []) := by
  unfold takeM
  split
  · exact .inr ⟨fun hh => (by cases hh), rfl⟩
  split
  · exact .inr ⟨fun hh => (by cases hh), rfl⟩
  split
  · exact .inr ⟨fun hh => (by cases hh), rfl⟩
  split
  · exact .inr (esc_kind (P := (inEscapeM r).1) rfl)
  split
  · exact .inr (between_kind (P := (inBetweenM p r).1) rfl)
  split
  · exact control_ev p r
  split
  · exact .inr (command_kind (P := (inCommandM p r).1) rfl)
  split
  · exact .inr ⟨fun hh => (by cases hh), rfl⟩
  split
  · split
    · exact .inr (end_kind (P := (commandM p).1) rfl)
    · exact .inr (esc_kind (P := (inEscapeM r).1) rfl)
  split
  · split
    · exact .inr ⟨fun hh => (by cases hh), rfl⟩
    · exact .inr (esc_kind (P := (inEscapeM r).1) rfl)
  · exact .inr (ground_kind r)
theorem pv_len {w : World} {g : Nat} {v x : Value} {p : Ps} (h : PrV w g v x p) (r : Int) : ∃ ea ec, pvOf (takeM p r).2 v = .slice ea (takeM p r).2.pa.length ec := by
  obtain ⟨va, vc, rfl⟩ := own_slice h.pa
  unfold pvOf
  rcases take_ev p r with ⟨h1, _, h3⟩ | ⟨h1, h3⟩
  · rw [if_pos h1, h3]; exact ⟨_, _, rfl⟩
  · rw [if_neg h1, h3]; exact ⟨none, 0, rfl⟩
/-- the params of what was told are no more the parser's. -/
theorem pv_far {w' : World} {g : Nat} {v v' x' : Value} {p : Ps} (r : Int) (h : PrV w' g v' x' (takeM p r).1) : ∀ k, (pvOf (takeM p r).2 v).ownBlock = some k → v'.ownBlock ≠ some k ∧ v.ownBlock = some k := by
  intro k hk
  unfold pvOf at hk
  rcases take_ev p r with ⟨h1, h2, _⟩ | ⟨h1, _⟩
  · rw [if_pos h1] at hk
    refine ⟨fun e => ?_, hk⟩
    have := h.nil (by rw [h2]; rfl)
    rw [this] at e
    cases e
  · rw [if_neg h1] at hk
    cases hk
/-- signs that came in. -/
def LRow (w : World) (a : Option Addr) (l : List Int) : Prop := l = [] ∨ ∃ b off, a = some ⟨b, off, none⟩ ∧ ∀ i, (h : i < l.length) → w.cell? ⟨b, off + i, none⟩ = some (.int .i32 l[i])
/-- what Feed answers. -/
def FeedP (g : Nat) (v x : Value) (w : World) (p : Ps) (l : List Int) (e : Ending) (w' : World) : Prop := ∃ (V v' x' : Value) (qs : List EW) (va : Option Addr) (vc : Nat), e = .returned V ∧ V = .slice va qs.length vc ∧ StP g v x w (feedM p l).1 v' x' w' ∧ EvI w' V qs ∧ qs.map EW.E = (feedM p l).2 ∧ (∀ k, V.ownBlock = some k → w.heap.size ≤ k) ∧ (∀ q ∈ qs, ∀ k, (pvV q).ownBlock = some k → v'.ownBlock ≠ some k ∧ (v.ownBlock = some k ∨ w.heap.size ≤ k))
theorem own_slice7 {w : World} {e : TypeId} {v : Value} {n size : Nat} {xs : List Value} (h : w.ownsRow 0 e size v n xs) : ∃ a c, v = .slice a n c := by
  rcases h.2 with ⟨rfl, rfl⟩ | ⟨g1, cap, cur, rfl, _⟩
  · exact ⟨none, 0, rfl⟩
  · exact ⟨_, _, rfl⟩
theorem evI_then {w w1 : World} {B : Nat} {V : Value} {qs : List EW} (h : EvI w V qs) (hb : Below B w w1) (hB : w.heap.size ≤ B) : EvI w1 V qs := by
  have go : ∀ (e : TypeId) (size n : Nat) (u : Value) (xs : List Value), w.ownsRow 0 e size u n xs → w1.ownsRow 0 e size u n xs := by
    intro e size n u xs hu
    refine ⟨hu.1, ?_⟩
    rcases hu.2 with h1 | ⟨g1, cap, cur, hv, h0, h1, rest⟩
    · exact .inl h1
    · exact .inr ⟨g1, cap, cur, hv, h0, (hb.block _ (Nat.lt_of_lt_of_le (lt_of h1) hB)).trans h1, rest⟩
  exact ⟨go _ _ _ _ _ h.1, fun q hq => go _ _ _ _ _ (h.2 q hq)⟩
theorem LRow.at {w wr : World} {g b off i : Nat} {v x : Value} {l : List Int} (hf : Fr g v x w wr) (h : ∀ i, (h : i < l.length) → w.cell? ⟨b, off + i, none⟩ = some (.int .i32 l[i])) (hi : i < l.length) (h1 : b ≠ g) (h2 : v.ownBlock ≠ some b) (h3 : x.ownBlock ≠ some b) : wr.cell? ⟨b, off + i, none⟩ = some (.int .i32 l[i]) := by
  have := h i hi
  rw [World.cell?_of_block (hf.block b (World.block_lt_of_cell? w _ this) h1 h2 h3)]
  exact this
/-- how far a feeding is. -/
def FeedI (g : Nat) (v x : Value) (w : World) (p : Ps) (l : List Int) (s5 s11 : Value) (wr : World) : Prop := ∃ (i : Nat) (v' x' : Value) (qs : List EW) (va : Option Addr) (vc : Nat), i ≤ l.length ∧ s5 = .slice va qs.length vc ∧ s11 = .int .i64 (i : Int) ∧ StP g v x w (feedM p (l.take i)).1 v' x' wr ∧ EvI wr s5 qs ∧ qs.map EW.E = (feedM p (l.take i)).2 ∧ (∀ k, s5.ownBlock = some k → w.heap.size ≤ k) ∧ (∀ q ∈ qs, ∀ k, (pvV q).ownBlock = some k → v'.ownBlock ≠ some k ∧ (v.ownBlock = some k ∨ w.heap.size ≤ k))
theorem take_succ {l : List Int} {i : Nat} (h : i < l.length) : l.take (i + 1) = l.take i ++ [l[i]] := by
  exact List.take_succ_eq_append_getElem h
theorem StP.beside {g : Nat} {v x v' x' V : Value} {w w1 w2 : World} {p : Ps} {n : Nat} {xs : List Value} (h : StP g v x w p v' x' w1) (hV : w1.ownsRow 0 40 7 V n xs) (hg : w1.grownBy w2 V.ownBlock) (hb : ∀ k, V.ownBlock = some k → w.heap.size ≤ k) : StP g v x w p v' x' w2 :=
  ⟨⟨(hg.block g h.1.lt (fun e => own_kind7 hV h.1.row (by decide) e.symm)).trans h.1.row, own_other h.1.pa hV (by decide) hg, own_other h.1.tx hV (by decide) hg, h.1.nil⟩,
   ⟨hg.os.trans h.2.1.os, hg.tape.trans h.2.1.tape, hg.output.trans h.2.1.output, Nat.le_trans h.2.1.size hg.size, fun k hk h1 h2 h3 => (hg.block k (Nat.lt_of_lt_of_le hk h.2.1.size) (fun e => by have := hb k e.symm; omega)).trans (h.2.1.block k hk h1 h2 h3)⟩, h.2.2.1, h.2.2.2⟩
theorem sep_step {w : World} {V v v' : Value} {qs : List EW} (h : EvI w V qs) (hs : ∀ q ∈ qs, ∀ k, (pvV q).ownBlock = some k → v.ownBlock ≠ some k) (hn : New w v v') : ∀ q ∈ qs, ∀ k, (pvV q).ownBlock = some k → v'.ownBlock ≠ some k := by
  intro q hq k hk e
  rcases hn k e with h1 | h1
  · exact hs q hq k hk h1
  · have := ((h.2 q hq).lt k hk).2
    omega
theorem one_cells {w : World} {k : Nat} {q : EW} (h : w.heap[k]? = some (.cells (ecells q).toArray 40 (0, 0))) : ∀ j u, ([q].flatMap ecells)[j]? = some u → w.cell? ⟨k, j, none⟩ = some u := by
  intro j u hj
  rw [List.flatMap_cons, List.flatMap_nil, List.append_nil] at hj
  rw [cell_of_row w k j _ 40 _ h]
  simpa using hj
set_option maxRecDepth 100000 in
set_option maxHeartbeats 4000000 in
/-- signs are fed. -/
theorem feedC (a : Option Addr) (n cap : Nat) (l : List Int) (g : Nat) (v x : Value) (p : Ps) (m : Nat) (w : World) (hn : n = l.length) (h : PrV w g v x p) (hok : PsOk p m) (hm : m + l.length ≤ 1000000) (hlen : l.length ≤ 50000) (hl : LRow w a l) (hfar : ∀ b off, l ≠ [] → a = some ⟨b, off, none⟩ → b ≠ g ∧ v.ownBlock ≠ some b ∧ x.ownBlock ≠ some b) :
    Calls Try.prog 11 #[.pointer (some ⟨g, 0, none⟩), .slice a n cap] w (FeedP g v x w p l) := by
  subst hn
  have HP := Lib.hid h
  have HOK := Lib.hid hok
  have HM := Lib.hid hm
  have HLEN := Lib.hid hlen
  have HL := Lib.hid hl
  have HFAR := Lib.hid hfar
  have H0 := Lib.hid (show FeedI g v x w p l (.slice none 0 0) (.int .i64 0) w from ⟨0, v, x, [], none, 0, Nat.zero_le _, rfl, rfl, stP_refl h, evI_nil w, rfl, (fun k hk => by cases hk), (fun q hq => by cases hq)⟩)
  clear h hok hm hlen hl hfar
  go_enter Try.func11, Try.ntmps11
  go_wp2
  go_loopw [5, 11] (fun s5 s11 wr => FeedI g v x w p l s5 s11 wr) (fun _ s11 _ => l.length - (intOf s11).toNat)
  case atStart => exact H0.out
  case round =>
    obtain ⟨i, v1, x1, qs, va, vc, hi, rfl, rfl, hS, hE, hq, hV, hsep⟩ := hrel
    have HS := Lib.hid hS
    have HE := Lib.hid hE
    have HQ := Lib.hid hq
    have HV := Lib.hid hV
    have HSEP := Lib.hid hsep
    have hl5 := HLEN.out
    clear hS hE hq hV hsep
    by_cases hlt : i < l.length
    · rcases HL.out with h0 | ⟨b, off, rfl, hc⟩
      · rw [h0] at hlt; exact absurd hlt (Nat.not_lt_zero _)
      obtain ⟨n1, n2, n3⟩ := HFAR.out b off (fun e => by rw [e] at hlt; exact absurd hlt (Nat.not_lt_zero _)) rfl
      obtain ⟨r, hr⟩ : ∃ r, r = l[i] := ⟨_, rfl⟩
      have cr := LRow.at HS.out.2.1 hc hlt n1 n2 n3
      rw [← hr] at cr
      obtain ⟨q1, hq1⟩ : ∃ q1, q1 = (feedM p (l.take i)).1 := ⟨_, rfl⟩
      have HQ1 := Lib.hid hq1
      have HPR : Hid (PrV wr g v1 x1 q1) := Lib.hid (by rw [hq1]; exact HS.out.1)
      have HKK : Hid (PsOk q1 (m + i)) := Lib.hid (by
        have h := feed_ok HOK.out (l.take i)
        rw [List.length_take, Nat.min_eq_left hi, ← hq1] at h
        exact h)
      have HSE : Hid (q1.se ≤ 1000000) := Lib.hid (by have := HKK.out.se; have := HM.out; omega)
      obtain ⟨P2, hP2⟩ : ∃ P, P = (takeM q1 r).1 := ⟨_, rfl⟩
      obtain ⟨E, hE⟩ : ∃ E, E = (takeM q1 r).2 := ⟨_, rfl⟩
      have HPE : Hid ((P2, E) = takeM q1 r) := Lib.hid (by rw [hP2, hE])
      obtain ⟨ea, ec, he⟩ := pv_len HPR.out r
      rw [← hE] at he
      have HEA := Lib.hid he
      have HTK : Hid (feedM p (l.take (i + 1)) = (P2, if E.kind = 0 then (feedM p (l.take i)).2 else (feedM p (l.take i)).2 ++ [E])) := Lib.hid (by
        rw [take_succ hlt, feedM_snoc, ← hr]
        unfold feedS
        rw [← hq1, hP2, hE])
      have HFR : Hid (∀ (w' : World) (v' x' : Value), PrV w' g v' x' P2 → ∀ k, (pvOf E v1).ownBlock = some k → v'.ownBlock ≠ some k ∧ v1.ownBlock = some k) := Lib.hid (fun w' v' x' hp => by
        rw [hP2] at hp; rw [hE]; exact pv_far r hp)
      have HQL : Hid (qs.length + 1 ≤ 100000) := Lib.hid (by
        have e := congrArg List.length HQ.out
        rw [List.length_map] at e
        have := evs_le p (l.take i)
        rw [List.length_take] at this
        omega)
      have HVN : Hid (∀ k, v1.ownBlock = some k → v.ownBlock = some k ∨ w.heap.size ≤ k) := Lib.hid HS.out.2.2.1
      clear hP2 hE he hq1 hr n1 n2 n3 hc
      by_cases hk : E.kind = 0
      · have k0 : ((E.kind : Int) != 0) = false := by rw [hk]; rfl
        have HKZ := Lib.hid hk
        clear hk
        go_wp2_with (go_at_call 17; (with_reducible refine ((takeC r g v1 x1 q1 wr HPR.out HKK.out.pa HSE.out HKK.out.tx P2 E HPE.out).mono (fun _ _ h => evK_row h HEA.out)).mono ?_); rintro e w1 ⟨rfl, v2, x2, hs, hrow⟩; have HS1 := Lib.hid hs; have HE1 := Lib.hid (evI_fr HPR.out hs.2.1 HE.out (fun q hq k hk => (HSEP.out q hq k hk).1)); have HROW := Lib.hid hrow; have HS2 := Lib.hid (StP.alloc hs (.cells #[.int .i64 (E.kind : Int), .int .i32 E.rune, .slice ea E.pa.length ec, .int .i32 E.pv, .int .i32 E.it, .int .i32 E.fi, .string E.tx] 40)); have HE2 := Lib.hid (evI_then HE1.out ((Below.refl w1.heap.size w1).alloc (Nat.le_refl _) (.cells #[.int .i64 (E.kind : Int), .int .i32 E.rune, .slice ea E.pa.length ec, .int .i32 E.pv, .int .i32 E.it, .int .i32 E.fi, .string E.tx] 40)) (Nat.le_refl _)); obtain ⟨d0, d1, d2, d3, d4, d5, d6⟩ := seven (heap_alloc_last w1 (.cells #[.int .i64 (E.kind : Int), .int .i32 E.rune, .slice ea E.pa.length ec, .int .i32 E.pv, .int .i32 E.it, .int .i32 E.fi, .string E.tx] 40)); clear hs hrow cr)
        refine ⟨⟨i + 1, v2, x2, qs, va, vc, hlt, rfl, rfl, ?_, HE2.out, ?_, HV.out, ?_⟩, ?_⟩
        · rw [HTK.out]; exact StP.trans HS.out HS2.out
        · rw [HTK.out, if_pos HKZ.out]; exact HQ.out
        · exact fun q hq k hk => ⟨sep_step HE.out (fun q hq k hk => (HSEP.out q hq k hk).1) (HS1.out : StP _ _ _ _ _ _ _ _).2.2.1 q hq k hk, (HSEP.out q hq k hk).2⟩
        · show l.length - ((i : Int) + 1).toNat < l.length - (i : Int).toNat
          omega
      · have k0 : ((E.kind : Int) != 0) = true := by rw [bne_iff_ne]; omega
        have k1 : ¬ (E.kind : Int) = 0 := by omega
        have HKZ := Lib.hid hk
        clear hk
        go_wp2_with (first
          | (go_at_call 17; (with_reducible refine ((takeC r g v1 x1 q1 wr HPR.out HKK.out.pa HSE.out HKK.out.tx P2 E HPE.out).mono (fun _ _ h => evK_row h HEA.out)).mono ?_); rintro e w1 ⟨rfl, v2, x2, hs, hrow⟩; have HS1 := Lib.hid hs; have HE1 := Lib.hid (evI_fr HPR.out hs.2.1 HE.out (fun q hq k hk => (HSEP.out q hq k hk).1)); have HROW := Lib.hid hrow; have HS2 := Lib.hid (StP.alloc hs (.cells #[.int .i64 (E.kind : Int), .int .i32 E.rune, .slice ea E.pa.length ec, .int .i32 E.pv, .int .i32 E.it, .int .i32 E.fi, .string E.tx] 40)); have HE2 := Lib.hid (evI_then HE1.out ((Below.refl w1.heap.size w1).alloc (Nat.le_refl _) (.cells #[.int .i64 (E.kind : Int), .int .i32 E.rune, .slice ea E.pa.length ec, .int .i32 E.pv, .int .i32 E.it, .int .i32 E.fi, .string E.tx] 40)) (Nat.le_refl _)); obtain ⟨d0, d1, d2, d3, d4, d5, d6⟩ := seven (heap_alloc_last w1 (.cells #[.int .i64 (E.kind : Int), .int .i32 E.rune, .slice ea E.pa.length ec, .int .i32 E.pv, .int .i32 E.it, .int .i32 E.fi, .string E.tx] 40)); have HS3 := Lib.hid (StP.trans HS.out (StP.alloc HS2.out (.cells #[.int .i64 (E.kind : Int), .int .i32 E.rune, .slice ea E.pa.length ec, .int .i32 E.pv, .int .i32 E.it, .int .i32 E.fi, .string E.tx] 40))); have HE3 := Lib.hid (evI_then HE2.out ((Below.refl (w1.alloc (.cells #[.int .i64 (E.kind : Int), .int .i32 E.rune, .slice ea E.pa.length ec, .int .i32 E.pv, .int .i32 E.it, .int .i32 E.fi, .string E.tx] 40)).heap.size (w1.alloc (.cells #[.int .i64 (E.kind : Int), .int .i32 E.rune, .slice ea E.pa.length ec, .int .i32 E.pv, .int .i32 E.it, .int .i32 E.fi, .string E.tx] 40))).alloc (Nat.le_refl _) (.cells #[.int .i64 (E.kind : Int), .int .i32 E.rune, .slice ea E.pa.length ec, .int .i32 E.pv, .int .i32 E.it, .int .i32 E.fi, .string E.tx] 40)) (Nat.le_refl _)); have HCE := Lib.hid (show ((w1.alloc (.cells #[.int .i64 (E.kind : Int), .int .i32 E.rune, .slice ea E.pa.length ec, .int .i32 E.pv, .int .i32 E.it, .int .i32 E.fi, .string E.tx] 40)).alloc (.cells #[.int .i64 (E.kind : Int), .int .i32 E.rune, .slice ea E.pa.length ec, .int .i32 E.pv, .int .i32 E.it, .int .i32 E.fi, .string E.tx] 40)).heap[w1.heap.size + 1]? = some (.cells (ecells ⟨E, ea, ec⟩).toArray 40 (0, 0)) by rw [show w1.heap.size + 1 = (w1.alloc (.cells #[.int .i64 (E.kind : Int), .int .i32 E.rune, .slice ea E.pa.length ec, .int .i32 E.pv, .int .i32 E.it, .int .i32 E.fi, .string E.tx] 40)).heap.size by simp]; exact heap_alloc_last _ _); have HMS := Lib.hid (show ((w1.alloc (.cells #[.int .i64 (E.kind : Int), .int .i32 E.rune, .slice ea E.pa.length ec, .int .i32 E.pv, .int .i32 E.it, .int .i32 E.fi, .string E.tx] 40)).alloc (.cells #[.int .i64 (E.kind : Int), .int .i32 E.rune, .slice ea E.pa.length ec, .int .i32 E.pv, .int .i32 E.it, .int .i32 E.fi, .string E.tx] 40)).ownsRow 0 3 1 (.slice ea E.pa.length ec) E.pa.length (iv E.pa) by rw [HEA.out] at hrow; exact (hrow.alloc _).alloc _); clear hs hrow cr)
          | (at_builtin; (refine app_evs rfl _ _ rfl (.slice va qs.length vc) qs [⟨E, ea, ec⟩] rfl HE3.out (w1.heap.size + 1) 1 1 rfl rfl (by decide) (one_cells HCE.out) (fun q hq => by obtain rfl := List.mem_singleton.1 hq; exact HMS.out) HQL.out ?_; intro V4 w4 o4 b4 n4 c4; obtain ⟨qs', hqs⟩ : ∃ qs', qs' = qs ++ [(⟨E, ea, ec⟩ : EW)] := ⟨_, rfl⟩; rw [← hqs] at o4; obtain ⟨na, nc, rfl⟩ := own_slice7 o4.1; have HQS := Lib.hid hqs; have HE4 := Lib.hid o4; have HS4 := Lib.hid (StP.beside HS3.out HE3.out.1 b4 HV.out); have HN4 := Lib.hid n4; clear o4 b4 n4 c4 hqs)))
        refine ⟨⟨i + 1, v2, x2, qs', na, nc, hlt, rfl, rfl, ?_, HE4.out, ?_, ?_, ?_⟩, ?_⟩
        · rw [HTK.out]; exact HS4.out
        · rw [HTK.out, if_neg HKZ.out, HQS.out, List.map_append, HQ.out]; rfl
        · intro k hk
          rcases HN4.out k hk with h1 | h1
          · exact HV.out k h1
          · exact Nat.le_trans (HS3.out : StP _ _ _ _ _ _ _ _).2.1.size h1
        · intro q hq k hk
          rw [HQS.out] at hq
          rcases List.mem_append.1 hq with hq | hq
          · exact ⟨sep_step HE.out (fun q hq k hk => (HSEP.out q hq k hk).1) (HS1.out : StP _ _ _ _ _ _ _ _).2.2.1 q hq k hk, (HSEP.out q hq k hk).2⟩
          · obtain rfl := List.mem_singleton.1 hq
            have h1 := HFR.out w1 v2 x2 (StP.pr HS1.out) k (by rw [HEA.out]; exact hk)
            exact ⟨h1.1, HVN.out k h1.2⟩
        · show l.length - ((i : Int) + 1).toNat < l.length - (i : Int).toNat
          omega
    · have hie : i = l.length := Nat.le_antisymm hi (Nat.not_lt.1 hlt)
      subst hie
      have HT : Hid (StP g v x w (feedM p l).1 v1 x1 wr ∧ qs.map EW.E = (feedM p l).2) := Lib.hid (by
        have h1 := HS.out
        have h2 := HQ.out
        rw [List.take_length] at h1 h2
        exact ⟨h1, h2⟩)
      go_wp2
      go_ret
      exact ⟨_, v1, x1, qs, va, vc, rfl, rfl, HT.out.1, HE.out, HT.out.2, HV.out, HSEP.out⟩

end Go.Proofs.Ytnaiefjbfpejbaa.Ez
