/- Plain signs are printed, and a text is told. -/
import Derived.Test.YtnaiefjbfpejbaaFc
import Derived.Laws.AppendOwnNone
import Derived.Deep.OwnRows
import Derived.Deep.RegionHeld
set_option linter.unusedVariables false
namespace Go.Proofs.Ytnaiefjbfpejbaa.Fd
open Go Go.RowKit Kit Ep Eb Er Ea Es Et Eu Ev Ek Ew Ex Ey Ez Fa Fb Fc


def OutP (w : World) (e : Ending) (w' : World) : Prop := e = .returned (.bool true) ∧ Below w.heap.size w w'
theorem info5 : (Try.prog.info? 5).map (fun i => (i.zero, i.size, i.bytes)) = some (some (.int .u8 0), 1, 1) := by kernel_rfl
theorem lrow_cells {w : World} {y : Addr} {m : List Int} (h : LRow w (some y) m) : ∀ j u, (rv m)[j]? = some u → w.cell? (y.add j) = some u := by
  intro j u hu
  rcases h with rfl | ⟨b, off, e, h⟩
  · simp [rv] at hu
  · injection e with e; subst e
    have hj : j < m.length := by
      rcases Nat.lt_or_ge j m.length with h1 | h1
      · exact h1
      · rw [List.getElem?_eq_none (by simpa [rv] using h1)] at hu; cases hu
    rw [Ints.add_at, h j hj]
    simp [rv, hj] at hu
    rw [← hu]
/-- signs behind a row of one's own. -/
theorem app_runes {ops : Array Oper} {rest : List Oper} {o : Oper} {a : Act} {Q : Exit → Act → World → Prop} {w : World} (hgd : o.guard = none) (s x : Operand)
    (ho : o.op = .call { callee := .builtin .append, args := #[s, x], argTypes := #[22, 22] }) (base : Nat) (v : Value) (l : List Int) (hs : a.eval s = v) (hown : w.ownsRow base 21 1 v l.length (rv l))
    (ad : Option Addr) (n cap : Nat) (m : List Int) (hx : a.eval x = .slice ad n cap) (hn : n = m.length) (h0 : ad = none → cap = 0) (hm : LRow w ad m) (hlen : l.length + m.length ≤ 100000) (hbase : base ≤ w.heap.size)
    (h : ∀ v' w', w'.ownsRow base 21 1 v' (l ++ m).length (rv (l ++ m)) → (∀ B W0, B ≤ base → Below B W0 w → Below B W0 w') → wpList Try.prog ops Q rest (a.put o.dst v') w') : wpList Try.prog ops Q (o :: rest) a w := by
  subst hn
  obtain ⟨i0, hi, hz0, hz1, hz2⟩ := info_parts info21
  cases ad with
  | none =>
    obtain rfl := h0 rfl
    have hm0 : m = [] := by
      rcases hm with h | ⟨_, _, e, _⟩
      · exact h
      · cases e
    subst hm0
    refine wpList_append_own_none hgd s x 22 ho base 21 i0 1 Try.underlying22 hi v _ _ hs hown hx ?_
    exact h v w (by rw [List.append_nil]; exact hown) (fun _ _ _ hb => hb)
  | some y =>
    refine wpList_append_own w hgd s x 22 ho base 21 i0 (.int .i32 0) 1 4 Try.underlying22 hi hz0 hz1 hz2 rfl (by decide) v _ _ hs hown y m.length cap (rv m) hx (by simp [rv]) (lrow_cells hm) (fun u hu => by simp [rv] at hu; obtain ⟨z, _, rfl⟩ := hu; rfl) (by unfold maxLen; omega) (by omega) hbase ?_
    intro v' w' h2 h3 _
    refine h v' w' ?_ (fun B W0 hB hb => hb.grown h3 (Nat.le_trans hB hbase) (fun j hj => Nat.le_trans hB (hown.lt j hj).1))
    rw [List.length_append, show rv (l ++ m) = rv l ++ rv m by simp [rv]]
    exact h2
theorem row_lrow {w : World} {base : Nat} {v : Value} {l : List Int} (h : w.ownsRow base 21 1 v l.length (rv l)) : ∃ a c, v = .slice a l.length c ∧ LRow w a l ∧ (∀ b off, a = some ⟨b, off, none⟩ → base ≤ b) := by
  rcases h.2 with ⟨rfl, h0⟩ | ⟨g1, cap, cur, rfl, hb, hg, hnc, hm, hcs, htake⟩
  · exact ⟨none, 0, by rw [h0], .inl (List.eq_nil_of_length_eq_zero h0), fun b off e => by cases e⟩
  · refine ⟨_, _, rfl, .inr ⟨g1, 0, rfl, fun i hi => ?_⟩, fun b off e => ?_⟩
    · rw [Nat.zero_add, h.cellAt i (by omega)]
      simp [rv, hi]
    · injection e with e; injection e with e _; omega
/-- a parser and what lies far from it. -/
theorem StP.below {g : Nat} {v x v' x' : Value} {w w1 w2 : World} {p : Ps} (h : StP g v x w p v' x' w1) (hb : Below w1.heap.size w1 w2) : StP g v x w p v' x' w2 :=
  StP.trans h ⟨h.1.then_ hb (Nat.le_refl _), Fr.of hb, New.refl _ _, New.refl _ _⟩
theorem far_of {w : World} {g : Nat} {v x : Value} {p : Ps} {a : Option Addr} {T : List Int} (h : PrV w g v x p) (hf : ∀ b off, a = some ⟨b, off, none⟩ → w.heap.size ≤ b) : ∀ b off, T ≠ [] → a = some ⟨b, off, none⟩ → b ≠ g ∧ v.ownBlock ≠ some b ∧ x.ownBlock ≠ some b := by
  intro b off _ e
  have h1 := hf b off e
  refine ⟨fun e => ?_, fun e => ?_, fun e => ?_⟩
  · have := h.lt; omega
  · have := (h.pa.lt _ e).2; omega
  · have := (h.tx.lt _ e).2; omega
theorem print_ev {qs : List EW} {l : List Int} (h : qs.map EW.E = l.map printE) (i : Nat) (hi : i < qs.length) (hl : i < l.length) : qs[i].E = printE l[i] := by
  have h1 : (qs.map EW.E)[i]? = (l.map printE)[i]? := by rw [h]
  simp [hi, hl] at h1
  exact h1

set_option maxRecDepth 100000 in
set_option maxHeartbeats 8000000 in
theorem main (bell : Bool) (a ta : Option Addr) (cap tc : Nat) (l t : List Int) (w : World) (hl : l.length ≤ 500) (ht : t.length ≤ 120) (hL : LRow w a l) (hT : LRow w ta t) (htc : ta = none → tc = 0) :
    Calls Try.prog 6 #[.slice a l.length cap, .slice ta t.length tc, .bool bell] w (OutP w) := by
  have HL := Lib.hid hL
  have HT := Lib.hid hT
  have HTC := Lib.hid htc
  have HLN := Lib.hid hl
  have HTN := Lib.hid ht
  have d0 : decide ((500 : Int) < (l.length : Int)) = false := decide_eq_false (by omega)
  have d1 : decide ((120 : Int) < (t.length : Int)) = false := decide_eq_false (by omega)
  have HBW := Lib.hid (Below.refl w.heap.size w)
  have hmk := fun W : World => run_make_row' (P := Try.prog) 46 5 (.int .u8 0) 1 Try.underlying46 info5 rfl .i64 .i64 t.length (by omega) (by omega) W
  clear hL hT htc
  go_enter Try.func6, Try.ntmps6
  go_wp2_with (first
    | (go_at_call 7; (with_reducible refine (first8 w).mono ?_); rintro e w1 ⟨rfl, bq⟩; have HB1 := Lib.hid (below_then HBW.out bq HBW.out.size); clear bq)
    | (go_at_call 8; (with_reducible refine (newC w1).mono ?_); rintro e w2 ⟨rfl, rfl⟩; have HN := Lib.hid (new_pr w1); have HG := Lib.hid HB1.out.size; have HB2 := Lib.hid (HB1.out.alloc HB1.out.size (.cells #[.int .i64 0, .bool false, .int .i32 0, .int .i32 0, .slice none 0 0, .int .i64 0, .slice none 0 0] 49)); have HG2 := Lib.hid (show w1.heap.size < (w1.alloc (.cells #[.int .i64 0, .bool false, .int .i32 0, .int .i32 0, .slice none 0 0, .int .i64 0, .slice none 0 0] 49)).heap.size by simp)))
  generalize w1.alloc (.cells #[.int .i64 0, .bool false, .int .i32 0, .int .i32 0, .slice none 0 0, .int .i64 0, .slice none 0 0] 49) = w2 at *
  generalize w1.heap.size = g at *
  have HL2 := Lib.hid (lrow_then HL.out HB2.out (Nat.le_refl _))
  have HT2 := Lib.hid (lrow_then HT.out HB2.out (Nat.le_refl _))
  go_loopw [8] (fun s8 wr => ∃ i : Nat, i ≤ l.length ∧ s8 = .int .i64 (i : Int) ∧ Hid (∀ j (h : j < l.length), j < i → 32 ≤ l[j] ∧ (l[j] < 127 ∨ 159 < l[j])) ∧ wr = w2) (fun s8 _ => l.length - (intOf s8).toNat)
  case atStart => exact ⟨0, Nat.zero_le _, rfl, Lib.hid (fun j h hj => absurd hj (Nat.not_lt_zero _)), rfl⟩
  case round =>
    obtain ⟨i, hi, rfl, hall, rfl⟩ := hrel
    by_cases hlt : i < l.length
    · rcases HL2.out with h0 | ⟨b, off, rfl, hc⟩
      · rw [h0] at hlt; exact absurd hlt (Nat.not_lt_zero _)
      obtain ⟨r, hr⟩ : ∃ r, r = l[i] := ⟨_, rfl⟩
      have cr := hc i hlt
      rw [← hr] at cr
      have HRR := Lib.hid hr
      clear hc hr
      by_cases hp : 32 ≤ r ∧ (r < 127 ∨ 159 < r)
      · have HALL : Hid (∀ j (h : j < l.length), j < i + 1 → 32 ≤ l[j] ∧ (l[j] < 127 ∨ 159 < l[j])) := Lib.hid (fun j h hj => by
          by_cases h1 : j < i
          · exact hall.out j h h1
          · have : j = i := by omega
            subst this
            rw [← HRR.out]; exact hp)
        obtain ⟨h32, hp2⟩ := hp
        rcases hp2 with h127 | h159
        · clear hall
          go_wp2
          exact ⟨⟨i + 1, hlt, rfl, HALL, trivial⟩, by show l.length - ((i : Int) + 1).toNat < l.length - (i : Int).toNat; omega⟩
        · clear hall
          go_wp2
          exact ⟨⟨i + 1, hlt, rfl, HALL, trivial⟩, by show l.length - ((i : Int) + 1).toNat < l.length - (i : Int).toNat; omega⟩
      · by_cases h32 : r < 32
        · clear hp
          go_wp2_with (go_at_call 7; (with_reducible refine (first8 wr).mono ?_); rintro e w3 ⟨rfl, bq⟩; have HB3 := Lib.hid (below_then HB2.out bq HB2.out.size); clear bq)
          go_ret
          exact ⟨rfl, HB3.out⟩
        · have h127 : 127 ≤ r := by omega
          have h159 : r ≤ 159 := by omega
          clear hp
          go_wp2_with (go_at_call 7; (with_reducible refine (first8 wr).mono ?_); rintro e w3 ⟨rfl, bq⟩; have HB3 := Lib.hid (below_then HB2.out bq HB2.out.size); clear bq)
          go_ret
          exact ⟨rfl, HB3.out⟩
    · have hie : i = l.length := Nat.le_antisymm hi (Nat.not_lt.1 hlt)
      subst hie
      have HPL : Hid (∀ r ∈ l, 32 ≤ r ∧ (r < 127 ∨ 159 < r)) := Lib.hid (fun r hr => by
        obtain ⟨j, hj, rfl⟩ := List.getElem_of_mem hr
        exact hall.out j hj hj)
      clear hall hi hlt
      go_wp2_with fail
      go_loopw [9] (fun s9 wq => ∃ i : Nat, i ≤ t.length ∧ s9 = .int .i64 (i : Int) ∧ Hid (∀ j (h : j < t.length), j < i → 32 ≤ t[j] ∧ t[j] ≤ 126) ∧ wq = wr) (fun s9 _ => t.length - (intOf s9).toNat)
      case atStart => exact ⟨0, Nat.zero_le _, rfl, Lib.hid (fun j h hj => absurd hj (Nat.not_lt_zero _)), rfl⟩
      case round =>
        obtain ⟨i, hi, rfl, hall, rfl⟩ := hrel
        by_cases hlt : i < t.length
        · rcases HT2.out with h0 | ⟨b, off, rfl, hc⟩
          · rw [h0] at hlt; exact absurd hlt (Nat.not_lt_zero _)
          obtain ⟨r, hr⟩ : ∃ r, r = t[i] := ⟨_, rfl⟩
          have cr := hc i hlt
          rw [← hr] at cr
          have HRR := Lib.hid hr
          clear hc hr
          by_cases hp : 32 ≤ r ∧ r ≤ 126
          · have HALL : Hid (∀ j (h : j < t.length), j < i + 1 → 32 ≤ t[j] ∧ t[j] ≤ 126) := Lib.hid (fun j h hj => by
              by_cases h1 : j < i
              · exact hall.out j h h1
              · have : j = i := by omega
                subst this
                rw [← HRR.out]; exact hp)
            obtain ⟨h32, h126⟩ := hp
            clear hall
            go_wp2
            exact ⟨⟨i + 1, hlt, rfl, HALL, trivial⟩, by show t.length - ((i : Int) + 1).toNat < t.length - (i : Int).toNat; omega⟩
          · by_cases h32 : r < 32
            · clear hp
              go_wp2_with (go_at_call 7; (with_reducible refine (first8 wr).mono ?_); rintro e w3 ⟨rfl, bq⟩; have HB3 := Lib.hid (below_then HB2.out bq HB2.out.size); clear bq)
              go_ret
              exact ⟨rfl, HB3.out⟩
            · have h126 : 126 < r := by omega
              clear hp
              go_wp2_with (go_at_call 7; (with_reducible refine (first8 wr).mono ?_); rintro e w3 ⟨rfl, bq⟩; have HB3 := Lib.hid (below_then HB2.out bq HB2.out.size); clear bq)
              go_ret
              exact ⟨rfl, HB3.out⟩
        · have hie : i = t.length := Nat.le_antisymm hi (Nat.not_lt.1 hlt)
          subst hie
          have HPT : Hid (∀ r ∈ t, 32 ≤ r ∧ r ≤ 126) := Lib.hid (fun r hr => by
            obtain ⟨j, hj, rfl⟩ := List.getElem_of_mem hr
            exact hall.out j hj hj)
          clear hall hi hlt
          generalize wr = wz at *
          have HFAR : Hid (∀ b off, l ≠ [] → a = some ⟨b, off, none⟩ → b ≠ g ∧ (Value.slice none 0 0).ownBlock ≠ some b ∧ (Value.slice none 0 0).ownBlock ≠ some b) := Lib.hid (fun b off h0 e => by
            obtain ⟨b2, o2, e2, h2⟩ := lrow_lt HL.out h0
            rw [e] at e2
            injection e2 with e2; injection e2 with e2 _
            refine ⟨fun e3 => ?_, (fun e3 => by cases e3), (fun e3 => by cases e3)⟩
            have := HG.out
            omega)
          have HK0 := Lib.hid (bg_ok 0 0)
          have HST4 : Hid ((4 : Int) = (({ bg 4 with tx := t } : Ps).st : Int)) := Lib.hid rfl
          have HM0 := Lib.hid (show 0 + l.length ≤ 1000000 by have := HLN.out; omega)
          have HL0 := Lib.hid (show l.length ≤ 50000 by have := HLN.out; omega)
          have HF1 := Lib.hid (congrArg Prod.fst (feed_plain HPL.out))
          have HF2 := Lib.hid (congrArg Prod.snd (feed_plain HPL.out))
          go_wp2_with (go_at_call 11; (with_reducible refine (feedC a l.length cap l g (.slice none 0 0) (.slice none 0 0) (bg 0) 0 wz rfl HN.out HK0.out HM0.out HL0.out HL2.out HFAR.out).mono ?_); rintro e w3 hf; obtain ⟨v3, x3, qs, va, vc, rfl, hs, hI, hq, _, _⟩ := feedP_of hf HF1.out HF2.out; have HS3 := Lib.hid hs; have HI3 := Lib.hid hI; have HQ3 := Lib.hid hq; have hql : qs.length = l.length := (by have := congrArg List.length hq; simpa using this); have HQL := Lib.hid hql; have HB3 := Lib.hid (st_below HB2.out hs HG.out); clear hf hs hI hq)
          have n1 : ((qs.length : Int) != (l.length : Int)) = false := by rw [hql]; simp
          clear hql
          go_wp2_with fail
          go_loopw [11] (fun s11 wq => ∃ (i m : Nat), i ≤ l.length ∧ s11 = .int .i64 (i : Int) ∧ wq = w3.drewN m) (fun s11 _ => l.length - (intOf s11).toNat)
          case atStart => exact ⟨0, 0, Nat.zero_le _, rfl, rfl⟩
          case round =>
            obtain ⟨i, m, hi, rfl, rfl⟩ := hrel
            by_cases hlt : i < l.length
            · obtain ⟨b, off, rfl, hb⟩ := lrow_lt HL.out (fun e => by rw [e] at hlt; exact absurd hlt (Nat.not_lt_zero _))
              have hqi : i < qs.length := by rw [HQL.out]; exact hlt
              obtain ⟨gV, cV, hVV⟩ := own_some7 HI3.out.1 (Nat.lt_of_le_of_lt (Nat.zero_le _) hqi)
              have hva : va = some ⟨gV, 0, none⟩ := by injection hVV
              subst hva
              have hE := print_ev HQ3.out i hqi hlt
              obtain ⟨r, hr⟩ : ∃ r, r = l[i] := ⟨_, rfl⟩
              rw [← hr] at hE
              have e0 : (w3.drewN m).cell? ⟨gV, i * 7, none⟩ = some (.int .i64 1) := by
                have h := ev_cells HI3.out i hqi 0 (by decide)
                simp only [ecells, hE] at h; exact h
              have e1 : (w3.drewN m).cell? ⟨gV, i * 7 + 1, none⟩ = some (.int .i32 r) := by
                have h := ev_cells HI3.out i hqi 1 (by decide)
                simp only [ecells, hE] at h; exact h
              have e2 : (w3.drewN m).cell? ⟨b, off + i, none⟩ = some (.int .i32 r) := by
                rcases HL2.out with h0 | ⟨b', off', e, hc⟩
                · rw [h0] at hlt; exact absurd hlt (Nat.not_lt_zero _)
                · injection e with e; injection e with e4 e5
                  subst e4 e5
                  obtain ⟨f1, f2, f3⟩ := HFAR.out b off (fun e => by rw [e] at hlt; exact absurd hlt (Nat.not_lt_zero _)) rfl
                  have h := LRow.at (HS3.out : StP _ _ _ _ _ _ _ _).2.1 hc hlt f1 f2 f3
                  rw [← hr] at h; exact h
              have nr : (r != r) = false := by simp
              have hqI : (i : Int) < (qs.length : Int) := by omega
              have hlI : (i : Int) < (l.length : Int) := by omega
              clear hE hr hVV
              go_wp2
              generalize hwq : w3.drewN m = wq at *
              go_quiet (fail)
              go_wp2
              exact ⟨⟨i + 1, _, hlt, rfl, by rw [← hwq]; exact World.drewN_drewN _ _ _⟩, by show l.length - ((i : Int) + 1).toNat < l.length - (i : Int).toNat; omega⟩
            · have hie : i = l.length := Nat.le_antisymm hi (Nat.not_lt.1 hlt)
              subst hie
              have HS4 := Lib.hid (StP.drewN HS3.out m)
              have HB4 := Lib.hid (Kit.below_drewN HB3.out m)
              clear hi hlt n1
              generalize w3.drewN m = w4 at *
              have HA4 := Lib.hid (show Below w4.heap.size w4 (w4.alloc (.cells #[.int .i32 27, .int .i32 93] 21)) from (Below.refl _ w4).alloc (Nat.le_refl _) _)
              have HO4 := Lib.hid (show (w4.alloc (.cells #[.int .i32 27, .int .i32 93] 21)).ownsRow w4.heap.size 21 1 (.slice (some ⟨w4.heap.size, 0, none⟩) 2 2) ([27, 93] : List Int).length (rv [27, 93]) from World.ownsRow_lit w4 #[.int .i32 27, .int .i32 93] 2 (Nat.le_refl _) (by decide) rfl)
              have HT4 := Lib.hid (lrow_then HT.out (below_then HB4.out HA4.out HB4.out.size) (Nat.le_refl _))
              have HLE4 := Lib.hid (show ([27, 93] : List Int).length + t.length ≤ 100000 by have := HTN.out; simp; omega)
              have HZ4 := Lib.hid HA4.out.size
              have HF3 := Lib.hid (congrArg Prod.fst (feed_text HPT.out HTN.out))
              have HF4 := Lib.hid (congrArg Prod.snd (feed_text HPT.out HTN.out))
              obtain ⟨T2, hT2⟩ : ∃ T2, T2 = [27, 93] ++ t := ⟨_, rfl⟩
              rw [← hT2] at HF3 HF4
              have HT2E := Lib.hid hT2
              have HTL : Hid (T2.length = 2 + t.length) := Lib.hid (by rw [hT2, List.length_append]; rfl)
              have HM2 := Lib.hid (show 0 + T2.length ≤ 1000000 by have := HTL.out; have := HTN.out; omega)
              have HL2' := Lib.hid (show T2.length ≤ 50000 by have := HTL.out; have := HTN.out; omega)
              have HP4 := Lib.hid (StP.pr HS4.out)
              clear hT2
              have HK6 : Hid (PsOk { bg 4 with tx := t } 0) := Lib.hid ⟨⟨.inl ⟨rfl, rfl⟩, fun x hx => by cases hx⟩, Nat.le_trans HTN.out (by decide), Nat.le_refl _⟩
              cases bell with
              | true =>
                have HA7 : Hid (#[.int .i32 7] = (rv [7]).toArray) := Lib.hid rfl
                have HN7 : Hid (1 = ([7] : List Int).length) := Lib.hid rfl
                have HM7 : Hid (0 + ([7] : List Int).length ≤ 1000000) := Lib.hid (by decide)
                have HL7 : Hid (([7] : List Int).length ≤ 50000) := Lib.hid (by decide)
                have HG1 := Lib.hid (congrArg Prod.fst (feed_bell t))
                have HG2' := Lib.hid (congrArg Prod.snd (feed_bell t))
                go_wp2_with (first
                  | (at_builtin; (refine app_runes rfl _ _ rfl w4.heap.size _ [27, 93] rfl HO4.out ta t.length tc t rfl rfl HTC.out HT4.out HLE4.out HZ4.out ?_; intro v5 w5 o5 b5; rw [← HT2E.out] at o5; obtain ⟨na, nc, rfl, lr5, ln5⟩ := row_lrow o5; have HBB5 := Lib.hid (b5 _ _ (Nat.le_refl _) HA4.out); have HS5 := Lib.hid (StP.below HS4.out (b5 _ _ (Nat.le_refl _) HA4.out)); have HLR5 := Lib.hid lr5; have HFR5 := Lib.hid (show ∀ b off, T2 ≠ [] → na = some ⟨b, off, none⟩ → b ≠ g ∧ v3.ownBlock ≠ some b ∧ x3.ownBlock ≠ some b from far_of HP4.out ln5); clear o5 b5 lr5 ln5))
                  | (go_at_call 11; (with_reducible refine (feedC na T2.length nc T2 g v3 x3 (bg 0) 0 w5 rfl (StP.pr HS5.out) HK0.out HM2.out HL2'.out HLR5.out HFR5.out).mono ?_); rintro e w6 hf; obtain ⟨v6, x6, qs6, vb, vd, rfl, hs, _, hq, _, _⟩ := feedP_of hf HF3.out HF4.out; obtain rfl := List.map_eq_nil_iff.1 hq; have HS6 := Lib.hid (StP.trans HS5.out hs); have HS7 := Lib.hid (StP.alloc (StP.trans HS5.out hs) (.cells #[.int .i32 27, .int .i32 92] 21)); have HZ7 := Lib.hid (show w6.heap.size + 1 = (w6.alloc (.cells #[.int .i32 27, .int .i32 92] 21)).heap.size by simp); clear hf hs hq)
                  | (go_at_call 13; (with_reducible refine (stateK 4 g v6 x6 _ w6 (StP.pr HS6.out) HST4.out).mono ?_); rintro e w' ⟨rfl, rfl⟩)
                  | (go_at_call 11; (with_reducible refine (feedLit [7] #[.int .i32 7] 1 (w6.heap.size + 1) g v6 x6 _ 0 (w6.alloc (.cells #[.int .i32 27, .int .i32 92] 21)) HA7.out HZ7.out HN7.out (StP.pr HS7.out) HK6.out HM7.out HL7.out).mono ?_); rintro e w8 hf; obtain ⟨v8, x8, qs8, ve, vf, rfl, hs, hI, hq, _, _⟩ := feedP_of hf HG1.out HG2'.out; obtain ⟨q8, rfl, hE⟩ := one_ev hq; obtain ⟨g8, c8, hVV⟩ := own_some7 hI.1 (Nat.zero_lt_succ _); have hva : ve = some ⟨g8, 0, none⟩ := (by injection hVV); subst hva; have HS8 := Lib.hid (StP.trans (StP.alloc HS7.out (.cells #[.int .i32 7] 21)) hs); have HI8 := Lib.hid hI; have HE8 := Lib.hid hE; have HB8 := Lib.hid (st_below HB2.out (StP.trans (StP.alloc HS7.out (.cells #[.int .i32 7] 21)) hs) HG.out); clear hf hs hI hq hVV hE))
                have HRI := Lib.hid (World.rowIs_made w8 (.int .u8 0) t.length 5)
                have HBN := Lib.hid (show Below w8.heap.size w8 (w8.alloc (.cells (madeCells #[.int .u8 0] t.length) 5)) from (Below.refl _ w8).alloc (Nat.le_refl _) _)
                generalize w8.alloc (.cells (madeCells #[.int .u8 0] t.length) 5) = w9 at *
                generalize hgw : w8.heap.size = gw at *
                have HZN := Lib.hid (show w8.heap.size ≤ gw from Nat.le_of_eq hgw)
                clear hgw
                go_loopw [16] (fun s16 wq => ∃ i : Nat, i ≤ t.length ∧ s16 = .int .i64 (i : Int) ∧ wq.rowIs gw 5 t.length (fun j => if j < i then .int .u8 (t.getD j 0) else .int .u8 0) ∧ Below gw w8 wq) (fun s16 _ => t.length - (intOf s16).toNat)
                case atStart => exact ⟨0, Nat.zero_le _, rfl, HRI.out.congr (fun j hj => by rw [if_neg (Nat.not_lt_zero _)]), HBN.out⟩
                case round =>
                  obtain ⟨i, hi, rfl, hrow, hbl⟩ := hrel
                  have HROW := Lib.hid hrow
                  have HBL := Lib.hid hbl
                  have HB9 := Lib.hid (below_then HB8.out (hbl.mono HZN.out) HB8.out.size)
                  clear hrow hbl
                  by_cases hlt : i < t.length
                  · obtain ⟨b, off, rfl, hb⟩ := lrow_lt HT.out (fun e => by rw [e] at hlt; exact absurd hlt (Nat.not_lt_zero _))
                    obtain ⟨r, hr⟩ : ∃ r, r = t[i] := ⟨_, rfl⟩
                    have hrb : 32 ≤ r ∧ r ≤ 126 := by rw [hr]; exact HPT.out _ (List.getElem_mem hlt)
                    have cr : wr.cell? ⟨b, off + i, none⟩ = some (.int .i32 r) := by
                      rcases lrow_then HT.out HB9.out (Nat.le_refl _) with h0 | ⟨b', off', e, hc⟩
                      · rw [h0] at hlt; exact absurd hlt (Nat.not_lt_zero _)
                      · injection e with e; injection e with e4 e5
                        subst e4 e5
                        rw [hr]; exact hc i hlt
                    have hr1 := hrb.1
                    have hr2 := hrb.2
                    have hr3 : r % 256 = r := by omega
                    have hcl := HROW.out.cell hlt
                    rw [if_neg (Nat.lt_irrefl i)] at hcl
                    have hfz := HROW.out.frozen i
                    have hge : t.getD i 0 = r := by rw [List.getD_eq_getElem?_getD, List.getElem?_eq_getElem hlt, hr]; rfl
                    have HGE := Lib.hid hge
                    have HGB := Lib.hid HZN.out
                    clear hrb hr hge
                    go_wp2
                    refine ⟨⟨i + 1, hlt, rfl, (HROW.out.set i (.int .u8 r)).congr (fun j hj => ?_), HBL.out.setCell (Nat.le_refl _) _⟩, by show t.length - ((i : Int) + 1).toNat < t.length - (i : Int).toNat; omega⟩
                    by_cases h1 : j = i
                    · rw [if_pos h1, if_pos (by omega), h1, HGE.out]
                    · rw [if_neg h1]
                      by_cases h2 : j < i
                      · rw [if_pos h2, if_pos (by omega)]
                      · rw [if_neg h2, if_neg (by omega)]
                  · have hie : i = t.length := Nat.le_antisymm hi (Nat.not_lt.1 hlt)
                    subst hie
                    obtain ⟨B, hB⟩ : ∃ B, B = strOfNums t := ⟨_, rfl⟩
                    have HI9 := Lib.hid (evI_then HI8.out HBL.out HZN.out)
                    have HS9 := Lib.hid (StP.below HS8.out (HBL.out.mono HZN.out))
                    have HST0 : Hid ((0 : Int) = ((bg 0).st : Int)) := Lib.hid rfl
                    have HC0 : Hid (wr.cell? ⟨g8, 0, none⟩ = some (.int .i64 5)) := Lib.hid (by
                      have h := ev_cells HI9.out 0 (Nat.zero_lt_succ _) 0 (by decide)
                      simp only [List.getElem_cons_zero, ecells, HE8.out] at h; exact h)
                    have HC6 : Hid (wr.cell? ⟨g8, 6, none⟩ = some (.string B)) := Lib.hid (by
                      have h := ev_cells HI9.out 0 (Nat.zero_lt_succ _) 6 (by decide)
                      simp only [List.getElem_cons_zero, ecells, HE8.out, oscE] at h
                      rw [hB, ← runes_plain HPT.out]; exact h)
                    have HCV : Hid (∀ W, Below wr.heap.size wr W → (convert 46 9 (.slice (some ⟨gw, 0, none⟩) t.length t.length)).run Try.prog W = .ok (.string B) W) := Lib.hid (fun W hb => by
                      rw [hB]
                      refine run_convert_bytes_arg (P := Try.prog) W 46 5 Try.underlying46 Try.underlying5 gw 0 t.length t.length t rfl (fun j hj => ?_) 9 Try.underlying9
                      rw [Nat.zero_add]
                      have h := HROW.out.cell hj
                      rw [if_pos hj] at h
                      exact cell_then hb (Nat.le_refl _) h)
                    have KS := Lib.hid (show ∀ W, Below wr.heap.size wr W → W.cell? ⟨g8, 0, none⟩ = some (.int .i64 5) ∧ W.cell? ⟨g8, 6, none⟩ = some (.string B) ∧ (convert 46 9 (.slice (some ⟨gw, 0, none⟩) t.length t.length)).run Try.prog W = .ok (.string B) W ∧ Below wr.heap.size wr W from fun W h => ⟨cell_then h (Nat.le_refl _) HC0.out, cell_then h (Nat.le_refl _) HC6.out, HCV.out W h, h⟩)
                    have KB := Lib.hid (show ∀ W, (W.cell? ⟨g8, 0, none⟩ = some (.int .i64 5) ∧ W.cell? ⟨g8, 6, none⟩ = some (.string B) ∧ (convert 46 9 (.slice (some ⟨gw, 0, none⟩) t.length t.length)).run Try.prog W = .ok (.string B) W ∧ Below wr.heap.size wr W) → Below wr.heap.size wr W from fun W h => h.2.2.2)
                    clear hi hlt hB
                    go_wp2_with fail
                    refine wp_region_held_drew (S := (fun W => W.cell? ⟨g8, 0, none⟩ = some (.int .i64 5) ∧ W.cell? ⟨g8, 6, none⟩ = some (.string B) ∧ (convert 46 9 (.slice (some ⟨gw, 0, none⟩) t.length t.length)).run Try.prog W = .ok (.string B) W ∧ Below wr.heap.size wr W)) (by kernel_rfl) ?_ (fun hHeld => ?_)
                    · ((try dsimp only); (first | (with_reducible exact KS.out _ hN) | (with_reducible exact hHeld) | exact KS.out _ (Below.refl _ _).drew | exact KS.out _ (Below.refl _ _)))
                    refine wpAnyH_ready (rs := [0]) (by kernel_rfl) (by simp) ?_
                    refine (AllReadyH.cons (o := { dst := some 144, op := Op.call { callee := Callee.value (Operand.func 7), args := #[], argTypes := #[] }, type := 4, pos := _, after := #[], guard := none }) rfl (fun K hK => ?_) AllReadyH.nil)
                    go_simp
                    (go_at_call 7; (with_reducible refine (first8 _).mono ?_); rintro e wa ⟨rfl, ba⟩; have hN := below_then (KB.out _ hHeld) ba (KB.out _ hHeld).size; clear ba)
                    go_wp2_with fail
                    refine hK.out _ _ ?_ (fun hHeld => ?_)
                    · ((try dsimp only); (first | (with_reducible exact KS.out _ hN) | (with_reducible exact hHeld) | exact KS.out _ (Below.refl _ _).drew | exact KS.out _ (Below.refl _ _)))
                    clear hK K
                    try simp only [Act.put, List.setIfInBounds_toArray, List.set_cons_zero, List.set_cons_succ]
                    refine wpAnyH_take (i := 1) (oi := { dst := some 145, op := Op.move (Operand.tmp 144), type := 4, pos := _, after := #[{ on := 0, ground := Ground.data }, { on := 0, ground := Ground.chain }], guard := none }) (v := ?_) rfl (by kernel_rfl) (by kernel_rfl) (by kernel_rfl) (fun _ _ _ h => h) (Or.inl ⟨by rfl, ?_⟩) (by assumption) ?_
                    rotate_left
                    · ((intro w hSw); (try dsimp only at hSw); go_simp; (try with_reducible rfl))
                    try simp only [Act.put, List.setIfInBounds_toArray, List.set_cons_zero, List.set_cons_succ]
                    refine wpAnyH_take (i := 2) (oi := { dst := some 146, op := Op.move (Operand.tmp 14), type := 33, pos := _, after := #[{ on := 1, ground := Ground.guard }], guard := some (1, true) }) (v := ?_) rfl (by kernel_rfl) (by kernel_rfl) (by kernel_rfl) (fun _ _ _ h => h) (Or.inl ⟨by rfl, ?_⟩) (by assumption) ?_
                    rotate_left
                    · ((intro w hSw); (try dsimp only at hSw); go_simp; (try with_reducible rfl))
                    try simp only [Act.put, List.setIfInBounds_toArray, List.set_cons_zero, List.set_cons_succ]
                    refine wpAnyH_take (i := 3) (oi := { dst := some 147, op := Op.call { callee := Callee.builtin Builtin.len, args := #[Operand.tmp 146], argTypes := #[33] }, type := 3, pos := _, after := #[{ on := 2, ground := Ground.data }, { on := 1, ground := Ground.guard }], guard := some (1, true) }) (v := ?_) rfl (by kernel_rfl) (by kernel_rfl) (by kernel_rfl) (fun _ _ _ h => h) (Or.inl ⟨by rfl, ?_⟩) (by assumption) ?_
                    rotate_left
                    · ((intro w hSw); (try dsimp only at hSw); go_simp; (try with_reducible rfl))
                    try simp only [Act.put, List.setIfInBounds_toArray, List.set_cons_zero, List.set_cons_succ]
                    refine wpAnyH_take (i := 4) (oi := { dst := some 148, op := Op.binOp BinOp.eql 3 (Operand.tmp 147) (Operand.const (Value.int IntKind.i64 1)) 3, type := 4, pos := _, after := #[{ on := 3, ground := Ground.data }, { on := 1, ground := Ground.guard }], guard := some (1, true) }) (v := ?_) rfl (by kernel_rfl) (by kernel_rfl) (by kernel_rfl) (fun _ _ _ h => h) (Or.inl ⟨by rfl, ?_⟩) (by assumption) ?_
                    rotate_left
                    · ((intro w hSw); (try dsimp only at hSw); go_simp; (try with_reducible rfl))
                    try simp only [Act.put, List.setIfInBounds_toArray, List.set_cons_zero, List.set_cons_succ]
                    refine wpAnyH_take (i := 5) (oi := { dst := some 149, op := Op.pick (Operand.tmp 145) (Operand.tmp 148) (Operand.const (Value.bool false)), type := 4, pos := _, after := #[{ on := 1, ground := Ground.data }, { on := 4, ground := Ground.data }], guard := none }) (v := ?_) rfl (by kernel_rfl) (by kernel_rfl) (by kernel_rfl) (fun _ _ _ h => h) (Or.inl ⟨by rfl, ?_⟩) (by assumption) ?_
                    rotate_left
                    · ((intro w hSw); (try dsimp only at hSw); go_simp; (try with_reducible rfl))
                    try simp only [Act.put, List.setIfInBounds_toArray, List.set_cons_zero, List.set_cons_succ]
                    refine wpAnyH_take (i := 6) (oi := { dst := some 150, op := Op.move (Operand.tmp 149), type := 4, pos := _, after := #[{ on := 5, ground := Ground.data }, { on := 1, ground := Ground.chain }], guard := none }) (v := ?_) rfl (by kernel_rfl) (by kernel_rfl) (by kernel_rfl) (fun _ _ _ h => h) (Or.inl ⟨by rfl, ?_⟩) (by assumption) ?_
                    rotate_left
                    · ((intro w hSw); (try dsimp only at hSw); go_simp; (try with_reducible rfl))
                    try simp only [Act.put, List.setIfInBounds_toArray, List.set_cons_zero, List.set_cons_succ]
                    refine wpAnyH_take (i := 7) (oi := { dst := some 151, op := Op.move (Operand.tmp 14), type := 33, pos := _, after := #[{ on := 6, ground := Ground.guard }], guard := some (6, true) }) (v := ?_) rfl (by kernel_rfl) (by kernel_rfl) (by kernel_rfl) (fun _ _ _ h => h) (Or.inl ⟨by rfl, ?_⟩) (by assumption) ?_
                    rotate_left
                    · ((intro w hSw); (try dsimp only at hSw); go_simp; (try with_reducible rfl))
                    try simp only [Act.put, List.setIfInBounds_toArray, List.set_cons_zero, List.set_cons_succ]
                    refine wpAnyH_take (i := 8) (oi := { dst := some 152, op := Op.indexAddr 33 (Operand.tmp 151) (Operand.const (Value.int IntKind.i64 0)), type := 0, pos := _, after := #[{ on := 7, ground := Ground.data }, { on := 6, ground := Ground.guard }], guard := some (6, true) }) (v := ?_) rfl (by kernel_rfl) (by kernel_rfl) (by kernel_rfl) (fun _ _ _ h => h) (Or.inl ⟨by rfl, ?_⟩) (by assumption) ?_
                    rotate_left
                    · ((intro w hSw); (try dsimp only at hSw); go_simp; (try with_reducible rfl))
                    try simp only [Act.put, List.setIfInBounds_toArray, List.set_cons_zero, List.set_cons_succ]
                    refine wpAnyH_take (i := 9) (oi := { dst := some 153, op := Op.fieldAddr 40 (Operand.tmp 152) 0, type := 0, pos := _, after := #[{ on := 8, ground := Ground.data }, { on := 6, ground := Ground.guard }], guard := some (6, true) }) (v := ?_) rfl (by kernel_rfl) (by kernel_rfl) (by kernel_rfl) (fun _ _ _ h => h) (Or.inl ⟨by rfl, ?_⟩) (by assumption) ?_
                    rotate_left
                    · ((intro w hSw); (try dsimp only at hSw); go_simp; (try with_reducible rfl))
                    try simp only [Act.put, List.setIfInBounds_toArray, List.set_cons_zero, List.set_cons_succ]
                    refine wpAnyH_take (i := 10) (oi := { dst := some 154, op := Op.load 3 (Operand.tmp 153), type := 3, pos := _, after := #[{ on := 9, ground := Ground.data }, { on := 6, ground := Ground.guard }], guard := some (6, true) }) (v := ?_) rfl (by kernel_rfl) (by kernel_rfl) (by kernel_rfl) (fun _ _ _ h => h) (Or.inl ⟨by rfl, ?_⟩) (by assumption) ?_
                    rotate_left
                    · ((intro w hSw); (try dsimp only at hSw); go_simp; (try with_reducible rfl))
                    try simp only [Act.put, List.setIfInBounds_toArray, List.set_cons_zero, List.set_cons_succ]
                    refine wpAnyH_take (i := 11) (oi := { dst := some 155, op := Op.binOp BinOp.eql 3 (Operand.tmp 154) (Operand.const (Value.int IntKind.i64 5)) 3, type := 4, pos := _, after := #[{ on := 10, ground := Ground.data }, { on := 6, ground := Ground.guard }], guard := some (6, true) }) (v := ?_) rfl (by kernel_rfl) (by kernel_rfl) (by kernel_rfl) (fun _ _ _ h => h) (Or.inl ⟨by rfl, ?_⟩) (by assumption) ?_
                    rotate_left
                    · ((intro w hSw); (try dsimp only at hSw); go_simp; (try with_reducible rfl))
                    try simp only [Act.put, List.setIfInBounds_toArray, List.set_cons_zero, List.set_cons_succ]
                    refine wpAnyH_take (i := 12) (oi := { dst := some 156, op := Op.pick (Operand.tmp 150) (Operand.tmp 155) (Operand.const (Value.bool false)), type := 4, pos := _, after := #[{ on := 6, ground := Ground.data }, { on := 11, ground := Ground.data }], guard := none }) (v := ?_) rfl (by kernel_rfl) (by kernel_rfl) (by kernel_rfl) (fun _ _ _ h => h) (Or.inl ⟨by rfl, ?_⟩) (by assumption) ?_
                    rotate_left
                    · ((intro w hSw); (try dsimp only at hSw); go_simp; (try with_reducible rfl))
                    try simp only [Act.put, List.setIfInBounds_toArray, List.set_cons_zero, List.set_cons_succ]
                    refine wpAnyH_take (i := 13) (oi := { dst := some 157, op := Op.move (Operand.tmp 156), type := 4, pos := _, after := #[{ on := 12, ground := Ground.data }, { on := 6, ground := Ground.chain }], guard := none }) (v := ?_) rfl (by kernel_rfl) (by kernel_rfl) (by kernel_rfl) (fun _ _ _ h => h) (Or.inl ⟨by rfl, ?_⟩) (by assumption) ?_
                    rotate_left
                    · ((intro w hSw); (try dsimp only at hSw); go_simp; (try with_reducible rfl))
                    try simp only [Act.put, List.setIfInBounds_toArray, List.set_cons_zero, List.set_cons_succ]
                    refine wpAnyH_take (i := 14) (oi := { dst := some 158, op := Op.move (Operand.tmp 14), type := 33, pos := _, after := #[{ on := 13, ground := Ground.guard }], guard := some (13, true) }) (v := ?_) rfl (by kernel_rfl) (by kernel_rfl) (by kernel_rfl) (fun _ _ _ h => h) (Or.inl ⟨by rfl, ?_⟩) (by assumption) ?_
                    rotate_left
                    · ((intro w hSw); (try dsimp only at hSw); go_simp; (try with_reducible rfl))
                    try simp only [Act.put, List.setIfInBounds_toArray, List.set_cons_zero, List.set_cons_succ]
                    refine wpAnyH_take (i := 15) (oi := { dst := some 159, op := Op.indexAddr 33 (Operand.tmp 158) (Operand.const (Value.int IntKind.i64 0)), type := 0, pos := _, after := #[{ on := 14, ground := Ground.data }, { on := 13, ground := Ground.guard }], guard := some (13, true) }) (v := ?_) rfl (by kernel_rfl) (by kernel_rfl) (by kernel_rfl) (fun _ _ _ h => h) (Or.inl ⟨by rfl, ?_⟩) (by assumption) ?_
                    rotate_left
                    · ((intro w hSw); (try dsimp only at hSw); go_simp; (try with_reducible rfl))
                    try simp only [Act.put, List.setIfInBounds_toArray, List.set_cons_zero, List.set_cons_succ]
                    refine wpAnyH_take (i := 16) (oi := { dst := some 160, op := Op.fieldAddr 40 (Operand.tmp 159) 6, type := 0, pos := _, after := #[{ on := 15, ground := Ground.data }, { on := 13, ground := Ground.guard }], guard := some (13, true) }) (v := ?_) rfl (by kernel_rfl) (by kernel_rfl) (by kernel_rfl) (fun _ _ _ h => h) (Or.inl ⟨by rfl, ?_⟩) (by assumption) ?_
                    rotate_left
                    · ((intro w hSw); (try dsimp only at hSw); go_simp; (try with_reducible rfl))
                    try simp only [Act.put, List.setIfInBounds_toArray, List.set_cons_zero, List.set_cons_succ]
                    refine wpAnyH_take (i := 17) (oi := { dst := some 161, op := Op.load 9 (Operand.tmp 160), type := 9, pos := _, after := #[{ on := 16, ground := Ground.data }, { on := 13, ground := Ground.guard }], guard := some (13, true) }) (v := ?_) rfl (by kernel_rfl) (by kernel_rfl) (by kernel_rfl) (fun _ _ _ h => h) (Or.inl ⟨by rfl, ?_⟩) (by assumption) ?_
                    rotate_left
                    · ((intro w hSw); (try dsimp only at hSw); go_simp; (try with_reducible rfl))
                    try simp only [Act.put, List.setIfInBounds_toArray, List.set_cons_zero, List.set_cons_succ]
                    refine wpAnyH_take (i := 18) (oi := { dst := some 162, op := Op.move (Operand.tmp 15), type := 46, pos := _, after := #[{ on := 13, ground := Ground.guard }], guard := some (13, true) }) (v := ?_) rfl (by kernel_rfl) (by kernel_rfl) (by kernel_rfl) (fun _ _ _ h => h) (Or.inl ⟨by rfl, ?_⟩) (by assumption) ?_
                    rotate_left
                    · ((intro w hSw); (try dsimp only at hSw); go_simp; (try with_reducible rfl))
                    try simp only [Act.put, List.setIfInBounds_toArray, List.set_cons_zero, List.set_cons_succ]
                    refine wpAnyH_take (i := 19) (oi := { dst := some 163, op := Op.convert 46 9 (Operand.tmp 162), type := 9, pos := _, after := #[{ on := 18, ground := Ground.data }, { on := 13, ground := Ground.guard }], guard := some (13, true) }) (v := ?_) rfl (by kernel_rfl) (by kernel_rfl) (by kernel_rfl) (fun _ _ _ h => h) (Or.inl ⟨by rfl, ?_⟩) (by assumption) ?_
                    rotate_left
                    · ((intro w hSw); (try dsimp only at hSw); go_simp; (try with_reducible rfl))
                    try simp only [Act.put, List.setIfInBounds_toArray, List.set_cons_zero, List.set_cons_succ]
                    refine wpAnyH_take (i := 20) (oi := { dst := some 164, op := Op.binOp BinOp.eql 9 (Operand.tmp 161) (Operand.tmp 163) 9, type := 4, pos := _, after := #[{ on := 17, ground := Ground.data }, { on := 19, ground := Ground.data }, { on := 13, ground := Ground.guard }], guard := some (13, true) }) (v := ?_) rfl (by kernel_rfl) (by kernel_rfl) (by kernel_rfl) (fun _ _ _ h => h) (Or.inl ⟨by rfl, ?_⟩) (by assumption) ?_
                    rotate_left
                    · ((intro w hSw); (try dsimp only at hSw); go_simp; (try with_reducible rfl))
                    try simp only [Act.put, List.setIfInBounds_toArray, List.set_cons_zero, List.set_cons_succ]
                    refine wpAnyH_take (i := 21) (oi := { dst := some 165, op := Op.pick (Operand.tmp 157) (Operand.tmp 164) (Operand.const (Value.bool false)), type := 4, pos := _, after := #[{ on := 13, ground := Ground.data }, { on := 20, ground := Ground.data }], guard := none }) (v := ?_) rfl (by kernel_rfl) (by kernel_rfl) (by kernel_rfl) (fun _ _ _ h => h) (Or.inl ⟨by rfl, ?_⟩) (by assumption) ?_
                    rotate_left
                    · ((intro w hSw); (try dsimp only at hSw); go_simp; (try with_reducible rfl))
                    try simp only [Act.put, List.setIfInBounds_toArray, List.set_cons_zero, List.set_cons_succ]
                    refine wpAnyH_take (i := 22) (oi := { dst := some 166, op := Op.move (Operand.tmp 165), type := 4, pos := _, after := #[{ on := 21, ground := Ground.data }, { on := 13, ground := Ground.chain }], guard := none }) (v := ?_) rfl (by kernel_rfl) (by kernel_rfl) (by kernel_rfl) (fun _ _ _ h => h) (Or.inl ⟨by rfl, ?_⟩) (by assumption) ?_
                    rotate_left
                    · ((intro w hSw); (try dsimp only at hSw); go_simp; (try with_reducible rfl))
                    try simp only [Act.put, List.setIfInBounds_toArray, List.set_cons_zero, List.set_cons_succ]
                    refine wpAnyH_take (i := 23) (oi := { dst := some 167, op := Op.move (Operand.tmp 7), type := 25, pos := _, after := #[{ on := 22, ground := Ground.guard }], guard := some (22, true) }) (v := ?_) rfl (by kernel_rfl) (by kernel_rfl) (by kernel_rfl) (fun _ _ _ h => h) (Or.inl ⟨by rfl, ?_⟩) (by assumption) ?_
                    rotate_left
                    · ((intro w hSw); (try dsimp only at hSw); go_simp; (try with_reducible rfl))
                    try simp only [Act.put, List.setIfInBounds_toArray, List.set_cons_zero, List.set_cons_succ]
                    refine wpAnyH_ready (rs := [24]) (by kernel_rfl) (by simp) ?_
                    refine (AllReadyH.cons (o := { dst := some 168, op := Op.call { callee := Callee.value (Operand.func 13), args := #[Operand.tmp 167], argTypes := #[25] }, type := 3, pos := _, after := #[{ on := 23, ground := Ground.data }, { on := 22, ground := Ground.chain }, { on := 22, ground := Ground.guard }], guard := some (22, true) }) rfl (fun K hK => ?_) AllReadyH.nil)
                    go_simp
                    (go_at_call 13; (with_reducible refine (stateK 0 g v8 x8 (bg 0) _ (StP.pr (StP.below HS9.out (KB.out _ hHeld))) HST0.out).mono ?_); rintro e wa ⟨rfl, rfl⟩; have hN := KB.out _ hHeld)
                    go_wp2_with fail
                    refine hK.out _ _ ?_ (fun hHeld => ?_)
                    · ((try dsimp only); (first | (with_reducible exact KS.out _ hN) | (with_reducible exact hHeld) | exact KS.out _ (Below.refl _ _).drew | exact KS.out _ (Below.refl _ _)))
                    clear hK K
                    try simp only [Act.put, List.setIfInBounds_toArray, List.set_cons_zero, List.set_cons_succ]
                    refine wpAnyH_take (i := 25) (oi := { dst := some 169, op := Op.binOp BinOp.eql 3 (Operand.tmp 168) (Operand.const (Value.int IntKind.i64 0)) 3, type := 4, pos := _, after := #[{ on := 24, ground := Ground.data }, { on := 22, ground := Ground.guard }], guard := some (22, true) }) (v := ?_) rfl (by kernel_rfl) (by kernel_rfl) (by kernel_rfl) (fun _ _ _ h => h) (Or.inl ⟨by rfl, ?_⟩) (by assumption) ?_
                    rotate_left
                    · ((intro w hSw); (try dsimp only at hSw); go_simp; (try with_reducible rfl))
                    try simp only [Act.put, List.setIfInBounds_toArray, List.set_cons_zero, List.set_cons_succ]
                    refine wpAnyH_take (i := 26) (oi := { dst := some 170, op := Op.pick (Operand.tmp 166) (Operand.tmp 169) (Operand.const (Value.bool false)), type := 4, pos := _, after := #[{ on := 22, ground := Ground.data }, { on := 25, ground := Ground.data }], guard := none }) (v := ?_) rfl (by kernel_rfl) (by kernel_rfl) (by kernel_rfl) (fun _ _ _ h => h) (Or.inl ⟨by rfl, ?_⟩) (by assumption) ?_
                    rotate_left
                    · ((intro w hSw); (try dsimp only at hSw); go_simp; (try with_reducible rfl))
                    try simp only [Act.put, List.setIfInBounds_toArray, List.set_cons_zero, List.set_cons_succ]
                    refine wpAnyH_take (i := 27) (oi := { dst := some 6, op := Op.assign (Operand.tmp 170), type := 4, pos := _, after := #[{ on := 26, ground := Ground.data }, { on := 24, ground := Ground.chain }, { on := 0, ground := Ground.phase }, { on := 1, ground := Ground.phase }, { on := 2, ground := Ground.phase }, { on := 3, ground := Ground.phase }, { on := 4, ground := Ground.phase }, { on := 5, ground := Ground.phase }, { on := 6, ground := Ground.phase }, { on := 7, ground := Ground.phase }, { on := 8, ground := Ground.phase }, { on := 9, ground := Ground.phase }, { on := 10, ground := Ground.phase }, { on := 11, ground := Ground.phase }, { on := 12, ground := Ground.phase }, { on := 13, ground := Ground.phase }, { on := 14, ground := Ground.phase }, { on := 15, ground := Ground.phase }, { on := 16, ground := Ground.phase }, { on := 17, ground := Ground.phase }, { on := 18, ground := Ground.phase }, { on := 19, ground := Ground.phase }, { on := 20, ground := Ground.phase }, { on := 21, ground := Ground.phase }, { on := 22, ground := Ground.phase }, { on := 23, ground := Ground.phase }, { on := 24, ground := Ground.phase }, { on := 25, ground := Ground.phase }, { on := 26, ground := Ground.phase }], guard := none }) (v := ?_) rfl (by kernel_rfl) (by kernel_rfl) (by kernel_rfl) (fun _ _ _ h => h) (Or.inl ⟨by rfl, ?_⟩) (by assumption) ?_
                    rotate_left
                    · ((intro w hSw); (try dsimp only at hSw); go_simp; (try with_reducible rfl))
                    try simp only [Act.put, List.setIfInBounds_toArray, List.set_cons_zero, List.set_cons_succ]
                    refine wpAnyH_done (by kernel_rfl) ?_ _
                    clear hN
                    go_wp2
                    go_ret
                    exact ⟨rfl, below_then HB9.out (KB.out _ hHeld) HB9.out.size⟩
              | false =>
                have HA7 : Hid (#[.int .i32 27, .int .i32 92] = (rv [27, 92]).toArray) := Lib.hid rfl
                have HN7 : Hid (2 = ([27, 92] : List Int).length) := Lib.hid rfl
                have HM7 : Hid (0 + ([27, 92] : List Int).length ≤ 1000000) := Lib.hid (by decide)
                have HL7 : Hid (([27, 92] : List Int).length ≤ 50000) := Lib.hid (by decide)
                have HG1 := Lib.hid (congrArg Prod.fst (feed_back t))
                have HG2' := Lib.hid (congrArg Prod.snd (feed_back t))
                go_wp2_with (first
                  | (at_builtin; (refine app_runes rfl _ _ rfl w4.heap.size _ [27, 93] rfl HO4.out ta t.length tc t rfl rfl HTC.out HT4.out HLE4.out HZ4.out ?_; intro v5 w5 o5 b5; rw [← HT2E.out] at o5; obtain ⟨na, nc, rfl, lr5, ln5⟩ := row_lrow o5; have HBB5 := Lib.hid (b5 _ _ (Nat.le_refl _) HA4.out); have HS5 := Lib.hid (StP.below HS4.out (b5 _ _ (Nat.le_refl _) HA4.out)); have HLR5 := Lib.hid lr5; have HFR5 := Lib.hid (show ∀ b off, T2 ≠ [] → na = some ⟨b, off, none⟩ → b ≠ g ∧ v3.ownBlock ≠ some b ∧ x3.ownBlock ≠ some b from far_of HP4.out ln5); clear o5 b5 lr5 ln5))
                  | (go_at_call 11; (with_reducible refine (feedC na T2.length nc T2 g v3 x3 (bg 0) 0 w5 rfl (StP.pr HS5.out) HK0.out HM2.out HL2'.out HLR5.out HFR5.out).mono ?_); rintro e w6 hf; obtain ⟨v6, x6, qs6, vb, vd, rfl, hs, _, hq, _, _⟩ := feedP_of hf HF3.out HF4.out; obtain rfl := List.map_eq_nil_iff.1 hq; have HS6 := Lib.hid (StP.trans HS5.out hs); clear hf hs hq)
                  | (go_at_call 13; (with_reducible refine (stateK 4 g v6 x6 _ w6 (StP.pr HS6.out) HST4.out).mono ?_); rintro e w' ⟨rfl, rfl⟩)
                  | (go_at_call 11; (with_reducible refine (feedLit [27, 92] #[.int .i32 27, .int .i32 92] 2 w6.heap.size g v6 x6 _ 0 w6 HA7.out rfl HN7.out (StP.pr HS6.out) HK6.out HM7.out HL7.out).mono ?_); rintro e w8 hf; obtain ⟨v8, x8, qs8, ve, vf, rfl, hs, hI, hq, _, _⟩ := feedP_of hf HG1.out HG2'.out; obtain ⟨q8, rfl, hE⟩ := one_ev hq; obtain ⟨g8, c8, hVV⟩ := own_some7 hI.1 (Nat.zero_lt_succ _); have hva : ve = some ⟨g8, 0, none⟩ := (by injection hVV); subst hva; have HS8 := Lib.hid (StP.trans (StP.alloc HS6.out (.cells #[.int .i32 27, .int .i32 92] 21)) hs); have HI8 := Lib.hid hI; have HE8 := Lib.hid hE; have HB8 := Lib.hid (st_below HB2.out (StP.trans (StP.alloc HS6.out (.cells #[.int .i32 27, .int .i32 92] 21)) hs) HG.out); clear hf hs hI hq hVV hE))
                have HRI := Lib.hid (World.rowIs_made w8 (.int .u8 0) t.length 5)
                have HBN := Lib.hid (show Below w8.heap.size w8 (w8.alloc (.cells (madeCells #[.int .u8 0] t.length) 5)) from (Below.refl _ w8).alloc (Nat.le_refl _) _)
                generalize w8.alloc (.cells (madeCells #[.int .u8 0] t.length) 5) = w9 at *
                generalize hgw : w8.heap.size = gw at *
                have HZN := Lib.hid (show w8.heap.size ≤ gw from Nat.le_of_eq hgw)
                clear hgw
                go_loopw [16] (fun s16 wq => ∃ i : Nat, i ≤ t.length ∧ s16 = .int .i64 (i : Int) ∧ wq.rowIs gw 5 t.length (fun j => if j < i then .int .u8 (t.getD j 0) else .int .u8 0) ∧ Below gw w8 wq) (fun s16 _ => t.length - (intOf s16).toNat)
                case atStart => exact ⟨0, Nat.zero_le _, rfl, HRI.out.congr (fun j hj => by rw [if_neg (Nat.not_lt_zero _)]), HBN.out⟩
                case round =>
                  obtain ⟨i, hi, rfl, hrow, hbl⟩ := hrel
                  have HROW := Lib.hid hrow
                  have HBL := Lib.hid hbl
                  have HB9 := Lib.hid (below_then HB8.out (hbl.mono HZN.out) HB8.out.size)
                  clear hrow hbl
                  by_cases hlt : i < t.length
                  · obtain ⟨b, off, rfl, hb⟩ := lrow_lt HT.out (fun e => by rw [e] at hlt; exact absurd hlt (Nat.not_lt_zero _))
                    obtain ⟨r, hr⟩ : ∃ r, r = t[i] := ⟨_, rfl⟩
                    have hrb : 32 ≤ r ∧ r ≤ 126 := by rw [hr]; exact HPT.out _ (List.getElem_mem hlt)
                    have cr : wr.cell? ⟨b, off + i, none⟩ = some (.int .i32 r) := by
                      rcases lrow_then HT.out HB9.out (Nat.le_refl _) with h0 | ⟨b', off', e, hc⟩
                      · rw [h0] at hlt; exact absurd hlt (Nat.not_lt_zero _)
                      · injection e with e; injection e with e4 e5
                        subst e4 e5
                        rw [hr]; exact hc i hlt
                    have hr1 := hrb.1
                    have hr2 := hrb.2
                    have hr3 : r % 256 = r := by omega
                    have hcl := HROW.out.cell hlt
                    rw [if_neg (Nat.lt_irrefl i)] at hcl
                    have hfz := HROW.out.frozen i
                    have hge : t.getD i 0 = r := by rw [List.getD_eq_getElem?_getD, List.getElem?_eq_getElem hlt, hr]; rfl
                    have HGE := Lib.hid hge
                    have HGB := Lib.hid HZN.out
                    clear hrb hr hge
                    go_wp2
                    refine ⟨⟨i + 1, hlt, rfl, (HROW.out.set i (.int .u8 r)).congr (fun j hj => ?_), HBL.out.setCell (Nat.le_refl _) _⟩, by show t.length - ((i : Int) + 1).toNat < t.length - (i : Int).toNat; omega⟩
                    by_cases h1 : j = i
                    · rw [if_pos h1, if_pos (by omega), h1, HGE.out]
                    · rw [if_neg h1]
                      by_cases h2 : j < i
                      · rw [if_pos h2, if_pos (by omega)]
                      · rw [if_neg h2, if_neg (by omega)]
                  · have hie : i = t.length := Nat.le_antisymm hi (Nat.not_lt.1 hlt)
                    subst hie
                    obtain ⟨B, hB⟩ : ∃ B, B = strOfNums t := ⟨_, rfl⟩
                    have HI9 := Lib.hid (evI_then HI8.out HBL.out HZN.out)
                    have HS9 := Lib.hid (StP.below HS8.out (HBL.out.mono HZN.out))
                    have HST0 : Hid ((0 : Int) = ((bg 0).st : Int)) := Lib.hid rfl
                    have HC0 : Hid (wr.cell? ⟨g8, 0, none⟩ = some (.int .i64 5)) := Lib.hid (by
                      have h := ev_cells HI9.out 0 (Nat.zero_lt_succ _) 0 (by decide)
                      simp only [List.getElem_cons_zero, ecells, HE8.out] at h; exact h)
                    have HC6 : Hid (wr.cell? ⟨g8, 6, none⟩ = some (.string B)) := Lib.hid (by
                      have h := ev_cells HI9.out 0 (Nat.zero_lt_succ _) 6 (by decide)
                      simp only [List.getElem_cons_zero, ecells, HE8.out, oscE] at h
                      rw [hB, ← runes_plain HPT.out]; exact h)
                    have HCV : Hid (∀ W, Below wr.heap.size wr W → (convert 46 9 (.slice (some ⟨gw, 0, none⟩) t.length t.length)).run Try.prog W = .ok (.string B) W) := Lib.hid (fun W hb => by
                      rw [hB]
                      refine run_convert_bytes_arg (P := Try.prog) W 46 5 Try.underlying46 Try.underlying5 gw 0 t.length t.length t rfl (fun j hj => ?_) 9 Try.underlying9
                      rw [Nat.zero_add]
                      have h := HROW.out.cell hj
                      rw [if_pos hj] at h
                      exact cell_then hb (Nat.le_refl _) h)
                    have KS := Lib.hid (show ∀ W, Below wr.heap.size wr W → W.cell? ⟨g8, 0, none⟩ = some (.int .i64 5) ∧ W.cell? ⟨g8, 6, none⟩ = some (.string B) ∧ (convert 46 9 (.slice (some ⟨gw, 0, none⟩) t.length t.length)).run Try.prog W = .ok (.string B) W ∧ Below wr.heap.size wr W from fun W h => ⟨cell_then h (Nat.le_refl _) HC0.out, cell_then h (Nat.le_refl _) HC6.out, HCV.out W h, h⟩)
                    have KB := Lib.hid (show ∀ W, (W.cell? ⟨g8, 0, none⟩ = some (.int .i64 5) ∧ W.cell? ⟨g8, 6, none⟩ = some (.string B) ∧ (convert 46 9 (.slice (some ⟨gw, 0, none⟩) t.length t.length)).run Try.prog W = .ok (.string B) W ∧ Below wr.heap.size wr W) → Below wr.heap.size wr W from fun W h => h.2.2.2)
                    clear hi hlt hB
                    go_wp2_with fail
                    refine wp_region_held_drew (S := (fun W => W.cell? ⟨g8, 0, none⟩ = some (.int .i64 5) ∧ W.cell? ⟨g8, 6, none⟩ = some (.string B) ∧ (convert 46 9 (.slice (some ⟨gw, 0, none⟩) t.length t.length)).run Try.prog W = .ok (.string B) W ∧ Below wr.heap.size wr W)) (by kernel_rfl) ?_ (fun hHeld => ?_)
                    · ((try dsimp only); (first | (with_reducible exact KS.out _ hN) | (with_reducible exact hHeld) | exact KS.out _ (Below.refl _ _).drew | exact KS.out _ (Below.refl _ _)))
                    refine wpAnyH_ready (rs := [0]) (by kernel_rfl) (by simp) ?_
                    refine (AllReadyH.cons (o := { dst := some 144, op := Op.call { callee := Callee.value (Operand.func 7), args := #[], argTypes := #[] }, type := 4, pos := _, after := #[], guard := none }) rfl (fun K hK => ?_) AllReadyH.nil)
                    go_simp
                    (go_at_call 7; (with_reducible refine (first8 _).mono ?_); rintro e wa ⟨rfl, ba⟩; have hN := below_then (KB.out _ hHeld) ba (KB.out _ hHeld).size; clear ba)
                    go_wp2_with fail
                    refine hK.out _ _ ?_ (fun hHeld => ?_)
                    · ((try dsimp only); (first | (with_reducible exact KS.out _ hN) | (with_reducible exact hHeld) | exact KS.out _ (Below.refl _ _).drew | exact KS.out _ (Below.refl _ _)))
                    clear hK K
                    try simp only [Act.put, List.setIfInBounds_toArray, List.set_cons_zero, List.set_cons_succ]
                    refine wpAnyH_take (i := 1) (oi := { dst := some 145, op := Op.move (Operand.tmp 144), type := 4, pos := _, after := #[{ on := 0, ground := Ground.data }, { on := 0, ground := Ground.chain }], guard := none }) (v := ?_) rfl (by kernel_rfl) (by kernel_rfl) (by kernel_rfl) (fun _ _ _ h => h) (Or.inl ⟨by rfl, ?_⟩) (by assumption) ?_
                    rotate_left
                    · ((intro w hSw); (try dsimp only at hSw); go_simp; (try with_reducible rfl))
                    try simp only [Act.put, List.setIfInBounds_toArray, List.set_cons_zero, List.set_cons_succ]
                    refine wpAnyH_take (i := 2) (oi := { dst := some 146, op := Op.move (Operand.tmp 14), type := 33, pos := _, after := #[{ on := 1, ground := Ground.guard }], guard := some (1, true) }) (v := ?_) rfl (by kernel_rfl) (by kernel_rfl) (by kernel_rfl) (fun _ _ _ h => h) (Or.inl ⟨by rfl, ?_⟩) (by assumption) ?_
                    rotate_left
                    · ((intro w hSw); (try dsimp only at hSw); go_simp; (try with_reducible rfl))
                    try simp only [Act.put, List.setIfInBounds_toArray, List.set_cons_zero, List.set_cons_succ]
                    refine wpAnyH_take (i := 3) (oi := { dst := some 147, op := Op.call { callee := Callee.builtin Builtin.len, args := #[Operand.tmp 146], argTypes := #[33] }, type := 3, pos := _, after := #[{ on := 2, ground := Ground.data }, { on := 1, ground := Ground.guard }], guard := some (1, true) }) (v := ?_) rfl (by kernel_rfl) (by kernel_rfl) (by kernel_rfl) (fun _ _ _ h => h) (Or.inl ⟨by rfl, ?_⟩) (by assumption) ?_
                    rotate_left
                    · ((intro w hSw); (try dsimp only at hSw); go_simp; (try with_reducible rfl))
                    try simp only [Act.put, List.setIfInBounds_toArray, List.set_cons_zero, List.set_cons_succ]
                    refine wpAnyH_take (i := 4) (oi := { dst := some 148, op := Op.binOp BinOp.eql 3 (Operand.tmp 147) (Operand.const (Value.int IntKind.i64 1)) 3, type := 4, pos := _, after := #[{ on := 3, ground := Ground.data }, { on := 1, ground := Ground.guard }], guard := some (1, true) }) (v := ?_) rfl (by kernel_rfl) (by kernel_rfl) (by kernel_rfl) (fun _ _ _ h => h) (Or.inl ⟨by rfl, ?_⟩) (by assumption) ?_
                    rotate_left
                    · ((intro w hSw); (try dsimp only at hSw); go_simp; (try with_reducible rfl))
                    try simp only [Act.put, List.setIfInBounds_toArray, List.set_cons_zero, List.set_cons_succ]
                    refine wpAnyH_take (i := 5) (oi := { dst := some 149, op := Op.pick (Operand.tmp 145) (Operand.tmp 148) (Operand.const (Value.bool false)), type := 4, pos := _, after := #[{ on := 1, ground := Ground.data }, { on := 4, ground := Ground.data }], guard := none }) (v := ?_) rfl (by kernel_rfl) (by kernel_rfl) (by kernel_rfl) (fun _ _ _ h => h) (Or.inl ⟨by rfl, ?_⟩) (by assumption) ?_
                    rotate_left
                    · ((intro w hSw); (try dsimp only at hSw); go_simp; (try with_reducible rfl))
                    try simp only [Act.put, List.setIfInBounds_toArray, List.set_cons_zero, List.set_cons_succ]
                    refine wpAnyH_take (i := 6) (oi := { dst := some 150, op := Op.move (Operand.tmp 149), type := 4, pos := _, after := #[{ on := 5, ground := Ground.data }, { on := 1, ground := Ground.chain }], guard := none }) (v := ?_) rfl (by kernel_rfl) (by kernel_rfl) (by kernel_rfl) (fun _ _ _ h => h) (Or.inl ⟨by rfl, ?_⟩) (by assumption) ?_
                    rotate_left
                    · ((intro w hSw); (try dsimp only at hSw); go_simp; (try with_reducible rfl))
                    try simp only [Act.put, List.setIfInBounds_toArray, List.set_cons_zero, List.set_cons_succ]
                    refine wpAnyH_take (i := 7) (oi := { dst := some 151, op := Op.move (Operand.tmp 14), type := 33, pos := _, after := #[{ on := 6, ground := Ground.guard }], guard := some (6, true) }) (v := ?_) rfl (by kernel_rfl) (by kernel_rfl) (by kernel_rfl) (fun _ _ _ h => h) (Or.inl ⟨by rfl, ?_⟩) (by assumption) ?_
                    rotate_left
                    · ((intro w hSw); (try dsimp only at hSw); go_simp; (try with_reducible rfl))
                    try simp only [Act.put, List.setIfInBounds_toArray, List.set_cons_zero, List.set_cons_succ]
                    refine wpAnyH_take (i := 8) (oi := { dst := some 152, op := Op.indexAddr 33 (Operand.tmp 151) (Operand.const (Value.int IntKind.i64 0)), type := 0, pos := _, after := #[{ on := 7, ground := Ground.data }, { on := 6, ground := Ground.guard }], guard := some (6, true) }) (v := ?_) rfl (by kernel_rfl) (by kernel_rfl) (by kernel_rfl) (fun _ _ _ h => h) (Or.inl ⟨by rfl, ?_⟩) (by assumption) ?_
                    rotate_left
                    · ((intro w hSw); (try dsimp only at hSw); go_simp; (try with_reducible rfl))
                    try simp only [Act.put, List.setIfInBounds_toArray, List.set_cons_zero, List.set_cons_succ]
                    refine wpAnyH_take (i := 9) (oi := { dst := some 153, op := Op.fieldAddr 40 (Operand.tmp 152) 0, type := 0, pos := _, after := #[{ on := 8, ground := Ground.data }, { on := 6, ground := Ground.guard }], guard := some (6, true) }) (v := ?_) rfl (by kernel_rfl) (by kernel_rfl) (by kernel_rfl) (fun _ _ _ h => h) (Or.inl ⟨by rfl, ?_⟩) (by assumption) ?_
                    rotate_left
                    · ((intro w hSw); (try dsimp only at hSw); go_simp; (try with_reducible rfl))
                    try simp only [Act.put, List.setIfInBounds_toArray, List.set_cons_zero, List.set_cons_succ]
                    refine wpAnyH_take (i := 10) (oi := { dst := some 154, op := Op.load 3 (Operand.tmp 153), type := 3, pos := _, after := #[{ on := 9, ground := Ground.data }, { on := 6, ground := Ground.guard }], guard := some (6, true) }) (v := ?_) rfl (by kernel_rfl) (by kernel_rfl) (by kernel_rfl) (fun _ _ _ h => h) (Or.inl ⟨by rfl, ?_⟩) (by assumption) ?_
                    rotate_left
                    · ((intro w hSw); (try dsimp only at hSw); go_simp; (try with_reducible rfl))
                    try simp only [Act.put, List.setIfInBounds_toArray, List.set_cons_zero, List.set_cons_succ]
                    refine wpAnyH_take (i := 11) (oi := { dst := some 155, op := Op.binOp BinOp.eql 3 (Operand.tmp 154) (Operand.const (Value.int IntKind.i64 5)) 3, type := 4, pos := _, after := #[{ on := 10, ground := Ground.data }, { on := 6, ground := Ground.guard }], guard := some (6, true) }) (v := ?_) rfl (by kernel_rfl) (by kernel_rfl) (by kernel_rfl) (fun _ _ _ h => h) (Or.inl ⟨by rfl, ?_⟩) (by assumption) ?_
                    rotate_left
                    · ((intro w hSw); (try dsimp only at hSw); go_simp; (try with_reducible rfl))
                    try simp only [Act.put, List.setIfInBounds_toArray, List.set_cons_zero, List.set_cons_succ]
                    refine wpAnyH_take (i := 12) (oi := { dst := some 156, op := Op.pick (Operand.tmp 150) (Operand.tmp 155) (Operand.const (Value.bool false)), type := 4, pos := _, after := #[{ on := 6, ground := Ground.data }, { on := 11, ground := Ground.data }], guard := none }) (v := ?_) rfl (by kernel_rfl) (by kernel_rfl) (by kernel_rfl) (fun _ _ _ h => h) (Or.inl ⟨by rfl, ?_⟩) (by assumption) ?_
                    rotate_left
                    · ((intro w hSw); (try dsimp only at hSw); go_simp; (try with_reducible rfl))
                    try simp only [Act.put, List.setIfInBounds_toArray, List.set_cons_zero, List.set_cons_succ]
                    refine wpAnyH_take (i := 13) (oi := { dst := some 157, op := Op.move (Operand.tmp 156), type := 4, pos := _, after := #[{ on := 12, ground := Ground.data }, { on := 6, ground := Ground.chain }], guard := none }) (v := ?_) rfl (by kernel_rfl) (by kernel_rfl) (by kernel_rfl) (fun _ _ _ h => h) (Or.inl ⟨by rfl, ?_⟩) (by assumption) ?_
                    rotate_left
                    · ((intro w hSw); (try dsimp only at hSw); go_simp; (try with_reducible rfl))
                    try simp only [Act.put, List.setIfInBounds_toArray, List.set_cons_zero, List.set_cons_succ]
                    refine wpAnyH_take (i := 14) (oi := { dst := some 158, op := Op.move (Operand.tmp 14), type := 33, pos := _, after := #[{ on := 13, ground := Ground.guard }], guard := some (13, true) }) (v := ?_) rfl (by kernel_rfl) (by kernel_rfl) (by kernel_rfl) (fun _ _ _ h => h) (Or.inl ⟨by rfl, ?_⟩) (by assumption) ?_
                    rotate_left
                    · ((intro w hSw); (try dsimp only at hSw); go_simp; (try with_reducible rfl))
                    try simp only [Act.put, List.setIfInBounds_toArray, List.set_cons_zero, List.set_cons_succ]
                    refine wpAnyH_take (i := 15) (oi := { dst := some 159, op := Op.indexAddr 33 (Operand.tmp 158) (Operand.const (Value.int IntKind.i64 0)), type := 0, pos := _, after := #[{ on := 14, ground := Ground.data }, { on := 13, ground := Ground.guard }], guard := some (13, true) }) (v := ?_) rfl (by kernel_rfl) (by kernel_rfl) (by kernel_rfl) (fun _ _ _ h => h) (Or.inl ⟨by rfl, ?_⟩) (by assumption) ?_
                    rotate_left
                    · ((intro w hSw); (try dsimp only at hSw); go_simp; (try with_reducible rfl))
                    try simp only [Act.put, List.setIfInBounds_toArray, List.set_cons_zero, List.set_cons_succ]
                    refine wpAnyH_take (i := 16) (oi := { dst := some 160, op := Op.fieldAddr 40 (Operand.tmp 159) 6, type := 0, pos := _, after := #[{ on := 15, ground := Ground.data }, { on := 13, ground := Ground.guard }], guard := some (13, true) }) (v := ?_) rfl (by kernel_rfl) (by kernel_rfl) (by kernel_rfl) (fun _ _ _ h => h) (Or.inl ⟨by rfl, ?_⟩) (by assumption) ?_
                    rotate_left
                    · ((intro w hSw); (try dsimp only at hSw); go_simp; (try with_reducible rfl))
                    try simp only [Act.put, List.setIfInBounds_toArray, List.set_cons_zero, List.set_cons_succ]
                    refine wpAnyH_take (i := 17) (oi := { dst := some 161, op := Op.load 9 (Operand.tmp 160), type := 9, pos := _, after := #[{ on := 16, ground := Ground.data }, { on := 13, ground := Ground.guard }], guard := some (13, true) }) (v := ?_) rfl (by kernel_rfl) (by kernel_rfl) (by kernel_rfl) (fun _ _ _ h => h) (Or.inl ⟨by rfl, ?_⟩) (by assumption) ?_
                    rotate_left
                    · ((intro w hSw); (try dsimp only at hSw); go_simp; (try with_reducible rfl))
                    try simp only [Act.put, List.setIfInBounds_toArray, List.set_cons_zero, List.set_cons_succ]
                    refine wpAnyH_take (i := 18) (oi := { dst := some 162, op := Op.move (Operand.tmp 15), type := 46, pos := _, after := #[{ on := 13, ground := Ground.guard }], guard := some (13, true) }) (v := ?_) rfl (by kernel_rfl) (by kernel_rfl) (by kernel_rfl) (fun _ _ _ h => h) (Or.inl ⟨by rfl, ?_⟩) (by assumption) ?_
                    rotate_left
                    · ((intro w hSw); (try dsimp only at hSw); go_simp; (try with_reducible rfl))
                    try simp only [Act.put, List.setIfInBounds_toArray, List.set_cons_zero, List.set_cons_succ]
                    refine wpAnyH_take (i := 19) (oi := { dst := some 163, op := Op.convert 46 9 (Operand.tmp 162), type := 9, pos := _, after := #[{ on := 18, ground := Ground.data }, { on := 13, ground := Ground.guard }], guard := some (13, true) }) (v := ?_) rfl (by kernel_rfl) (by kernel_rfl) (by kernel_rfl) (fun _ _ _ h => h) (Or.inl ⟨by rfl, ?_⟩) (by assumption) ?_
                    rotate_left
                    · ((intro w hSw); (try dsimp only at hSw); go_simp; (try with_reducible rfl))
                    try simp only [Act.put, List.setIfInBounds_toArray, List.set_cons_zero, List.set_cons_succ]
                    refine wpAnyH_take (i := 20) (oi := { dst := some 164, op := Op.binOp BinOp.eql 9 (Operand.tmp 161) (Operand.tmp 163) 9, type := 4, pos := _, after := #[{ on := 17, ground := Ground.data }, { on := 19, ground := Ground.data }, { on := 13, ground := Ground.guard }], guard := some (13, true) }) (v := ?_) rfl (by kernel_rfl) (by kernel_rfl) (by kernel_rfl) (fun _ _ _ h => h) (Or.inl ⟨by rfl, ?_⟩) (by assumption) ?_
                    rotate_left
                    · ((intro w hSw); (try dsimp only at hSw); go_simp; (try with_reducible rfl))
                    try simp only [Act.put, List.setIfInBounds_toArray, List.set_cons_zero, List.set_cons_succ]
                    refine wpAnyH_take (i := 21) (oi := { dst := some 165, op := Op.pick (Operand.tmp 157) (Operand.tmp 164) (Operand.const (Value.bool false)), type := 4, pos := _, after := #[{ on := 13, ground := Ground.data }, { on := 20, ground := Ground.data }], guard := none }) (v := ?_) rfl (by kernel_rfl) (by kernel_rfl) (by kernel_rfl) (fun _ _ _ h => h) (Or.inl ⟨by rfl, ?_⟩) (by assumption) ?_
                    rotate_left
                    · ((intro w hSw); (try dsimp only at hSw); go_simp; (try with_reducible rfl))
                    try simp only [Act.put, List.setIfInBounds_toArray, List.set_cons_zero, List.set_cons_succ]
                    refine wpAnyH_take (i := 22) (oi := { dst := some 166, op := Op.move (Operand.tmp 165), type := 4, pos := _, after := #[{ on := 21, ground := Ground.data }, { on := 13, ground := Ground.chain }], guard := none }) (v := ?_) rfl (by kernel_rfl) (by kernel_rfl) (by kernel_rfl) (fun _ _ _ h => h) (Or.inl ⟨by rfl, ?_⟩) (by assumption) ?_
                    rotate_left
                    · ((intro w hSw); (try dsimp only at hSw); go_simp; (try with_reducible rfl))
                    try simp only [Act.put, List.setIfInBounds_toArray, List.set_cons_zero, List.set_cons_succ]
                    refine wpAnyH_take (i := 23) (oi := { dst := some 167, op := Op.move (Operand.tmp 7), type := 25, pos := _, after := #[{ on := 22, ground := Ground.guard }], guard := some (22, true) }) (v := ?_) rfl (by kernel_rfl) (by kernel_rfl) (by kernel_rfl) (fun _ _ _ h => h) (Or.inl ⟨by rfl, ?_⟩) (by assumption) ?_
                    rotate_left
                    · ((intro w hSw); (try dsimp only at hSw); go_simp; (try with_reducible rfl))
                    try simp only [Act.put, List.setIfInBounds_toArray, List.set_cons_zero, List.set_cons_succ]
                    refine wpAnyH_ready (rs := [24]) (by kernel_rfl) (by simp) ?_
                    refine (AllReadyH.cons (o := { dst := some 168, op := Op.call { callee := Callee.value (Operand.func 13), args := #[Operand.tmp 167], argTypes := #[25] }, type := 3, pos := _, after := #[{ on := 23, ground := Ground.data }, { on := 22, ground := Ground.chain }, { on := 22, ground := Ground.guard }], guard := some (22, true) }) rfl (fun K hK => ?_) AllReadyH.nil)
                    go_simp
                    (go_at_call 13; (with_reducible refine (stateK 0 g v8 x8 (bg 0) _ (StP.pr (StP.below HS9.out (KB.out _ hHeld))) HST0.out).mono ?_); rintro e wa ⟨rfl, rfl⟩; have hN := KB.out _ hHeld)
                    go_wp2_with fail
                    refine hK.out _ _ ?_ (fun hHeld => ?_)
                    · ((try dsimp only); (first | (with_reducible exact KS.out _ hN) | (with_reducible exact hHeld) | exact KS.out _ (Below.refl _ _).drew | exact KS.out _ (Below.refl _ _)))
                    clear hK K
                    try simp only [Act.put, List.setIfInBounds_toArray, List.set_cons_zero, List.set_cons_succ]
                    refine wpAnyH_take (i := 25) (oi := { dst := some 169, op := Op.binOp BinOp.eql 3 (Operand.tmp 168) (Operand.const (Value.int IntKind.i64 0)) 3, type := 4, pos := _, after := #[{ on := 24, ground := Ground.data }, { on := 22, ground := Ground.guard }], guard := some (22, true) }) (v := ?_) rfl (by kernel_rfl) (by kernel_rfl) (by kernel_rfl) (fun _ _ _ h => h) (Or.inl ⟨by rfl, ?_⟩) (by assumption) ?_
                    rotate_left
                    · ((intro w hSw); (try dsimp only at hSw); go_simp; (try with_reducible rfl))
                    try simp only [Act.put, List.setIfInBounds_toArray, List.set_cons_zero, List.set_cons_succ]
                    refine wpAnyH_take (i := 26) (oi := { dst := some 170, op := Op.pick (Operand.tmp 166) (Operand.tmp 169) (Operand.const (Value.bool false)), type := 4, pos := _, after := #[{ on := 22, ground := Ground.data }, { on := 25, ground := Ground.data }], guard := none }) (v := ?_) rfl (by kernel_rfl) (by kernel_rfl) (by kernel_rfl) (fun _ _ _ h => h) (Or.inl ⟨by rfl, ?_⟩) (by assumption) ?_
                    rotate_left
                    · ((intro w hSw); (try dsimp only at hSw); go_simp; (try with_reducible rfl))
                    try simp only [Act.put, List.setIfInBounds_toArray, List.set_cons_zero, List.set_cons_succ]
                    refine wpAnyH_take (i := 27) (oi := { dst := some 6, op := Op.assign (Operand.tmp 170), type := 4, pos := _, after := #[{ on := 26, ground := Ground.data }, { on := 24, ground := Ground.chain }, { on := 0, ground := Ground.phase }, { on := 1, ground := Ground.phase }, { on := 2, ground := Ground.phase }, { on := 3, ground := Ground.phase }, { on := 4, ground := Ground.phase }, { on := 5, ground := Ground.phase }, { on := 6, ground := Ground.phase }, { on := 7, ground := Ground.phase }, { on := 8, ground := Ground.phase }, { on := 9, ground := Ground.phase }, { on := 10, ground := Ground.phase }, { on := 11, ground := Ground.phase }, { on := 12, ground := Ground.phase }, { on := 13, ground := Ground.phase }, { on := 14, ground := Ground.phase }, { on := 15, ground := Ground.phase }, { on := 16, ground := Ground.phase }, { on := 17, ground := Ground.phase }, { on := 18, ground := Ground.phase }, { on := 19, ground := Ground.phase }, { on := 20, ground := Ground.phase }, { on := 21, ground := Ground.phase }, { on := 22, ground := Ground.phase }, { on := 23, ground := Ground.phase }, { on := 24, ground := Ground.phase }, { on := 25, ground := Ground.phase }, { on := 26, ground := Ground.phase }], guard := none }) (v := ?_) rfl (by kernel_rfl) (by kernel_rfl) (by kernel_rfl) (fun _ _ _ h => h) (Or.inl ⟨by rfl, ?_⟩) (by assumption) ?_
                    rotate_left
                    · ((intro w hSw); (try dsimp only at hSw); go_simp; (try with_reducible rfl))
                    try simp only [Act.put, List.setIfInBounds_toArray, List.set_cons_zero, List.set_cons_succ]
                    refine wpAnyH_done (by kernel_rfl) ?_ _
                    clear hN
                    go_wp2
                    go_ret
                    exact ⟨rfl, below_then HB9.out (KB.out _ hHeld) HB9.out.size⟩

end Go.Proofs.Ytnaiefjbfpejbaa.Fd
