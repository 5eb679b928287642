/- The chapter's example of escape sequences. -/
import Derived.Test.YtnaiefjbfpejbaaFa
set_option linter.unusedVariables false
namespace Go.Proofs.Ytnaiefjbfpejbaa.Fb
open Go Go.RowKit Kit Ep Eb Er Ea Es Et Eu Ev Ek Ew Ex Ey Ez Fa


theorem ints_lit (w : World) (k : Nat) (hk : k = w.heap.size) : Ints.Ints (w.alloc (.cells #[.int .i64 1, .int .i64 (-1)] 3)) (some ⟨k, 0, none⟩) [1, -1] := by
  subst hk
  exact Ints.ints_new (l := [1, -1]) rfl rfl 3
theorem stP_drewN {g : Nat} {v x v' x' : Value} {w w' : World} {p : Ps} (h : StP g v x w p v' x' w') (n : Nat) : StP g v x w p v' x' (w'.drewN n) := StP.drewN h n
theorem intsK (a1 a2 : Option Addr) (n1 n2 c1 c2 : Nat) (l m : List Int) (w : World) (e1 : n1 = l.length) (e2 : n2 = m.length) (hm : l.length ≤ 100000) (h1 : Ints.Ints w a1 l) (h2 : Ints.Ints w a2 m) (r : Bool) (hr : r = decide (l = m)) :
    Calls Try.prog 16 #[.slice a1 n1 c1, .slice a2 n2 c2] w fun e w' => e = .returned (.bool r) ∧ ∃ n, w.drewN n = w' := by
  subst e1 e2 hr
  exact Ints.intsC a1 a2 c1 c2 l m w (by omega) h1 h2
theorem intsS (a1 a2 : Option Addr) (n1 n2 c1 c2 : Nat) (l : List Int) (w : World) (e1 : n1 = l.length) (e2 : n2 = l.length) (hm : l.length ≤ 100000) (h1 : Ints.Ints w a1 l) (h2 : Ints.Ints w a2 l) :
    Calls Try.prog 16 #[.slice a1 n1 c1, .slice a2 n2 c2] w fun e w' => e = .returned (.bool true) ∧ ∃ n, w.drewN n = w' :=
  intsK a1 a2 n1 n2 c1 c2 l l w e1 e2 hm h1 h2 true (by simp)
theorem stateK (n : Int) (g : Nat) (v x : Value) (p : Ps) (w : World) (h : PrV w g v x p) (hn : n = (p.st : Int)) : Calls Try.prog 13 #[.pointer (some ⟨g, 0, none⟩)] w fun e w' => e = .returned (.int .i64 n) ∧ w = w' := by
  subst hn; exact stateC g v x p w h
theorem evI_alloc {w : World} {V : Value} {qs : List EW} (h : EvI w V qs) (O : Obj) : EvI (w.alloc O) V qs := evI_then h ((Below.refl w.heap.size w).alloc (Nat.le_refl _) O) (Nat.le_refl _)
set_option maxRecDepth 100000 in
set_option maxHeartbeats 4000000 in
/-- the chapter's example. -/
theorem first8 (w : World) : Calls Try.prog 7 #[] w fun e w' => e = .returned (.bool true) ∧ Below w.heap.size w w' := by
  have HN := Lib.hid (new_pr w)
  have HB := Lib.hid (show Below w.heap.size w (w.alloc (.cells #[.int .i64 0, .bool false, .int .i32 0, .int .i32 0, .slice none 0 0, .int .i64 0, .slice none 0 0] 49)) from (Below.refl _ w).alloc (Nat.le_refl _) _)
  have HZ := Lib.hid (show w.heap.size + 1 = (w.alloc (.cells #[.int .i64 0, .bool false, .int .i32 0, .int .i32 0, .slice none 0 0, .int .i64 0, .slice none 0 0] 49)).heap.size by simp)
  have HA5 : Hid (#[.int .i32 27, .int .i32 91, .int .i32 49, .int .i32 59, .int .i32 72] = (rv [27, 91, 49, 59, 72]).toArray) := Lib.hid rfl
  have HN5 : Hid (5 = ([27, 91, 49, 59, 72] : List Int).length) := Lib.hid rfl
  have HM5 : Hid (0 + ([27, 91, 49, 59, 72] : List Int).length ≤ 1000000) := Lib.hid (by decide)
  have HL5 : Hid (([27, 91, 49, 59, 72] : List Int).length ≤ 50000) := Lib.hid (by decide)
  have HK0 := Lib.hid (bg_ok 0 0)
  go_enter Try.func7, Try.ntmps7
  go_wp2_with (go_at_call 8; (with_reducible refine (newC w).mono ?_); rintro e w1 ⟨rfl, rfl⟩)
  generalize w.alloc (.cells #[.int .i64 0, .bool false, .int .i32 0, .int .i32 0, .slice none 0 0, .int .i64 0, .slice none 0 0] 49) = w1 at *
  have HS0 := Lib.hid (StP.alloc (stP_refl HN.out) (.cells #[.int .i32 27, .int .i32 91, .int .i32 49, .int .i32 59, .int .i32 72] 21))
  have HE5 : Hid (2 = ([1, -1] : List Int).length) := Lib.hid rfl
  have HM2 : Hid (([1, -1] : List Int).length ≤ 100000) := Lib.hid (by decide)
  have HS0' : Hid ((0 : Int) = ((bg 0).st : Int)) := Lib.hid rfl
  have HS1' : Hid ((1 : Int) = ((bg 1).st : Int)) := Lib.hid rfl
  have HA1 : Hid (#[.int .i32 27] = (rv [27]).toArray) := Lib.hid rfl
  have HN1 : Hid (1 = ([27] : List Int).length) := Lib.hid rfl
  have HM1 : Hid (0 + ([27] : List Int).length ≤ 1000000) := Lib.hid (by decide)
  have HL1 : Hid (([27] : List Int).length ≤ 50000) := Lib.hid (by decide)
  go_wp2_with (first
    | (go_at_call 11; (with_reducible refine (feedLit [27, 91, 49, 59, 72] #[.int .i32 27, .int .i32 91, .int .i32 49, .int .i32 59, .int .i32 72] 5 (w.heap.size + 1) w.heap.size (.slice none 0 0) (.slice none 0 0) (bg 0) 0 w1 HA5.out HZ.out HN5.out HN.out HK0.out HM5.out HL5.out).mono ?_); rintro e w2 hf; obtain ⟨v2, x2, qs, va, vc, rfl, hs, hI, hq, hV, hsep⟩ := feedP_of hf first5.2 first5.1; obtain ⟨q, rfl, hE⟩ := one_ev hq; obtain ⟨gV, cV, hVV⟩ := own_some7 hI.1 (Nat.zero_lt_succ _); have hva : va = some ⟨gV, 0, none⟩ := (by injection hVV); subst hva; have HS2 := Lib.hid (StP.trans HS0.out hs); have HI2 := Lib.hid (ev_ints hI q (List.mem_singleton.2 rfl)); have e0 := ev_cells hI 0 (Nat.zero_lt_succ _) 0 (by decide); have e2 := ev_cells hI 0 (Nat.zero_lt_succ _) 2 (by decide); have e5 := ev_cells hI 0 (Nat.zero_lt_succ _) 5 (by decide); simp only [List.getElem_cons_zero, ecells, pvV, hE] at e0 e2 e5; rw [hE] at HI2; clear hf hs hI hq hV hsep hVV; have HS3 := Lib.hid (StP.alloc HS2.out (.cells #[.int .i64 1, .int .i64 (-1)] 3)); have HI3 := Lib.hid (Ints.ints_alloc (o := (.cells #[.int .i64 1, .int .i64 (-1)] 3)) HI2.out); have HI4 := Lib.hid (ints_lit w2 w2.heap.size rfl))
    | (go_at_call 16; (with_reducible refine (intsS q.a (some ⟨w2.heap.size, 0, none⟩) 2 2 q.c 2 [1, -1] _ HE5.out HE5.out HM2.out HI3.out HI4.out).mono ?_); rintro e w4 ⟨rfl, n4, h4⟩; have HS4 := Lib.hid (show StP _ _ _ _ _ _ _ w4 from h4 ▸ StP.drewN HS3.out n4); clear h4 e0 e2 e5)
    | (go_at_call 13; (with_reducible refine (stateK 0 w.heap.size v2 x2 (bg 0) w4 (StP.pr HS4.out) HS0'.out).mono ?_); rintro e w' ⟨rfl, rfl⟩)
    | (go_at_call 11; (with_reducible refine (feedLit [27] #[.int .i32 27] 1 w4.heap.size w.heap.size v2 x2 (bg 0) 0 w4 HA1.out rfl HN1.out (StP.pr HS4.out) HK0.out HM1.out HL1.out).mono ?_); rintro e w5 hf; obtain ⟨v5, x5, qs, vb, vd, rfl, hs, _, hq, _, _⟩ := feedP_of hf first1.2 first1.1; obtain rfl := List.map_eq_nil_iff.1 hq; have HS5 := Lib.hid (StP.trans (StP.alloc HS4.out (.cells #[.int .i32 27] 21)) hs); clear hf hs hq)
    | (go_at_call 13; (with_reducible refine (stateK 1 w.heap.size v5 x5 (bg 1) w5 (StP.pr HS5.out) HS1'.out).mono ?_); rintro e w' ⟨rfl, rfl⟩))
  go_ret
  exact ⟨rfl, st_below HB.out HS5.out (Nat.le_refl _)⟩

end Go.Proofs.Ytnaiefjbfpejbaa.Fb
