/- GridScrolls: the walk. -/
import Derived.Test.YtfdjmlncdbpkgaaSc
set_option linter.unusedVariables false
namespace Go.Proofs.Ytfdjmlncdbpkgaa.Scw
open Go Go.RowKit Kit Gm Gv Fl Me Cp Sl Gg Gh Gp Gq Gk Gs Gt Gu Lw Sm Sc

theorem one_eq : (1 : Int) = ((1 : Nat) : Int) := rfl
set_option maxRecDepth 100000 in
set_option maxHeartbeats 1000000 in
theorem walkNo (rows top bottom n : Int) (a : Option Addr) (len cap : Nat) (W : World) (hs : sizeB rows 1 = false) :
    Calls Try.prog 5 #[.int .i64 rows, .slice a len cap, .int .i64 top, .int .i64 bottom, .int .i64 n] W fun e w' => e = .returned (.bool true) ∧ Below W.heap.size W w' := by
  have HN := Lib.hid (fun w => newNo rows 1 w hs)
  clear hs
  go_enter Try.func5, Try.ntmps5
  go_wp2_with (first
    | (go_at_call 9; (first
      | ((with_reducible refine (firstC W).mono ?_); rintro e w1 ⟨rfl, hb⟩; have HB1 := Lib.hid hb; clear hb)
      | ((with_reducible refine (firstC _).mono ?_); rintro e w2 ⟨rfl, hb⟩; have HB2 := Lib.hid (below_then HB1.out hb HB1.out.size); clear hb)))
    | (go_at_call 10; (with_reducible refine (HN.out _).mono ?_); rintro e w' ⟨rfl, rfl⟩))
  go_ret
  exact ⟨rfl, HB2.out⟩
set_option maxRecDepth 100000 in
set_option maxHeartbeats 1000000 in
theorem walkLen (R : Nat) (rows top bottom n : Int) (a : Option Addr) (len cap : Nat) (W : World) (hC : rows = (R : Int)) (hs : 1 ≤ R ∧ R ≤ 60) (h : 60 < len) :
    Calls Try.prog 5 #[.int .i64 rows, .slice a len cap, .int .i64 top, .int .i64 bottom, .int .i64 n] W fun e w' => e = .returned (.bool true) ∧ Below W.heap.size W w' := by
  have HC := Lib.hid hC
  have HS := Lib.hid (show 1 ≤ R ∧ R ≤ 60 ∧ 1 ≤ 1 ∧ 1 ≤ 200 from ⟨hs.1, hs.2, by decide, by decide⟩)
  clear hs hC
  go_enter Try.func5, Try.ntmps5
  go_wp2_with (first
    | (go_at_call 9; (first
      | ((with_reducible refine (firstC W).mono ?_); rintro e w1 ⟨rfl, hb⟩; have HB1 := Lib.hid hb; clear hb)
      | ((with_reducible refine (firstTp W _ p b R 1 _ HT.out).mono ?_); rintro e w2 ⟨rfl, ht⟩; have HE := Lib.hid ht; clear ht)))
    | (go_at_call 10; (with_reducible refine (newT W R 1 _ HB1.out HS.out _ rfl rows 1 HC.out one_eq).mono ?_); rintro e w' ⟨p, b, rfl, ht⟩; have HT := Lib.hid ht; clear ht))
  go_ret
  exact ⟨rfl, HE.out.bel⟩
set_option maxRecDepth 100000 in
set_option maxHeartbeats 1000000 in
theorem walkT (R : Nat) (rows top bottom n : Int) (a : Option Addr) (len cap : Nat) (W : World) (hC : rows = (R : Int)) (hs : 1 ≤ R ∧ R ≤ 60) (h0 : len ≤ 60) (h : top < 0) :
    Calls Try.prog 5 #[.int .i64 rows, .slice a len cap, .int .i64 top, .int .i64 bottom, .int .i64 n] W fun e w' => e = .returned (.bool true) ∧ Below W.heap.size W w' := by
  have HC := Lib.hid hC
  have HS := Lib.hid (show 1 ≤ R ∧ R ≤ 60 ∧ 1 ≤ 1 ∧ 1 ≤ 200 from ⟨hs.1, hs.2, by decide, by decide⟩)
  clear hs hC
  go_enter Try.func5, Try.ntmps5
  go_wp2_with (first
    | (go_at_call 9; (first
      | ((with_reducible refine (firstC W).mono ?_); rintro e w1 ⟨rfl, hb⟩; have HB1 := Lib.hid hb; clear hb)
      | ((with_reducible refine (firstTp W _ p b R 1 _ HT.out).mono ?_); rintro e w2 ⟨rfl, ht⟩; have HE := Lib.hid ht; clear ht)))
    | (go_at_call 10; (with_reducible refine (newT W R 1 _ HB1.out HS.out _ rfl rows 1 HC.out one_eq).mono ?_); rintro e w' ⟨p, b, rfl, ht⟩; have HT := Lib.hid ht; clear ht))
  go_ret
  exact ⟨rfl, HE.out.bel⟩
set_option maxRecDepth 100000 in
set_option maxHeartbeats 1000000 in
theorem walkTB (R : Nat) (rows top bottom n : Int) (a : Option Addr) (len cap : Nat) (W : World) (hC : rows = (R : Int)) (hs : 1 ≤ R ∧ R ≤ 60) (h0 : len ≤ 60) (h : 0 ≤ top) (h2 : bottom < top) :
    Calls Try.prog 5 #[.int .i64 rows, .slice a len cap, .int .i64 top, .int .i64 bottom, .int .i64 n] W fun e w' => e = .returned (.bool true) ∧ Below W.heap.size W w' := by
  have HC := Lib.hid hC
  have HS := Lib.hid (show 1 ≤ R ∧ R ≤ 60 ∧ 1 ≤ 1 ∧ 1 ≤ 200 from ⟨hs.1, hs.2, by decide, by decide⟩)
  clear hs hC
  go_enter Try.func5, Try.ntmps5
  go_wp2_with (first
    | (go_at_call 9; (first
      | ((with_reducible refine (firstC W).mono ?_); rintro e w1 ⟨rfl, hb⟩; have HB1 := Lib.hid hb; clear hb)
      | ((with_reducible refine (firstTp W _ p b R 1 _ HT.out).mono ?_); rintro e w2 ⟨rfl, ht⟩; have HE := Lib.hid ht; clear ht)))
    | (go_at_call 10; (with_reducible refine (newT W R 1 _ HB1.out HS.out _ rfl rows 1 HC.out one_eq).mono ?_); rintro e w' ⟨p, b, rfl, ht⟩; have HT := Lib.hid ht; clear ht))
  go_ret
  exact ⟨rfl, HE.out.bel⟩
set_option maxRecDepth 100000 in
set_option maxHeartbeats 1000000 in
theorem walkB (R : Nat) (rows top bottom n : Int) (a : Option Addr) (len cap : Nat) (W : World) (hC : rows = (R : Int)) (hs : 1 ≤ R ∧ R ≤ 60) (h0 : len ≤ 60) (h : 0 ≤ top) (h2 : top ≤ bottom) (h3 : rows ≤ bottom) :
    Calls Try.prog 5 #[.int .i64 rows, .slice a len cap, .int .i64 top, .int .i64 bottom, .int .i64 n] W fun e w' => e = .returned (.bool true) ∧ Below W.heap.size W w' := by
  have HC := Lib.hid hC
  have HS := Lib.hid (show 1 ≤ R ∧ R ≤ 60 ∧ 1 ≤ 1 ∧ 1 ≤ 200 from ⟨hs.1, hs.2, by decide, by decide⟩)
  clear hs hC
  go_enter Try.func5, Try.ntmps5
  go_wp2_with (first
    | (go_at_call 9; (first
      | ((with_reducible refine (firstC W).mono ?_); rintro e w1 ⟨rfl, hb⟩; have HB1 := Lib.hid hb; clear hb)
      | ((with_reducible refine (firstTp W _ p b R 1 _ HT.out).mono ?_); rintro e w2 ⟨rfl, ht⟩; have HE := Lib.hid ht; clear ht)))
    | (go_at_call 10; (with_reducible refine (newT W R 1 _ HB1.out HS.out _ rfl rows 1 HC.out one_eq).mono ?_); rintro e w' ⟨p, b, rfl, ht⟩; have HT := Lib.hid ht; clear ht))
  go_ret
  exact ⟨rfl, HE.out.bel⟩
set_option maxRecDepth 100000 in
set_option maxHeartbeats 1000000 in
theorem walkN1 (R : Nat) (rows top bottom n : Int) (a : Option Addr) (len cap : Nat) (W : World) (hC : rows = (R : Int)) (hs : 1 ≤ R ∧ R ≤ 60) (h0 : len ≤ 60) (h : 0 ≤ top) (h2 : top ≤ bottom) (h3 : bottom < rows) (h4 : n < 1) :
    Calls Try.prog 5 #[.int .i64 rows, .slice a len cap, .int .i64 top, .int .i64 bottom, .int .i64 n] W fun e w' => e = .returned (.bool true) ∧ Below W.heap.size W w' := by
  have HC := Lib.hid hC
  have HS := Lib.hid (show 1 ≤ R ∧ R ≤ 60 ∧ 1 ≤ 1 ∧ 1 ≤ 200 from ⟨hs.1, hs.2, by decide, by decide⟩)
  clear hs hC
  go_enter Try.func5, Try.ntmps5
  go_wp2_with (first
    | (go_at_call 9; (first
      | ((with_reducible refine (firstC W).mono ?_); rintro e w1 ⟨rfl, hb⟩; have HB1 := Lib.hid hb; clear hb)
      | ((with_reducible refine (firstTp W _ p b R 1 _ HT.out).mono ?_); rintro e w2 ⟨rfl, ht⟩; have HE := Lib.hid ht; clear ht)))
    | (go_at_call 10; (with_reducible refine (newT W R 1 _ HB1.out HS.out _ rfl rows 1 HC.out one_eq).mono ?_); rintro e w' ⟨p, b, rfl, ht⟩; have HT := Lib.hid ht; clear ht))
  go_ret
  exact ⟨rfl, HE.out.bel⟩
set_option maxRecDepth 100000 in
set_option maxHeartbeats 1000000 in
theorem walkN2 (R : Nat) (rows top bottom n : Int) (a : Option Addr) (len cap : Nat) (W : World) (hC : rows = (R : Int)) (hs : 1 ≤ R ∧ R ≤ 60) (h0 : len ≤ 60) (h : 0 ≤ top) (h2 : top ≤ bottom) (h3 : bottom < rows) (h4 : 60 < n) :
    Calls Try.prog 5 #[.int .i64 rows, .slice a len cap, .int .i64 top, .int .i64 bottom, .int .i64 n] W fun e w' => e = .returned (.bool true) ∧ Below W.heap.size W w' := by
  have HC := Lib.hid hC
  have HS := Lib.hid (show 1 ≤ R ∧ R ≤ 60 ∧ 1 ≤ 1 ∧ 1 ≤ 200 from ⟨hs.1, hs.2, by decide, by decide⟩)
  clear hs hC
  go_enter Try.func5, Try.ntmps5
  go_wp2_with (first
    | (go_at_call 9; (first
      | ((with_reducible refine (firstC W).mono ?_); rintro e w1 ⟨rfl, hb⟩; have HB1 := Lib.hid hb; clear hb)
      | ((with_reducible refine (firstTp W _ p b R 1 _ HT.out).mono ?_); rintro e w2 ⟨rfl, ht⟩; have HE := Lib.hid ht; clear ht)))
    | (go_at_call 10; (with_reducible refine (newT W R 1 _ HB1.out HS.out _ rfl rows 1 HC.out one_eq).mono ?_); rintro e w' ⟨p, b, rfl, ht⟩; have HT := Lib.hid ht; clear ht))
  go_ret
  exact ⟨rfl, HE.out.bel⟩
set_option maxRecDepth 100000 in
set_option maxHeartbeats 8000000 in
theorem mainW (R t u m len : Nat) (a : Option Addr) (cap : Nat) (l : List Int) (W : World) (hs : 1 ≤ R ∧ R ≤ 60) (htu : t ≤ u) (hu : u < R) (hm : 1 ≤ m ∧ m ≤ 60) (hlen : l.length = len) (hl2 : len ≤ 60) (hl : LRow W a l) :
    Calls Try.prog 5 #[.int .i64 (R : Int), .slice a len cap, .int .i64 (t : Int), .int .i64 (u : Int), .int .i64 (m : Int)] W fun e w' => e = .returned (.bool true) ∧ Below W.heap.size W w' := by
  have HS := Lib.hid (show 1 ≤ R ∧ R ≤ 60 ∧ 1 ≤ 1 ∧ 1 ≤ 200 from ⟨hs.1, hs.2, by decide, by decide⟩)
  have HLR := Lib.hid hl
  have HLen := Lib.hid hlen
  have HTU := Lib.hid htu
  have HU := Lib.hid hu
  have HM1 := Lib.hid hm.1
  have hm2 := hm.2
  have hm1 := hm.1
  have hC2 := hs.2
  have hR60 : u ≤ 60 := by omega
  have HF0 := Lib.hid (show Flat R (List.replicate (R * 1) (Gm.blankC 0)) by rw [Nat.mul_one]; exact flat_rep R)
  have t1 : decide (60 < (len : Int)) = false := by simp; omega
  have t2 : decide ((t : Int) < 0) = false := by simp
  have t3 : decide (u < t) = false := by simp; omega
  have t4 : decide (R ≤ u) = false := by simp; omega
  have t5 : decide ((m : Int) < 1) = false := by simp; omega
  have t6 : decide (60 < (m : Int)) = false := by simp; omega
  have t7 : decide (m < 1) = false := by simp; omega
  have t8 : decide (60 < m) = false := by simp; omega
  have t9 : decide (60 < len) = false := by simp; omega
  clear hs hm hlen hl
  go_enter Try.func5, Try.ntmps5
  go_wp2_with (first
    | (go_at_call 9; (with_reducible refine (firstC W).mono ?_); rintro e w1 ⟨rfl, hb⟩; have HB1 := Lib.hid hb; clear hb)
    | (go_at_call 10; (with_reducible refine (newT W R 1 _ HB1.out HS.out _ rfl (R : Int) 1 rfl one_eq).mono ?_); rintro e w' ⟨p, b, rfl, ht⟩; have HT0 := Lib.hid ht; clear ht))
  go_loopw [13] (fun s13 wr => ∃ (i : Nat) (L : List Ce), i ≤ len ∧ i ≤ R ∧ s13 = .int .i64 i ∧ Hid (Flat R L) ∧ Hid (Tp W wr p b R 1 L)) (fun s13 _ => len - (intOf s13).toNat)
  case atStart => exact ⟨0, _, Nat.zero_le _, Nat.zero_le _, rfl, HF0, HT0⟩
  case round =>
    obtain ⟨i, L, hi, hiC, rfl, HFl, HT⟩ := hrel
    have hway : (i < len ∧ i < R) ∨ (¬ i < len) ∨ (i < len ∧ ¬ i < R) := by omega
    rcases hway with ⟨hlt, hlt2⟩ | hex
    · obtain ⟨bs, off, rfl, hsg⟩ := sign_at HLR.out HT.out.bel i (by rw [HLen.out]; exact hlt)
      generalize l[i]'(by rw [HLen.out]; exact hlt) = r at hsg
      have HF2 := Lib.hid (show Flat R (putL R 1 L (i : Int) 0 ⟨r, 0, 0, 0, 0⟩) by have := flat_put (R := R) (C := 1) (L := L) (by rw [Nat.mul_one]; exact HFl.out) (i : Int) 0 r; rw [Nat.mul_one] at this; exact this)
      go_wp2_with (first
        | (go_at_call 21; (with_reducible refine (putT W p b R 1 (i : Int) 0 ⟨r, 0, 0, 0, 0⟩ L _ HT.out _ rfl _ rfl).mono ?_); rintro e w2 ⟨rfl, ht⟩; have HT2 := Lib.hid ht; clear ht))
      exact ⟨⟨i + 1, _, by omega, by omega, by go_num, HF2, HT2⟩, by simp only [intOf]; omega⟩
    · rcases hex with hx | ⟨hx1, hx2⟩
      all_goals
        go_wp2_with (first
          | (go_at_call 12; (with_reducible refine (copyT W _ p b R 1 _ HT.out).mono ?_); rintro e w1 ⟨q, d, cc, rfl, ht⟩; have HC0 := Lib.hid ht; clear ht HT)
          | (go_at_call 28; (with_reducible refine (blankTc W _ p b R 1 _ q d R 1 cc _ HC0.out 0 0 0).mono ?_); rintro e w2 ⟨rfl, ht, hb⟩; have HFr := Lib.hid (ht.fresh (Nat.le_refl _)); have HT3 := Lib.hid (ht.then_ (below_one w2 (.cells #[.int .i32 0, .int .i64 0, .int .i64 0, .int .i64 0, .int .i64 0] 37))); have HF3 := Lib.hid (show RB (w2.alloc (.cells #[.int .i32 0, .int .i64 0, .int .i64 0, .int .i64 0, .int .i64 0] 37)) w2.heap.size ([] ++ zeroC :: []) from heap_last w2 _ 37); generalize hwa : w2.alloc (.cells #[.int .i32 0, .int .i64 0, .int .i64 0, .int .i64 0, .int .i64 0] 37) = wa at HT3 HF3; clear ht hb HC0)
          | ((with_reducible refine wpList_store_cell rfl _ _ rfl w2.heap.size 0 ⟨32, 0, 0, 0, 0⟩ rfl rfl HF3.out q0 ?_); intro w4 hw4; have HC1 := Lib.hid (show Td W w4 p b R 1 _ q d R 1 cc _ w2.heap.size by rw [← hw4]; exact ⟨HT3.out.put HFr.out.1 HFr.out.2.1 HFr.out.2.2.1 HFr.out.2.2.2.1 HFr.out.2.2.2.2 _, HF3.out.put _, HFr.out.2.1, HFr.out.2.2.1, HFr.out.2.2.2.1, HFr.out.2.2.2.2, HFr.out.1⟩); clear hw4 hwa HFr HT3 HF3; generalize w2.heap.size = kb at HC1 ⊢)
          | (go_at_call 24; (with_reducible refine (scrollTd W _ p b R 1 _ q d R 1 cc _ kb HC1.out (t : Int) (u : Int) (m : Int) 0 0 0 _ rfl).mono ?_); rintro e w5 ⟨rfl, ht⟩; have HC2 := Lib.hid ht; clear ht HC1))
        go_loopw [16] (fun s16 wr => ∃ j : Nat, j ≤ R ∧ s16 = .int .i64 j ∧ Hid (Td W wr p b R 1 (scrollL R 1 L (t : Int) (u : Int) (m : Int) 0 0 0) q d R 1 cc L kb)) (fun s16 _ => R - (intOf s16).toNat)
        case atStart => exact ⟨0, Nat.zero_le _, rfl, HC2⟩
        case round =>
          obtain ⟨j, hj, rfl, HK⟩ := hrel
          by_cases hlt : j < R
          · skip
            obtain ⟨y, hy⟩ : ∃ y, y = atC R 1 L (j : Int) 0 := ⟨_, rfl⟩
            have HY := Lib.hid hy
            clear hy
            by_cases h1 : t ≤ j
            · by_cases h2 : j ≤ u
              · by_cases h3 : j + m ≤ u
                · have x3 : (j : Int) + (m : Int) ≤ (u : Int) := by omega
                  obtain ⟨y2, hy2⟩ : ∃ y2, y2 = atC R 1 L ((j : Int) + (m : Int)) 0 := ⟨_, rfl⟩
                  have HX := Lib.hid (hy2.trans (up_in (m := m) HFl.out HTU.out HU.out j hlt h1 h3 _ (by omega)))
                  have HY2 := Lib.hid hy2
                  clear hy2
                  go_wp2_with (first
                    | (go_at_call 19; (with_reducible refine (atTdo W _ p b R 1 _ q d R 1 _ _ kb H6T.out ((j : Int) + (m : Int)) 0 y2 HY2.out).mono ?_); rintro e w8 ⟨rfl, ht, hb⟩; have H8T := Lib.hid ht; have H8F := Lib.hid (H6F.out.then_ hb (Nat.le_refl _)); clear ht hb)
                    | (go_at_call 19; (with_reducible refine (atTdo W _ p b R 1 _ q d R 1 _ _ kb HK.out (j : Int) 0 y HY.out).mono ?_); rintro e w3 ⟨rfl, ht, hb⟩; have HFr := Lib.hid (ht.fresh (Nat.le_refl _)); have HT3 := Lib.hid (ht.then_ (below_one w3 (.cells #[.int .i32 0, .int .i64 0, .int .i64 0, .int .i64 0, .int .i64 0] 37))); have HF3 := Lib.hid (show RB (w3.alloc (.cells #[.int .i32 0, .int .i64 0, .int .i64 0, .int .i64 0, .int .i64 0] 37)) w3.heap.size ([] ++ zeroC :: []) from heap_last w3 _ 37); generalize hwa : w3.alloc (.cells #[.int .i32 0, .int .i64 0, .int .i64 0, .int .i64 0, .int .i64 0] 37) = wa at HT3 HF3; clear ht hb)
                    | ((with_reducible refine wpList_store_cell rfl _ _ rfl w3.heap.size 0 y rfl rfl HF3.out q0 ?_); intro w4 hw4; have H4F := Lib.hid (show RB w4 w3.heap.size ([] ++ y :: []) by rw [← hw4]; exact HF3.out.put _); have H4T := Lib.hid (show Td W w4 p b R 1 _ q d R 1 _ _ kb by rw [← hw4]; exact HT3.out.put HFr.out _); obtain ⟨k0, k1, k2, k3, k4⟩ := five (show w4.heap[kb]? = some (.cells #[.int .i32 32, .int .i64 0, .int .i64 0, .int .i64 0, .int .i64 0] 37 (0, 0)) from H4T.out.bl); clear hw4)
                    | ((with_reducible refine wpList_store_cell rfl _ _ rfl w3.heap.size 0 ⟨32, 0, 0, 0, 0⟩ rfl rfl H4F.out q0 ?_); intro w6 hw4; have H6F := Lib.hid (show RB w6 w3.heap.size ([] ++ ⟨32, 0, 0, 0, 0⟩ :: []) by rw [← hw4]; exact H4F.out.put _); have H6T := Lib.hid (show Td W w6 p b R 1 _ q d R 1 _ _ kb by rw [← hw4]; exact H4T.out.put HFr.out _); clear k0 k1 k2 k3 k4 HY; clear hw4)
                    | ((with_reducible refine wpList_store_cell rfl _ _ rfl w3.heap.size 0 y2 rfl rfl H8F.out q0 ?_); intro w9 hw4; have H9F := Lib.hid (show RB w9 w3.heap.size ([] ++ y2 :: []) by rw [← hw4]; exact H8F.out.put _); have H9T := Lib.hid (show Td W w9 p b R 1 _ q d R 1 _ _ kb by rw [← hw4]; exact H8T.out.put HFr.out _); clear hw4))
                  obtain ⟨c0, c1, c2, c3, c4⟩ := five (show w9.heap[w3.heap.size]? = some (.cells #[.int .i32 y2.r, .int .i64 y2.fl, .int .i64 y2.fg, .int .i64 y2.bg, .int .i64 y2.wd] 37 (0, 0)) from H9F.out)
                  go_region_held3 (fun wk => wk.cell? ⟨w3.heap.size, 0, none⟩ = some (.int .i32 y2.r) ∧ wk.cell? ⟨w3.heap.size, 1, none⟩ = some (.int .i64 y2.fl) ∧ wk.cell? ⟨w3.heap.size, 2, none⟩ = some (.int .i64 y2.fg) ∧ wk.cell? ⟨w3.heap.size, 3, none⟩ = some (.int .i64 y2.bg) ∧ wk.cell? ⟨w3.heap.size, 4, none⟩ = some (.int .i64 y2.wd)) (first | exact ⟨c0, c1, c2, c3, c4⟩ | exact ⟨Gg.cell_then hb7 (Nat.le_refl _) c0, Gg.cell_then hb7 (Nat.le_refl _) c1, Gg.cell_then hb7 (Nat.le_refl _) c2, Gg.cell_then hb7 (Nat.le_refl _) c3, Gg.cell_then hb7 (Nat.le_refl _) c4⟩) (first
                    | (go_at_call 19; (with_reducible refine (atTd W _ p b R 1 _ q d R 1 _ _ kb (Td.drew H9T.out) (j : Int) 0 y2 HX.out).mono ?_); rintro e w7 ⟨rfl, ht, hb7⟩; have H7T := Lib.hid ht; clear ht))
                  clear hb7 c0 c1 c2 c3 c4
                  go_wp2
                  exact ⟨⟨j + 1, by omega, by go_num, H7T⟩, by simp only [intOf]; omega⟩
                · have x3 : (u : Int) < (j : Int) + (m : Int) := by omega
                  have x4 : ¬ (j : Int) + (m : Int) ≤ (u : Int) := by omega
                  have HX := Lib.hid (up_blank (m := m) HFl.out HTU.out HU.out j hlt h1 h2 h3)
                  go_wp2_with (first
                    | (go_at_call 19; (with_reducible refine (atTdo W _ p b R 1 _ q d R 1 _ _ kb HK.out (j : Int) 0 y HY.out).mono ?_); rintro e w3 ⟨rfl, ht, hb⟩; have HFr := Lib.hid (ht.fresh (Nat.le_refl _)); have HT3 := Lib.hid (ht.then_ (below_one w3 (.cells #[.int .i32 0, .int .i64 0, .int .i64 0, .int .i64 0, .int .i64 0] 37))); have HF3 := Lib.hid (show RB (w3.alloc (.cells #[.int .i32 0, .int .i64 0, .int .i64 0, .int .i64 0, .int .i64 0] 37)) w3.heap.size ([] ++ zeroC :: []) from heap_last w3 _ 37); generalize hwa : w3.alloc (.cells #[.int .i32 0, .int .i64 0, .int .i64 0, .int .i64 0, .int .i64 0] 37) = wa at HT3 HF3; clear ht hb)
                    | ((with_reducible refine wpList_store_cell rfl _ _ rfl w3.heap.size 0 y rfl rfl HF3.out q0 ?_); intro w4 hw4; have H4F := Lib.hid (show RB w4 w3.heap.size ([] ++ y :: []) by rw [← hw4]; exact HF3.out.put _); have H4T := Lib.hid (show Td W w4 p b R 1 _ q d R 1 _ _ kb by rw [← hw4]; exact HT3.out.put HFr.out _); obtain ⟨k0, k1, k2, k3, k4⟩ := five (show w4.heap[kb]? = some (.cells #[.int .i32 32, .int .i64 0, .int .i64 0, .int .i64 0, .int .i64 0] 37 (0, 0)) from H4T.out.bl); clear hw4)
                    | ((with_reducible refine wpList_store_cell rfl _ _ rfl w3.heap.size 0 ⟨32, 0, 0, 0, 0⟩ rfl rfl H4F.out q0 ?_); intro w6 hw4; have H6F := Lib.hid (show RB w6 w3.heap.size ([] ++ ⟨32, 0, 0, 0, 0⟩ :: []) by rw [← hw4]; exact H4F.out.put _); have H6T := Lib.hid (show Td W w6 p b R 1 _ q d R 1 _ _ kb by rw [← hw4]; exact H4T.out.put HFr.out _); clear k0 k1 k2 k3 k4; clear hw4))
                  obtain ⟨c0, c1, c2, c3, c4⟩ := five (show w6.heap[w3.heap.size]? = some (.cells #[.int .i32 32, .int .i64 0, .int .i64 0, .int .i64 0, .int .i64 0] 37 (0, 0)) from H6F.out)
                  go_region_held3 (fun wk => wk.cell? ⟨w3.heap.size, 0, none⟩ = some (.int .i32 32) ∧ wk.cell? ⟨w3.heap.size, 1, none⟩ = some (.int .i64 0) ∧ wk.cell? ⟨w3.heap.size, 2, none⟩ = some (.int .i64 0) ∧ wk.cell? ⟨w3.heap.size, 3, none⟩ = some (.int .i64 0) ∧ wk.cell? ⟨w3.heap.size, 4, none⟩ = some (.int .i64 0)) (first | exact ⟨c0, c1, c2, c3, c4⟩ | exact ⟨Gg.cell_then hb7 (Nat.le_refl _) c0, Gg.cell_then hb7 (Nat.le_refl _) c1, Gg.cell_then hb7 (Nat.le_refl _) c2, Gg.cell_then hb7 (Nat.le_refl _) c3, Gg.cell_then hb7 (Nat.le_refl _) c4⟩) (first
                    | (go_at_call 19; (with_reducible refine (atTd W _ p b R 1 _ q d R 1 _ _ kb (Td.drew H6T.out) (j : Int) 0 ⟨32, 0, 0, 0, 0⟩ HX.out).mono ?_); rintro e w7 ⟨rfl, ht, hb7⟩; have H7T := Lib.hid ht; clear ht))
                  clear hb7 c0 c1 c2 c3 c4
                  go_wp2
                  exact ⟨⟨j + 1, by omega, by go_num, H7T⟩, by simp only [intOf]; omega⟩
              · have h4 : u < j := by omega
                have HX := Lib.hid (HY.out.trans (up_out (m := m) HFl.out HTU.out HU.out j hlt (.inr h4)))
                go_wp2_with (first
                  | (go_at_call 19; (with_reducible refine (atTdo W _ p b R 1 _ q d R 1 _ _ kb HK.out (j : Int) 0 y HY.out).mono ?_); rintro e w3 ⟨rfl, ht, hb⟩; have HFr := Lib.hid (ht.fresh (Nat.le_refl _)); have HT3 := Lib.hid (ht.then_ (below_one w3 (.cells #[.int .i32 0, .int .i64 0, .int .i64 0, .int .i64 0, .int .i64 0] 37))); have HF3 := Lib.hid (show RB (w3.alloc (.cells #[.int .i32 0, .int .i64 0, .int .i64 0, .int .i64 0, .int .i64 0] 37)) w3.heap.size ([] ++ zeroC :: []) from heap_last w3 _ 37); generalize hwa : w3.alloc (.cells #[.int .i32 0, .int .i64 0, .int .i64 0, .int .i64 0, .int .i64 0] 37) = wa at HT3 HF3; clear ht hb)
                  | ((with_reducible refine wpList_store_cell rfl _ _ rfl w3.heap.size 0 y rfl rfl HF3.out q0 ?_); intro w4 hw4; have H4F := Lib.hid (show RB w4 w3.heap.size ([] ++ y :: []) by rw [← hw4]; exact HF3.out.put _); have H4T := Lib.hid (show Td W w4 p b R 1 _ q d R 1 _ _ kb by rw [← hw4]; exact HT3.out.put HFr.out _); clear hw4))
                obtain ⟨c0, c1, c2, c3, c4⟩ := five (show w4.heap[w3.heap.size]? = some (.cells #[.int .i32 y.r, .int .i64 y.fl, .int .i64 y.fg, .int .i64 y.bg, .int .i64 y.wd] 37 (0, 0)) from H4F.out)
                go_region_held3 (fun wk => wk.cell? ⟨w3.heap.size, 0, none⟩ = some (.int .i32 y.r) ∧ wk.cell? ⟨w3.heap.size, 1, none⟩ = some (.int .i64 y.fl) ∧ wk.cell? ⟨w3.heap.size, 2, none⟩ = some (.int .i64 y.fg) ∧ wk.cell? ⟨w3.heap.size, 3, none⟩ = some (.int .i64 y.bg) ∧ wk.cell? ⟨w3.heap.size, 4, none⟩ = some (.int .i64 y.wd)) (first | exact ⟨c0, c1, c2, c3, c4⟩ | exact ⟨Gg.cell_then hb7 (Nat.le_refl _) c0, Gg.cell_then hb7 (Nat.le_refl _) c1, Gg.cell_then hb7 (Nat.le_refl _) c2, Gg.cell_then hb7 (Nat.le_refl _) c3, Gg.cell_then hb7 (Nat.le_refl _) c4⟩) (first
                  | (go_at_call 19; (with_reducible refine (atTd W _ p b R 1 _ q d R 1 _ _ kb (Td.drew H4T.out) (j : Int) 0 y HX.out).mono ?_); rintro e w7 ⟨rfl, ht, hb7⟩; have H7T := Lib.hid ht; clear ht))
                clear hb7 c0 c1 c2 c3 c4
                go_wp2
                exact ⟨⟨j + 1, by omega, by go_num, H7T⟩, by simp only [intOf]; omega⟩
            · have h4 : j < t := by omega
              have HX := Lib.hid (HY.out.trans (up_out (m := m) HFl.out HTU.out HU.out j hlt (.inl h4)))
              go_wp2_with (first
                | (go_at_call 19; (with_reducible refine (atTdo W _ p b R 1 _ q d R 1 _ _ kb HK.out (j : Int) 0 y HY.out).mono ?_); rintro e w3 ⟨rfl, ht, hb⟩; have HFr := Lib.hid (ht.fresh (Nat.le_refl _)); have HT3 := Lib.hid (ht.then_ (below_one w3 (.cells #[.int .i32 0, .int .i64 0, .int .i64 0, .int .i64 0, .int .i64 0] 37))); have HF3 := Lib.hid (show RB (w3.alloc (.cells #[.int .i32 0, .int .i64 0, .int .i64 0, .int .i64 0, .int .i64 0] 37)) w3.heap.size ([] ++ zeroC :: []) from heap_last w3 _ 37); generalize hwa : w3.alloc (.cells #[.int .i32 0, .int .i64 0, .int .i64 0, .int .i64 0, .int .i64 0] 37) = wa at HT3 HF3; clear ht hb)
                | ((with_reducible refine wpList_store_cell rfl _ _ rfl w3.heap.size 0 y rfl rfl HF3.out q0 ?_); intro w4 hw4; have H4F := Lib.hid (show RB w4 w3.heap.size ([] ++ y :: []) by rw [← hw4]; exact HF3.out.put _); have H4T := Lib.hid (show Td W w4 p b R 1 _ q d R 1 _ _ kb by rw [← hw4]; exact HT3.out.put HFr.out _); clear hw4))
              obtain ⟨c0, c1, c2, c3, c4⟩ := five (show w4.heap[w3.heap.size]? = some (.cells #[.int .i32 y.r, .int .i64 y.fl, .int .i64 y.fg, .int .i64 y.bg, .int .i64 y.wd] 37 (0, 0)) from H4F.out)
              go_region_held3 (fun wk => wk.cell? ⟨w3.heap.size, 0, none⟩ = some (.int .i32 y.r) ∧ wk.cell? ⟨w3.heap.size, 1, none⟩ = some (.int .i64 y.fl) ∧ wk.cell? ⟨w3.heap.size, 2, none⟩ = some (.int .i64 y.fg) ∧ wk.cell? ⟨w3.heap.size, 3, none⟩ = some (.int .i64 y.bg) ∧ wk.cell? ⟨w3.heap.size, 4, none⟩ = some (.int .i64 y.wd)) (first | exact ⟨c0, c1, c2, c3, c4⟩ | exact ⟨Gg.cell_then hb7 (Nat.le_refl _) c0, Gg.cell_then hb7 (Nat.le_refl _) c1, Gg.cell_then hb7 (Nat.le_refl _) c2, Gg.cell_then hb7 (Nat.le_refl _) c3, Gg.cell_then hb7 (Nat.le_refl _) c4⟩) (first
                | (go_at_call 19; (with_reducible refine (atTd W _ p b R 1 _ q d R 1 _ _ kb (Td.drew H4T.out) (j : Int) 0 y HX.out).mono ?_); rintro e w7 ⟨rfl, ht, hb7⟩; have H7T := Lib.hid ht; clear ht))
              clear hb7 c0 c1 c2 c3 c4
              go_wp2
              exact ⟨⟨j + 1, by omega, by go_num, H7T⟩, by simp only [intOf]; omega⟩
          · obtain rfl : R = j := by omega
            go_wp2_with (first
              | (go_at_call 24; (with_reducible refine (scrollTd W _ p b R 1 _ q d R 1 cc _ kb HK.out (t : Int) (u : Int) (-(m : Int)) 0 0 0 _ rfl).mono ?_); rintro e w5 ⟨rfl, ht⟩; have HC3 := Lib.hid ht; clear ht HK))
            go_loopw [18] (fun s18 wr => ∃ j : Nat, j ≤ R ∧ s18 = .int .i64 j ∧ Hid (Td W wr p b R 1 (scrollL R 1 (scrollL R 1 L (t : Int) (u : Int) (m : Int) 0 0 0) (t : Int) (u : Int) (-(m : Int)) 0 0 0) q d R 1 cc L kb)) (fun s18 _ => R - (intOf s18).toNat)
            case atStart => exact ⟨0, Nat.zero_le _, rfl, HC3⟩
            case round =>
              obtain ⟨j, hj, rfl, HK⟩ := hrel
              by_cases hlt : j < R
              · skip
                obtain ⟨y, hy⟩ : ∃ y, y = atC R 1 L (j : Int) 0 := ⟨_, rfl⟩
                have HY := Lib.hid hy
                clear hy
                by_cases h1 : t ≤ j
                · by_cases h3 : j < t + m
                  · have x3 : (j : Int) < (t : Int) + (m : Int) := by omega
                    by_cases h2 : j ≤ u
                    · skip
                      have HX := Lib.hid (down_blank (m := m) HFl.out HTU.out HU.out j hlt _ rfl h1 h2 h3)
                      go_wp2_with (first
                        | (go_at_call 19; (with_reducible refine (atTdo W _ p b R 1 _ q d R 1 _ _ kb HK.out (j : Int) 0 y HY.out).mono ?_); rintro e w3 ⟨rfl, ht, hb⟩; have HFr := Lib.hid (ht.fresh (Nat.le_refl _)); have HT3 := Lib.hid (ht.then_ (below_one w3 (.cells #[.int .i32 0, .int .i64 0, .int .i64 0, .int .i64 0, .int .i64 0] 37))); have HF3 := Lib.hid (show RB (w3.alloc (.cells #[.int .i32 0, .int .i64 0, .int .i64 0, .int .i64 0, .int .i64 0] 37)) w3.heap.size ([] ++ zeroC :: []) from heap_last w3 _ 37); generalize hwa : w3.alloc (.cells #[.int .i32 0, .int .i64 0, .int .i64 0, .int .i64 0, .int .i64 0] 37) = wa at HT3 HF3; clear ht hb)
                        | ((with_reducible refine wpList_store_cell rfl _ _ rfl w3.heap.size 0 y rfl rfl HF3.out q0 ?_); intro w4 hw4; have H4F := Lib.hid (show RB w4 w3.heap.size ([] ++ y :: []) by rw [← hw4]; exact HF3.out.put _); have H4T := Lib.hid (show Td W w4 p b R 1 _ q d R 1 _ _ kb by rw [← hw4]; exact HT3.out.put HFr.out _); obtain ⟨k0, k1, k2, k3, k4⟩ := five (show w4.heap[kb]? = some (.cells #[.int .i32 32, .int .i64 0, .int .i64 0, .int .i64 0, .int .i64 0] 37 (0, 0)) from H4T.out.bl); clear hw4)
                        | ((with_reducible refine wpList_store_cell rfl _ _ rfl w3.heap.size 0 ⟨32, 0, 0, 0, 0⟩ rfl rfl H4F.out q0 ?_); intro w6 hw4; have H6F := Lib.hid (show RB w6 w3.heap.size ([] ++ ⟨32, 0, 0, 0, 0⟩ :: []) by rw [← hw4]; exact H4F.out.put _); have H6T := Lib.hid (show Td W w6 p b R 1 _ q d R 1 _ _ kb by rw [← hw4]; exact H4T.out.put HFr.out _); clear k0 k1 k2 k3 k4; clear hw4))
                      obtain ⟨c0, c1, c2, c3, c4⟩ := five (show w6.heap[w3.heap.size]? = some (.cells #[.int .i32 32, .int .i64 0, .int .i64 0, .int .i64 0, .int .i64 0] 37 (0, 0)) from H6F.out)
                      go_region_held3 (fun wk => wk.cell? ⟨w3.heap.size, 0, none⟩ = some (.int .i32 32) ∧ wk.cell? ⟨w3.heap.size, 1, none⟩ = some (.int .i64 0) ∧ wk.cell? ⟨w3.heap.size, 2, none⟩ = some (.int .i64 0) ∧ wk.cell? ⟨w3.heap.size, 3, none⟩ = some (.int .i64 0) ∧ wk.cell? ⟨w3.heap.size, 4, none⟩ = some (.int .i64 0)) (first | exact ⟨c0, c1, c2, c3, c4⟩ | exact ⟨Gg.cell_then hb7 (Nat.le_refl _) c0, Gg.cell_then hb7 (Nat.le_refl _) c1, Gg.cell_then hb7 (Nat.le_refl _) c2, Gg.cell_then hb7 (Nat.le_refl _) c3, Gg.cell_then hb7 (Nat.le_refl _) c4⟩) (first
                        | (go_at_call 19; (with_reducible refine (atTd W _ p b R 1 _ q d R 1 _ _ kb (Td.drew H6T.out) (j : Int) 0 ⟨32, 0, 0, 0, 0⟩ HX.out).mono ?_); rintro e w7 ⟨rfl, ht, hb7⟩; have H7T := Lib.hid ht; clear ht))
                      clear hb7 c0 c1 c2 c3 c4
                      go_wp2
                      exact ⟨⟨j + 1, by omega, by go_num, H7T⟩, by simp only [intOf]; omega⟩
                    · have h4 : u < j := by omega
                      have HX := Lib.hid (HY.out.trans (down_out (m := m) HFl.out HTU.out HU.out j hlt _ rfl (.inr h4)))
                      go_wp2_with (first
                        | (go_at_call 19; (with_reducible refine (atTdo W _ p b R 1 _ q d R 1 _ _ kb HK.out (j : Int) 0 y HY.out).mono ?_); rintro e w3 ⟨rfl, ht, hb⟩; have HFr := Lib.hid (ht.fresh (Nat.le_refl _)); have HT3 := Lib.hid (ht.then_ (below_one w3 (.cells #[.int .i32 0, .int .i64 0, .int .i64 0, .int .i64 0, .int .i64 0] 37))); have HF3 := Lib.hid (show RB (w3.alloc (.cells #[.int .i32 0, .int .i64 0, .int .i64 0, .int .i64 0, .int .i64 0] 37)) w3.heap.size ([] ++ zeroC :: []) from heap_last w3 _ 37); generalize hwa : w3.alloc (.cells #[.int .i32 0, .int .i64 0, .int .i64 0, .int .i64 0, .int .i64 0] 37) = wa at HT3 HF3; clear ht hb)
                        | ((with_reducible refine wpList_store_cell rfl _ _ rfl w3.heap.size 0 y rfl rfl HF3.out q0 ?_); intro w4 hw4; have H4F := Lib.hid (show RB w4 w3.heap.size ([] ++ y :: []) by rw [← hw4]; exact HF3.out.put _); have H4T := Lib.hid (show Td W w4 p b R 1 _ q d R 1 _ _ kb by rw [← hw4]; exact HT3.out.put HFr.out _); clear hw4))
                      obtain ⟨c0, c1, c2, c3, c4⟩ := five (show w4.heap[w3.heap.size]? = some (.cells #[.int .i32 y.r, .int .i64 y.fl, .int .i64 y.fg, .int .i64 y.bg, .int .i64 y.wd] 37 (0, 0)) from H4F.out)
                      go_region_held3 (fun wk => wk.cell? ⟨w3.heap.size, 0, none⟩ = some (.int .i32 y.r) ∧ wk.cell? ⟨w3.heap.size, 1, none⟩ = some (.int .i64 y.fl) ∧ wk.cell? ⟨w3.heap.size, 2, none⟩ = some (.int .i64 y.fg) ∧ wk.cell? ⟨w3.heap.size, 3, none⟩ = some (.int .i64 y.bg) ∧ wk.cell? ⟨w3.heap.size, 4, none⟩ = some (.int .i64 y.wd)) (first | exact ⟨c0, c1, c2, c3, c4⟩ | exact ⟨Gg.cell_then hb7 (Nat.le_refl _) c0, Gg.cell_then hb7 (Nat.le_refl _) c1, Gg.cell_then hb7 (Nat.le_refl _) c2, Gg.cell_then hb7 (Nat.le_refl _) c3, Gg.cell_then hb7 (Nat.le_refl _) c4⟩) (first
                        | (go_at_call 19; (with_reducible refine (atTd W _ p b R 1 _ q d R 1 _ _ kb (Td.drew H4T.out) (j : Int) 0 y HX.out).mono ?_); rintro e w7 ⟨rfl, ht, hb7⟩; have H7T := Lib.hid ht; clear ht))
                      clear hb7 c0 c1 c2 c3 c4
                      go_wp2
                      exact ⟨⟨j + 1, by omega, by go_num, H7T⟩, by simp only [intOf]; omega⟩
                  · have x3 : (t : Int) + (m : Int) ≤ (j : Int) := by omega
                    have x4 : ¬ (j : Int) < (t : Int) + (m : Int) := by omega
                    by_cases h2 : j ≤ u
                    · skip
                      have HX := Lib.hid (HY.out.trans (down_in (m := m) HFl.out HTU.out HU.out j hlt _ rfl h1 h2 h3))
                      go_wp2_with (first
                        | (go_at_call 19; (with_reducible refine (atTdo W _ p b R 1 _ q d R 1 _ _ kb HK.out (j : Int) 0 y HY.out).mono ?_); rintro e w3 ⟨rfl, ht, hb⟩; have HFr := Lib.hid (ht.fresh (Nat.le_refl _)); have HT3 := Lib.hid (ht.then_ (below_one w3 (.cells #[.int .i32 0, .int .i64 0, .int .i64 0, .int .i64 0, .int .i64 0] 37))); have HF3 := Lib.hid (show RB (w3.alloc (.cells #[.int .i32 0, .int .i64 0, .int .i64 0, .int .i64 0, .int .i64 0] 37)) w3.heap.size ([] ++ zeroC :: []) from heap_last w3 _ 37); generalize hwa : w3.alloc (.cells #[.int .i32 0, .int .i64 0, .int .i64 0, .int .i64 0, .int .i64 0] 37) = wa at HT3 HF3; clear ht hb)
                        | ((with_reducible refine wpList_store_cell rfl _ _ rfl w3.heap.size 0 y rfl rfl HF3.out q0 ?_); intro w4 hw4; have H4F := Lib.hid (show RB w4 w3.heap.size ([] ++ y :: []) by rw [← hw4]; exact HF3.out.put _); have H4T := Lib.hid (show Td W w4 p b R 1 _ q d R 1 _ _ kb by rw [← hw4]; exact HT3.out.put HFr.out _); clear hw4))
                      obtain ⟨c0, c1, c2, c3, c4⟩ := five (show w4.heap[w3.heap.size]? = some (.cells #[.int .i32 y.r, .int .i64 y.fl, .int .i64 y.fg, .int .i64 y.bg, .int .i64 y.wd] 37 (0, 0)) from H4F.out)
                      go_region_held3 (fun wk => wk.cell? ⟨w3.heap.size, 0, none⟩ = some (.int .i32 y.r) ∧ wk.cell? ⟨w3.heap.size, 1, none⟩ = some (.int .i64 y.fl) ∧ wk.cell? ⟨w3.heap.size, 2, none⟩ = some (.int .i64 y.fg) ∧ wk.cell? ⟨w3.heap.size, 3, none⟩ = some (.int .i64 y.bg) ∧ wk.cell? ⟨w3.heap.size, 4, none⟩ = some (.int .i64 y.wd)) (first | exact ⟨c0, c1, c2, c3, c4⟩ | exact ⟨Gg.cell_then hb7 (Nat.le_refl _) c0, Gg.cell_then hb7 (Nat.le_refl _) c1, Gg.cell_then hb7 (Nat.le_refl _) c2, Gg.cell_then hb7 (Nat.le_refl _) c3, Gg.cell_then hb7 (Nat.le_refl _) c4⟩) (first
                        | (go_at_call 19; (with_reducible refine (atTd W _ p b R 1 _ q d R 1 _ _ kb (Td.drew H4T.out) (j : Int) 0 y HX.out).mono ?_); rintro e w7 ⟨rfl, ht, hb7⟩; have H7T := Lib.hid ht; clear ht))
                      clear hb7 c0 c1 c2 c3 c4
                      go_wp2
                      exact ⟨⟨j + 1, by omega, by go_num, H7T⟩, by simp only [intOf]; omega⟩
                    · have h4 : u < j := by omega
                      have HX := Lib.hid (HY.out.trans (down_out (m := m) HFl.out HTU.out HU.out j hlt _ rfl (.inr h4)))
                      go_wp2_with (first
                        | (go_at_call 19; (with_reducible refine (atTdo W _ p b R 1 _ q d R 1 _ _ kb HK.out (j : Int) 0 y HY.out).mono ?_); rintro e w3 ⟨rfl, ht, hb⟩; have HFr := Lib.hid (ht.fresh (Nat.le_refl _)); have HT3 := Lib.hid (ht.then_ (below_one w3 (.cells #[.int .i32 0, .int .i64 0, .int .i64 0, .int .i64 0, .int .i64 0] 37))); have HF3 := Lib.hid (show RB (w3.alloc (.cells #[.int .i32 0, .int .i64 0, .int .i64 0, .int .i64 0, .int .i64 0] 37)) w3.heap.size ([] ++ zeroC :: []) from heap_last w3 _ 37); generalize hwa : w3.alloc (.cells #[.int .i32 0, .int .i64 0, .int .i64 0, .int .i64 0, .int .i64 0] 37) = wa at HT3 HF3; clear ht hb)
                        | ((with_reducible refine wpList_store_cell rfl _ _ rfl w3.heap.size 0 y rfl rfl HF3.out q0 ?_); intro w4 hw4; have H4F := Lib.hid (show RB w4 w3.heap.size ([] ++ y :: []) by rw [← hw4]; exact HF3.out.put _); have H4T := Lib.hid (show Td W w4 p b R 1 _ q d R 1 _ _ kb by rw [← hw4]; exact HT3.out.put HFr.out _); clear hw4))
                      obtain ⟨c0, c1, c2, c3, c4⟩ := five (show w4.heap[w3.heap.size]? = some (.cells #[.int .i32 y.r, .int .i64 y.fl, .int .i64 y.fg, .int .i64 y.bg, .int .i64 y.wd] 37 (0, 0)) from H4F.out)
                      go_region_held3 (fun wk => wk.cell? ⟨w3.heap.size, 0, none⟩ = some (.int .i32 y.r) ∧ wk.cell? ⟨w3.heap.size, 1, none⟩ = some (.int .i64 y.fl) ∧ wk.cell? ⟨w3.heap.size, 2, none⟩ = some (.int .i64 y.fg) ∧ wk.cell? ⟨w3.heap.size, 3, none⟩ = some (.int .i64 y.bg) ∧ wk.cell? ⟨w3.heap.size, 4, none⟩ = some (.int .i64 y.wd)) (first | exact ⟨c0, c1, c2, c3, c4⟩ | exact ⟨Gg.cell_then hb7 (Nat.le_refl _) c0, Gg.cell_then hb7 (Nat.le_refl _) c1, Gg.cell_then hb7 (Nat.le_refl _) c2, Gg.cell_then hb7 (Nat.le_refl _) c3, Gg.cell_then hb7 (Nat.le_refl _) c4⟩) (first
                        | (go_at_call 19; (with_reducible refine (atTd W _ p b R 1 _ q d R 1 _ _ kb (Td.drew H4T.out) (j : Int) 0 y HX.out).mono ?_); rintro e w7 ⟨rfl, ht, hb7⟩; have H7T := Lib.hid ht; clear ht))
                      clear hb7 c0 c1 c2 c3 c4
                      go_wp2
                      exact ⟨⟨j + 1, by omega, by go_num, H7T⟩, by simp only [intOf]; omega⟩
                · have h4 : j < t := by omega
                  have HX := Lib.hid (HY.out.trans (down_out (m := m) HFl.out HTU.out HU.out j hlt _ rfl (.inl h4)))
                  go_wp2_with (first
                    | (go_at_call 19; (with_reducible refine (atTdo W _ p b R 1 _ q d R 1 _ _ kb HK.out (j : Int) 0 y HY.out).mono ?_); rintro e w3 ⟨rfl, ht, hb⟩; have HFr := Lib.hid (ht.fresh (Nat.le_refl _)); have HT3 := Lib.hid (ht.then_ (below_one w3 (.cells #[.int .i32 0, .int .i64 0, .int .i64 0, .int .i64 0, .int .i64 0] 37))); have HF3 := Lib.hid (show RB (w3.alloc (.cells #[.int .i32 0, .int .i64 0, .int .i64 0, .int .i64 0, .int .i64 0] 37)) w3.heap.size ([] ++ zeroC :: []) from heap_last w3 _ 37); generalize hwa : w3.alloc (.cells #[.int .i32 0, .int .i64 0, .int .i64 0, .int .i64 0, .int .i64 0] 37) = wa at HT3 HF3; clear ht hb)
                    | ((with_reducible refine wpList_store_cell rfl _ _ rfl w3.heap.size 0 y rfl rfl HF3.out q0 ?_); intro w4 hw4; have H4F := Lib.hid (show RB w4 w3.heap.size ([] ++ y :: []) by rw [← hw4]; exact HF3.out.put _); have H4T := Lib.hid (show Td W w4 p b R 1 _ q d R 1 _ _ kb by rw [← hw4]; exact HT3.out.put HFr.out _); clear hw4))
                  obtain ⟨c0, c1, c2, c3, c4⟩ := five (show w4.heap[w3.heap.size]? = some (.cells #[.int .i32 y.r, .int .i64 y.fl, .int .i64 y.fg, .int .i64 y.bg, .int .i64 y.wd] 37 (0, 0)) from H4F.out)
                  go_region_held3 (fun wk => wk.cell? ⟨w3.heap.size, 0, none⟩ = some (.int .i32 y.r) ∧ wk.cell? ⟨w3.heap.size, 1, none⟩ = some (.int .i64 y.fl) ∧ wk.cell? ⟨w3.heap.size, 2, none⟩ = some (.int .i64 y.fg) ∧ wk.cell? ⟨w3.heap.size, 3, none⟩ = some (.int .i64 y.bg) ∧ wk.cell? ⟨w3.heap.size, 4, none⟩ = some (.int .i64 y.wd)) (first | exact ⟨c0, c1, c2, c3, c4⟩ | exact ⟨Gg.cell_then hb7 (Nat.le_refl _) c0, Gg.cell_then hb7 (Nat.le_refl _) c1, Gg.cell_then hb7 (Nat.le_refl _) c2, Gg.cell_then hb7 (Nat.le_refl _) c3, Gg.cell_then hb7 (Nat.le_refl _) c4⟩) (first
                    | (go_at_call 19; (with_reducible refine (atTd W _ p b R 1 _ q d R 1 _ _ kb (Td.drew H4T.out) (j : Int) 0 y HX.out).mono ?_); rintro e w7 ⟨rfl, ht, hb7⟩; have H7T := Lib.hid ht; clear ht))
                  clear hb7 c0 c1 c2 c3 c4
                  go_wp2
                  exact ⟨⟨j + 1, by omega, by go_num, H7T⟩, by simp only [intOf]; omega⟩
              · obtain rfl : R = j := by omega
                go_wp2_with (go_at_call 9; (with_reducible refine (firstTd W _ p b R 1 _ q d R 1 _ _ kb HK.out).mono ?_); rintro e w8 ⟨rfl, ht⟩; have HE := Lib.hid ht; clear ht)
                go_ret
                exact ⟨rfl, HE.out.tc.tp.bel⟩
/-- GridScrolls. -/
theorem walk (rows : Int) (a : Option Addr) (len cap : Nat) (zs : List Int) (top bottom n : Int) (W : World) (_ : (Lit.int .i64 rows).wf = true) (hr : IsRow .i32 W a len cap zs) (_ : (Lit.int .i64 top).wf = true) (_ : (Lit.int .i64 bottom).wf = true) (_ : (Lit.int .i64 n).wf = true) :
    Calls Try.prog 5 #[.int .i64 rows, .slice a len cap, .int .i64 top, .int .i64 bottom, .int .i64 n] W fun e w' => e = .returned (.bool true) ∧ Below W.heap.size W w' := by
  obtain ⟨l, hl, hlc, hcap, _, hrow⟩ := row_r hr
  by_cases hs : 1 ≤ rows ∧ rows ≤ 60
  · obtain ⟨R, hC⟩ := Int.eq_ofNat_of_zero_le (show 0 ≤ rows by omega)
    have hC2 : 1 ≤ R ∧ R ≤ 60 := by omega
    by_cases h0 : len ≤ 60
    · by_cases h1 : 0 ≤ top
      · by_cases h2 : top ≤ bottom
        · by_cases h3 : bottom < rows
          · by_cases h4 : n < 1
            · exact walkN1 R rows top bottom n a len cap W hC hC2 h0 h1 h2 h3 h4
            · by_cases h5 : 60 < n
              · exact walkN2 R rows top bottom n a len cap W hC hC2 h0 h1 h2 h3 h5
              · obtain ⟨t, rfl⟩ := Int.eq_ofNat_of_zero_le h1
                obtain ⟨u, rfl⟩ := Int.eq_ofNat_of_zero_le (show 0 ≤ bottom by omega)
                obtain ⟨m, rfl⟩ := Int.eq_ofNat_of_zero_le (show 0 ≤ n by omega)
                subst hC
                exact mainW R t u m len a cap l W hC2 (by omega) (by omega) (by omega) hl h0 hrow
          · exact walkB R rows top bottom n a len cap W hC hC2 h0 h1 h2 (by omega)
        · exact walkTB R rows top bottom n a len cap W hC hC2 h0 h1 (by omega)
      · exact walkT R rows top bottom n a len cap W hC hC2 h0 (by omega)
    · exact walkLen R rows top bottom n a len cap W hC hC2 (by omega)
  · refine walkNo rows top bottom n a len cap W ?_
    unfold sizeB
    exact decide_eq_false (by omega)
end Go.Proofs.Ytfdjmlncdbpkgaa.Scw
