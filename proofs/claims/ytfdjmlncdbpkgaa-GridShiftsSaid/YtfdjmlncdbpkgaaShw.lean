/- GridShifts: the walk. -/
import Derived.Test.YtfdjmlncdbpkgaaSm
set_option linter.unusedVariables false
namespace Go.Proofs.Ytfdjmlncdbpkgaa.Shw
open Go Go.RowKit Kit Gm Gv Fl Me Cp Sl Gg Gh Gp Gq Gk Gs Gt Gu Lw Sm

theorem one_eq : (1 : Int) = ((1 : Nat) : Int) := rfl
set_option maxRecDepth 100000 in
set_option maxHeartbeats 1000000 in
/-- no such grid. -/
theorem walkNo (cols col n : Int) (a : Option Addr) (len cap : Nat) (W : World) (hs : sizeB 1 cols = false) :
    Calls Try.prog 6 #[.int .i64 cols, .slice a len cap, .int .i64 col, .int .i64 n] W fun e w' => e = .returned (.bool true) ∧ Below W.heap.size W w' := by
  have HN := Lib.hid (fun w => newNo 1 cols w hs)
  clear hs
  go_enter Try.func6, Try.ntmps6
  go_wp2_with (first
    | (go_at_call 9; (first
      | ((with_reducible refine (firstC W).mono ?_); rintro e w1 ⟨rfl, hb⟩; have HB1 := Lib.hid hb; clear hb)
      | ((with_reducible refine (firstC _).mono ?_); rintro e w2 ⟨rfl, hb⟩; have HB2 := Lib.hid (below_then HB1.out hb HB1.out.size); clear hb)))
    | (go_at_call 10; (with_reducible refine (HN.out _).mono ?_); rintro e w' ⟨rfl, rfl⟩))
  go_ret
  exact ⟨rfl, HB2.out⟩
set_option maxRecDepth 100000 in
set_option maxHeartbeats 1000000 in
theorem walkLen (C : Nat) (cols col n : Int) (a : Option Addr) (len cap : Nat) (W : World) (hC : cols = (C : Int)) (hs : 1 ≤ C ∧ C ≤ 200) (h : 200 < len) :
    Calls Try.prog 6 #[.int .i64 cols, .slice a len cap, .int .i64 col, .int .i64 n] W fun e w' => e = .returned (.bool true) ∧ Below W.heap.size W w' := by
  have HC := Lib.hid hC
  have HS := Lib.hid (show 1 ≤ 1 ∧ 1 ≤ 60 ∧ 1 ≤ C ∧ C ≤ 200 from ⟨by decide, by decide, hs⟩)
  clear hs hC
  go_enter Try.func6, Try.ntmps6
  go_wp2_with (first
    | (go_at_call 9; (first
      | ((with_reducible refine (firstC W).mono ?_); rintro e w1 ⟨rfl, hb⟩; have HB1 := Lib.hid hb; clear hb)
      | ((with_reducible refine (firstTp W _ p b 1 C _ HT.out).mono ?_); rintro e w2 ⟨rfl, ht⟩; have HE := Lib.hid ht; clear ht)))
    | (go_at_call 10; (with_reducible refine (newT W 1 C _ HB1.out HS.out _ rfl 1 cols one_eq HC.out).mono ?_); rintro e w' ⟨p, b, rfl, ht⟩; have HT := Lib.hid ht; clear ht))
  go_ret
  exact ⟨rfl, HE.out.bel⟩
set_option maxRecDepth 100000 in
set_option maxHeartbeats 1000000 in
theorem walkLow (C : Nat) (cols col n : Int) (a : Option Addr) (len cap : Nat) (W : World) (hC : cols = (C : Int)) (hs : 1 ≤ C ∧ C ≤ 200) (h0 : len ≤ 200) (h : col < 0) :
    Calls Try.prog 6 #[.int .i64 cols, .slice a len cap, .int .i64 col, .int .i64 n] W fun e w' => e = .returned (.bool true) ∧ Below W.heap.size W w' := by
  have HC := Lib.hid hC
  have HS := Lib.hid (show 1 ≤ 1 ∧ 1 ≤ 60 ∧ 1 ≤ C ∧ C ≤ 200 from ⟨by decide, by decide, hs⟩)
  clear hs hC
  go_enter Try.func6, Try.ntmps6
  go_wp2_with (first
    | (go_at_call 9; (first
      | ((with_reducible refine (firstC W).mono ?_); rintro e w1 ⟨rfl, hb⟩; have HB1 := Lib.hid hb; clear hb)
      | ((with_reducible refine (firstTp W _ p b 1 C _ HT.out).mono ?_); rintro e w2 ⟨rfl, ht⟩; have HE := Lib.hid ht; clear ht)))
    | (go_at_call 10; (with_reducible refine (newT W 1 C _ HB1.out HS.out _ rfl 1 cols one_eq HC.out).mono ?_); rintro e w' ⟨p, b, rfl, ht⟩; have HT := Lib.hid ht; clear ht))
  go_ret
  exact ⟨rfl, HE.out.bel⟩
set_option maxRecDepth 100000 in
set_option maxHeartbeats 1000000 in
theorem walkHigh (C : Nat) (cols col n : Int) (a : Option Addr) (len cap : Nat) (W : World) (hC : cols = (C : Int)) (hs : 1 ≤ C ∧ C ≤ 200) (h0 : len ≤ 200) (h : 0 ≤ col) (h2 : cols ≤ col) :
    Calls Try.prog 6 #[.int .i64 cols, .slice a len cap, .int .i64 col, .int .i64 n] W fun e w' => e = .returned (.bool true) ∧ Below W.heap.size W w' := by
  have HC := Lib.hid hC
  have HS := Lib.hid (show 1 ≤ 1 ∧ 1 ≤ 60 ∧ 1 ≤ C ∧ C ≤ 200 from ⟨by decide, by decide, hs⟩)
  clear hs hC
  go_enter Try.func6, Try.ntmps6
  go_wp2_with (first
    | (go_at_call 9; (first
      | ((with_reducible refine (firstC W).mono ?_); rintro e w1 ⟨rfl, hb⟩; have HB1 := Lib.hid hb; clear hb)
      | ((with_reducible refine (firstTp W _ p b 1 C _ HT.out).mono ?_); rintro e w2 ⟨rfl, ht⟩; have HE := Lib.hid ht; clear ht)))
    | (go_at_call 10; (with_reducible refine (newT W 1 C _ HB1.out HS.out _ rfl 1 cols one_eq HC.out).mono ?_); rintro e w' ⟨p, b, rfl, ht⟩; have HT := Lib.hid ht; clear ht))
  go_ret
  exact ⟨rfl, HE.out.bel⟩
set_option maxRecDepth 100000 in
set_option maxHeartbeats 1000000 in
theorem walkN1 (C : Nat) (cols col n : Int) (a : Option Addr) (len cap : Nat) (W : World) (hC : cols = (C : Int)) (hs : 1 ≤ C ∧ C ≤ 200) (h0 : len ≤ 200) (h : 0 ≤ col) (h2 : col < cols) (h3 : n < 1) :
    Calls Try.prog 6 #[.int .i64 cols, .slice a len cap, .int .i64 col, .int .i64 n] W fun e w' => e = .returned (.bool true) ∧ Below W.heap.size W w' := by
  have HC := Lib.hid hC
  have HS := Lib.hid (show 1 ≤ 1 ∧ 1 ≤ 60 ∧ 1 ≤ C ∧ C ≤ 200 from ⟨by decide, by decide, hs⟩)
  clear hs hC
  go_enter Try.func6, Try.ntmps6
  go_wp2_with (first
    | (go_at_call 9; (first
      | ((with_reducible refine (firstC W).mono ?_); rintro e w1 ⟨rfl, hb⟩; have HB1 := Lib.hid hb; clear hb)
      | ((with_reducible refine (firstTp W _ p b 1 C _ HT.out).mono ?_); rintro e w2 ⟨rfl, ht⟩; have HE := Lib.hid ht; clear ht)))
    | (go_at_call 10; (with_reducible refine (newT W 1 C _ HB1.out HS.out _ rfl 1 cols one_eq HC.out).mono ?_); rintro e w' ⟨p, b, rfl, ht⟩; have HT := Lib.hid ht; clear ht))
  go_ret
  exact ⟨rfl, HE.out.bel⟩
set_option maxRecDepth 100000 in
set_option maxHeartbeats 1000000 in
theorem walkN2 (C : Nat) (cols col n : Int) (a : Option Addr) (len cap : Nat) (W : World) (hC : cols = (C : Int)) (hs : 1 ≤ C ∧ C ≤ 200) (h0 : len ≤ 200) (h : 0 ≤ col) (h2 : col < cols) (h3 : 200 < n) :
    Calls Try.prog 6 #[.int .i64 cols, .slice a len cap, .int .i64 col, .int .i64 n] W fun e w' => e = .returned (.bool true) ∧ Below W.heap.size W w' := by
  have HC := Lib.hid hC
  have HS := Lib.hid (show 1 ≤ 1 ∧ 1 ≤ 60 ∧ 1 ≤ C ∧ C ≤ 200 from ⟨by decide, by decide, hs⟩)
  clear hs hC
  go_enter Try.func6, Try.ntmps6
  go_wp2_with (first
    | (go_at_call 9; (first
      | ((with_reducible refine (firstC W).mono ?_); rintro e w1 ⟨rfl, hb⟩; have HB1 := Lib.hid hb; clear hb)
      | ((with_reducible refine (firstTp W _ p b 1 C _ HT.out).mono ?_); rintro e w2 ⟨rfl, ht⟩; have HE := Lib.hid ht; clear ht)))
    | (go_at_call 10; (with_reducible refine (newT W 1 C _ HB1.out HS.out _ rfl 1 cols one_eq HC.out).mono ?_); rintro e w' ⟨p, b, rfl, ht⟩; have HT := Lib.hid ht; clear ht))
  go_ret
  exact ⟨rfl, HE.out.bel⟩
set_option maxRecDepth 100000 in
set_option maxHeartbeats 4000000 in
theorem mainW (C k m len : Nat) (a : Option Addr) (cap : Nat) (l : List Int) (W : World) (hs : 1 ≤ C ∧ C ≤ 200) (hk : k < C) (hm : 1 ≤ m ∧ m ≤ 200) (hlen : l.length = len) (hl2 : len ≤ 200) (hl : LRow W a l) :
    Calls Try.prog 6 #[.int .i64 (C : Int), .slice a len cap, .int .i64 (k : Int), .int .i64 (m : Int)] W fun e w' => e = .returned (.bool true) ∧ Below W.heap.size W w' := by
  have HS := Lib.hid (show 1 ≤ 1 ∧ 1 ≤ 60 ∧ 1 ≤ C ∧ C ≤ 200 from ⟨by decide, by decide, hs⟩)
  have HLR := Lib.hid hl
  have HLen := Lib.hid hlen
  have HKC := Lib.hid hk
  have HM1 := Lib.hid hm.1
  have hm2 := hm.2
  have hm1 := hm.1
  have hC2 := hs.2
  have HF0 := Lib.hid (show Flat C (List.replicate (1 * C) (Gm.blankC 0)) by rw [Nat.one_mul]; exact flat_rep C)
  have t1 : decide (200 < (len : Int)) = false := by simp; omega
  have t2 : decide ((k : Int) < 0) = false := by simp
  have t3 : decide (C ≤ k) = false := by simp; omega
  have t4 : decide ((m : Int) < 1) = false := by simp; omega
  have t5 : decide (200 < (m : Int)) = false := by simp; omega
  have t6 : decide (m < 1) = false := by simp; omega
  have t7 : decide (200 < m) = false := by simp; omega
  have t8 : decide (200 < len) = false := by simp; omega
  clear hs hm hlen hl
  go_enter Try.func6, Try.ntmps6
  go_wp2_with (first
    | (go_at_call 9; (with_reducible refine (firstC W).mono ?_); rintro e w1 ⟨rfl, hb⟩; have HB1 := Lib.hid hb; clear hb)
    | (go_at_call 10; (with_reducible refine (newT W 1 C _ HB1.out HS.out _ rfl 1 (C : Int) one_eq rfl).mono ?_); rintro e w' ⟨p, b, rfl, ht⟩; have HT0 := Lib.hid ht; clear ht))
  go_loopw [11] (fun s11 wr => ∃ (i : Nat) (L : List Ce), i ≤ len ∧ i ≤ C ∧ s11 = .int .i64 i ∧ Hid (Flat C L) ∧ Hid (Tp W wr p b 1 C L)) (fun s11 _ => len - (intOf s11).toNat)
  case atStart => exact ⟨0, _, Nat.zero_le _, Nat.zero_le _, rfl, HF0, HT0⟩
  case round =>
    obtain ⟨i, L, hi, hiC, rfl, HFl, HT⟩ := hrel
    by_cases hlt : i < len
    · by_cases hlt2 : i < C
      · obtain ⟨bs, off, rfl, hsg⟩ := sign_at HLR.out HT.out.bel i (by rw [HLen.out]; exact hlt)
        generalize l[i]'(by rw [HLen.out]; exact hlt) = r at hsg
        by_cases hw : Cell.widthZ r = 1
        · have H29 := Lib.hid (fun w => widthB r w 1 hw)
          have HF2 := Lib.hid (show Flat C (putL 1 C L 0 (i : Int) ⟨r, 0, 0, 0, 0⟩) by have := flat_put (R := 1) (C := C) (L := L) (by rw [Nat.one_mul]; exact HFl.out) 0 (i : Int) r; rw [Nat.one_mul] at this; exact this)
          clear hw
          go_wp2_with (first
            | (go_at_call 29; (with_reducible refine (H29.out _).mono ?_); rintro e w' ⟨rfl, rfl⟩)
            | (go_at_call 21; (with_reducible refine (putT W p b 1 C 0 (i : Int) ⟨r, 0, 0, 0, 0⟩ L _ HT.out _ rfl _ rfl).mono ?_); rintro e w2 ⟨rfl, ht⟩; have HT2 := Lib.hid ht; clear ht))
          exact ⟨⟨i + 1, _, by omega, by omega, by go_num, HF2, HT2⟩, by simp only [intOf]; omega⟩
        · obtain ⟨v, hv⟩ : ∃ v, Cell.widthZ r = v := ⟨_, rfl⟩
          have H29 := Lib.hid (fun w => widthB r w v hv)
          have hv1 : (v == 1) = false := by rw [beq_eq_false_iff_ne, ← hv]; exact hw
          clear hw hv
          go_wp2_with (first
            | (go_at_call 29; (with_reducible refine (H29.out _).mono ?_); rintro e w' ⟨rfl, rfl⟩))
          exact ⟨⟨i + 1, _, by omega, by omega, by go_num, HFl, HT⟩, by simp only [intOf]; omega⟩
      · obtain rfl : i = C := by omega
        go_wp2_with (first
          | (go_at_call 12; (with_reducible refine (copyT W _ p b 1 i _ HT.out).mono ?_); rintro e w1 ⟨q, d, cc, rfl, ht⟩; have HC0 := Lib.hid ht; clear ht HT)
          | (go_at_call 23; (first
            | ((with_reducible refine (shiftTc W _ p b 1 i _ q d 1 i cc _ HC0.out 0 (k : Int) (m : Int) 0 0 0 _ rfl).mono ?_); rintro e w2 ⟨rfl, ht⟩; have HC1 := Lib.hid ht; clear ht HC0)
            | ((with_reducible refine (shiftTc W _ p b 1 i _ q d 1 i cc _ HC1.out 0 (k : Int) (-(m : Int)) 0 0 0 _ rfl).mono ?_); rintro e w3 ⟨rfl, ht⟩; have HC2 := Lib.hid ht; clear ht HC1))))
        go_loopw [13] (fun s13 wr => ∃ j : Nat, j ≤ i ∧ s13 = .int .i64 j ∧ Hid (Tc W wr p b 1 i (shiftL 1 i (shiftL 1 i L 0 (k : Int) (m : Int) 0 0 0) 0 (k : Int) (-(m : Int)) 0 0 0) q d 1 i cc L)) (fun s13 _ => i - (intOf s13).toNat)
        case atStart => exact ⟨0, Nat.zero_le _, rfl, HC2⟩
        case round =>
          obtain ⟨j, hj, rfl, HK⟩ := hrel
          by_cases hlt : j < i
          · obtain ⟨y, hy⟩ : ∃ y, y = atC 1 i L 0 (j : Int) := ⟨_, rfl⟩
            have HY := Lib.hid hy
            clear hy
            by_cases hc : k ≤ j ∧ i ≤ j + m
            · have HX := Lib.hid (back_blank HFl.out HKC.out HM1.out j hlt _ rfl hc.1 hc.2)
              obtain ⟨hc1, hc2⟩ := hc
              have d2 : (i : Int) - (m : Int) ≤ (j : Int) := by omega
              clear hc2
              go_wp2_with (first
                | (go_at_call 19; (with_reducible refine (atTo W _ p b 1 i _ q d 1 i _ _ HK.out 0 (j : Int) y HY.out).mono ?_); rintro e w3 ⟨rfl, ht, hb⟩; have HFr := Lib.hid (ht.fresh (Nat.le_refl _)); have HT3 := Lib.hid (ht.then_ (below_one w3 (.cells #[.int .i32 0, .int .i64 0, .int .i64 0, .int .i64 0, .int .i64 0] 37))); have HF3 := Lib.hid (show RB (w3.alloc (.cells #[.int .i32 0, .int .i64 0, .int .i64 0, .int .i64 0, .int .i64 0] 37)) w3.heap.size ([] ++ zeroC :: []) from heap_last w3 _ 37); generalize hwa : w3.alloc (.cells #[.int .i32 0, .int .i64 0, .int .i64 0, .int .i64 0, .int .i64 0] 37) = wa at HT3 HF3; clear ht hb)
                | ((with_reducible refine wpList_store_cell rfl _ _ rfl w3.heap.size 0 y rfl rfl HF3.out q0 ?_); intro w4 hw4; have H4F := Lib.hid (show RB w4 w3.heap.size ([] ++ y :: []) by rw [← hw4]; exact HF3.out.put _); have H4T := Lib.hid (show Tc W w4 p b 1 i _ q d 1 i _ _ by rw [← hw4]; exact HT3.out.put HFr.out.1 HFr.out.2.1 HFr.out.2.2.1 HFr.out.2.2.2.1 HFr.out.2.2.2.2 _); clear hw4)
                | (go_at_call 28; (with_reducible refine (blankTc W _ p b 1 i _ q d 1 i _ _ H4T.out 0 0 0).mono ?_); rintro e w5 ⟨rfl, ht, hb⟩; have H5T := Lib.hid ht; have H5F := Lib.hid (H4F.out.then_ hb (Nat.le_refl _)); clear ht hb)
                | ((with_reducible refine wpList_store_cell rfl _ _ rfl w3.heap.size 0 ⟨32, 0, 0, 0, 0⟩ rfl rfl H5F.out q0 ?_); intro w6 hw4; have H6F := Lib.hid (show RB w6 w3.heap.size ([] ++ ⟨32, 0, 0, 0, 0⟩ :: []) by rw [← hw4]; exact H5F.out.put _); have H6T := Lib.hid (show Tc W w6 p b 1 i _ q d 1 i _ _ by rw [← hw4]; exact H5T.out.put HFr.out.1 HFr.out.2.1 HFr.out.2.2.1 HFr.out.2.2.2.1 HFr.out.2.2.2.2 _); clear hw4))
              obtain ⟨c0, c1, c2, c3, c4⟩ := five (show w6.heap[w3.heap.size]? = some (.cells #[.int .i32 32, .int .i64 0, .int .i64 0, .int .i64 0, .int .i64 0] 37 (0, 0)) from H6F.out)
              go_region_held3 (fun wk => wk.cell? ⟨w3.heap.size, 0, none⟩ = some (.int .i32 32) ∧ wk.cell? ⟨w3.heap.size, 1, none⟩ = some (.int .i64 0) ∧ wk.cell? ⟨w3.heap.size, 2, none⟩ = some (.int .i64 0) ∧ wk.cell? ⟨w3.heap.size, 3, none⟩ = some (.int .i64 0) ∧ wk.cell? ⟨w3.heap.size, 4, none⟩ = some (.int .i64 0)) (first | exact ⟨c0, c1, c2, c3, c4⟩ | exact ⟨Gg.cell_then hb7 (Nat.le_refl _) c0, Gg.cell_then hb7 (Nat.le_refl _) c1, Gg.cell_then hb7 (Nat.le_refl _) c2, Gg.cell_then hb7 (Nat.le_refl _) c3, Gg.cell_then hb7 (Nat.le_refl _) c4⟩) (first
                | (go_at_call 19; (with_reducible refine (atTc W _ p b 1 i _ q d 1 i _ _ (Tc.drew H6T.out) 0 (j : Int) ⟨32, 0, 0, 0, 0⟩ HX.out).mono ?_); rintro e w7 ⟨rfl, ht, hb7⟩; have H7T := Lib.hid ht; clear ht))
              clear hb7 c0 c1 c2 c3 c4
              go_wp2
              exact ⟨⟨j + 1, by omega, by go_num, H7T⟩, by simp only [intOf]; omega⟩
            · have HX := Lib.hid (HY.out.trans (back_same HFl.out HKC.out HM1.out j hlt _ rfl hc))
              have hcc : (¬ k ≤ j) ∨ (k ≤ j ∧ ¬ i ≤ j + m) := by omega
              clear hc
              rcases hcc with d1 | ⟨d1, d2⟩
              all_goals
                try (have d3 : (j : Int) < (i : Int) - (m : Int) := by omega)
                go_wp2_with (first
                  | (go_at_call 19; (with_reducible refine (atTo W _ p b 1 i _ q d 1 i _ _ HK.out 0 (j : Int) y HY.out).mono ?_); rintro e w3 ⟨rfl, ht, hb⟩; have HFr := Lib.hid (ht.fresh (Nat.le_refl _)); have HT3 := Lib.hid (ht.then_ (below_one w3 (.cells #[.int .i32 0, .int .i64 0, .int .i64 0, .int .i64 0, .int .i64 0] 37))); have HF3 := Lib.hid (show RB (w3.alloc (.cells #[.int .i32 0, .int .i64 0, .int .i64 0, .int .i64 0, .int .i64 0] 37)) w3.heap.size ([] ++ zeroC :: []) from heap_last w3 _ 37); generalize hwa : w3.alloc (.cells #[.int .i32 0, .int .i64 0, .int .i64 0, .int .i64 0, .int .i64 0] 37) = wa at HT3 HF3; clear ht hb)
                  | ((with_reducible refine wpList_store_cell rfl _ _ rfl w3.heap.size 0 y rfl rfl HF3.out q0 ?_); intro w4 hw4; have H4F := Lib.hid (show RB w4 w3.heap.size ([] ++ y :: []) by rw [← hw4]; exact HF3.out.put _); have H4T := Lib.hid (show Tc W w4 p b 1 i _ q d 1 i _ _ by rw [← hw4]; exact HT3.out.put HFr.out.1 HFr.out.2.1 HFr.out.2.2.1 HFr.out.2.2.2.1 HFr.out.2.2.2.2 _); clear hw4))
                obtain ⟨c0, c1, c2, c3, c4⟩ := five (show w4.heap[w3.heap.size]? = some (.cells #[.int .i32 y.r, .int .i64 y.fl, .int .i64 y.fg, .int .i64 y.bg, .int .i64 y.wd] 37 (0, 0)) from H4F.out)
                go_region_held3 (fun wk => wk.cell? ⟨w3.heap.size, 0, none⟩ = some (.int .i32 y.r) ∧ wk.cell? ⟨w3.heap.size, 1, none⟩ = some (.int .i64 y.fl) ∧ wk.cell? ⟨w3.heap.size, 2, none⟩ = some (.int .i64 y.fg) ∧ wk.cell? ⟨w3.heap.size, 3, none⟩ = some (.int .i64 y.bg) ∧ wk.cell? ⟨w3.heap.size, 4, none⟩ = some (.int .i64 y.wd)) (first | exact ⟨c0, c1, c2, c3, c4⟩ | exact ⟨Gg.cell_then hb7 (Nat.le_refl _) c0, Gg.cell_then hb7 (Nat.le_refl _) c1, Gg.cell_then hb7 (Nat.le_refl _) c2, Gg.cell_then hb7 (Nat.le_refl _) c3, Gg.cell_then hb7 (Nat.le_refl _) c4⟩) (first
                  | (go_at_call 19; (with_reducible refine (atTc W _ p b 1 i _ q d 1 i _ _ (Tc.drew H4T.out) 0 (j : Int) y HX.out).mono ?_); rintro e w7 ⟨rfl, ht, hb7⟩; have H7T := Lib.hid ht; clear ht))
                clear hb7 c0 c1 c2 c3 c4
                go_wp2
                exact ⟨⟨j + 1, by omega, by go_num, H7T⟩, by simp only [intOf]; omega⟩
          · obtain rfl : j = i := by omega
            go_wp2_with (go_at_call 9; (with_reducible refine (firstTc W _ p b 1 j _ q d 1 j _ _ HK.out).mono ?_); rintro e w8 ⟨rfl, ht⟩; have HE := Lib.hid ht; clear ht)
            go_ret
            exact ⟨rfl, HE.out.tp.bel⟩
    · obtain rfl : i = len := by omega
      go_wp2_with (first
        | (go_at_call 12; (with_reducible refine (copyT W _ p b 1 C _ HT.out).mono ?_); rintro e w1 ⟨q, d, cc, rfl, ht⟩; have HC0 := Lib.hid ht; clear ht HT)
        | (go_at_call 23; (first
          | ((with_reducible refine (shiftTc W _ p b 1 C _ q d 1 C cc _ HC0.out 0 (k : Int) (m : Int) 0 0 0 _ rfl).mono ?_); rintro e w2 ⟨rfl, ht⟩; have HC1 := Lib.hid ht; clear ht HC0)
          | ((with_reducible refine (shiftTc W _ p b 1 C _ q d 1 C cc _ HC1.out 0 (k : Int) (-(m : Int)) 0 0 0 _ rfl).mono ?_); rintro e w3 ⟨rfl, ht⟩; have HC2 := Lib.hid ht; clear ht HC1))))
      go_loopw [13] (fun s13 wr => ∃ j : Nat, j ≤ C ∧ s13 = .int .i64 j ∧ Hid (Tc W wr p b 1 C (shiftL 1 C (shiftL 1 C L 0 (k : Int) (m : Int) 0 0 0) 0 (k : Int) (-(m : Int)) 0 0 0) q d 1 C cc L)) (fun s13 _ => C - (intOf s13).toNat)
      case atStart => exact ⟨0, Nat.zero_le _, rfl, HC2⟩
      case round =>
        obtain ⟨j, hj, rfl, HK⟩ := hrel
        by_cases hlt : j < C
        · obtain ⟨y, hy⟩ : ∃ y, y = atC 1 C L 0 (j : Int) := ⟨_, rfl⟩
          have HY := Lib.hid hy
          clear hy
          by_cases hc : k ≤ j ∧ C ≤ j + m
          · have HX := Lib.hid (back_blank HFl.out HKC.out HM1.out j hlt _ rfl hc.1 hc.2)
            obtain ⟨hc1, hc2⟩ := hc
            have d2 : (C : Int) - (m : Int) ≤ (j : Int) := by omega
            clear hc2
            go_wp2_with (first
              | (go_at_call 19; (with_reducible refine (atTo W _ p b 1 C _ q d 1 C _ _ HK.out 0 (j : Int) y HY.out).mono ?_); rintro e w3 ⟨rfl, ht, hb⟩; have HFr := Lib.hid (ht.fresh (Nat.le_refl _)); have HT3 := Lib.hid (ht.then_ (below_one w3 (.cells #[.int .i32 0, .int .i64 0, .int .i64 0, .int .i64 0, .int .i64 0] 37))); have HF3 := Lib.hid (show RB (w3.alloc (.cells #[.int .i32 0, .int .i64 0, .int .i64 0, .int .i64 0, .int .i64 0] 37)) w3.heap.size ([] ++ zeroC :: []) from heap_last w3 _ 37); generalize hwa : w3.alloc (.cells #[.int .i32 0, .int .i64 0, .int .i64 0, .int .i64 0, .int .i64 0] 37) = wa at HT3 HF3; clear ht hb)
              | ((with_reducible refine wpList_store_cell rfl _ _ rfl w3.heap.size 0 y rfl rfl HF3.out q0 ?_); intro w4 hw4; have H4F := Lib.hid (show RB w4 w3.heap.size ([] ++ y :: []) by rw [← hw4]; exact HF3.out.put _); have H4T := Lib.hid (show Tc W w4 p b 1 C _ q d 1 C _ _ by rw [← hw4]; exact HT3.out.put HFr.out.1 HFr.out.2.1 HFr.out.2.2.1 HFr.out.2.2.2.1 HFr.out.2.2.2.2 _); clear hw4)
              | (go_at_call 28; (with_reducible refine (blankTc W _ p b 1 C _ q d 1 C _ _ H4T.out 0 0 0).mono ?_); rintro e w5 ⟨rfl, ht, hb⟩; have H5T := Lib.hid ht; have H5F := Lib.hid (H4F.out.then_ hb (Nat.le_refl _)); clear ht hb)
              | ((with_reducible refine wpList_store_cell rfl _ _ rfl w3.heap.size 0 ⟨32, 0, 0, 0, 0⟩ rfl rfl H5F.out q0 ?_); intro w6 hw4; have H6F := Lib.hid (show RB w6 w3.heap.size ([] ++ ⟨32, 0, 0, 0, 0⟩ :: []) by rw [← hw4]; exact H5F.out.put _); have H6T := Lib.hid (show Tc W w6 p b 1 C _ q d 1 C _ _ by rw [← hw4]; exact H5T.out.put HFr.out.1 HFr.out.2.1 HFr.out.2.2.1 HFr.out.2.2.2.1 HFr.out.2.2.2.2 _); clear hw4))
            obtain ⟨c0, c1, c2, c3, c4⟩ := five (show w6.heap[w3.heap.size]? = some (.cells #[.int .i32 32, .int .i64 0, .int .i64 0, .int .i64 0, .int .i64 0] 37 (0, 0)) from H6F.out)
            go_region_held3 (fun wk => wk.cell? ⟨w3.heap.size, 0, none⟩ = some (.int .i32 32) ∧ wk.cell? ⟨w3.heap.size, 1, none⟩ = some (.int .i64 0) ∧ wk.cell? ⟨w3.heap.size, 2, none⟩ = some (.int .i64 0) ∧ wk.cell? ⟨w3.heap.size, 3, none⟩ = some (.int .i64 0) ∧ wk.cell? ⟨w3.heap.size, 4, none⟩ = some (.int .i64 0)) (first | exact ⟨c0, c1, c2, c3, c4⟩ | exact ⟨Gg.cell_then hb7 (Nat.le_refl _) c0, Gg.cell_then hb7 (Nat.le_refl _) c1, Gg.cell_then hb7 (Nat.le_refl _) c2, Gg.cell_then hb7 (Nat.le_refl _) c3, Gg.cell_then hb7 (Nat.le_refl _) c4⟩) (first
              | (go_at_call 19; (with_reducible refine (atTc W _ p b 1 C _ q d 1 C _ _ (Tc.drew H6T.out) 0 (j : Int) ⟨32, 0, 0, 0, 0⟩ HX.out).mono ?_); rintro e w7 ⟨rfl, ht, hb7⟩; have H7T := Lib.hid ht; clear ht))
            clear hb7 c0 c1 c2 c3 c4
            go_wp2
            exact ⟨⟨j + 1, by omega, by go_num, H7T⟩, by simp only [intOf]; omega⟩
          · have HX := Lib.hid (HY.out.trans (back_same HFl.out HKC.out HM1.out j hlt _ rfl hc))
            have hcc : (¬ k ≤ j) ∨ (k ≤ j ∧ ¬ C ≤ j + m) := by omega
            clear hc
            rcases hcc with d1 | ⟨d1, d2⟩
            all_goals
              try (have d3 : (j : Int) < (C : Int) - (m : Int) := by omega)
              go_wp2_with (first
                | (go_at_call 19; (with_reducible refine (atTo W _ p b 1 C _ q d 1 C _ _ HK.out 0 (j : Int) y HY.out).mono ?_); rintro e w3 ⟨rfl, ht, hb⟩; have HFr := Lib.hid (ht.fresh (Nat.le_refl _)); have HT3 := Lib.hid (ht.then_ (below_one w3 (.cells #[.int .i32 0, .int .i64 0, .int .i64 0, .int .i64 0, .int .i64 0] 37))); have HF3 := Lib.hid (show RB (w3.alloc (.cells #[.int .i32 0, .int .i64 0, .int .i64 0, .int .i64 0, .int .i64 0] 37)) w3.heap.size ([] ++ zeroC :: []) from heap_last w3 _ 37); generalize hwa : w3.alloc (.cells #[.int .i32 0, .int .i64 0, .int .i64 0, .int .i64 0, .int .i64 0] 37) = wa at HT3 HF3; clear ht hb)
                | ((with_reducible refine wpList_store_cell rfl _ _ rfl w3.heap.size 0 y rfl rfl HF3.out q0 ?_); intro w4 hw4; have H4F := Lib.hid (show RB w4 w3.heap.size ([] ++ y :: []) by rw [← hw4]; exact HF3.out.put _); have H4T := Lib.hid (show Tc W w4 p b 1 C _ q d 1 C _ _ by rw [← hw4]; exact HT3.out.put HFr.out.1 HFr.out.2.1 HFr.out.2.2.1 HFr.out.2.2.2.1 HFr.out.2.2.2.2 _); clear hw4))
              obtain ⟨c0, c1, c2, c3, c4⟩ := five (show w4.heap[w3.heap.size]? = some (.cells #[.int .i32 y.r, .int .i64 y.fl, .int .i64 y.fg, .int .i64 y.bg, .int .i64 y.wd] 37 (0, 0)) from H4F.out)
              go_region_held3 (fun wk => wk.cell? ⟨w3.heap.size, 0, none⟩ = some (.int .i32 y.r) ∧ wk.cell? ⟨w3.heap.size, 1, none⟩ = some (.int .i64 y.fl) ∧ wk.cell? ⟨w3.heap.size, 2, none⟩ = some (.int .i64 y.fg) ∧ wk.cell? ⟨w3.heap.size, 3, none⟩ = some (.int .i64 y.bg) ∧ wk.cell? ⟨w3.heap.size, 4, none⟩ = some (.int .i64 y.wd)) (first | exact ⟨c0, c1, c2, c3, c4⟩ | exact ⟨Gg.cell_then hb7 (Nat.le_refl _) c0, Gg.cell_then hb7 (Nat.le_refl _) c1, Gg.cell_then hb7 (Nat.le_refl _) c2, Gg.cell_then hb7 (Nat.le_refl _) c3, Gg.cell_then hb7 (Nat.le_refl _) c4⟩) (first
                | (go_at_call 19; (with_reducible refine (atTc W _ p b 1 C _ q d 1 C _ _ (Tc.drew H4T.out) 0 (j : Int) y HX.out).mono ?_); rintro e w7 ⟨rfl, ht, hb7⟩; have H7T := Lib.hid ht; clear ht))
              clear hb7 c0 c1 c2 c3 c4
              go_wp2
              exact ⟨⟨j + 1, by omega, by go_num, H7T⟩, by simp only [intOf]; omega⟩
        · obtain rfl : j = C := by omega
          go_wp2_with (go_at_call 9; (with_reducible refine (firstTc W _ p b 1 j _ q d 1 j _ _ HK.out).mono ?_); rintro e w8 ⟨rfl, ht⟩; have HE := Lib.hid ht; clear ht)
          go_ret
          exact ⟨rfl, HE.out.tp.bel⟩
/-- GridShifts. -/
theorem walk (cols : Int) (a : Option Addr) (len cap : Nat) (zs : List Int) (col n : Int) (W : World) (_ : (Lit.int .i64 cols).wf = true) (hr : IsRow .i32 W a len cap zs) (_ : (Lit.int .i64 col).wf = true) (_ : (Lit.int .i64 n).wf = true) :
    Calls Try.prog 6 #[.int .i64 cols, .slice a len cap, .int .i64 col, .int .i64 n] W fun e w' => e = .returned (.bool true) ∧ Below W.heap.size W w' := by
  obtain ⟨l, hl, hlc, hcap, _, hrow⟩ := row_r hr
  by_cases hs : 1 ≤ cols ∧ cols ≤ 200
  · obtain ⟨C, hC⟩ := Int.eq_ofNat_of_zero_le (show 0 ≤ cols by omega)
    have hC2 : 1 ≤ C ∧ C ≤ 200 := by omega
    by_cases h0 : len ≤ 200
    · by_cases h1 : 0 ≤ col
      · by_cases h2 : col < cols
        · by_cases h3 : n < 1
          · exact walkN1 C cols col n a len cap W hC hC2 h0 h1 h2 h3
          · by_cases h4 : 200 < n
            · exact walkN2 C cols col n a len cap W hC hC2 h0 h1 h2 h4
            · obtain ⟨k, rfl⟩ := Int.eq_ofNat_of_zero_le h1
              obtain ⟨m, rfl⟩ := Int.eq_ofNat_of_zero_le (show 0 ≤ n by omega)
              subst hC
              exact mainW C k m len a cap l W hC2 (by omega) (by omega) hl h0 hrow
        · exact walkHigh C cols col n a len cap W hC hC2 h0 h1 (by omega)
      · exact walkLow C cols col n a len cap W hC hC2 h0 (by omega)
    · exact walkLen C cols col n a len cap W hC hC2 (by omega)
  · refine walkNo cols col n a len cap W ?_
    unfold sizeB
    exact decide_eq_false (by omega)
end Go.Proofs.Ytfdjmlncdbpkgaa.Shw
