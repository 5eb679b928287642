/- GridSizes: the walk. -/
import Derived.Test.YtfdjmlncdbpkgaaSz
set_option linter.unusedVariables false
namespace Go.Proofs.Ytfdjmlncdbpkgaa.Szw
open Go Go.RowKit Kit Gm Gv Fl Me Cp Sl Gg Gh Gp Gq Gk Gs Gt Gu Lw Sm Sz

set_option maxRecDepth 100000 in
set_option maxHeartbeats 1000000 in
theorem walkNo (rows cols r c : Int) (a : Option Addr) (len cap : Nat) (W : World) (hs : sizeB rows cols = false) :
    Calls Try.prog 8 #[.int .i64 rows, .int .i64 cols, .int .i64 r, .int .i64 c, .slice a len cap] W fun e w' => e = .returned (.bool true) ∧ Below W.heap.size W w' := by
  have HN := Lib.hid (fun w => newNo rows cols w hs)
  clear hs
  go_enter Try.func8, Try.ntmps8
  go_wp2_with (first
    | (go_at_call 9; (first
      | ((with_reducible refine (firstC W).mono ?_); rintro e w1 ⟨rfl, hb⟩; have HB1 := Lib.hid hb; clear hb)
      | ((with_reducible refine (firstC _).mono ?_); rintro e w2 ⟨rfl, hb⟩; have HB2 := Lib.hid (below_then HB1.out hb HB1.out.size); clear hb)))
    | (go_at_call 10; (with_reducible refine (HN.out _).mono ?_); rintro e w' ⟨rfl, rfl⟩))
  go_ret
  exact ⟨rfl, HB2.out⟩
set_option maxRecDepth 100000 in
set_option maxHeartbeats 1000000 in
theorem walkR (R C : Nat) (rows cols r c : Int) (a : Option Addr) (len cap : Nat) (W : World) (hR : rows = (R : Int)) (hC : cols = (C : Int)) (hs : 1 ≤ R ∧ R ≤ 60 ∧ 1 ≤ C ∧ C ≤ 200) (h : r < 1) :
    Calls Try.prog 8 #[.int .i64 rows, .int .i64 cols, .int .i64 r, .int .i64 c, .slice a len cap] W fun e w' => e = .returned (.bool true) ∧ Below W.heap.size W w' := by
  have HR := Lib.hid hR
  have HC := Lib.hid hC
  have HS := Lib.hid hs
  clear hs hC hR
  go_enter Try.func8, Try.ntmps8
  go_wp2_with (first
    | (go_at_call 9; (first
      | ((with_reducible refine (firstC W).mono ?_); rintro e w1 ⟨rfl, hb⟩; have HB1 := Lib.hid hb; clear hb)
      | ((with_reducible refine (firstTp W _ p b R C _ HT.out).mono ?_); rintro e w2 ⟨rfl, ht⟩; have HE := Lib.hid ht; clear ht)))
    | (go_at_call 10; (with_reducible refine (newT W R C _ HB1.out HS.out _ rfl rows cols HR.out HC.out).mono ?_); rintro e w' ⟨p, b, rfl, ht⟩; have HT := Lib.hid ht; clear ht))
  go_ret
  exact ⟨rfl, HE.out.bel⟩
set_option maxRecDepth 100000 in
set_option maxHeartbeats 1000000 in
theorem walkC (R C : Nat) (rows cols r c : Int) (a : Option Addr) (len cap : Nat) (W : World) (hR : rows = (R : Int)) (hC : cols = (C : Int)) (hs : 1 ≤ R ∧ R ≤ 60 ∧ 1 ≤ C ∧ C ≤ 200) (h : 1 ≤ r) (h2 : c < 1) :
    Calls Try.prog 8 #[.int .i64 rows, .int .i64 cols, .int .i64 r, .int .i64 c, .slice a len cap] W fun e w' => e = .returned (.bool true) ∧ Below W.heap.size W w' := by
  have HR := Lib.hid hR
  have HC := Lib.hid hC
  have HS := Lib.hid hs
  clear hs hC hR
  go_enter Try.func8, Try.ntmps8
  go_wp2_with (first
    | (go_at_call 9; (first
      | ((with_reducible refine (firstC W).mono ?_); rintro e w1 ⟨rfl, hb⟩; have HB1 := Lib.hid hb; clear hb)
      | ((with_reducible refine (firstTp W _ p b R C _ HT.out).mono ?_); rintro e w2 ⟨rfl, ht⟩; have HE := Lib.hid ht; clear ht)))
    | (go_at_call 10; (with_reducible refine (newT W R C _ HB1.out HS.out _ rfl rows cols HR.out HC.out).mono ?_); rintro e w' ⟨p, b, rfl, ht⟩; have HT := Lib.hid ht; clear ht))
  go_ret
  exact ⟨rfl, HE.out.bel⟩
set_option maxRecDepth 100000 in
set_option maxHeartbeats 1000000 in
theorem walkRR (R C : Nat) (rows cols r c : Int) (a : Option Addr) (len cap : Nat) (W : World) (hR : rows = (R : Int)) (hC : cols = (C : Int)) (hs : 1 ≤ R ∧ R ≤ 60 ∧ 1 ≤ C ∧ C ≤ 200) (h : 1 ≤ r) (h2 : 1 ≤ c) (h3 : rows < r) :
    Calls Try.prog 8 #[.int .i64 rows, .int .i64 cols, .int .i64 r, .int .i64 c, .slice a len cap] W fun e w' => e = .returned (.bool true) ∧ Below W.heap.size W w' := by
  have HR := Lib.hid hR
  have HC := Lib.hid hC
  have HS := Lib.hid hs
  clear hs hC hR
  go_enter Try.func8, Try.ntmps8
  go_wp2_with (first
    | (go_at_call 9; (first
      | ((with_reducible refine (firstC W).mono ?_); rintro e w1 ⟨rfl, hb⟩; have HB1 := Lib.hid hb; clear hb)
      | ((with_reducible refine (firstTp W _ p b R C _ HT.out).mono ?_); rintro e w2 ⟨rfl, ht⟩; have HE := Lib.hid ht; clear ht)))
    | (go_at_call 10; (with_reducible refine (newT W R C _ HB1.out HS.out _ rfl rows cols HR.out HC.out).mono ?_); rintro e w' ⟨p, b, rfl, ht⟩; have HT := Lib.hid ht; clear ht))
  go_ret
  exact ⟨rfl, HE.out.bel⟩
set_option maxRecDepth 100000 in
set_option maxHeartbeats 1000000 in
theorem walkCC (R C : Nat) (rows cols r c : Int) (a : Option Addr) (len cap : Nat) (W : World) (hR : rows = (R : Int)) (hC : cols = (C : Int)) (hs : 1 ≤ R ∧ R ≤ 60 ∧ 1 ≤ C ∧ C ≤ 200) (h : 1 ≤ r) (h2 : 1 ≤ c) (h3 : r ≤ rows) (h4 : cols < c) :
    Calls Try.prog 8 #[.int .i64 rows, .int .i64 cols, .int .i64 r, .int .i64 c, .slice a len cap] W fun e w' => e = .returned (.bool true) ∧ Below W.heap.size W w' := by
  have HR := Lib.hid hR
  have HC := Lib.hid hC
  have HS := Lib.hid hs
  clear hs hC hR
  go_enter Try.func8, Try.ntmps8
  go_wp2_with (first
    | (go_at_call 9; (first
      | ((with_reducible refine (firstC W).mono ?_); rintro e w1 ⟨rfl, hb⟩; have HB1 := Lib.hid hb; clear hb)
      | ((with_reducible refine (firstTp W _ p b R C _ HT.out).mono ?_); rintro e w2 ⟨rfl, ht⟩; have HE := Lib.hid ht; clear ht)))
    | (go_at_call 10; (with_reducible refine (newT W R C _ HB1.out HS.out _ rfl rows cols HR.out HC.out).mono ?_); rintro e w' ⟨p, b, rfl, ht⟩; have HT := Lib.hid ht; clear ht))
  go_ret
  exact ⟨rfl, HE.out.bel⟩
set_option maxRecDepth 100000 in
set_option maxHeartbeats 1000000 in
theorem walkLen (R C : Nat) (rows cols r c : Int) (a : Option Addr) (len cap : Nat) (W : World) (hR : rows = (R : Int)) (hC : cols = (C : Int)) (hs : 1 ≤ R ∧ R ≤ 60 ∧ 1 ≤ C ∧ C ≤ 200) (h : 1 ≤ r) (h2 : 1 ≤ c) (h3 : r ≤ rows) (h4 : c ≤ cols) (h5 : 200 < len) :
    Calls Try.prog 8 #[.int .i64 rows, .int .i64 cols, .int .i64 r, .int .i64 c, .slice a len cap] W fun e w' => e = .returned (.bool true) ∧ Below W.heap.size W w' := by
  have HR := Lib.hid hR
  have HC := Lib.hid hC
  have HS := Lib.hid hs
  clear hs hC hR
  go_enter Try.func8, Try.ntmps8
  go_wp2_with (first
    | (go_at_call 9; (first
      | ((with_reducible refine (firstC W).mono ?_); rintro e w1 ⟨rfl, hb⟩; have HB1 := Lib.hid hb; clear hb)
      | ((with_reducible refine (firstTp W _ p b R C _ HT.out).mono ?_); rintro e w2 ⟨rfl, ht⟩; have HE := Lib.hid ht; clear ht)))
    | (go_at_call 10; (with_reducible refine (newT W R C _ HB1.out HS.out _ rfl rows cols HR.out HC.out).mono ?_); rintro e w' ⟨p, b, rfl, ht⟩; have HT := Lib.hid ht; clear ht))
  go_ret
  exact ⟨rfl, HE.out.bel⟩
/-- a sign, in every world behind. -/
theorem sign_all {W : World} {a : Option Addr} {l : List Int} (h : LRow W a l) (j : Nat) (hj : j < l.length) : ∃ b off, a = some ⟨b, off, none⟩ ∧ ∀ w, Below W.heap.size W w → w.cell? ⟨b, off + j, none⟩ = some (.int .i32 l[j]) := by
  rcases h with rfl | ⟨b, off, rfl, h⟩
  · simp at hj
  · exact ⟨b, off, rfl, fun w hb => Gg.cell_then hb (Nat.le_refl _) (h j hj)⟩
theorem no_size : sizeB 0 1 = false := by decide
set_option maxRecDepth 100000 in
set_option maxHeartbeats 8000000 in
theorem mainW (R C r c len : Nat) (a : Option Addr) (cap : Nat) (l : List Int) (W : World) (hs : 1 ≤ R ∧ R ≤ 60 ∧ 1 ≤ C ∧ C ≤ 200) (hr : 1 ≤ r ∧ r ≤ R) (hc : 1 ≤ c ∧ c ≤ C) (hlen : l.length = len) (hl2 : len ≤ 200) (hl : LRow W a l) :
    Calls Try.prog 8 #[.int .i64 (R : Int), .int .i64 (C : Int), .int .i64 (r : Int), .int .i64 (c : Int), .slice a len cap] W fun e w' => e = .returned (.bool true) ∧ Below W.heap.size W w' := by
  have HS := Lib.hid hs
  have HRC := Lib.hid (show 1 ≤ r ∧ r ≤ 60 ∧ 1 ≤ c ∧ c ≤ 200 by omega)
  have HLR := Lib.hid hl
  have HLen := Lib.hid hlen
  have HrR := Lib.hid hr.2
  have HcC := Lib.hid hc.2
  have hR60 : R ≤ 60 := hs.2.1
  have hC200 : C ≤ 200 := hs.2.2.2
  have HC1' := Lib.hid hs.2.2.1
  have HF0 := Lib.hid (show Flat (R * C) (List.replicate (R * C) (Gm.blankC 0)) from flat_rep _)
  have t1 : decide ((r : Int) < 1) = false := by simp; omega
  have t2 : decide ((c : Int) < 1) = false := by simp; omega
  have t3 : decide (R < r) = false := by simp; omega
  have t4 : decide (C < c) = false := by simp; omega
  have t5 : decide (200 < (len : Int)) = false := by simp; omega
  have t6 : decide (r < 1) = false := by simp; omega
  have t7 : decide (c < 1) = false := by simp; omega
  have t8 : decide (200 < len) = false := by simp; omega
  have z1 : ((C : Int) == 0) = false := by simp; omega
  have z2 : ¬ (C : Int) = 0 := by omega
  have z3 : ¬ C = 0 := by omega
  clear hs hr hc hlen hl
  go_enter Try.func8, Try.ntmps8
  go_wp2_with (first
    | (go_at_call 9; (with_reducible refine (firstC W).mono ?_); rintro e w1 ⟨rfl, hb⟩; have HB1 := Lib.hid hb; clear hb)
    | (go_at_call 10; (with_reducible refine (newT W R C _ HB1.out HS.out _ rfl (R : Int) (C : Int) rfl rfl).mono ?_); rintro e w' ⟨p, b, rfl, ht⟩; have HT0 := Lib.hid ht; clear ht))
  go_loopw [13] (fun s13 wr => ∃ (i : Nat) (L : List Ce), i ≤ len ∧ s13 = .int .i64 i ∧ Hid (Flat (R * C) L) ∧ Hid (Tp W wr p b R C L)) (fun s13 _ => len - (intOf s13).toNat)
  case atStart => exact ⟨0, _, Nat.zero_le _, rfl, HF0, HT0⟩
  case round =>
    obtain ⟨i, L, hi, rfl, HFl, HT⟩ := hrel
    by_cases hlt : i < len
    · obtain ⟨bs, off, rfl, hsa⟩ := sign_all HLR.out i (by rw [HLen.out]; exact hlt)
      generalize l[i]'(by rw [HLen.out]; exact hlt) = v at hsa
      have HSG := Lib.hid hsa
      have hsg := HSG.out _ HT.out.bel
      clear hsa
      by_cases hw : Cell.widthZ v = 1
      · have H29 := Lib.hid (fun w => widthB v w 1 hw)
        obtain ⟨X, hX⟩ : ∃ X : Int, IntKind.i64.wrap ((i : Int).tdiv (C : Int)) = X := ⟨_, rfl⟩
        obtain ⟨Y, hY⟩ : ∃ Y : Int, (i : Int).tmod (C : Int) = Y := ⟨_, rfl⟩
        have hX2 : IntKind.i64.wrap ((i : Int) / (C : Int)) = X ∧ wrap64 ((i : Int) / (C : Int)) = X := by
          have e1 := Int.ediv_nonneg (Int.natCast_nonneg i) (Int.natCast_nonneg C)
          have e2 := Int.ediv_le_self (C : Int) (Int.natCast_nonneg i)
          have e3 := wr_any (x := (i : Int) / (C : Int)) (by omega) (by omega)
          rw [← hX, IntWalk.i64_quo _ _ (by omega)]; exact e3
        obtain ⟨hX3, hX4⟩ := hX2
        have hY2 : IntKind.i64.wrap Y = Y := by
          rw [← hY, IntWalk.rem_in _ _ (Int.natCast_nonneg _)]
          have e1 := Int.emod_nonneg (i : Int) z2
          have e2 := Int.emod_lt_of_pos (i : Int) (show (0 : Int) < C by omega)
          exact IntWalk.i64_in _ (by omega)
        have HF2 := Lib.hid (flat_put HFl.out X Y v)
        clear hw
        go_wp2_with (first
          | (go_at_call 29; (with_reducible refine (H29.out _).mono ?_); rintro e w' ⟨rfl, rfl⟩))
        have HTd := Lib.hid (Tp.drew HT.out)
        go_region_held3 (fun wk => wk.cell? ⟨bs, off + i, none⟩ = some (.int .i32 v)) (first | exact HSG.out _ HT2.out.bel | exact HSG.out _ HTd.out.bel) (first
          | (go_at_call 21; (with_reducible refine (putT W p b R C X Y ⟨v, 0, 0, 0, 0⟩ L _ HTd.out _ rfl _ rfl).mono ?_); rintro e w2 ⟨rfl, ht⟩; have HT2 := Lib.hid ht; clear ht))
        go_wp2
        exact ⟨⟨i + 1, _, by omega, by go_num, HF2, HT2⟩, by simp only [intOf]; omega⟩
      · obtain ⟨x, hx⟩ : ∃ x, Cell.widthZ v = x := ⟨_, rfl⟩
        have H29 := Lib.hid (fun w => widthB v w x hx)
        have hv1 : (x == 1) = false := by rw [beq_eq_false_iff_ne, ← hx]; exact hw
        clear hw hx
        go_wp2_with (first
          | (go_at_call 29; (with_reducible refine (H29.out _).mono ?_); rintro e w' ⟨rfl, rfl⟩))
        exact ⟨⟨i + 1, _, by omega, by go_num, HFl, HT⟩, by simp only [intOf]; omega⟩
    · skip
      go_wp2_with (first
        | (go_at_call 12; (with_reducible refine (copyT W _ p b R C _ HT.out).mono ?_); rintro e w1 ⟨q, d, cc, rfl, ht⟩; have HC0 := Lib.hid ht; clear ht HT)
        | (go_at_call 25; (first
          | ((with_reducible refine (resizeTc W _ p b R C _ q d R C cc _ HC0.out r c HRC.out).mono ?_); rintro e w2 ⟨b1, rfl, ht⟩; have HC1 := Lib.hid ht; clear ht HC0)
          | ((with_reducible refine (resizeTc W _ p b1 r c _ q d R C cc _ HC1.out R C HS.out).mono ?_); rintro e w3 ⟨bn, rfl, ht⟩; have HC2 := Lib.hid ht; clear ht HC1)
          | ((with_reducible refine (resizeNo p 0 1 _ no_size).mono ?_); rintro e w' ⟨rfl, rfl⟩)))
        | (go_at_call 15; (with_reducible refine (rowsTc W _ p b1 r c _ q d R C cc _ HC1.out).mono ?_); rintro e w' ⟨rfl, rfl⟩)
        | (go_at_call 16; (with_reducible refine (colsTc W _ p b1 r c _ q d R C cc _ HC1.out).mono ?_); rintro e w' ⟨rfl, rfl⟩))
      go_loopw [15] (fun s15 wr => ∃ i : Nat, i ≤ R ∧ s15 = .int .i64 i ∧ Hid (Tc W wr p bn R C (resizeL r c (resizeL R C L r c) R C) q d R C cc L)) (fun s15 _ => R - (intOf s15).toNat)
      case atStart => exact ⟨0, Nat.zero_le _, rfl, HC2⟩
      case round =>
        obtain ⟨i, hi, rfl, HK0⟩ := hrel
        by_cases hlt : i < R
        · obtain ⟨wo, hwo⟩ : ∃ wo : World, wo = wr := ⟨_, rfl⟩
          subst hwo
          go_wp2
          go_loopw [16] (fun s16 wr => ∃ k : Nat, k ≤ C ∧ s16 = .int .i64 k ∧ Hid (Tc W wr p bn R C (resizeL r c (resizeL R C L r c) R C) q d R C cc L)) (fun s16 _ => C - (intOf s16).toNat)
          case atStart => exact ⟨0, Nat.zero_le _, rfl, HK0⟩
          case round =>
            obtain ⟨k, hk, rfl, HK⟩ := hrel
            by_cases hlk : k < C
            · by_cases h1 : i < r
              · by_cases h2 : k < c
                · obtain ⟨y, hy⟩ : ∃ y, y = atC R C L (i : Int) (k : Int) := ⟨_, rfl⟩
                  have HX := Lib.hid (hy.trans (size_in (r := r) (c := c) HFl.out i k hlt hlk h1 h2))
                  have HY := Lib.hid hy
                  clear hy
                  go_wp2_with (first
                    | (go_at_call 28; (with_reducible refine (blankTc W _ p bn R C _ q d R C cc _ HK.out 0 0 0).mono ?_); rintro e w3 ⟨rfl, ht, hb⟩; have HFr := Lib.hid (ht.fresh (Nat.le_refl _)); have HT3 := Lib.hid (ht.then_ (below_one w3 (.cells #[.int .i32 0, .int .i64 0, .int .i64 0, .int .i64 0, .int .i64 0] 37))); have HF3 := Lib.hid (show RB (w3.alloc (.cells #[.int .i32 0, .int .i64 0, .int .i64 0, .int .i64 0, .int .i64 0] 37)) w3.heap.size ([] ++ zeroC :: []) from heap_last w3 _ 37); generalize hwa : w3.alloc (.cells #[.int .i32 0, .int .i64 0, .int .i64 0, .int .i64 0, .int .i64 0] 37) = wa at HT3 HF3; clear ht hb)
                    | ((with_reducible refine wpList_store_cell rfl _ _ rfl w3.heap.size 0 ⟨32, 0, 0, 0, 0⟩ rfl rfl HF3.out q0 ?_); intro w4 hw4; have H4F := Lib.hid (show RB w4 w3.heap.size ([] ++ ⟨32, 0, 0, 0, 0⟩ :: []) by rw [← hw4]; exact HF3.out.put _); have H4T := Lib.hid (show Tc W w4 p bn R C _ q d R C _ _ by rw [← hw4]; exact HT3.out.put HFr.out.1 HFr.out.2.1 HFr.out.2.2.1 HFr.out.2.2.2.1 HFr.out.2.2.2.2 _); clear hw4)
                    | (go_at_call 19; (with_reducible refine (atTo W _ p bn R C _ q d R C cc _ H4T.out (i : Int) (k : Int) y HY.out).mono ?_); rintro e w5 ⟨rfl, ht, hb⟩; have H5T := Lib.hid ht; have H5F := Lib.hid (H4F.out.then_ hb (Nat.le_refl _)); clear ht hb)
                    | ((with_reducible refine wpList_store_cell rfl _ _ rfl w3.heap.size 0 y rfl rfl H5F.out q0 ?_); intro w6 hw4; have H6F := Lib.hid (show RB w6 w3.heap.size ([] ++ y :: []) by rw [← hw4]; exact H5F.out.put _); have H6T := Lib.hid (show Tc W w6 p bn R C _ q d R C _ _ by rw [← hw4]; exact H5T.out.put HFr.out.1 HFr.out.2.1 HFr.out.2.2.1 HFr.out.2.2.2.1 HFr.out.2.2.2.2 _); clear hw4))
                  obtain ⟨c0, c1, c2, c3, c4⟩ := five (show w6.heap[w3.heap.size]? = some (.cells #[.int .i32 y.r, .int .i64 y.fl, .int .i64 y.fg, .int .i64 y.bg, .int .i64 y.wd] 37 (0, 0)) from H6F.out)
                  go_region_held3 (fun wk => wk.cell? ⟨w3.heap.size, 0, none⟩ = some (.int .i32 y.r) ∧ wk.cell? ⟨w3.heap.size, 1, none⟩ = some (.int .i64 y.fl) ∧ wk.cell? ⟨w3.heap.size, 2, none⟩ = some (.int .i64 y.fg) ∧ wk.cell? ⟨w3.heap.size, 3, none⟩ = some (.int .i64 y.bg) ∧ wk.cell? ⟨w3.heap.size, 4, none⟩ = some (.int .i64 y.wd)) (first | exact ⟨c0, c1, c2, c3, c4⟩ | exact ⟨Gg.cell_then hb7 (Nat.le_refl _) c0, Gg.cell_then hb7 (Nat.le_refl _) c1, Gg.cell_then hb7 (Nat.le_refl _) c2, Gg.cell_then hb7 (Nat.le_refl _) c3, Gg.cell_then hb7 (Nat.le_refl _) c4⟩) (first
                    | (go_at_call 19; (with_reducible refine (atTc W _ p bn R C _ q d R C cc _ (Tc.drew H6T.out) (i : Int) (k : Int) y HX.out).mono ?_); rintro e w7 ⟨rfl, ht, hb7⟩; have H7T := Lib.hid ht; clear ht))
                  clear hb7 c0 c1 c2 c3 c4
                  go_wp2
                  exact ⟨⟨k + 1, by omega, by go_num, H7T⟩, by simp only [intOf]; omega⟩
                · have h3 : c ≤ k := by omega
                  have HX := Lib.hid (size_out (r := r) (c := c) HFl.out i k hlt hlk (by omega))
                  go_wp2_with (first
                    | (go_at_call 28; (with_reducible refine (blankTc W _ p bn R C _ q d R C cc _ HK.out 0 0 0).mono ?_); rintro e w3 ⟨rfl, ht, hb⟩; have HFr := Lib.hid (ht.fresh (Nat.le_refl _)); have HT3 := Lib.hid (ht.then_ (below_one w3 (.cells #[.int .i32 0, .int .i64 0, .int .i64 0, .int .i64 0, .int .i64 0] 37))); have HF3 := Lib.hid (show RB (w3.alloc (.cells #[.int .i32 0, .int .i64 0, .int .i64 0, .int .i64 0, .int .i64 0] 37)) w3.heap.size ([] ++ zeroC :: []) from heap_last w3 _ 37); generalize hwa : w3.alloc (.cells #[.int .i32 0, .int .i64 0, .int .i64 0, .int .i64 0, .int .i64 0] 37) = wa at HT3 HF3; clear ht hb)
                    | ((with_reducible refine wpList_store_cell rfl _ _ rfl w3.heap.size 0 ⟨32, 0, 0, 0, 0⟩ rfl rfl HF3.out q0 ?_); intro w4 hw4; have H4F := Lib.hid (show RB w4 w3.heap.size ([] ++ ⟨32, 0, 0, 0, 0⟩ :: []) by rw [← hw4]; exact HF3.out.put _); have H4T := Lib.hid (show Tc W w4 p bn R C _ q d R C _ _ by rw [← hw4]; exact HT3.out.put HFr.out.1 HFr.out.2.1 HFr.out.2.2.1 HFr.out.2.2.2.1 HFr.out.2.2.2.2 _); clear hw4))
                  obtain ⟨c0, c1, c2, c3, c4⟩ := five (show w4.heap[w3.heap.size]? = some (.cells #[.int .i32 32, .int .i64 0, .int .i64 0, .int .i64 0, .int .i64 0] 37 (0, 0)) from H4F.out)
                  go_region_held3 (fun wk => wk.cell? ⟨w3.heap.size, 0, none⟩ = some (.int .i32 32) ∧ wk.cell? ⟨w3.heap.size, 1, none⟩ = some (.int .i64 0) ∧ wk.cell? ⟨w3.heap.size, 2, none⟩ = some (.int .i64 0) ∧ wk.cell? ⟨w3.heap.size, 3, none⟩ = some (.int .i64 0) ∧ wk.cell? ⟨w3.heap.size, 4, none⟩ = some (.int .i64 0)) (first | exact ⟨c0, c1, c2, c3, c4⟩ | exact ⟨Gg.cell_then hb7 (Nat.le_refl _) c0, Gg.cell_then hb7 (Nat.le_refl _) c1, Gg.cell_then hb7 (Nat.le_refl _) c2, Gg.cell_then hb7 (Nat.le_refl _) c3, Gg.cell_then hb7 (Nat.le_refl _) c4⟩) (first
                    | (go_at_call 19; (with_reducible refine (atTc W _ p bn R C _ q d R C cc _ (Tc.drew H4T.out) (i : Int) (k : Int) ⟨32, 0, 0, 0, 0⟩ HX.out).mono ?_); rintro e w7 ⟨rfl, ht, hb7⟩; have H7T := Lib.hid ht; clear ht))
                  clear hb7 c0 c1 c2 c3 c4
                  go_wp2
                  exact ⟨⟨k + 1, by omega, by go_num, H7T⟩, by simp only [intOf]; omega⟩
              · have h3 : r ≤ i := by omega
                have HX := Lib.hid (size_out (r := r) (c := c) HFl.out i k hlt hlk (by omega))
                go_wp2_with (first
                  | (go_at_call 28; (with_reducible refine (blankTc W _ p bn R C _ q d R C cc _ HK.out 0 0 0).mono ?_); rintro e w3 ⟨rfl, ht, hb⟩; have HFr := Lib.hid (ht.fresh (Nat.le_refl _)); have HT3 := Lib.hid (ht.then_ (below_one w3 (.cells #[.int .i32 0, .int .i64 0, .int .i64 0, .int .i64 0, .int .i64 0] 37))); have HF3 := Lib.hid (show RB (w3.alloc (.cells #[.int .i32 0, .int .i64 0, .int .i64 0, .int .i64 0, .int .i64 0] 37)) w3.heap.size ([] ++ zeroC :: []) from heap_last w3 _ 37); generalize hwa : w3.alloc (.cells #[.int .i32 0, .int .i64 0, .int .i64 0, .int .i64 0, .int .i64 0] 37) = wa at HT3 HF3; clear ht hb)
                  | ((with_reducible refine wpList_store_cell rfl _ _ rfl w3.heap.size 0 ⟨32, 0, 0, 0, 0⟩ rfl rfl HF3.out q0 ?_); intro w4 hw4; have H4F := Lib.hid (show RB w4 w3.heap.size ([] ++ ⟨32, 0, 0, 0, 0⟩ :: []) by rw [← hw4]; exact HF3.out.put _); have H4T := Lib.hid (show Tc W w4 p bn R C _ q d R C _ _ by rw [← hw4]; exact HT3.out.put HFr.out.1 HFr.out.2.1 HFr.out.2.2.1 HFr.out.2.2.2.1 HFr.out.2.2.2.2 _); clear hw4))
                obtain ⟨c0, c1, c2, c3, c4⟩ := five (show w4.heap[w3.heap.size]? = some (.cells #[.int .i32 32, .int .i64 0, .int .i64 0, .int .i64 0, .int .i64 0] 37 (0, 0)) from H4F.out)
                go_region_held3 (fun wk => wk.cell? ⟨w3.heap.size, 0, none⟩ = some (.int .i32 32) ∧ wk.cell? ⟨w3.heap.size, 1, none⟩ = some (.int .i64 0) ∧ wk.cell? ⟨w3.heap.size, 2, none⟩ = some (.int .i64 0) ∧ wk.cell? ⟨w3.heap.size, 3, none⟩ = some (.int .i64 0) ∧ wk.cell? ⟨w3.heap.size, 4, none⟩ = some (.int .i64 0)) (first | exact ⟨c0, c1, c2, c3, c4⟩ | exact ⟨Gg.cell_then hb7 (Nat.le_refl _) c0, Gg.cell_then hb7 (Nat.le_refl _) c1, Gg.cell_then hb7 (Nat.le_refl _) c2, Gg.cell_then hb7 (Nat.le_refl _) c3, Gg.cell_then hb7 (Nat.le_refl _) c4⟩) (first
                  | (go_at_call 19; (with_reducible refine (atTc W _ p bn R C _ q d R C cc _ (Tc.drew H4T.out) (i : Int) (k : Int) ⟨32, 0, 0, 0, 0⟩ HX.out).mono ?_); rintro e w7 ⟨rfl, ht, hb7⟩; have H7T := Lib.hid ht; clear ht))
                clear hb7 c0 c1 c2 c3 c4
                go_wp2
                exact ⟨⟨k + 1, by omega, by go_num, H7T⟩, by simp only [intOf]; omega⟩
            · obtain rfl : C = k := by omega
              go_wp2
              exact ⟨⟨i + 1, by omega, by go_num, HK⟩, by simp only [intOf]; omega⟩
        · obtain rfl : R = i := by omega
          go_wp2_with (go_at_call 9; (with_reducible refine (firstTc W _ p bn R C _ q d R C _ _ HK0.out).mono ?_); rintro e w8 ⟨rfl, ht⟩; have HE := Lib.hid ht; clear ht)
          go_ret
          exact ⟨rfl, HE.out.tp.bel⟩
/-- GridSizes. -/
theorem walk (rows cols r c : Int) (a : Option Addr) (len cap : Nat) (zs : List Int) (W : World) (_ : (Lit.int .i64 rows).wf = true) (_ : (Lit.int .i64 cols).wf = true) (_ : (Lit.int .i64 r).wf = true) (_ : (Lit.int .i64 c).wf = true) (hrw : IsRow .i32 W a len cap zs) :
    Calls Try.prog 8 #[.int .i64 rows, .int .i64 cols, .int .i64 r, .int .i64 c, .slice a len cap] W fun e w' => e = .returned (.bool true) ∧ Below W.heap.size W w' := by
  obtain ⟨l, hl, hlc, hcap, _, hrow⟩ := row_r hrw
  by_cases hs : 1 ≤ rows ∧ rows ≤ 60 ∧ 1 ≤ cols ∧ cols ≤ 200
  · obtain ⟨R, hR⟩ := Int.eq_ofNat_of_zero_le (show 0 ≤ rows by omega)
    obtain ⟨C, hC⟩ := Int.eq_ofNat_of_zero_le (show 0 ≤ cols by omega)
    have hS2 : 1 ≤ R ∧ R ≤ 60 ∧ 1 ≤ C ∧ C ≤ 200 := by omega
    by_cases h1 : r < 1
    · exact walkR R C rows cols r c a len cap W hR hC hS2 h1
    · by_cases h2 : c < 1
      · exact walkC R C rows cols r c a len cap W hR hC hS2 (by omega) h2
      · by_cases h3 : rows < r
        · exact walkRR R C rows cols r c a len cap W hR hC hS2 (by omega) (by omega) h3
        · by_cases h4 : cols < c
          · exact walkCC R C rows cols r c a len cap W hR hC hS2 (by omega) (by omega) (by omega) h4
          · by_cases h5 : 200 < len
            · exact walkLen R C rows cols r c a len cap W hR hC hS2 (by omega) (by omega) (by omega) (by omega) (by omega)
            · obtain ⟨x, rfl⟩ := Int.eq_ofNat_of_zero_le (show 0 ≤ r by omega)
              obtain ⟨y, rfl⟩ := Int.eq_ofNat_of_zero_le (show 0 ≤ c by omega)
              subst hR hC
              exact mainW R C x y len a cap l W hS2 (by omega) (by omega) hl (by omega) hrow
  · refine walkNo rows cols r c a len cap W ?_
    unfold sizeB
    exact decide_eq_false (by omega)
end Go.Proofs.Ytfdjmlncdbpkgaa.Szw
