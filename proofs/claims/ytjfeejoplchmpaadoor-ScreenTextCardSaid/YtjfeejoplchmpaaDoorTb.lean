/- ScreenText: the walk. -/
import Derived.Test.YtjfeejoplchmpaaDoorTa
import Derived.Deep.CutRange
import Derived.Deep.CutBlock
import Derived.Laws.IdiomStrings
import Derived.StillTailTactics
set_option linter.unusedVariables false
namespace Go.Proofs.YtjfeejoplchmpaaDoor.Tb
open Go Go.RowKit Kit Gm Gv Sa Sb Sd Sf Sg Sh Si Sj Sk Sl Sm Sn Ta

theorem cel_cell {w : World} {g k c : Nat} {L : List Ce} (h : RB w g L) (hc : L[k]? = some (ceN c)) : w.cell? ⟨g, k * 5, none⟩ = some (.int .i32 (c : Int)) := by
  obtain ⟨hl, he⟩ := List.getElem?_eq_some_iff.1 hc
  have := h.cell k hl 0 (by decide)
  rw [he] at this
  exact this
theorem cv_cell (c : Nat) (w : World) (h : 32 ≤ c ∧ c ≤ 126) : ∀ j (hj : j < [UInt8.ofNat c].length), (w.alloc (.cells #[.int .u8 (c : Int)] 5)).cell? ((⟨w.heap.size, 0, none⟩ : Addr).add j) = some (.int .u8 (([UInt8.ofNat c][j]'hj).toNat : Int)) := by
  intro j hj
  obtain rfl : j = 0 := by simpa using hj
  have e : ((⟨w.heap.size, 0, none⟩ : Addr).add 0) = ⟨w.heap.size, 0, none⟩ := rfl
  have h2 : (UInt8.ofNat c).toNat = c := by rw [UInt8.toNat_ofNat']; exact Nat.mod_eq_of_lt (by omega)
  have h3 : (w.alloc (.cells #[.int .u8 (c : Int)] 5)).heap[w.heap.size]? = _ := heap_alloc_last w _
  rw [e]
  simp only [List.getElem_cons_zero, h2, World.cell?, h3]
  rfl
theorem cv_str (c : Nat) (h : 32 ≤ c ∧ c ≤ 126) (w : World) : (convert 39 9 (.slice (some ⟨w.heap.size, 0, none⟩) 1 1)).run Tryd.prog (w.alloc (.cells #[.int .u8 (c : Int)] 5)) = .ok (.string ⟨#[UInt8.ofNat c]⟩) (w.alloc (.cells #[.int .u8 (c : Int)] 5)) :=
  run_convert_bytes_back (P := Tryd.prog) (w.alloc (.cells #[.int .u8 (c : Int)] 5)) 39 9 5 ⟨w.heap.size, 0, none⟩ 1 [UInt8.ofNat c] Tryd.underlying39 Tryd.underlying5 Tryd.underlying9 (cv_cell c w h)
theorem line_small (C : Nat) (rs : List Nat) (j m : Nat) (h : m ≤ 1000) : ¬ 9223372036854775807 < (asc (lineL C rs j m)).size + 1 := by
  rw [asc_size]
  unfold lineL
  rw [List.length_take]
  omega
theorem line_in {C n q j m : Nat} {zs : List Int} (h : ∀ i, i < j * C + m → i < n → 32 ≤ zs.getD i 0 ∧ zs.getD i 0 ≤ 126) : ∀ c ∈ lineL C (rsL zs n q) j m, 32 ≤ c ∧ c ≤ 126 := by
  intro c hc
  unfold lineL at hc
  obtain ⟨i, hi, he⟩ := List.mem_take_iff_getElem.1 hc
  rw [List.getElem_drop] at he
  have hlt : j * C + i < q := by rw [List.length_drop, rs_len] at hi; omega
  have h2 := rs_at zs n q (j * C + i) hlt
  rw [List.getElem?_eq_getElem (by rw [rs_len]; exact hlt), he] at h2
  obtain rfl := Option.some.inj h2
  exact sgn_in h (by omega)
theorem RB.then_' {w w1 : World} {B b : Nat} {L : List Ce} (h : RB w b L) (hb : Below B w w1) (hB : b < B) : RB w1 b L := (hb.block b hB).trans h
theorem nil_or_snoc (l : List Nat) : l = [] ∨ ∃ x d, l = x ++ [d] := by
  rcases List.eq_nil_or_concat l with h | ⟨x, d, h⟩
  · exact .inl h
  · exact .inr ⟨x, d, by rw [h, List.concat_eq_append]⟩
theorem ynums (y : Nat) (h : y ≤ 1000000) : (wrap64 (((y + 1 : Nat) : Int) - 1) = (y : Int) ∧ IntKind.i64.wrap (((y + 1 : Nat) : Int) - 1) = (y : Int)) ∧ (wrap64 ((y : Int) + 1 - 1) = (y : Int) ∧ IntKind.i64.wrap ((y : Int) + 1 - 1) = (y : Int)) ∧ (wrap64 (y : Int) = (y : Int) ∧ IntKind.i64.wrap (y : Int) = (y : Int)) ∧ y < y + 1 ∧ (0 : Int) < ((y + 1 : Nat) : Int) ∧ (0 : Int) < (y : Int) + 1 := by
  refine ⟨⟨?_, ?_⟩, ⟨?_, ?_⟩, ⟨?_, ?_⟩, ?_, ?_, ?_⟩
  · rw [IntWalk.wrap64_in _ (by omega)]; omega
  · rw [IntWalk.i64_in _ (by omega)]; omega
  · rw [IntWalk.wrap64_in _ (by omega)]; omega
  · rw [IntWalk.i64_in _ (by omega)]; omega
  · exact IntWalk.wrap64_in _ (by omega)
  · exact IntWalk.i64_in _ (by omega)
  · omega
  · omega
  · omega
theorem lastF {F x : List Nat} {d i : Nat} (h : F = x ++ [d] ++ List.replicate i 32) (hi : ∀ c ∈ F, 32 ≤ c ∧ c ≤ 126) (hl : F.length ≤ 1000) : d < 256 ∧ x.length ≤ 1000000 := by
  constructor
  · have := hi d (by rw [h]; simp); omega
  · rw [h] at hl; simp at hl; omega
theorem eq32 {d : Nat} (h : d = 32) : ((d : Int) == 32) = true := by rw [beq_iff_eq]; omega
theorem ne32 {d : Nat} (h : ¬ d = 32) : ((d : Int) == 32) = false := by rw [beq_eq_false_iff_ne]; omega
theorem all_rows {R C j m : Nat} (h : R * C = j * C + m) (hm : m < C) : R = j ∧ m = 0 := by
  have h1 : R = j := by
    have h2 : (R * C) / C = R := Nat.mul_div_cancel R (by omega)
    have h3 : (j * C + m) / C = j := by rw [Nat.add_comm, Nat.add_mul_div_right _ _ (by omega), Nat.div_eq_of_lt hm, Nat.zero_add]
    rw [h, h3] at h2; exact h2.symm
  subst h1
  exact ⟨rfl, by omega⟩
theorem rb_sc {w : World} {g : Nat} {L : List Ce} (h : RB w g L) : Sc w g 0 L := fun j hj i hi => by
  rw [Nat.zero_add]; exact h.cell j hj i hi
theorem tx_then {w w1 : World} {B : Nat} {a : Option Addr} {ts : List ByteArray} (h : Tx w a ts) (hb : Below B w w1) (hB : w.heap.size ≤ B) : Tx w1 a ts := by
  rcases h with h | ⟨g, h1, h2⟩
  · exact .inl h
  · exact .inr ⟨g, h1, fun i hi => cell_then hb hB (h2 i hi)⟩
theorem tr_slice {w : World} {B n : Nat} {v : Value} {ts : List ByteArray} (h : Tr w B v ts) (hl : ts.length = n) : ∃ a c, v = .slice a n c ∧ Tx w a ts := by
  obtain ⟨a, c, h1, h2⟩ := h.slice
  rw [hl] at h1
  exact ⟨a, c, h1, h2⟩
theorem tm (j C m : Nat) (hm : m < C) : Int.tmod ((j * C + m : Nat) : Int) (C : Int) = (m : Int) := by
  rw [Int.tmod_eq_emod_of_nonneg (Int.natCast_nonneg _), ← Int.natCast_emod, Nat.mul_comm, Nat.mul_add_mod, Nat.mod_eq_of_lt hm]
theorem lines_succ (C : Nat) (rs : List Nat) (j m : Nat) (h : m + 1 = C) : linesL C rs (j + 1) = linesL C rs j ++ [asc (trimL (lineL C rs j (m + 1)))] := by
  rw [lines_next, h]; rfl

set_option maxRecDepth 100000 in
set_option maxHeartbeats 4000000 in
theorem mainT (R C : Nat) (a : Option Addr) (n cap : Nat) (zs : List Int) (W : World) (hR : 1 ≤ R) (hR2 : R ≤ 60) (hC : 1 ≤ C) (hC2 : C ≤ 200) (h : IsRow .i32 W a n cap zs) (hn : n ≤ 200) :
    Calls Tryd.prog 4 #[.int .i64 (R : Int), .int .i64 (C : Int), .slice a n cap] W fun e w' => e = .returned (.bool true) ∧ Below W.heap.size W w' := by
  have hq2 : R * C ≤ 12000 := Nat.mul_le_mul hR2 hC2
  have H10 := Lib.hid (fun w => blankYes R C w ⟨hR, hR2, hC, hC2⟩)
  obtain ⟨q, hq⟩ : ∃ q, R * C = q := ⟨_, rfl⟩
  have HQ := Lib.hid hq
  have HQ2 := Lib.hid hq2
  have HROW := Lib.hid h
  have i1 : (R : Int) * (C : Int) = (q : Int) := by rw [← hq]; exact (Int.natCast_mul R C).symm
  have E1 := Lib.hid (wr_of (x := (R : Int) * (C : Int)) (by rw [i1]; exact Int.natCast_nonneg _) (by rw [i1]; omega) i1)
  rw [hq] at H10
  have e1 := E1.out.1
  have e2 := E1.out.2
  have hnI : ¬ (n : Int) > 200 := by omega
  clear hq hq2 h i1
  go_enter Tryd.func4, Tryd.ntmps4
  go_wp2_with (first
    | (go_at_call 6; (with_reducible refine (firstC _).mono ?_); rintro e w1 ⟨rfl, hb⟩; have HB1 := Lib.hid hb; clear hb)
    | (go_at_call 10; (with_reducible refine (H10.out _).mono ?_); rintro e w2 ⟨rfl, hr2, hb2⟩; have HR2 := Lib.hid (hr2.alloc (svO ⟨R, C, 0, 0, false, ⟨#[]⟩⟩ (some ⟨w1.heap.size + 1, 0, none⟩) q q)); have HB2 := Lib.hid (below_then (below_then HB1.out hb2 HB1.out.size) (below_one w2 (svO ⟨R, C, 0, 0, false, ⟨#[]⟩⟩ (some ⟨w1.heap.size + 1, 0, none⟩) q q)) (Nat.le_trans HB1.out.size hb2.size)); have HG := Lib.hid (show W.heap.size ≤ w1.heap.size + 1 by have := HB1.out.size; omega); have HP := Lib.hid (heap_alloc_last w2 (svO ⟨R, C, 0, 0, false, ⟨#[]⟩⟩ (some ⟨w1.heap.size + 1, 0, none⟩) q q)); have HGP := Lib.hid (show w1.heap.size + 1 ≠ w2.heap.size from Nat.ne_of_lt hr2.lt); have HPZ := Lib.hid (show w2.heap.size < (w2.alloc (svO ⟨R, C, 0, 0, false, ⟨#[]⟩⟩ (some ⟨w1.heap.size + 1, 0, none⟩) q q)).heap.size by simp); have HPW := Lib.hid (show W.heap.size ≤ w2.heap.size from Nat.le_trans HB1.out.size hb2.size); clear hr2 hb2))
  clear e1 e2 E1 H10 hnI HB1
  dsimp only [svO] at HR2 HB2 HP HPZ
  generalize w1.heap.size + 1 = g at *
  generalize hw3 : w2.alloc (.cells #[.int .i64 R, .int .i64 C, .slice (some ⟨g, 0, none⟩) q q, .int .i64 0, .int .i64 0, .bool false, .string ⟨#[]⟩] 24) = w3 at *
  clear hw3
  generalize w2.heap.size = p at *
  have HGW := Lib.hid (show g < w3.heap.size from HR2.out.lt)
  obtain ⟨B, hB⟩ : ∃ B, B = w3.heap.size := ⟨_, rfl⟩
  rw [← hB] at HPZ HGW
  have HR3 := Lib.hid (show RB w3 g (celL zs n 0 q) by rw [cel_zero]; exact HR2.out)
  have hBI := Lib.hid (show B ≤ w3.heap.size by rw [hB]; exact Nat.le_refl _)
  have HWB := Lib.hid (show W.heap.size ≤ B from Nat.le_trans HPW.out (Nat.le_of_lt HPZ.out))
  clear HR2 hB
  go_loopw [9, 10, 11] (fun s9 s10 s11 wr => ∃ j m k : Nat, k ≤ q ∧ m < C ∧ Hid (k = j * C + m) ∧ s11 = .int .i64 k ∧ s10 = .string (asc (lineL C (rsL zs n q) j m)) ∧ Hid (Tr wr B s9 (linesL C (rsL zs n q) j)) ∧ Hid (RB wr g (celL zs n k q)) ∧ Hid (wr.heap[p]? = some (svO ⟨R, C, 0, 0, false, ⟨#[]⟩⟩ (some ⟨g, 0, none⟩) q q)) ∧ Hid (Below W.heap.size W wr) ∧ Hid (B ≤ wr.heap.size) ∧ Hid (∀ i, i < k → i < n → 32 ≤ zs.getD i 0 ∧ zs.getD i 0 ≤ 126)) (fun _ _ s11 _ => q - (intOf s11).toNat)
  case atStart => exact ⟨0, 0, 0, Nat.zero_le _, hC, Lib.hid (by simp), rfl, rfl, Lib.hid (Tr.nil _ _), HR3, HP, HB2, hBI, Lib.hid (fun i hi => absurd hi (Nat.not_lt_zero _))⟩
  case round =>
    obtain ⟨j, m, k, hk, hm, HK, rfl, rfl, HT, HR, HPp, HB, HBs, HS⟩ := hrel
    clear HR3 HP HB2 hBI
    obtain ⟨d0, d1, d2, d3, d4, d5, d6⟩ := seven (s := ⟨R, C, 0, 0, false, ⟨#[]⟩⟩) HPp.out
    dsimp only at d0 d1 d2 d3 d4 d5 d6
    by_cases hlt : k < q
    · have hkI : (k : Int) < (q : Int) := by omega
      have HRR := HR
      have hcase : (k < n ∧ zs.getD k 0 < 32) ∨ (k < n ∧ 32 ≤ zs.getD k 0 ∧ 126 < zs.getD k 0) ∨ (k < n ∧ 32 ≤ zs.getD k 0 ∧ zs.getD k 0 ≤ 126) ∨ n ≤ k := by omega
      rcases hcase with ⟨hkn, z1⟩ | ⟨hkn, z1, z2⟩ | ⟨hkn, z1, z2⟩ | hkn
      · obtain ⟨hcap, b, off, rfl, hc⟩ := row_plain HROW.out (by omega)
        have y0 := HB.out.cell (p := ⟨b, off + k, none⟩) (World.block_lt_of_cell? W _ (hc k hkn))
        rw [hc k hkn] at y0
        have hknI : (k : Int) < (n : Int) := by omega
        clear hc
        generalize zs.getD k 0 = z at *
        go_wp2_with (go_at_call 6; (with_reducible refine (firstC _).mono ?_); rintro e w1 ⟨rfl, hb⟩; have HB1 := Lib.hid (below_then HB.out hb HB.out.size); clear hb)
        go_ret
        exact ⟨rfl, HB1.out⟩
      · obtain ⟨hcap, b, off, rfl, hc⟩ := row_plain HROW.out (by omega)
        have y0 := HB.out.cell (p := ⟨b, off + k, none⟩) (World.block_lt_of_cell? W _ (hc k hkn))
        rw [hc k hkn] at y0
        have hknI : (k : Int) < (n : Int) := by omega
        clear hc
        have v1 : ¬ zs.getD k 0 < 32 := by omega
        generalize zs.getD k 0 = z at *
        go_wp2_with (go_at_call 6; (with_reducible refine (firstC _).mono ?_); rintro e w1 ⟨rfl, hb⟩; have HB1 := Lib.hid (below_then HB.out hb HB.out.size); clear hb)
        go_ret
        exact ⟨rfl, HB1.out⟩
      (focus (
      obtain ⟨hcap, b, off, rfl, hc⟩ := row_plain HROW.out (by omega)
      have y0 := HB.out.cell (p := ⟨b, off + k, none⟩) (World.block_lt_of_cell? W _ (hc k hkn))
      rw [hc k hkn] at y0
      have hknI : (k : Int) < (n : Int) := by omega
      have HSG := Lib.hid (show zs.getD k 0 = (sgn zs n k : Int) by unfold sgn; rw [if_pos hkn]; omega)
      have HR4 := Lib.hid (show RB wr.drew g ((rsL zs n k).map ceN ++ blk :: List.replicate (q - (k + 1)) blk) by rw [← cel_head zs n k q hlt]; exact HR.out)
      have HLN := Lib.hid (show k * 5 = ((rsL zs n k).map ceN).length * 5 by rw [List.length_map, rs_len])
      have HS5 := Lib.hid (show ∀ i, i < k + 1 → i < n → 32 ≤ zs.getD i 0 ∧ zs.getD i 0 ≤ 126 from fun i hi hin => by
        by_cases e : i = k
        · subst e; exact ⟨z1, z2⟩
        · exact HS.out i (by omega) hin)
      have HNX := Lib.hid (cel_next zs n k q)
      have HC5 := Lib.hid (cel_at zs n k q hlt)
      clear hc
      have v1 : ¬ zs.getD k 0 < 32 := by omega
      have v2 : ¬ 126 < zs.getD k 0 := by omega
      generalize zs.getD k 0 = z at *
      have HIN := Lib.hid (sgn_in HS5.out (Nat.lt_succ_self k))
      have HLX := Lib.hid (line_next (C := C) (rs := rsL zs n q) (j := j) (m := m) (c := sgn zs n k) (by rw [← HK.out]; exact rs_at zs n q k hlt))
      generalize sgn zs n k = c at *
      obtain rfl := HSG.out
      go_upto_region 14 with (fail)
      go_still_tail 9, (by kernel_rfl)
      change wpList _ _ _ _ _ wr.drew
      refine wpList_store_cell rfl _ _ rfl g (k * 5) (ceN c) rfl rfl HR4.out HLN.out ?_; intro w4 hw4; have HR5 := Lib.hid (show RB w4 g (celL zs n (k + 1) q) by rw [HNX.out, ← hw4]; exact HR4.out.put _)
      have HT5 := Lib.hid (show Tr w4 B u9 (linesL C (rsL zs n q) j) by rw [← hw4]; exact put_tr HT.out HGW.out _)
      have HP5 := Lib.hid (show w4.heap[p]? = some (svO ⟨R, C, 0, 0, false, ⟨#[]⟩⟩ (some ⟨g, 0, none⟩) q q) by rw [← hw4]; exact (setRow_other _ g p _ (Ne.symm HGP.out)).trans HPp.out)
      have HB5 := Lib.hid (show Below W.heap.size W w4 by rw [← hw4]; exact put_below (w := wr.drew) ⟨HB.out.os, HB.out.tape, HB.out.output, HB.out.size, HB.out.block⟩ HG.out _)
      have HBs5 := Lib.hid (show B ≤ w4.heap.size by rw [← hw4]; unfold putR; simpa using HBs.out)
      clear hw4
      go_upto_region 15 with (fail)
      clear d0 d1 d2 d3 d4 d5 d6 y0 v1 v2))
      rotate_left
      (focus (
      have hknI : ¬ (k : Int) < (n : Int) := by omega
      have hknN : ¬ k < n := by omega
      have HR5 := Lib.hid (show RB wr g (celL zs n (k + 1) q) by rw [cel_stay zs n k q hlt hkn]; exact HR.out)
      have HS5 := Lib.hid (show ∀ i, i < k + 1 → i < n → 32 ≤ zs.getD i 0 ∧ zs.getD i 0 ≤ 126 from fun i hi hin => HS.out i (by omega) hin)
      have HC5 := Lib.hid (cel_at zs n k q hlt)
      have HIN := Lib.hid (sgn_in HS5.out (Nat.lt_succ_self k))
      have HLX := Lib.hid (line_next (C := C) (rs := rsL zs n q) (j := j) (m := m) (c := sgn zs n k) (by rw [← HK.out]; exact rs_at zs n q k hlt))
      generalize sgn zs n k = c at *
      have HT5 := HT
      have HP5 := HPp
      have HB5 := HB
      have HBs5 := HBs
      go_upto_region 15 with (fail)
      clear d0 d1 d2 d3 d4 d5 d6
      obtain ⟨w4, rfl⟩ : ∃ w4 : World, w4 = wr := ⟨_, rfl⟩))
      rotate_left
      all_goals
        have hcI : IntKind.u8.wrap (c : Int) = (c : Int) := by have := HIN.out; rw [IntKind.wrap_u8]; omega
        have y5 : w4.cell? ⟨g, k * 5, none⟩ = some (.int .i32 (c : Int)) := cel_cell HR5.out HC5.out
        have hcv := cv_str c HIN.out
        obtain ⟨d0, d1, d2, d3, d4, d5, d6⟩ := seven (s := ⟨R, C, 0, 0, false, ⟨#[]⟩⟩) HP5.out
        dsimp only at d0 d1 d2 d3 d4 d5 d6
        have hs5 : asc (lineL C (rsL zs n q) j m) ++ ⟨#[UInt8.ofNat c]⟩ = asc (lineL C (rsL zs n q) j (m + 1)) := by rw [HLX.out, asc_snoc]
        have hsz5 : ¬ 9223372036854775807 < (asc (lineL C (rsL zs n q) j m)).size + 1 := line_small C _ j m (by omega)
        go_upto_region 16 with (fail)
        have hal := below_one w4 (.cells #[.int .u8 (c : Int)] 5)
        have HT6 := Lib.hid (HT5.out.below hal)
        have HR6 := Lib.hid (HR5.out.then_ hal (Nat.le_refl _))
        have HP6 := Lib.hid ((hal.block _ (Array.getElem?_eq_some_iff.1 HP5.out).1).trans HP5.out)
        have HB6 := Lib.hid (below_then HB5.out hal HB5.out.size)
        have HBs6 := Lib.hid (Nat.le_trans HBs5.out hal.size)
        have HKk := Lib.hid (show k + 1 ≤ q ∧ q - (k + 1) < q - k by omega)
        have hk1 : IntKind.i64.wrap ((k : Int) + 1) = (k : Int) + 1 := IntWalk.i64_in _ (by have := HQ2.out; rw [HQ.out] at this; omega)
        generalize w4.alloc (.cells #[.int .u8 (c : Int)] 5) = w6 at *
        clear hsz5 hs5 hcv y5 hcI hal d0 d1 d2 d3 d4 d5 d6 hlt hkI hk
        have hmod : Int.tmod (k : Int) (C : Int) = (m : Int) := by rw [HK.out]; exact tm j C m hm
        obtain ⟨c1, hc1⟩ : ∃ c1, C = c1 + 1 := ⟨C - 1, by omega⟩
        have hC0 : ¬ (C : Int) = 0 := by omega
        have hC0' : ¬ C = 0 := by omega
        have hcw : IntKind.i64.wrap ((C : Int) - 1) = (c1 : Int) := by rw [IntWalk.i64_in _ (by omega)]; omega
        have hcw' : wrap64 ((C : Int) - 1) = (c1 : Int) := by rw [IntWalk.wrap64_in _ (by omega)]; omega
        have HC1 := Lib.hid hc1
        have HMm := Lib.hid hm
        by_cases hmc : m = c1
        · have ht : ((m : Int) == (c1 : Int)) = true := by rw [beq_iff_eq]; omega
          have HK1 := Lib.hid (show k + 1 = (j + 1) * C + 0 by rw [HK.out, hmc, Nat.succ_mul]; omega)
          have HLS := Lib.hid (lines_succ C (rsL zs n q) j m (by omega))
          have HIL := Lib.hid (line_in (C := C) (n := n) (q := q) (j := j) (m := m + 1) (zs := zs) (fun i hi => HS5.out i (by have := HK.out; omega)))
          have HLL := Lib.hid (show (lineL C (rsL zs n q) j (m + 1)).length ≤ 1000 by unfold lineL; rw [List.length_take]; omega)
          have HLJ := Lib.hid (show (linesL C (rsL zs n q) j).length ≤ 1000000 by rw [lines_len]; have := HQ2.out; rw [HQ.out] at this; have := HK.out; have : j ≤ j * C := Nat.le_mul_of_pos_right j (by omega); have := HKk.out; omega)
          have HC00 := Lib.hid (show 0 < C by omega)
          clear hmc hc1 hm hC hC2 hR hR2
          go_upto_block 2 with (fail)
          generalize lineL C (rsL zs n q) j (m + 1) = F at *
          have HK1W := Lib.hid hk1
          clear hmod hcw hcw' hC0 hC0' hk1 ht
          go_wp2
          go_loop [10] (fun s10 => ∃ l : List Nat, s10 = .string (asc l) ∧ Hid (∃ i, F = l ++ List.replicate i 32)) (fun s10 => match s10 with | .string s => s.size | _ => 0)
          case atStart => exact ⟨F, rfl, Lib.hid ⟨0, by simp⟩⟩
          case round =>
            obtain ⟨l, rfl, HI⟩ := hrel
            rcases nil_or_snoc l with rfl | ⟨x, d, rfl⟩
            · have HE := Lib.hid (show asc [] = asc (trimL F) by obtain ⟨i, hi⟩ := HI.out; rw [hi, trim_rep]; rfl)
              have hz : (asc []).size = 0 := rfl
              clear HI
              generalize asc [] = S at *
              have hal : Below w6.heap.size w6 (w6.alloc (.cells #[.string S] 9)) := below_one w6 _
              have HC7 := Lib.hid (one_text w6 S)
              have HT7 := Lib.hid (HT6.out.below hal)
              have HR7 := Lib.hid (HR6.out.then_ hal (Nat.le_refl _))
              have HP7 := Lib.hid ((hal.block _ (Array.getElem?_eq_some_iff.1 HP6.out).1).trans HP6.out)
              have HB7 := Lib.hid (below_then HB6.out hal HB6.out.size)
              have HBs7 := Lib.hid (Nat.le_trans HBs6.out hal.size)
              clear hal
              have hk1 := HK1W.out
              go_wp2_with (at_builtin; (refine wpList_append_tx rfl _ _ rfl B _ (linesL C (rsL zs n q) j) rfl HT7.out w6.heap.size 1 S rfl HC7.out HLJ.out HBs7.out ?_); intro v5 w5 o5 b5; have HT8 := Lib.hid (show Tr w5 B v5 (linesL C (rsL zs n q) (j + 1)) by rw [HLS.out, ← HE.out]; exact o5); have HR8 := Lib.hid (RB.then_' HR7.out b5 HGW.out); have HP8 := Lib.hid ((b5.block _ HPZ.out).trans HP7.out); have HB8 := Lib.hid (HB7.out.trans (⟨b5.os, b5.tape, b5.output, b5.size, fun j hj => b5.block j (Nat.lt_of_lt_of_le hj HWB.out)⟩ : Below W.heap.size _ w5)); have HBs8 := Lib.hid (Nat.le_trans HBs7.out b5.size); clear o5 b5)
              go_roundw
              · exact ⟨j + 1, 0, k + 1, HKk.out.1, HC00.out, HK1, by go_num, rfl, HT8, HR8, HP8, HB8, HBs8, HS5⟩
              · simp only [intOf]; exact HKk.out.2
            · obtain ⟨i, hi⟩ := HI.out
              obtain ⟨hd, hx⟩ := lastF hi HIL.out HLL.out
              have hz := asc_size (x ++ [d])
              rw [List.length_append, List.length_singleton] at hz
              have hat : ∀ h, (((asc (x ++ [d]))[x.length]'h).toNat : Int) = (d : Int) := fun h => by
                rw [asc_at (x ++ [d]) x.length h (by simp) (by simpa using hd)]; simp
              have hcut : (asc (x ++ [d])).extract 0 x.length = asc x := by rw [asc_cut]; simp
              have HT0 := Lib.hid (show d ≠ 32 → asc (x ++ [d]) = asc (trimL F) from fun h => by rw [hi, trim_rep, trim_last _ _ h])
              have HK2 := Lib.hid (show d = 32 → ∃ i, F = x ++ List.replicate i 32 from fun h => ⟨i + 1, by rw [hi, h, List.append_assoc, List.replicate_succ]; rfl⟩)
              have HXS := Lib.hid (asc_size x)
              generalize asc (x ++ [d]) = S at *
              generalize x.length = y at *
              obtain ⟨⟨h1, h2⟩, ⟨h1', h2'⟩, ⟨h6, h6'⟩, h3, h4, h5⟩ := ynums y hx
              clear hi hd hx HI h1 h2 h1' h2'
              by_cases h32 : d = 32
              · have hb := eq32 h32
                have HKn := Lib.hid (HK2.out h32)
                have HSZ := Lib.hid hz
                clear h32
                go_wp2
                go_round
                · exact ⟨x, rfl, HKn⟩
                · show (asc x).size < S.size
                  rw [HSZ.out, HXS.out]; exact Nat.lt_succ_self _
              · have hb := ne32 h32
                have HE := Lib.hid (HT0.out h32)
                have hal : Below w6.heap.size w6 (w6.alloc (.cells #[.string S] 9)) := below_one w6 _
                have HC7 := Lib.hid (one_text w6 S)
                have HT7 := Lib.hid (HT6.out.below hal)
                have HR7 := Lib.hid (HR6.out.then_ hal (Nat.le_refl _))
                have HP7 := Lib.hid ((hal.block _ (Array.getElem?_eq_some_iff.1 HP6.out).1).trans HP6.out)
                have HB7 := Lib.hid (below_then HB6.out hal HB6.out.size)
                have HBs7 := Lib.hid (Nat.le_trans HBs6.out hal.size)
                clear h32 hal
                have hk1 := HK1W.out
                go_wp2_with (at_builtin; (refine wpList_append_tx rfl _ _ rfl B _ (linesL C (rsL zs n q) j) rfl HT7.out w6.heap.size 1 S rfl HC7.out HLJ.out HBs7.out ?_); intro v5 w5 o5 b5; have HT8 := Lib.hid (show Tr w5 B v5 (linesL C (rsL zs n q) (j + 1)) by rw [HLS.out, ← HE.out]; exact o5); have HR8 := Lib.hid (RB.then_' HR7.out b5 HGW.out); have HP8 := Lib.hid ((b5.block _ HPZ.out).trans HP7.out); have HB8 := Lib.hid (HB7.out.trans (⟨b5.os, b5.tape, b5.output, b5.size, fun j hj => b5.block j (Nat.lt_of_lt_of_le hj HWB.out)⟩ : Below W.heap.size _ w5)); have HBs8 := Lib.hid (Nat.le_trans HBs7.out b5.size); clear o5 b5)
                go_roundw
                · exact ⟨j + 1, 0, k + 1, HKk.out.1, HC00.out, HK1, by go_num, rfl, HT8, HR8, HP8, HB8, HBs8, HS5⟩
                · simp only [intOf]; exact HKk.out.2
        · have ht : ((m : Int) == (c1 : Int)) = false := by rw [beq_eq_false_iff_ne]; omega
          have HM1 := Lib.hid (show m + 1 < C by omega)
          have HK1 := Lib.hid (show k + 1 = j * C + (m + 1) by rw [HK.out]; rfl)
          clear hmc hc1 hm hC hC2 hR hR2
          go_wp2
          go_roundw
          · exact ⟨j, m + 1, k + 1, HKk.out.1, HM1.out, HK1, by go_num, rfl, HT6, HR6, HP6, HB6, HBs6, HS5⟩
          · simp only [intOf]; exact HKk.out.2
    · obtain rfl : k = q := by omega
      obtain ⟨rfl, rfl⟩ := all_rows (HQ.out.trans HK.out) hm
      have HL := Lib.hid (lines_len C (rsL zs n k) R)
      have HU : ∃ a2 cp, u9 = .slice a2 R cp ∧ Tx wr a2 (linesL C (rsL zs n k) R) := by
        obtain ⟨a2, cp, h1, h2⟩ := HT.out.slice
        rw [HL.out] at h1
        exact ⟨a2, cp, h1, h2⟩
      obtain ⟨a2, cp, rfl, hx2⟩ := HU
      have hsc := rb_sc HR.out
      have HSI := Lib.hid (rs_in HS.out)
      have HM11 := Lib.hid (fun w1 (hb : Below wr.heap.size wr w1) => show Calls Tryd.prog 11 #[.agg #[.int .i64 R, .int .i64 C, .slice (some ⟨g, 0, none⟩) k k, .int .i64 0, .int .i64 0, .bool false, .string ⟨#[]⟩]] w1 fun e w' => e = .returned (.bool true) ∧ Below w1.heap.size w1 w' from mayN R C 0 0 g 0 k k false (celL zs n k k) w1 hR hC hR2 hC2 (by omega) (by omega) (cel_len zs n k k (Nat.le_refl _)).symm (hsc.then_ hb (Nat.le_refl _)) (cel_nw HS.out) HQ.out.symm)
      have HM13 := Lib.hid (fun w1 (hb : Below wr.heap.size wr w1) => show Calls Tryd.prog 13 #[.agg #[.int .i64 R, .int .i64 C, .slice (some ⟨g, 0, none⟩) k k, .int .i64 0, .int .i64 0, .bool false, .string ⟨#[]⟩]] w1 fun e w' => ∃ v, e = .returned v ∧ Tr w' w1.heap.size v (linesL C (rsL zs n k) R) ∧ Below w1.heap.size w1 w' from textN R C 0 0 g 0 k k false (celL zs n k k) (rsL zs n k) w1 hR hC hR2 hC2 (by omega) (by omega) (cel_len zs n k k (Nat.le_refl _)).symm (Nat.le_refl _) (hsc.then_ hb (Nat.le_refl _)) (cel_nw HS.out) HQ.out.symm (cel_r zs n k) (fun c hc => by have := HSI.out c hc; omega))
      have HM12 := Lib.hid (fun w1 (hb : Below wr.heap.size wr w1) (a1 : Option Addr) (c1 : Nat) (h1 : Tx w1 a1 (linesL C (rsL zs n k) R)) => textsSame a1 a2 R c1 cp (linesL C (rsL zs n k) R) w1 HL.out (by omega) h1 (tx_then hx2 hb (Nat.le_refl _)))
      clear hx2 hsc hm hk hlt hR hR2 hC hC2
      go_wp2_with (first
        | (go_at_call 6; (with_reducible refine (firstC _).mono ?_); rintro e w1 ⟨rfl, hb⟩; have HB1 := Lib.hid hb; have f0 := cell_then hb (Nat.le_refl _) d0; have f1 := cell_then hb (Nat.le_refl _) d1; have f2 := cell_then hb (Nat.le_refl _) d2; have f3 := cell_then hb (Nat.le_refl _) d3; have f4 := cell_then hb (Nat.le_refl _) d4; have f5 := cell_then hb (Nat.le_refl _) d5; have f6 := cell_then hb (Nat.le_refl _) d6; clear hb)
        | (go_at_call 11; (with_reducible refine (HM11.out _ HB1.out).mono ?_); rintro e w2 ⟨rfl, hb⟩; have HB2 := Lib.hid (below_then HB1.out hb HB1.out.size); replace f0 := cell_then hb (Nat.le_refl _) f0; replace f1 := cell_then hb (Nat.le_refl _) f1; replace f2 := cell_then hb (Nat.le_refl _) f2; replace f3 := cell_then hb (Nat.le_refl _) f3; replace f4 := cell_then hb (Nat.le_refl _) f4; replace f5 := cell_then hb (Nat.le_refl _) f5; replace f6 := cell_then hb (Nat.le_refl _) f6; clear hb)
        | (go_at_call 13; (with_reducible refine (HM13.out _ HB2.out).mono ?_); rintro e w3 ⟨v3, rfl, ht3, hb⟩; have HB3 := Lib.hid (below_then HB2.out hb HB2.out.size); obtain ⟨a1, c1, rfl, hx1⟩ := tr_slice ht3 HL.out; have HX1 := Lib.hid hx1; clear hb ht3 hx1)
        | (go_at_call 12; (with_reducible refine (HM12.out _ HB3.out _ _ HX1.out).mono ?_); rintro e w4 ⟨rfl, kk, hkk⟩; have HB4 := Lib.hid (show Below wr.heap.size wr w4 by rw [← hkk]; exact ⟨HB3.out.os, HB3.out.tape, HB3.out.output, HB3.out.size, HB3.out.block⟩); clear hkk))
      go_ret
      exact ⟨rfl, below_then HB.out HB4.out HB.out.size⟩
end Go.Proofs.YtjfeejoplchmpaaDoor.Tb
