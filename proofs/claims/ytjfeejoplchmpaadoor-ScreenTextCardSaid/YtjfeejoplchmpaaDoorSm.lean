/- Screens: Text, of a narrow plain screen. -/
import Derived.Test.YtjfeejoplchmpaaDoorSl
set_option linter.unusedVariables false
namespace Go.Proofs.YtjfeejoplchmpaaDoor.Sm
open Go Go.RowKit Kit Gm Gv Sa Sb Sd Sf Sg Sh Si Sj Sk Sl

/-- what the rows say. -/
def linesL (C : Nat) (rs : List Nat) (k : Nat) : List ByteArray := (List.range k).map fun i => asc (trimL ((rs.drop (i * C)).take C))
theorem lines_len (C : Nat) (rs : List Nat) (k : Nat) : (linesL C rs k).length = k := by simp [linesL]
theorem lines_next (C : Nat) (rs : List Nat) (k : Nat) : linesL C rs (k + 1) = linesL C rs k ++ [asc (trimL ((rs.drop (k * C)).take C))] := by
  unfold linesL
  rw [List.range_succ, List.map_append]; rfl
theorem tr_base {w : World} {b1 b2 : Nat} {v : Value} {O : List ByteArray} (h : Tr w b1 v O) (hb : b2 ≤ b1) : Tr w b2 v O := by
  refine ⟨h.1, ?_⟩
  rcases h.2 with h | ⟨g, cap, cur, h1, h2, rest⟩
  · exact .inl h
  · exact .inr ⟨g, cap, cur, h1, Nat.le_trans hb h2, rest⟩
theorem Sc.cut {w : World} {b off : Nat} {L : List Ce} (h : Sc w b off L) (p m : Nat) : Sc w b (off + p * 5) ((L.drop p).take m) := by
  intro j hj i hi
  have hj2 : p + j < L.length := by rw [List.length_take, List.length_drop] at hj; omega
  have e := h (p + j) hj2 i hi
  rw [show off + p * 5 + j * 5 + i = off + (p + j) * 5 + i by omega, e, List.getElem_take, List.getElem_drop]
theorem wr64 (p : Nat) (h : p ≤ 1000000) : wrap64 (p : Int) = (p : Int) := IntWalk.wrap64_in _ (by omega)
theorem wrI (p : Nat) (h : p ≤ 1000000) : IntKind.i64.wrap (p : Int) = (p : Int) := IntWalk.i64_in _ (by omega)
theorem wrS (p : Nat) (h : p ≤ 1000000) : IntKind.i64.wrap ((p : Int) + 1) = (p : Int) + 1 := IntWalk.i64_in _ (by omega)
set_option maxRecDepth 100000 in
set_option maxHeartbeats 4000000 in
/-- screen.Text. -/
theorem textN (R C row col b off n cap : Nat) (hid : Bool) (L : List Ce) (rs : List Nat) (w : World) (hR : 1 ≤ R) (hC : 1 ≤ C) (hR2 : R ≤ 60) (hC2 : C ≤ 200) (hrow : row < R) (hcol : col < C) (hn : n = L.length) (hcap : n ≤ cap) (hs : Sc w b off L) (hN : Nw L) (hq : n = R * C)
    (hr : L.map Ce.r = rs.map (fun n : Nat => (n : Int))) (hrs : ∀ c ∈ rs, c < 128) :
    Calls Tryd.prog 13 #[svA ⟨R, C, row, col, hid, ⟨#[]⟩⟩ (some ⟨b, off, none⟩) n cap] w fun e w' => ∃ v, e = .returned v ∧ Tr w' w.heap.size v (linesL C rs R) ∧ Below w.heap.size w w' := by
  have hq2 : R * C ≤ 12000 := Nat.mul_le_mul hR2 hC2
  have hb := below_one w (svO ⟨R, C, row, col, hid, ⟨#[]⟩⟩ (some ⟨b, off, none⟩) n cap)
  have hA : (w.alloc (svO ⟨R, C, row, col, hid, ⟨#[]⟩⟩ (some ⟨b, off, none⟩) n cap)).heap[w.heap.size]? = some (svO ⟨R, C, row, col, hid, ⟨#[]⟩⟩ (some ⟨b, off, none⟩) n cap) := heap_alloc_last w _
  dsimp only [svO] at hb hA
  generalize hw1 : w.alloc (.cells #[.int .i64 R, .int .i64 C, .slice (some ⟨b, off, none⟩) n cap, .int .i64 row, .int .i64 col, .bool hid, .string ⟨#[]⟩] 24) = w1 at *
  obtain ⟨c0, c1, c2, c3, c4, c5, c6⟩ := seven (s := ⟨R, C, row, col, hid, ⟨#[]⟩⟩) hA
  dsimp only at c0 c1 c2 c3 c4 c5 c6
  have H11 := Lib.hid (mayN R C row col b off n cap hid L w1 hR hC hR2 hC2 hrow hcol hn (hs.then_ hb (Nat.le_refl _)) hN hq)
  have HLN := Lib.hid (fun (k : Nat) (hk : k < R) (w2 : World) (hb2 : Below w.heap.size w w2) (cp : Nat) =>
    (have hle : k * C + C ≤ n := by rw [hq, ← Nat.succ_mul]; exact Nat.mul_le_mul_right C hk
     lineN b (off + k * C * 5) C cp ((L.drop (k * C)).take C) ((rs.drop (k * C)).take C) w2 (by rw [List.length_take, List.length_drop]; omega) (by omega) (Sc.cut (hs.then_ hb2 (Nat.le_refl _)) (k * C) C) (fun c hc => (hN c (List.mem_of_mem_drop (List.mem_of_mem_take hc))).1) (by rw [List.map_take, List.map_drop, hr, List.map_take, List.map_drop]) (fun c hc => hrs c (List.mem_of_mem_drop (List.mem_of_mem_take hc)))))
  have HB := Lib.hid hb
  have HA := Lib.hid hA
  have HQ := Lib.hid (show n = R * C ∧ n ≤ 12000 ∧ n ≤ cap from ⟨hq, by omega, hcap⟩)
  have hRI : (R : Int) ≤ 60 := by omega
  clear hb hA hs hN hn hrow hcol hr hrs hq hcap hq2
  go_enter Tryd.func13, Tryd.ntmps13
  go_wp2_with (go_at_call 11; (with_reducible refine H11.out.mono ?_); rintro e w2 ⟨rfl, hb2⟩; have HB2 := Lib.hid (below_then HB.out hb2 HB.out.size); have HA2 := Lib.hid ((hb2.block _ (Array.getElem?_eq_some_iff.1 HA.out).1).trans HA.out); replace c0 := cell_then hb2 (Nat.le_refl _) c0; replace c1 := cell_then hb2 (Nat.le_refl _) c1; replace c2 := cell_then hb2 (Nat.le_refl _) c2; clear hb2)
  go_loopw [3, 10] (fun s3 s10 wr => ∃ k : Nat, k ≤ R ∧ s10 = .int .i64 k ∧ Hid (Tr wr (w.heap.size + 1) s3 (linesL C rs k)) ∧ Hid (Below w.heap.size w wr) ∧ Hid (wr.heap[w.heap.size]? = some (svO ⟨R, C, row, col, hid, ⟨#[]⟩⟩ (some ⟨b, off, none⟩) n cap))) (fun _ s10 _ => R - (intOf s10).toNat)
  case atStart => exact ⟨0, Nat.zero_le _, rfl, Lib.hid (Tr.nil _ _), HB2, HA2⟩
  case round =>
    obtain ⟨k, hk, rfl, HT, HBr, HAr⟩ := hrel
    by_cases hlt : k < R
    · have HKk := Lib.hid (show k + 1 ≤ R ∧ R - (k + 1) < R - k by omega)
      have hkI : (k : Int) < (R : Int) := by omega
      obtain ⟨d0, d1, d2, d3, d4, d5, d6⟩ := seven (s := ⟨R, C, row, col, hid, ⟨#[]⟩⟩) HAr.out
      dsimp only at d0 d1 d2 d3 d4 d5 d6
      have HL := Lib.hid (fun cp => HLN.out k hlt wr HBr.out cp)
      have HNX := Lib.hid (lines_next C rs k)
      have HLl := Lib.hid (show (linesL C rs k).length ≤ 1000000 by rw [lines_len]; omega)
      have hle : k * C + C ≤ n := by rw [HQ.out.1, ← Nat.succ_mul]; exact Nat.mul_le_mul_right C hlt
      generalize asc (trimL ((rs.drop (k * C)).take C)) = S at *
      generalize hQ : k * C = p at *
      obtain ⟨q, hq⟩ : ∃ q, q = p + C := ⟨_, rfl⟩
      have hnn := HQ.out.2.1
      have hcc := HQ.out.2.2
      have f4 : ¬ cap = p := by omega
      have f5 : p ≤ q := by omega
      have f6 : q ≤ cap := by omega
      have f7 : q - p = C := by omega
      have i1 : (k : Int) * (C : Int) = (p : Int) := by rw [← hQ]; exact (Int.natCast_mul k C).symm
      have i3 : ((k : Int) + 1) * (C : Int) = (q : Int) := by rw [hq, ← hQ, ← Nat.succ_mul]; exact (Int.natCast_mul _ _).symm
      have b1 : (p : Int) ≤ 1000000 := by omega
      have b2 : (k : Int) + 1 ≤ 1000000 := by omega
      have b3 : (q : Int) ≤ 1000000 := by omega
      have E1 := Lib.hid (wr_of (x := (k : Int) * (C : Int)) (by rw [i1]; exact Int.natCast_nonneg _) (by rw [i1]; exact b1) i1)
      have E2 := Lib.hid (wr_of (x := (k : Int) + 1) (Int.le_add_one (Int.natCast_nonneg _)) b2 rfl)
      have E3 := Lib.hid (wr_of (x := ((k : Int) + 1) * (C : Int)) (by rw [i3]; exact Int.natCast_nonneg _) (by rw [i3]; exact b3) i3)
      clear i1 i3 b1 b2 b3 hq hQ hle hnn hcc hk hlt hR hC hR2 hC2 hRI
      have e1 := E1.out.1
      have e2 := E2.out.1
      have e3 := E3.out.2
      go_wp2_with (first
        | (go_at_call 20; (with_reducible refine (HL.out _).mono ?_); rintro e w3 ⟨rfl, hb3⟩; have HB3 := Lib.hid (below_then HBr.out hb3 HBr.out.size); have HA3 := Lib.hid ((hb3.block _ (Array.getElem?_eq_some_iff.1 HAr.out).1).trans HAr.out); have hal : Below w3.heap.size w3 (w3.alloc (.cells #[.string S] 9)) := below_one w3 _; have HT2 := Lib.hid ((HT.out.below hb3).below hal); have HB2' := Lib.hid (below_then HB3.out hal HB3.out.size); have HA2' := Lib.hid ((hal.block _ (Array.getElem?_eq_some_iff.1 HA3.out).1).trans HA3.out); have HC2 := Lib.hid (one_text w3 S); have HSZ := Lib.hid (show w.heap.size + 1 ≤ (w3.alloc (.cells #[.string S] 9)).heap.size from (Array.getElem?_eq_some_iff.1 HA2'.out).1); clear hb3 hal)
        | (at_builtin; (refine wpList_append_tx rfl _ _ rfl (w.heap.size + 1) _ (linesL C rs k) rfl HT2.out w3.heap.size 1 S rfl HC2.out HLl.out HSZ.out ?_); intro v5 w5 o5 b5; have HT5 := Lib.hid (show Tr w5 (w.heap.size + 1) v5 (linesL C rs (k + 1)) by rw [HNX.out]; exact o5); have HA5 := Lib.hid ((b5.block _ (Nat.lt_succ_self _)).trans HA2'.out); have HB5 := Lib.hid (HB2'.out.trans (⟨b5.os, b5.tape, b5.output, b5.size, fun j hj => b5.block j (Nat.lt_succ_of_lt hj)⟩ : Below w.heap.size _ w5)); clear o5 b5))
      first
        | exact ⟨⟨k + 1, HKk.out.1, by go_num, HT5, HB5, HA5⟩, by simp only [intOf]; exact HKk.out.2⟩
        | (go_roundw
           · exact ⟨k + 1, HKk.out.1, by go_num, HT5, HB5, HA5⟩
           · simp only [intOf]; exact HKk.out.2)
    · obtain rfl : k = R := by omega
      clear hk hlt
      go_wp2
      go_ret
      exact ⟨_, rfl, tr_base HT.out (Nat.le_succ _), HBr.out⟩
end Go.Proofs.YtjfeejoplchmpaaDoor.Sm
