/- Package utf: Write; tikref.Runes; the examples of chapter 3. -/
import Derived.Test.YtlhapnnepcnfbabUGo
set_option linter.unusedVariables false
namespace Go.Proofs.Ytlhapnnepcnfbab.UDec
open Go Go.RowKit Words UMath

/-- what Write answers. -/
def WrP (w : World) (p : Nat) (d : Dec) (l : List Int) (e : Ending) (w' : World) : Prop :=
  ∃ v, e = .returned v ∧ w'.ownsRow w.heap.size 21 1 v (writeD d l).1.length (cellsK .i32 (writeD d l).1) ∧ Dw w' p (writeD d l).2 ∧ w.grownBy w' (some p)
theorem take_snoc_write (d : Dec) (l : List Int) (k : Nat) (hk : k < l.length) :
    writeD d (l.take (k + 1)) = ((writeD d (l.take k)).1 ++ (takeD (writeD d (l.take k)).2 l[k]).1, (takeD (writeD d (l.take k)).2 l[k]).2) := by
  rw [List.take_succ_eq_append_getElem hk, write_snoc]
set_option maxRecDepth 100000 in
set_option maxHeartbeats 1000000 in
theorem writeC (p : Nat) (d : Dec) (a : Option Addr) (l : List Int) (cap : Nat) (w : World) (h : Dw w p d) (hok : OkD d) (hl : l.length ≤ 20000) (hr : Row .u8 w a l) (hby : ∀ c ∈ l, 0 ≤ c ∧ c ≤ 255) (hne : 0 < l.length → ∀ b off, a = some ⟨b, off, none⟩ → b ≠ p) :
    Calls Try.prog 12 #[.pointer (some ⟨p, 0, none⟩), .slice a l.length cap] w (WrP w p d l) := by
  have hp := Blk.lt h
  have HR := Lib.hid hr
  have HB := Lib.hid hby
  have HD := Lib.hid h
  have HN := Lib.hid hne
  clear hr hby hne
  go_enter Try.func12, Try.ntmps12
  go_wp2
  go_loopw [5, 10] (fun s5 s10 wr => ∃ k : Nat, k ≤ l.length ∧ s10 = .int .i64 (k : Int) ∧ wr.ownsRow w.heap.size 21 1 s5 (writeD d (l.take k)).1.length (cellsK .i32 (writeD d (l.take k)).1) ∧ Dw wr p (writeD d (l.take k)).2 ∧ w.grownBy wr (some p)) (fun _ s10 _ => l.length - (intOf s10).toNat)
  case atStart => exact ⟨0, Nat.zero_le _, rfl, World.ownsRow_nil _ _ _ _, h, grownBy_refl _ _⟩
  case round =>
    obtain ⟨k, hk, rfl, hown, hd, hg⟩ := hrel
    by_cases hlt : k < l.length
    · have hlen := write_len d (l.take k)
      have hokk : OkD (writeD d (l.take k)).2 := ok_write hok (fun c hc => HB.out c (List.mem_of_mem_take hc))
      have hcb := HB.out l[k] (List.getElem_mem hlt)
      obtain ⟨b, off, rfl⟩ := HR.out.addr (by omega)
      have hcell := Row.at_ (HR.out.grown hg (fun x hx => by injection hx with hx; subst hx; exact fun e => HN.out (by omega) _ _ rfl (by injection e))) k hlt
      have HS := Lib.hid (take_snoc_write d l k hlt)
      have hlt' : (l.take k).length ≤ 20000 := by simp; omega
      generalize writeD d (l.take k) = r at *
      generalize l[k] = c at hcell hcb HS
      have hsz := hg.size
      go_wp2_with fail
      refine (takeC p w.heap.size u5 r.1 r.2 c wr hd hown hsz (by omega) hokk hcb.1 hcb.2).mono ?_
      rintro e w1 ⟨v1, rfl, ho1, hd1, ht1⟩
      have hg1 : w.grownBy w1 (some p) := ⟨ht1.os.trans hg.os, ht1.tape.trans hg.tape, ht1.output.trans hg.output, Nat.le_trans hg.size ht1.size, fun i hi hne => (ht1.block i (Nat.lt_of_lt_of_le hi hg.size) (fun e => hne (by rw [e])) (fun e => by have := (hown.lt i e.symm).1; omega)).trans (hg.block i hi hne)⟩
      go_wp2
      go_roundw
      case rel => exact ⟨k + 1, by omega, by go_num, by rw [HS.out]; exact ho1, by rw [HS.out]; exact hd1, hg1⟩
      case measure => simp [intOf]; omega
    · obtain rfl : k = l.length := by omega
      rw [List.take_of_length_le (Nat.le_refl _)] at hown hd
      have HO := Lib.hid hown
      clear hown
      go_wp2
      go_ret
      exact ⟨_, rfl, HO.out, hd, hg⟩
/-- tikref.Runes. -/
theorem runesLen (a1 a2 : Option Addr) (n1 n2 c1 c2 : Nat) (w : World) (h : n1 ≠ n2) :
    Calls Try.prog 11 #[.slice a1 n1 c1, .slice a2 n2 c2] w fun e w' => e = .returned (.bool false) ∧ w = w' := by
  have hb : ((n1 : Int) != (n2 : Int)) = true := by simp; omega
  go_enter Try.func11, Try.ntmps11
  go_wp2
  go_ret
  exact ⟨rfl, rfl⟩
theorem runesEmpty (a1 a2 : Option Addr) (c1 c2 : Nat) (w : World) :
    Calls Try.prog 11 #[.slice a1 0 c1, .slice a2 0 c2] w fun e w' => e = .returned (.bool true) ∧ w = w' := by
  go_enter Try.func11, Try.ntmps11
  go_wp2
  refine wp_loop_rounds 1 ?_
  rw [rounds_succ]
  go_wp2
  go_ret
  exact ⟨rfl, rfl⟩
set_option maxRecDepth 100000 in
set_option maxHeartbeats 1000000 in
theorem runesRow (b1 o1 b2 o2 c1 c2 : Nat) (l m : List Int) (w : World) (hlm : l.length = m.length) (hm : l.length ≤ 9223372036854775000)
    (h1 : ∀ i, (h : i < l.length) → w.cell? ⟨b1, o1 + i, none⟩ = some (.int .i32 l[i])) (h2 : ∀ i, (h : i < m.length) → w.cell? ⟨b2, o2 + i, none⟩ = some (.int .i32 m[i])) :
    Calls Try.prog 11 #[.slice (some ⟨b1, o1, none⟩) l.length c1, .slice (some ⟨b2, o2, none⟩) m.length c2] w fun e w' => e = .returned (.bool (decide (l = m))) ∧ ∃ n, w.drewN n = w' := by
  have HL := Lib.hid hlm
  rw [← hlm]
  generalize hR : decide (l = m) = R
  have HR := Lib.hid hR
  clear hR
  go_enter Try.func11, Try.ntmps11
  go_wp2
  go_loopw [5] (fun s5 wr => ∃ k : Nat, k ≤ l.length ∧ s5 = .int .i64 k ∧ Hid (l.take k = m.take k) ∧ ∃ n, wr = w.drewN n) (fun s5 _ => l.length - (intOf s5).toNat)
  case atStart => exact ⟨0, Nat.zero_le _, rfl, Lib.hid rfl, 0, rfl⟩
  case round =>
    obtain ⟨k, hk, rfl, hT, n, rfl⟩ := hrel
    by_cases hlt : k < l.length
    · have hlt2 : k < m.length := by rw [← HL.out]; exact hlt
      have x1 := h1 k hlt
      have x2 := h2 k hlt2
      by_cases he : l[k] = m[k]
      · have hs := Lib.hid (take_eq_step hlt hlt2 hT.out he)
        rw [he] at x1
        have hne : ((m[k] : Int) != m[k]) = false := by simp
        generalize m[k] = v at x1 x2 hne
        clear he hlm h1 h2
        go_wp2
        go_quiet (fail)
        go_wp2
        exact ⟨⟨k + 1, by omega, by go_num, hs, _, rfl⟩, by simp only [intOf]; omega⟩
      · have hne : ((l[k] : Int) != m[k]) = true := by simpa using he
        have hF := Lib.hid (show l ≠ m from fun h => by subst h; exact he rfl)
        generalize m[k] = v at x2 hne
        generalize l[k] = u at x1 hne
        clear he hlm h1 h2
        go_wp2
        go_quiet (fail)
        go_wp2
        go_ret
        exact ⟨ret_bool (by rw [← HR.out]; simpa using hF.out), _, (World.drewN_drewN _ _ _).symm⟩
    · obtain rfl : k = l.length := by omega
      clear h1 h2 hlm
      go_wp2
      go_ret
      refine ⟨ret_bool ?_, _, rfl⟩
      rw [← HR.out]
      have := hT.out
      rw [List.take_of_length_le (Nat.le_refl _), List.take_of_length_le (by rw [HL.out]; exact Nat.le_refl _)] at this
      simpa using this
theorem runesC (a1 a2 : Option Addr) (c1 c2 : Nat) (l m : List Int) (w : World) (hm : l.length ≤ 9223372036854775000) (h1 : Row .i32 w a1 l) (h2 : Row .i32 w a2 m) :
    Calls Try.prog 11 #[.slice a1 l.length c1, .slice a2 m.length c2] w fun e w' => e = .returned (.bool (decide (l = m))) ∧ ∃ n, w.drewN n = w' := by
  by_cases hlm : l.length = m.length
  · rcases h1 with rfl | ⟨b1, o1, rfl, h1⟩
    · obtain rfl : m = [] := List.eq_nil_of_length_eq_zero hlm.symm
      exact (runesEmpty a1 a2 c1 c2 w).mono fun _ _ ⟨h, g⟩ => ⟨h, 0, g⟩
    · rcases h2 with rfl | ⟨b2, o2, rfl, h2⟩
      · obtain rfl : l = [] := List.eq_nil_of_length_eq_zero hlm
        exact (runesEmpty _ a2 c1 c2 w).mono fun _ _ ⟨h, g⟩ => ⟨h, 0, g⟩
      · exact runesRow b1 o1 b2 o2 c1 c2 l m w hlm hm h1 h2
  · rw [decide_eq_false (fun h => hlm (by rw [h]))]
    exact (runesLen a1 a2 _ _ c1 c2 w hlm).mono fun _ _ ⟨h, g⟩ => ⟨h, 0, g⟩
theorem isSignC (r : Int) (w : World) : Calls Try.prog 25 #[.int .i32 r] w fun e w' => e = .returned (.bool (signB r)) ∧ w = w' := by
  have HS : Hid (∀ b1 b2 b3 b4 : Bool, decide (0 ≤ r) = b1 → decide (r ≤ 1114111) = b2 → decide (r < 55296) = b3 → decide (57343 < r) = b4 → signB r = (b1 && b2 && (b3 || b4))) := fun b1 b2 b3 b4 h1 h2 h3 h4 => by unfold signB; rw [h1, h2, h3, h4]
  generalize signB r = R at *
  by_cases a1 : 0 ≤ r <;> by_cases a2 : r ≤ 1114111 <;> by_cases a3 : r < 55296 <;> by_cases a4 : 57343 < r
  all_goals try omega
  all_goals
    have HX := Lib.hid (HS.out _ _ _ _ rfl rfl rfl rfl)
    go_enter Try.func25, Try.ntmps25
    go_wp2
    go_ret
    refine ⟨ret_bool ?_, rfl⟩
    rw [HX.out]; simp [*]
theorem sizeC (r : Int) (w : World) : Calls Try.prog 17 #[.int .i32 r] w fun e w' => e = .returned (.int .i64 (sizeZ r)) ∧ w = w' := by
  have HX : Hid (sizeZ r = if fixZ r < 128 then 1 else if fixZ r < 2048 then 2 else if fixZ r < 65536 then 3 else 4) := rfl
  cases hs : signB r
  · have HF := Lib.hid (show sizeZ r = 3 by unfold sizeZ fixZ; rw [hs]; rfl)
    have HC := Lib.hid (fun w => isSignC r w)
    have HSS := Lib.hid hs
    clear hs
    go_enter Try.func17, Try.ntmps17
    go_wp2_with fail
    refine (HC.out w).mono ?_
    rw [HSS.out]
    rintro e w1 ⟨rfl, rfl⟩
    go_wp2
    go_ret
    exact ⟨ret_int (by rw [HF.out]), rfl⟩
  · have hf : fixZ r = r := by unfold fixZ; rw [hs]; rfl
    rw [hf] at HX
    have HC := Lib.hid (fun w => isSignC r w)
    have HSS := Lib.hid hs
    clear hs hf
    have hz : r < 128 ∧ Hid (sizeZ r = 1) ∨ 128 ≤ r ∧ r < 2048 ∧ Hid (sizeZ r = 2) ∨ 2048 ≤ r ∧ r < 65536 ∧ Hid (sizeZ r = 3) ∨ 65536 ≤ r ∧ Hid (sizeZ r = 4) := by
      rw [HX.out]
      by_cases a : r < 128
      · exact .inl ⟨a, by rw [if_pos a]; exact Lib.hid rfl⟩
      · by_cases b : r < 2048
        · exact .inr (.inl ⟨by omega, b, by rw [if_neg a, if_pos b]; exact Lib.hid rfl⟩)
        · by_cases c : r < 65536
          · exact .inr (.inr (.inl ⟨by omega, c, by rw [if_neg a, if_neg b, if_pos c]; exact Lib.hid rfl⟩))
          · exact .inr (.inr (.inr ⟨by omega, by rw [if_neg a, if_neg b, if_neg c]; exact Lib.hid rfl⟩))
    clear HX
    rcases hz with ⟨z1, hz⟩ | ⟨z1, z2, hz⟩ | ⟨z1, z2, hz⟩ | ⟨z1, hz⟩
    all_goals
      go_enter Try.func17, Try.ntmps17
      go_wp2_with fail
      refine (HC.out w).mono ?_
      rw [HSS.out]
      rintro e w1 ⟨rfl, rfl⟩
      go_wp2
      go_ret
      exact ⟨ret_int (by rw [hz.out]), rfl⟩
theorem ex1 : writeD d0 [226, 130, 65, 240, 128, 226] = ([65533, 65, 65533, 65533], ⟨2, 1, 3, 128, 191⟩) := by rfl
set_option maxRecDepth 100000 in
set_option maxHeartbeats 1000000 in
theorem first (w : World) : Calls Try.prog 9 #[] w fun e w' => e = .returned (.bool true) ∧ Below w.heap.size w w' := by
  have E1 := Lib.hid ex1
  have E2 := Lib.hid (show sizeZ 8364 = 3 by decide)
  go_enter Try.func9, Try.ntmps9
  go_wp2_with fail
  refine (newC w).mono ?_
  rintro e w1 ⟨rfl, rfl⟩
  have hd0 : Dw (w.alloc (.cells #[.int .i32 0, .int .i64 0, .int .i64 0, .int .u8 0, .int .u8 0] 43)) w.heap.size d0 := Blk.new _ _ _
  have hb0 := below_one w (.cells #[.int .i32 0, .int .i64 0, .int .i64 0, .int .u8 0, .int .u8 0] 43)
  generalize w.alloc (.cells #[.int .i32 0, .int .i64 0, .int .i64 0, .int .u8 0, .int .u8 0] 43) = w1 at *
  go_wp2_with fail
  refine (writeC w.heap.size d0 (some ⟨w1.heap.size, 0, none⟩) [226, 130, 65, 240, 128, 226] 6 _ (Blk.alloc hd0 _) ok0 (by decide) (Row.new rfl rfl 5) (by decide) (fun _ b off e => by injection e with e; injection e with e; have := Blk.lt hd0; omega)).mono ?_
  rintro e w2 ⟨v2, rfl, ho2, hd2, hg2⟩
  rw [E1.out] at ho2 hd2
  have hB2 : Below w.heap.size w w2 := below_put (below_al hb0) hg2 (Nat.le_refl _)
  obtain ⟨a2, cap2, rfl, hcap2, hr2, _, _⟩ := row_own ho2
  clear ho2 hg2
  go_wp2_with fail
  refine (runesC a2 (some ⟨w2.heap.size, 0, none⟩) cap2 4 [65533, 65, 65533, 65533] [65533, 65, 65533, 65533] _ (by decide) (hr2.alloc _) (Row.new rfl rfl 21)).mono ?_
  rintro e w3 ⟨rfl, k3, rfl⟩
  have hd3 : Dw ((w2.alloc (.cells (cellsK .i32 [65533, 65, 65533, 65533]).toArray 21)).drewN k3) w.heap.size ⟨2, 1, 3, 128, 191⟩ := Blk.drewN (Blk.alloc hd2 _) _
  have hB3 : Below w.heap.size w ((w2.alloc (.cells (cellsK .i32 [65533, 65, 65533, 65533]).toArray 21)).drewN k3) := below_drewN (below_al hB2) k3
  clear hd2 hB2 hr2
  generalize (w2.alloc (.cells (cellsK .i32 [65533, 65, 65533, 65533]).toArray 21)).drewN k3 = w3 at *
  go_wp2_with fail
  refine (pendC w.heap.size _ w3 hd3).mono ?_
  rintro e w4 ⟨rfl, rfl⟩
  go_wp2_with fail
  refine (flushC w.heap.size _ w3 hd3 (.inr (by decide))).mono ?_
  rintro e w4 ⟨v4, rfl, hd4, hg4, ho4⟩
  have hB4 : Below w.heap.size w w4 := below_put hB3 hg4 (Nat.le_refl _)
  rw [show flushL ⟨2, 1, 3, 128, 191⟩ = [65533] from rfl] at ho4
  obtain ⟨a4, cap4, rfl, hcap4, hr4, _, _⟩ := row_own ho4
  clear ho4 hg4 hB3 hd3
  go_wp2_with fail
  refine (runesC a4 (some ⟨w4.heap.size, 0, none⟩) cap4 1 [65533] [65533] _ (by decide) (hr4.alloc _) (Row.new rfl rfl 21)).mono ?_
  rintro e w5 ⟨rfl, k5, rfl⟩
  have hd5 : Dw ((w4.alloc (.cells (cellsK .i32 [65533]).toArray 21)).drewN k5) w.heap.size d0 := Blk.drewN (Blk.alloc hd4 _) _
  have hB5 : Below w.heap.size w ((w4.alloc (.cells (cellsK .i32 [65533]).toArray 21)).drewN k5) := below_drewN (below_al hB4) k5
  clear hd4 hB4 hr4
  generalize (w4.alloc (.cells (cellsK .i32 [65533]).toArray 21)).drewN k5 = w5 at *
  go_wp2_with fail
  refine (pendC w.heap.size _ w5 hd5).mono ?_
  rintro e w6 ⟨rfl, rfl⟩
  go_wp2_with fail
  refine (sizeC 8364 w5).mono ?_
  rw [E2.out]
  rintro e w6 ⟨rfl, rfl⟩
  go_wp2
  go_ret
  exact ⟨rfl, hB5⟩
end Go.Proofs.Ytlhapnnepcnfbab.UDec
