/- FragSizes: the walk. -/
import Derived.Test.YtellhkcleicfbaaFk
set_option linter.unusedVariables false
namespace Go.Proofs.Ytellhkcleicfbaa.Fl
open Go Go.RowKit Go.MapKept Kit Crc Var Get Bytes WireFirst Ref3 Copy Ap Rd RdA RdB RdC RdD RdE Fr Fa Sb Fb Fc Fd Fe Ff Fg Fh Fi Fj Fk

theorem add_plain (b o i : Nat) : (⟨b, o, none⟩ : Addr).add i = ⟨b, o + i, none⟩ := by unfold Addr.add; split <;> simp_all
/-- bytes that came in. -/
theorem row_nats {w : World} {a : Option Addr} {len cap : Nat} {zs : List Int} (h : IsRow .u8 w a len cap zs) : ∃ l : List Nat, l.length = len ∧ Sl w a l ∧ (∀ c ∈ l, c < 256) ∧ (a = none → cap = 0) ∧ len ≤ cap := by
  rcases h with ⟨rfl, rfl, rfl, rfl⟩ | ⟨⟨b, off, sp⟩, rfl, hl, hm, hz, hc, hw⟩
  · exact ⟨[], rfl, .inl rfl, by simp, fun _ => rfl, Nat.le_refl _⟩
  · by_cases h0 : len = 0
    · subst h0; exact ⟨[], rfl, .inl rfl, by simp, (fun e => by cases e), Nat.zero_le _⟩
    · have hsp : sp = none := by simpa [Addr.add] using World.cell?_spot (hc 0 (by omega))
      subst hsp
      have hlt : ∀ i, i < len → ((zs.getD i 0).toNat : Int) = zs.getD i 0 ∧ (zs.getD i 0).toNat < 256 := by
        intro i hi
        have hmem : zs.getD i 0 ∈ zs := by rw [List.getD_eq_getElem?_getD, List.getElem?_eq_getElem (by omega)]; exact List.getElem_mem _
        have := hw _ hmem
        simp only [Lit.wf, Bool.and_eq_true, decide_eq_true_eq] at this
        have h1 : IntKind.u8.min = 0 := rfl
        have h2 : IntKind.u8.max = 255 := rfl
        omega
      refine ⟨(List.range len).map fun i => (zs.getD i 0).toNat, by simp, .inr ⟨b, off, rfl, fun i hi => ?_⟩, ?_, (fun e => by cases e), hl⟩
      · have hi' : i < len := by simpa using hi
        have := hc i (by omega)
        rw [add_plain] at this
        rw [this]
        simp only [List.getElem_map, List.getElem_range]
        rw [(hlt i hi').1]
      · intro c hcc
        simp only [List.mem_map, List.mem_range] at hcc
        obtain ⟨i, hi, rfl⟩ := hcc
        exact (hlt i hi).2
theorem chunk_len (b : List Nat) (i : Nat) : (chunk b i).length = min 256 (b.length - i * 256) := by unfold chunk; rw [List.length_take, List.length_drop]
theorem cnt_bounds {n : Nat} (h : n ≤ 5000) : cntN n ≤ 20 ∧ 1 ≤ cntN n ∧ n ≤ 256 * cntN n ∧ (n ≤ 256 * (cntN n - 1) → cntN n = 1) := by unfold cntN; omega
theorem chunk_full {b : List Nat} {i : Nat} (h : i + 1 < cntN b.length) : (chunk b i).length = 256 := by
  rw [chunk_len]
  unfold cntN at h
  omega
/-- how long a part is. -/
theorem cut_len {id : Nat} {b : List Nat} (hid : id ≤ 4611686018427387904) (hb : b.length ≤ 5000) (i : Nat) (hi : i < cntN b.length) : 3 + (chunk b i).length ≤ (cutP id b i).length ∧ (cutP id b i).length ≤ 270 := by
  have hc := cnt_bounds hb
  have h1 : (varL id).length ≤ 9 := varL_len 8 id (by omega)
  have h2 : (varL i).length = 1 := varL_one (by omega)
  have h3 : (varL (cntN b.length)).length = 1 := varL_one (by omega)
  have h4 := varL_pos id
  have h5 := chunk_len b i
  unfold cutP partL
  simp only [List.length_append]
  omega
def sumL (M : Nat → List Nat) : Nat → Nat
  | 0 => 0
  | k + 1 => sumL M k + (M k).length
theorem sum_le {id : Nat} {b : List Nat} (hid : id ≤ 4611686018427387904) (hb : b.length ≤ 5000) : ∀ k, k ≤ cntN b.length → 3 * k + min b.length (k * 256) ≤ sumL (cutP id b) k ∧ sumL (cutP id b) k ≤ 270 * k
  | 0, _ => by simp [sumL]
  | k + 1, hk => by
    have ih := sum_le hid hb k (by omega)
    have h1 := cut_len hid hb k (by omega)
    rw [chunk_len] at h1
    rw [sumL]
    omega
set_option maxRecDepth 100000 in
set_option maxHeartbeats 4000000 in
/-- too many bytes. -/
theorem szLong (id over : Int) (a : Option Addr) (n cap : Nat) (W : World) (hn : 5000 < n) :
    Calls Try.prog 5 #[.int .u64 id, .slice a n cap, .int .i64 over] W fun e w' => e = .returned (.bool true) ∧ Below W.heap.size W w' := by
  have HFIRST := Lib.hid (fun w => firstF w)
  have d1 : (5000 : Int) < (n : Int) := by omega
  clear hn
  go_enter Try.func5, Try.ntmps5
  go_wp2_with (first
    | (go_at_call 7; (with_reducible refine (HFIRST.out W).mono ?_); rintro e w1 ⟨rfl, hb⟩; have HB1 := Lib.hid hb; clear hb)
    | (go_at_call 7; (with_reducible refine (HFIRST.out w1).mono ?_); rintro e w2 ⟨rfl, hb⟩; have HB2 := Lib.hid (below_next2 HB1.out hb); clear hb))
  go_ret
  exact ⟨rfl, HB2.out⟩
set_option maxRecDepth 100000 in
set_option maxHeartbeats 4000000 in
/-- an id that is none. -/
theorem szId (id over : Int) (a : Option Addr) (n cap : Nat) (W : World) (hn : n ≤ 5000) (hid : id = 0 ∨ 4611686018427387904 < id) :
    Calls Try.prog 5 #[.int .u64 id, .slice a n cap, .int .i64 over] W fun e w' => e = .returned (.bool true) ∧ Below W.heap.size W w' := by
  have HFIRST := Lib.hid (fun w => firstF w)
  have HCU := Lib.hid (fun w => cutId id a n cap w hid)
  have d1 : ¬ (5000 : Int) < (n : Int) := by omega
  rcases hid with hid | hid
  · have d2 : id < 1 := by omega
    clear hn hid
    go_enter Try.func5, Try.ntmps5
    go_wp2_with (first
      | (go_at_call 7; (with_reducible refine (HFIRST.out W).mono ?_); rintro e w1 ⟨rfl, hb⟩; have HB1 := Lib.hid hb; clear hb)
      | (go_at_call 8; (with_reducible refine (HCU.out _).mono ?_); rintro e w' ⟨rfl, rfl⟩)
      | (go_at_call 7; (with_reducible refine (HFIRST.out w1).mono ?_); rintro e w2 ⟨rfl, hb⟩; have HB2 := Lib.hid (below_next2 HB1.out hb); clear hb))
    go_ret
    exact ⟨rfl, HB2.out⟩
  · have d2 : ¬ id < 1 := by omega
    have d3 : 4611686018427387904 < id := hid
    clear hn hid
    go_enter Try.func5, Try.ntmps5
    go_wp2_with (first
      | (go_at_call 7; (with_reducible refine (HFIRST.out W).mono ?_); rintro e w1 ⟨rfl, hb⟩; have HB1 := Lib.hid hb; clear hb)
      | (go_at_call 8; (with_reducible refine (HCU.out _).mono ?_); rintro e w' ⟨rfl, rfl⟩)
      | (go_at_call 7; (with_reducible refine (HFIRST.out w1).mono ?_); rintro e w2 ⟨rfl, hb⟩; have HB2 := Lib.hid (below_next2 HB1.out hb); clear hb))
    go_ret
    exact ⟨rfl, HB2.out⟩
set_option maxRecDepth 100000 in
set_option maxHeartbeats 8000000 in
theorem szMain (id : Nat) (over : Int) (a : Option Addr) (n cap : Nat) (b : List Nat) (W : World) (hn : n = b.length) (hn5 : n ≤ 5000) (hid : 1 ≤ id ∧ id ≤ 4611686018427387904) (hp : Pt W ⟨a, cap, b⟩) :
    Calls Try.prog 5 #[.int .u64 (id : Int), .slice a n cap, .int .i64 over] W fun e w' => e = .returned (.bool true) ∧ Below W.heap.size W w' := by
  have HFIRST := Lib.hid (fun w => firstF w)
  obtain ⟨q, hq⟩ : ∃ q, cntN n = q := ⟨_, rfl⟩
  have HCU := Lib.hid (fun w1 (hb : Below W.heap.size W w1) => cutX id a n cap b w1 hn (by omega) (pt_then hb (Nat.le_refl _) hp) hid q hq)
  have hcb := cnt_bounds (n := n) hn5
  rw [hq] at hcb
  have HS := Lib.hid (show ∀ k, k ≤ q → 3 * k + min n (k * 256) ≤ sumL (cutP id b) k ∧ sumL (cutP id b) k ≤ 270 * k from fun k hk => by rw [hn]; exact sum_le hid.2 (by omega) k (by rw [← hn, hq]; exact hk))
  have HLEN := Lib.hid (show ∀ k, k < q → (cutP id b k).length ≤ 270 ∧ (k + 1 < q → 259 ≤ (cutP id b k).length) from fun k hk => by
    have h1 := cut_len hid.2 (b := b) (by omega) k (by rw [← hn, hq]; exact hk)
    refine ⟨h1.2, fun h2 => ?_⟩
    have h3 := chunk_full (b := b) (i := k) (by rw [← hn, hq]; exact h2)
    omega)
  have HSN := Lib.hid (show ∀ k, sumL (cutP id b) (k + 1) = sumL (cutP id b) k + (cutP id b k).length from fun k => rfl)
  have HS0 := Lib.hid (show sumL (cutP id b) 0 = 0 from rfl)
  generalize hMM : cutP id b = M at *
  generalize sumL M = S at *
  have d1 : ¬ (5000 : Int) < (n : Int) := by omega
  have d2 : ¬ (id : Int) < 1 := by omega
  have d3 : ¬ (4611686018427387904 : Int) < (id : Int) := by omega
  have e1 : IntKind.i64.wrap ((n : Int) + 256) = (n : Int) + 256 := IntWalk.i64_in _ (by omega)
  have e2 : IntKind.i64.wrap ((n : Int) + 256 - 1) = (n : Int) + 256 - 1 := IntWalk.i64_in _ (by omega)
  have e3 : (if ((n : Int) + 256 - 1) / 256 < 1 then (1 : Int) else ((n : Int) + 256 - 1) / 256) = (q : Int) := by
    rw [← hq]; unfold cntN
    split <;> omega
  have HQ := Lib.hid hcb
  have HN5 := Lib.hid hn5
  have HLO := Lib.hid (fun w (h : 1 ≤ over ∧ over ≤ 9) (a : Option Addr) (k c : Nat) (hk : (k : Int) = 1048576 + over) => cutLong id a k c w hid (by omega))
  clear hn hn5 hp hMM hcb hq
  go_enter Try.func5, Try.ntmps5
  go_wp2_with (first
    | (go_at_call 7; (with_reducible refine (HFIRST.out W).mono ?_); rintro e w1 ⟨rfl, hb⟩; have HB1 := Lib.hid hb; clear hb)
    | (go_at_call 8; (with_reducible refine (HCU.out w1 HB1.out).mono ?_); rintro e w2 ⟨la, lc, A, C, rfl, hlc, hd, hb⟩; have HB2 := Lib.hid (below_next2 HB1.out hb); have HD := Lib.hid hd; have HLC := Lib.hid hlc; clear hb hd hlc))
  obtain ⟨gl, rfl, _, _⟩ := HD.out.cell 0 HQ.out.2.1
  go_loopw [10, 11] (fun s10 s11 wr => ∃ k : Nat, k ≤ q ∧ s11 = .int .i64 (k : Int) ∧ s10 = .int .i64 (S k : Int) ∧ wr = w2) (fun _ s11 _ => q - (intOf s11).toNat)
  case atStart => exact ⟨0, Nat.zero_le _, rfl, by rw [HS0.out]; rfl, rfl⟩
  case round =>
    obtain ⟨k, hk, rfl, rfl, rfl⟩ := hrel
    by_cases hlt : k < q
    · obtain ⟨gl', e, _, hc⟩ := HD.out.cell k hlt
      injection e with e; injection e with e
      subst e
      obtain ⟨L, hL⟩ : ∃ L, L = (M k).length := ⟨_, rfl⟩
      rw [← hL] at hc
      have hl := HLEN.out k hlt
      have hs := HS.out k (by omega)
      have hs1 := HSN.out k
      rw [← hL] at hl hs1
      obtain ⟨s, hsk⟩ : ∃ s, s = S k := ⟨_, rfl⟩
      rw [← hsk] at hs hs1 ⊢
      have hqI : (k : Int) < (q : Int) := by omega
      have hw1 : IntKind.i64.wrap ((k : Int) + 1) = (k : Int) + 1 := IntWalk.i64_in _ (by have := HQ.out; omega)
      have hw2 : IntKind.i64.wrap ((s : Int) + (L : Int)) = (s : Int) + (L : Int) := IntWalk.i64_in _ (by have := HQ.out; omega)
      have hw3 : IntKind.i64.wrap ((q : Int) - 1) = (q : Int) - 1 := IntWalk.i64_in _ (by have := HQ.out; omega)
      have t1 : ¬ (270 : Int) < (L : Int) := by omega
      have HIQ := Lib.hid (show k + 1 ≤ q ∧ q - (k + 1) < q - k by omega)
      have HSS := Lib.hid (show (s : Int) + (L : Int) = (S (k + 1) : Int) by rw [hs1]; omega)
      by_cases hlast : k + 1 < q
      · have t2 : (k : Int) < (q : Int) - 1 := by omega
        have t3 : ¬ (L : Int) < 259 := by have := hl.2 hlast; omega
        clear hk hlt hL hl hs hs1 hsk hlast
        go_wp2
        first
          | exact ⟨⟨k + 1, HIQ.out.1, by go_num, by rw [HSS.out], (by first | trivial | rfl)⟩, by simp only [intOf]; exact HIQ.out.2⟩
          | (go_roundw
             · exact ⟨k + 1, HIQ.out.1, by go_num, by rw [HSS.out], (by first | trivial | rfl)⟩
             · simp only [intOf]; exact HIQ.out.2)
      · have t2 : ¬ (k : Int) < (q : Int) - 1 := by omega
        clear hk hlt hL hl hs hs1 hsk hlast
        go_wp2
        first
          | exact ⟨⟨k + 1, HIQ.out.1, by go_num, by rw [HSS.out], (by first | trivial | rfl)⟩, by simp only [intOf]; exact HIQ.out.2⟩
          | (go_roundw
             · exact ⟨k + 1, HIQ.out.1, by go_num, by rw [HSS.out], (by first | trivial | rfl)⟩
             · simp only [intOf]; exact HIQ.out.2)
    · obtain rfl : k = q := by omega
      have hs := HS.out k (Nat.le_refl _)
      have hq := HQ.out
      obtain ⟨s, hsk⟩ : ∃ s, s = S k := ⟨_, rfl⟩
      rw [← hsk] at hs ⊢
      have hge : (n : Int) + 3 * (k : Int) ≤ (s : Int) := by omega
      have hw1 : IntKind.i64.wrap (3 * (k : Int)) = 3 * (k : Int) := IntWalk.i64_in _ (by omega)
      have hw2 : IntKind.i64.wrap ((n : Int) + 3 * (k : Int)) = (n : Int) + 3 * (k : Int) := IntWalk.i64_in _ (by have := HN5.out; omega)
      clear hs hq hsk hlt hk
      by_cases ho : 1 ≤ over ∧ over ≤ 9
      · obtain ⟨t, ht⟩ := Int.eq_ofNat_of_zero_le (a := 1048576 + over) (by omega)
        have h1 : ¬ over < 1 := by omega
        have h2 : ¬ 9 < over := by omega
        have hw3 : IntKind.i64.wrap (1048576 + over) = (t : Int) := by rw [IntWalk.i64_in _ (by omega)]; exact ht
        have HLO2 := Lib.hid (fun w a c => HLO.out w ho a t c (by omega))
        obtain ⟨i0, hi, hz0, hz1, hz2⟩ := info_parts info5
        obtain ⟨O, HMK⟩ : ∃ O : Obj, Hid (∀ w : World, (Instr.makeSlice 23 (.int .i64 (t : Int)) (.int .i64 (t : Int))).run Try.prog w = .ok (.slice (some ⟨w.heap.size, 0, none⟩) t t) (w.alloc O)) :=
          ⟨_, Lib.hid (fun w => by
            have h := run_make (P := Try.prog) (w := w) 23 5 i0 (.int .u8 0) Try.underlying23 hi hz0 .i64 .i64 (t : Int) (t : Int) (Int.natCast_nonneg _) (Int.le_refl _) (by rw [hz2]; omega) (by omega)
            rw [Int.toNat_natCast] at h
            exact h)⟩
        have hmk := HMK.out wr
        clear ho ht hi hz0 hz1 hz2
        go_wp2_with (first
          | (go_at_call 8; (with_reducible refine (HLO2.out _ _ _).mono ?_); rintro e w' ⟨rfl, rfl⟩)
          | (go_at_call 7; (with_reducible refine (HFIRST.out _).mono ?_); rintro e w4 ⟨rfl, hb⟩; have HB4 := Lib.hid (below_next2 (below_next2 HB2.out (below_one wr _)) hb); clear hb))
        go_ret
        exact ⟨rfl, HB4.out⟩
      · rcases (show over < 1 ∨ (¬ over < 1 ∧ 9 < over) by omega) with h1 | ⟨h1, h2⟩
        all_goals
          clear ho
          go_wp2_with (go_at_call 7; (with_reducible refine (HFIRST.out _).mono ?_); rintro e w4 ⟨rfl, hb⟩; have HB4 := Lib.hid (below_next2 HB2.out hb); clear hb)
          go_ret
          exact ⟨rfl, HB4.out⟩
theorem inU {z : Int} (h : (Lit.int .u64 z).wf = true) : 0 ≤ z ∧ z < 18446744073709551616 := by
  simp only [Lit.wf, Bool.and_eq_true, decide_eq_true_eq] at h
  have h1 : IntKind.u64.min = 0 := rfl
  have h2 : IntKind.u64.max = 18446744073709551615 := rfl
  omega
/-- FragSizes. -/
theorem walk (id : Int) (a : Option Addr) (n cap : Nat) (zs : List Int) (over : Int) (W : World) (h1 : (Lit.int .u64 id).wf = true) (h2 : IsRow .u8 W a n cap zs) (_ : (Lit.int .i64 over).wf = true) :
    Calls Try.prog 5 #[.int .u64 id, .slice a n cap, .int .i64 over] W fun e w' => e = .returned (.bool true) ∧ Below W.heap.size W w' := by
  obtain ⟨h3, h4⟩ := inU h1
  by_cases hn : n ≤ 5000
  · by_cases hid : id = 0 ∨ 4611686018427387904 < id
    · exact szId id over a n cap W hn hid
    · obtain ⟨k, rfl⟩ := Int.eq_ofNat_of_zero_le h3
      obtain ⟨l, hl, hs, h8, h0, hcap⟩ := row_nats h2
      exact szMain k over a n cap l W hl.symm hn (by omega) ⟨hs, h0, by show l.length ≤ cap; omega, h8⟩
  · exact szLong id over a n cap W (by omega)
end Go.Proofs.Ytellhkcleicfbaa.Fl
