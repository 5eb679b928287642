/- EscFeeds: the walk. -/
import Derived.Test.YtnaiefjbfpejbaaJb
import Derived.Deep.CutRange
import Derived.Deep.RegionHeld3
set_option linter.unusedVariables false
namespace Go.Proofs.Ytnaiefjbfpejbaa.Jw
open Go Go.RowKit Kit Ep Eb Er Ea Es Et Eu Ev Ek Ew Ex Ey Ez Fa Fb Fc Fd Ga Gb Gc Ia Ib Ic Iq Jt Jo Jf Jp Ja


/-- how far the feeding is. -/
def RelW (w : World) (g gq : Nat) (l cs : List Int) (s7 s8 : Value) (wr : World) : Prop := ∃ (i d : Nat) (v x vq xq : Value) (ra : Option Addr) (rc : Nat) (R : List Int), i ≤ cs.length + 1 ∧ d ≤ l.length ∧ R = l.drop d ∧ s7 = .slice ra R.length rc ∧ s8 = .int .i64 (i : Int) ∧ Ja.Rs w ra rc R ∧ TwoP w g gq v x vq xq (pd l d) (qd l d) wr
theorem two_start {w w1 : World} (hb : Below w.heap.size w w1) : TwoP w w1.heap.size (w1.heap.size + 1) (.slice none 0 0) (.slice none 0 0) (.slice none 0 0) (.slice none 0 0) (bg 0) Ja.q0 ((w1.alloc (.cells #[.int .i64 0, .bool false, .int .i32 0, .int .i32 0, .slice none 0 0, .int .i64 0, .slice none 0 0] 49)).alloc (.cells #[.int .i64 0, .slice none 0 0, .bool false, .bool false, .int .i32 0, .int .i32 0, .slice none 0 0] 29)) := by
  have e : (w1.alloc (.cells #[.int .i64 0, .bool false, .int .i32 0, .int .i32 0, .slice none 0 0, .int .i64 0, .slice none 0 0] 49)).heap.size = w1.heap.size + 1 := by simp
  have hz := hb.size
  refine ⟨(new_pr w1).then_ ((Below.refl _ _).alloc (Nat.le_refl _) _) (Nat.le_refl _), ⟨?_, World.ownsRow_nil _ _ _ _, World.ownsRow_nil _ _ _ _⟩, below_then hb (past_two w1 _ _) hz, hz, by omega, (fun k hk => by cases hk), (fun k hk => by cases hk), (fun k hk => by cases hk), (fun k hk => by cases hk)⟩
  rw [← e]; exact heap_alloc_last (w1.alloc (.cells #[.int .i64 0, .bool false, .int .i32 0, .int .i32 0, .slice none 0 0, .int .i64 0, .slice none 0 0] 49)) _
theorem start_rel {w wr : World} {g gq : Nat} {l cs : List Int} {a : Option Addr} {c : Nat} (hr : Ja.Rs w a c l) (h : TwoP w g gq (.slice none 0 0) (.slice none 0 0) (.slice none 0 0) (.slice none 0 0) (bg 0) Ja.q0 wr) : RelW w g gq l cs (.slice a l.length c) (.int .i64 0) wr :=
  ⟨0, 0, _, _, _, _, a, c, l, Nat.zero_le _, Nat.zero_le _, rfl, rfl, rfl, hr, h⟩
theorem ev_pa {qs : List EW} {l m : List Int} {d : Nat} (h : qs.map EW.E = (feedM (pd l d) m).2) : ∀ r ∈ qs, r.E.pa.length ≤ 100000 := by
  intro r hr
  have h1 : r.E ∈ (feedM (pd l d) m).2 := by rw [← h]; exact List.mem_map_of_mem hr
  have := foldM_pa l d m r.E h1
  omega
theorem ev_len {qs : List EW} {p : Ps} {m : List Int} (h : qs.map EW.E = (feedM p m).2) (hm : m.length ≤ 2000) : qs.length ≤ 50000 := by
  have e := congrArg List.length h
  rw [List.length_map] at e
  have := evs_le p m
  omega
set_option maxRecDepth 100000 in
set_option maxHeartbeats 8000000 in
theorem main (a : Option Addr) (cap : Nat) (l : List Int) (ca : Option Addr) (cc : Nat) (cs : List Int) (w : World) (hl : l.length ≤ 2000) (hc : cs.length ≤ 200) (hL : Ja.Rs w a cap l) (hC : Ints.Ints w ca cs) :
    Calls Try.prog 3 #[.slice a l.length cap, .slice ca cs.length cc] w (OutP w) := by
  have HL := Lib.hid hL
  have HC := Lib.hid hC
  have HLN := Lib.hid hl
  have HCN := Lib.hid hc
  have d0 : decide ((2000 : Int) < (l.length : Int)) = false := decide_eq_false (by omega)
  have d1 : decide ((200 : Int) < (cs.length : Int)) = false := decide_eq_false (by omega)
  have f0 : ¬ (2000 : Int) < (l.length : Int) := by omega
  have f1 : ¬ (200 : Int) < (cs.length : Int) := by omega
  have HBW := Lib.hid (Below.refl w.heap.size w)
  clear hL hC
  go_enter Try.func3, Try.ntmps3
  go_wp2_with (first
    | (go_at_call 7; (with_reducible refine (first8 w).mono ?_); rintro e w1 ⟨rfl, bq⟩; have HB1 := Lib.hid (below_then HBW.out bq HBW.out.size); clear bq)
    | (go_at_call 8; (with_reducible refine (newC w1).mono ?_); rintro e w2 ⟨rfl, rfl⟩))
  have HT := Lib.hid (two_start HB1.out)
  have HG : Hid (w.heap.size ≤ w1.heap.size) := Lib.hid HB1.out.size
  generalize ((w1.alloc (.cells #[.int .i64 0, .bool false, .int .i32 0, .int .i32 0, .slice none 0 0, .int .i64 0, .slice none 0 0] 49)).alloc (.cells #[.int .i64 0, .slice none 0 0, .bool false, .bool false, .int .i32 0, .int .i32 0, .slice none 0 0] 29)) = w3 at *
  generalize w1.heap.size + 1 = gq at *
  generalize w1.heap.size = g at *
  have H0 := Lib.hid (start_rel (cs := cs) HL.out HT.out)
  clear HT HB1
  go_loopw [7, 8] (fun s7 s8 wr => RelW w g gq l cs s7 s8 wr) (fun _ s8 _ => cs.length + 1 - (intOf s8).toNat)
  case atStart => exact H0.out
  case round =>
    obtain ⟨i, d, v, x, vq, xq, ra, rc, R, hi, hd, hR, rfl, rfl, hRs, hT⟩ := hrel
    have HD := Lib.hid hd
    have HR := Lib.hid hR
    have HRS := Lib.hid hRs
    have HT := Lib.hid hT
    have HRL : Hid (R.length ≤ 2000) := Lib.hid (by rw [hR, List.length_drop]; omega)
    have HRD : Hid (d + R.length = l.length) := Lib.hid (by rw [hR, List.length_drop]; omega)
    have hrl := HRL.out
    clear hd hR hRs hT
    by_cases hlt : i ≤ cs.length
    · obtain ⟨N, hN⟩ : ∃ N, N = if h : i < cs.length then (min (max cs[i] 0) (R.length : Int)).toNat else R.length := ⟨_, rfl⟩
      have HNV := Lib.hid hN
      have HNR : Hid (N ≤ R.length) := Lib.hid (by rw [hN]; split <;> omega)
      clear hN
      go_upto_if 38 with fail
      go_cut [9] from 27 to 71 (fun s9 wx => s9 = .int .i64 (N : Int) ∧ wx = wr)
      case first =>
        by_cases hic : i < cs.length
        · rcases HC.out with h0 | ⟨cb, co, rfl, hcc⟩
          · rw [h0] at hic; exact absurd hic (Nat.not_lt_zero _)
          have cx := cell_then HT.out.B (Nat.le_refl _) (hcc i hic)
          have HV : Hid (min (max cs[i] 0) (R.length : Int) = (N : Int)) := Lib.hid (by
            rw [HNV.out, dif_pos hic]
            have h1 : (0 : Int) ≤ min (max cs[i] 0) (R.length : Int) := Int.le_min.2 ⟨Int.le_max_right _ _, by omega⟩
            omega)
          have hici : (i : Int) < (cs.length : Int) := by omega
          generalize cs[i] = y at *
          clear hcc
          have hv := HV.out
          go_wp2
          all_goals go_meet
          all_goals first | exact ⟨rfl, rfl⟩ | exact ⟨congrArg (Value.int .i64) HV.out, rfl⟩
        · have HV : Hid (R.length = N) := Lib.hid (by rw [HNV.out, dif_neg hic])
          have hici : ¬ (i : Int) < (cs.length : Int) := by omega
          go_wp2
          all_goals go_meet
          all_goals exact ⟨congrArg (fun n : Nat => Value.int .i64 (n : Int)) HV.out, rfl⟩
      case rest =>
        obtain ⟨rfl, rfl⟩ := hcut
        clear HNV
        obtain ⟨x1, y1, x2, y2, e1, e2, r1, r2⟩ := Jb.part_next HRS.out N HNR.out
        have HR1 := Lib.hid r1
        have HR2 := Lib.hid r2
        have HNL : Hid (N = (R.take N).length) := Lib.hid (by rw [List.length_take]; have := HNR.out; omega)
        have HR2L : Hid (R.length - N = (R.drop N).length) := Lib.hid (by rw [List.length_drop])
        have HOK := Lib.hid (pd_ok l d HD.out)
        have HOQ := Lib.hid (qd_ok l d HD.out)
        have HSQ := Lib.hid (qd_st l d)
        have HML : Hid (d + (R.take N).length ≤ 40000) := Lib.hid (by rw [← HNL.out]; have := HNR.out; have := HRD.out; have := HLN.out; omega)
        have HTL : Hid ((R.take N).length ≤ 2000) := Lib.hid (by rw [← HNL.out]; have := HNR.out; have := HRL.out; omega)
        have HREL := Lib.hid (ev_rel l d (R.take N))
        have HPN : Hid (pd l (d + N) = (feedM (pd l d) (R.take N)).1) := Lib.hid (by rw [pd_next, HR.out])
        have HQN : Hid (qd l (d + N) = (feedQ (qd l d) (R.take N)).1) := Lib.hid (by rw [qd_next, HR.out])
        have HDN : Hid (d + N ≤ l.length) := Lib.hid (by have := HNR.out; have := HRD.out; omega)
        have HDR : Hid (R.drop N = l.drop (d + N)) := Lib.hid (by rw [HR.out, List.drop_drop])
        obtain ⟨S, hS⟩ : ∃ S : Nat, S = (feedM (pd l d) (R.take N)).1.st := ⟨_, rfl⟩
        have HST := Lib.hid hS
        have HTD := Lib.hid (show TwoP w g gq v x vq xq (pd l d) (qd l d) wc.drew from HT.out.then_ (Below.refl _ _).drew)
        clear r1 r2 hS
        go_wp2_with fail

        refine wp_region_held_drew (S := (fun _ => True)) (by kernel_rfl) ?_ (fun hHeld => ?_)
        · ((try dsimp only); (first | done | trivial))
        refine wpAnyH_take (i := 0) (oi := { dst := some 47, op := Op.move (Operand.tmp 5), type := 25, pos := _, after := #[], guard := none }) (v := ?_) rfl (by kernel_rfl) (by kernel_rfl) (by kernel_rfl) (fun _ _ _ h => h) (Or.inl ⟨by rfl, ?_⟩) (by assumption) ?_
        rotate_left
        · ((intro w hSw); (try dsimp only at hSw); go_simp; (try with_reducible rfl))
        try simp only [Act.put, List.setIfInBounds_toArray, List.set_cons_zero, List.set_cons_succ]
        refine wpAnyH_take (i := 1) (oi := { dst := some 48, op := Op.move (Operand.tmp 7), type := 22, pos := _, after := #[], guard := none }) (v := ?_) rfl (by kernel_rfl) (by kernel_rfl) (by kernel_rfl) (fun _ _ _ h => h) (Or.inl ⟨by rfl, ?_⟩) (by assumption) ?_
        rotate_left
        · ((intro w hSw); (try dsimp only at hSw); go_simp; (try with_reducible rfl))
        try simp only [Act.put, List.setIfInBounds_toArray, List.set_cons_zero, List.set_cons_succ]
        refine wpAnyH_take (i := 2) (oi := { dst := some 49, op := Op.move (Operand.tmp 9), type := 3, pos := _, after := #[], guard := none }) (v := ?_) rfl (by kernel_rfl) (by kernel_rfl) (by kernel_rfl) (fun _ _ _ h => h) (Or.inl ⟨by rfl, ?_⟩) (by assumption) ?_
        rotate_left
        · ((intro w hSw); (try dsimp only at hSw); go_simp; (try with_reducible rfl))
        try simp only [Act.put, List.setIfInBounds_toArray, List.set_cons_zero, List.set_cons_succ]
        refine wpAnyH_take (i := 3) (oi := { dst := some 50, op := Op.slice 22 (Operand.tmp 48) none (some (Operand.tmp 49)) none, type := 22, pos := _, after := #[{ on := 1, ground := Ground.data }, { on := 2, ground := Ground.data }], guard := none }) (v := ?_) rfl (by kernel_rfl) (by kernel_rfl) (by kernel_rfl) (fun _ _ _ h => h) (Or.inl ⟨by rfl, ?_⟩) (by assumption) ?_
        rotate_left
        · ((intro w hSw); (try dsimp only at hSw); go_simp; (try with_reducible rfl))
        try simp only [Act.put, List.setIfInBounds_toArray, List.set_cons_zero, List.set_cons_succ]
        refine wpAnyH_take (i := 6) (oi := { dst := some 53, op := Op.move (Operand.tmp 6), type := 27, pos := _, after := #[], guard := none }) (v := ?_) rfl (by kernel_rfl) (by kernel_rfl) (by kernel_rfl) (fun _ _ _ h => h) (Or.inl ⟨by rfl, ?_⟩) (by assumption) ?_
        rotate_left
        · ((intro w hSw); (try dsimp only at hSw); go_simp; (try with_reducible rfl))
        try simp only [Act.put, List.setIfInBounds_toArray, List.set_cons_zero, List.set_cons_succ]
        refine wpAnyH_take (i := 7) (oi := { dst := some 54, op := Op.move (Operand.tmp 7), type := 22, pos := _, after := #[], guard := none }) (v := ?_) rfl (by kernel_rfl) (by kernel_rfl) (by kernel_rfl) (fun _ _ _ h => h) (Or.inl ⟨by rfl, ?_⟩) (by assumption) ?_
        rotate_left
        · ((intro w hSw); (try dsimp only at hSw); go_simp; (try with_reducible rfl))
        try simp only [Act.put, List.setIfInBounds_toArray, List.set_cons_zero, List.set_cons_succ]
        refine wpAnyH_take (i := 8) (oi := { dst := some 55, op := Op.move (Operand.tmp 9), type := 3, pos := _, after := #[], guard := none }) (v := ?_) rfl (by kernel_rfl) (by kernel_rfl) (by kernel_rfl) (fun _ _ _ h => h) (Or.inl ⟨by rfl, ?_⟩) (by assumption) ?_
        rotate_left
        · ((intro w hSw); (try dsimp only at hSw); go_simp; (try with_reducible rfl))
        try simp only [Act.put, List.setIfInBounds_toArray, List.set_cons_zero, List.set_cons_succ]
        refine wpAnyH_take (i := 9) (oi := { dst := some 56, op := Op.slice 22 (Operand.tmp 54) none (some (Operand.tmp 55)) none, type := 22, pos := _, after := #[{ on := 7, ground := Ground.data }, { on := 8, ground := Ground.data }], guard := none }) (v := ?_) rfl (by kernel_rfl) (by kernel_rfl) (by kernel_rfl) (fun _ _ _ h => h) (Or.inl ⟨by rfl, ?_⟩) (by assumption) ?_
        rotate_left
        · ((intro w hSw); (try dsimp only at hSw); go_simp; (try with_reducible rfl))
        try simp only [Act.put, List.setIfInBounds_toArray, List.set_cons_zero, List.set_cons_succ]
        refine wpAnyH_ready (rs := [4]) (by kernel_rfl) (by simp) ?_
        refine (AllReadyH.cons (o := { dst := some 51, op := Op.call { callee := Callee.value (Operand.func 11), args := #[Operand.tmp 47, Operand.tmp 50], argTypes := #[25, 22] }, type := 33, pos := _, after := #[{ on := 0, ground := Ground.data }, { on := 3, ground := Ground.data }], guard := none }) rfl (fun K hK => ?_) AllReadyH.nil)
        go_simp
        (with_reducible refine (feedPC x1 N y1 (R.take N) d HTD.out HNL.out HR1.out HOK.out HML.out).mono ?_); rintro e w4 ⟨v4, x4, qs, va, vc, rfl, h1, h2, h3, h4, h5⟩; have HT4 := Lib.hid h1; have HI4 := Lib.hid h2; have HQ4 := Lib.hid h3; have HF4 := Lib.hid h5; have HL4 := Lib.hid (ev_len h3 HTL.out); have HP4 := Lib.hid (ev_pa h3); clear h1 h2 h3 h4 h5
        go_wp2_with fail
        refine hK.out _ _ ?_ (fun hHeld => ?_)
        · ((try dsimp only); (first | done | trivial))
        clear hK K
        try simp only [Act.put, List.setIfInBounds_toArray, List.set_cons_zero, List.set_cons_succ]
        refine wpAnyH_ready (rs := [5]) (by kernel_rfl) (by simp) ?_
        refine (AllReadyH.cons (o := { dst := some 52, op := Op.call { callee := Callee.value (Operand.func 10), args := #[Operand.tmp 51], argTypes := #[33] }, type := 31, pos := _, after := #[{ on := 4, ground := Ground.data }, { on := 4, ground := Ground.chain }], guard := none }) rfl (fun K hK => ?_) AllReadyH.nil)
        go_simp
        (with_reducible refine (plainC va vc qs.length qs w4 rfl HI4.out HL4.out).mono ?_); rintro e w5 ⟨ua, uc, rfl, h1, h2, h3⟩; have HJ5 := Lib.hid h1; have HT5 := Lib.hid (HT4.out.then_ h2); clear h1 h2 h3
        go_wp2_with fail
        refine hK.out _ _ ?_ (fun hHeld => ?_)
        · ((try dsimp only); (first | done | trivial))
        clear hK K
        try simp only [Act.put, List.setIfInBounds_toArray, List.set_cons_zero, List.set_cons_succ]
        refine wpAnyH_ready (rs := [10]) (by kernel_rfl) (by simp) ?_
        refine (AllReadyH.cons (o := { dst := some 57, op := Op.call { callee := Callee.value (Operand.func 12), args := #[Operand.tmp 53, Operand.tmp 56], argTypes := #[27, 22] }, type := 31, pos := _, after := #[{ on := 6, ground := Ground.data }, { on := 9, ground := Ground.data }, { on := 5, ground := Ground.chain }], guard := none }) rfl (fun K hK => ?_) AllReadyH.nil)
        go_simp
        (with_reducible refine (feedQC2 x1 N y1 (R.take N) d HT5.out HNL.out HR1.out HOQ.out HSQ.out HML.out).mono ?_); rintro e w6 ⟨v6, x6, rs, wa, wc2, rfl, h1, h2, h3, h4, h5⟩; have HT6 := Lib.hid h1; have HJ6 := Lib.hid (evJ_fr HT5.out.Q h4 HJ5.out HF4.out); have HK6 := Lib.hid h2; have HE6 : Hid (qs.map EW.E = rs.map EW.E) := Lib.hid (by rw [HQ4.out, h3, HREL.out.1]); have HL6 : Hid (qs.length ≤ 100000) := Lib.hid (by have := HL4.out; omega); clear h1 h2 h3 h4 h5
        go_wp2_with fail
        refine hK.out _ _ ?_ (fun hHeld => ?_)
        · ((try dsimp only); (first | done | trivial))
        clear hK K
        try simp only [Act.put, List.setIfInBounds_toArray, List.set_cons_zero, List.set_cons_succ]
        refine wpAnyH_ready (rs := [11]) (by kernel_rfl) (by simp) ?_
        refine (AllReadyH.cons (o := { dst := some 58, op := Op.call { callee := Callee.value (Operand.func 9), args := #[Operand.tmp 52, Operand.tmp 57], argTypes := #[31, 31] }, type := 4, pos := _, after := #[{ on := 5, ground := Ground.data }, { on := 10, ground := Ground.data }, { on := 10, ground := Ground.chain }], guard := none }) rfl (fun K hK => ?_) AllReadyH.nil)
        go_simp
        (with_reducible refine (Js.sameEvC ua wa uc wc2 qs.length rs.length qs rs w6 rfl rfl HJ6.out HK6.out HE6.out HP4.out HL6.out).mono ?_); rintro e w7 ⟨rfl, h1⟩; have HT7 := Lib.hid (HT6.out.then_ h1); have q0 : w7.cell? ⟨gq, 0, none⟩ = some (.int .i64 (S : Int)) := (by rw [cell_of_row w7 gq 0 _ 29 _ HT7.out.Q.row, HST.out, ← HREL.out.2]; rfl); clear h1
        go_wp2_with fail
        refine hK.out _ _ ?_ (fun hHeld => ?_)
        · ((try dsimp only); (first | done | trivial))
        clear hK K
        try simp only [Act.put, List.setIfInBounds_toArray, List.set_cons_zero, List.set_cons_succ]
        refine wpAnyH_take (i := 12) (oi := { dst := some 59, op := Op.unOp UnOp.not 4 (Operand.tmp 58), type := 4, pos := _, after := #[{ on := 11, ground := Ground.data }], guard := none }) (v := ?_) rfl (by kernel_rfl) (by kernel_rfl) (by kernel_rfl) (fun _ _ _ h => h) (Or.inl ⟨by rfl, ?_⟩) (by assumption) ?_
        rotate_left
        · ((intro w hSw); (try dsimp only at hSw); go_simp; (try with_reducible rfl))
        try simp only [Act.put, List.setIfInBounds_toArray, List.set_cons_zero, List.set_cons_succ]
        refine wpAnyH_take (i := 13) (oi := { dst := some 60, op := Op.move (Operand.tmp 59), type := 4, pos := _, after := #[{ on := 12, ground := Ground.data }, { on := 11, ground := Ground.chain }], guard := none }) (v := ?_) rfl (by kernel_rfl) (by kernel_rfl) (by kernel_rfl) (fun _ _ _ h => h) (Or.inl ⟨by rfl, ?_⟩) (by assumption) ?_
        rotate_left
        · ((intro w hSw); (try dsimp only at hSw); go_simp; (try with_reducible rfl))
        try simp only [Act.put, List.setIfInBounds_toArray, List.set_cons_zero, List.set_cons_succ]
        refine wpAnyH_take (i := 14) (oi := { dst := some 61, op := Op.move (Operand.tmp 5), type := 25, pos := _, after := #[{ on := 13, ground := Ground.guard }], guard := some (13, false) }) (v := ?_) rfl (by kernel_rfl) (by kernel_rfl) (by kernel_rfl) (fun _ _ _ h => h) (Or.inl ⟨by rfl, ?_⟩) (by assumption) ?_
        rotate_left
        · ((intro w hSw); (try dsimp only at hSw); go_simp; (try with_reducible rfl))
        try simp only [Act.put, List.setIfInBounds_toArray, List.set_cons_zero, List.set_cons_succ]
        refine wpAnyH_take (i := 16) (oi := { dst := some 63, op := Op.move (Operand.tmp 6), type := 27, pos := _, after := #[{ on := 13, ground := Ground.guard }], guard := some (13, false) }) (v := ?_) rfl (by kernel_rfl) (by kernel_rfl) (by kernel_rfl) (fun _ _ _ h => h) (Or.inl ⟨by rfl, ?_⟩) (by assumption) ?_
        rotate_left
        · ((intro w hSw); (try dsimp only at hSw); go_simp; (try with_reducible rfl))
        try simp only [Act.put, List.setIfInBounds_toArray, List.set_cons_zero, List.set_cons_succ]
        refine wpAnyH_take (i := 17) (oi := { dst := some 64, op := Op.nilCheck (Operand.tmp 63), type := 0, pos := _, after := #[{ on := 16, ground := Ground.data }, { on := 13, ground := Ground.guard }], guard := some (13, false) }) (v := ?_) rfl (by kernel_rfl) (by kernel_rfl) (by kernel_rfl) (fun _ _ _ h => h) (Or.inl ⟨by rfl, ?_⟩) (by assumption) ?_
        rotate_left
        · ((intro w hSw); (try dsimp only at hSw); go_simp; (try with_reducible rfl))
        try simp only [Act.put, List.setIfInBounds_toArray, List.set_cons_zero, List.set_cons_succ]
        refine wpAnyH_take (i := 18) (oi := { dst := some 65, op := Op.fieldAddr 29 (Operand.tmp 64) 0, type := 0, pos := _, after := #[{ on := 17, ground := Ground.data }, { on := 13, ground := Ground.guard }], guard := some (13, false) }) (v := ?_) rfl (by kernel_rfl) (by kernel_rfl) (by kernel_rfl) (fun _ _ _ h => h) (Or.inl ⟨by rfl, ?_⟩) (by assumption) ?_
        rotate_left
        · ((intro w hSw); (try dsimp only at hSw); go_simp; (try with_reducible rfl))
        try simp only [Act.put, List.setIfInBounds_toArray, List.set_cons_zero, List.set_cons_succ]
        refine wpAnyH_ready (rs := [15, 19]) (by kernel_rfl) (by simp) ?_
        refine (AllReadyH.cons (o := { dst := some 62, op := Op.call { callee := Callee.value (Operand.func 13), args := #[Operand.tmp 61], argTypes := #[25] }, type := 3, pos := _, after := #[{ on := 14, ground := Ground.data }, { on := 13, ground := Ground.chain }, { on := 13, ground := Ground.guard }], guard := some (13, false) }) rfl (fun K hK => ?_) (AllReadyH.cons (o := { dst := some 66, op := Op.load 3 (Operand.tmp 65), type := 3, pos := _, after := #[{ on := 18, ground := Ground.data }, { on := 13, ground := Ground.guard }], guard := some (13, false) }) rfl (fun K hK => ?_) AllReadyH.nil))
        · skip
          go_simp
          (with_reducible refine (Gd.stateN S g v4 x4 _ w7 HT7.out.P HST.out).mono ?_); rintro e w' ⟨rfl, rfl⟩
          go_wp2_with fail
          refine hK.out _ _ ?_ (fun hHeld => ?_)
          · ((try dsimp only); (first | done | trivial))
          clear hK K
          try simp only [Act.put, List.setIfInBounds_toArray, List.set_cons_zero, List.set_cons_succ]
          refine wpAnyH_ready (rs := [19]) (by kernel_rfl) (by simp) ?_
          refine (AllReadyH.cons (o := { dst := some 66, op := Op.load 3 (Operand.tmp 65), type := 3, pos := _, after := #[{ on := 18, ground := Ground.data }, { on := 13, ground := Ground.guard }], guard := some (13, false) }) rfl (fun K hK => ?_) AllReadyH.nil)
          go_simp
          refine hK.out _ _ ?_ (fun hHeld => ?_)
          · ((try dsimp only); (first | done | trivial))
          clear hK K
          try simp only [Act.put, List.setIfInBounds_toArray, List.set_cons_zero, List.set_cons_succ]
          refine wpAnyH_take (i := 20) (oi := { dst := some 67, op := Op.binOp BinOp.neq 3 (Operand.tmp 62) (Operand.tmp 66) 3, type := 4, pos := _, after := #[{ on := 15, ground := Ground.data }, { on := 19, ground := Ground.data }, { on := 13, ground := Ground.guard }], guard := some (13, false) }) (v := ?_) rfl (by kernel_rfl) (by kernel_rfl) (by kernel_rfl) (fun _ _ _ h => h) (Or.inl ⟨by rfl, ?_⟩) (by assumption) ?_
          rotate_left
          · ((intro w hSw); (try dsimp only at hSw); go_simp; (try with_reducible rfl))
          try simp only [Act.put, List.setIfInBounds_toArray, List.set_cons_zero, List.set_cons_succ]
          refine wpAnyH_take (i := 21) (oi := { dst := some 68, op := Op.pick (Operand.tmp 60) (Operand.const (Value.bool true)) (Operand.tmp 67), type := 4, pos := _, after := #[{ on := 13, ground := Ground.data }, { on := 20, ground := Ground.data }], guard := none }) (v := ?_) rfl (by kernel_rfl) (by kernel_rfl) (by kernel_rfl) (fun _ _ _ h => h) (Or.inl ⟨by rfl, ?_⟩) (by assumption) ?_
          rotate_left
          · ((intro w hSw); (try dsimp only at hSw); go_simp; (try with_reducible rfl))
          try simp only [Act.put, List.setIfInBounds_toArray, List.set_cons_zero, List.set_cons_succ]
          refine wpAnyH_done (by kernel_rfl) ?_ _
          go_wp2
          go_roundw
          case rel => exact ⟨i + 1, d + N, v4, x4, v6, x6, x2, y2, R.drop N, by omega, HDN.out, HDR.out, congrArg (fun n : Nat => Value.slice x2 n y2) HR2L.out, by go_num, HR2.out, by rw [HPN.out, HQN.out]; exact HT7.out⟩
          case measure =>
            show cs.length + 1 - ((i : Int) + 1).toNat < cs.length + 1 - (i : Int).toNat
            omega
        · skip
          go_simp
          refine hK.out _ _ ?_ (fun hHeld => ?_)
          · ((try dsimp only); (first | done | trivial))
          clear hK K
          try simp only [Act.put, List.setIfInBounds_toArray, List.set_cons_zero, List.set_cons_succ]
          refine wpAnyH_ready (rs := [15]) (by kernel_rfl) (by simp) ?_
          refine (AllReadyH.cons (o := { dst := some 62, op := Op.call { callee := Callee.value (Operand.func 13), args := #[Operand.tmp 61], argTypes := #[25] }, type := 3, pos := _, after := #[{ on := 14, ground := Ground.data }, { on := 13, ground := Ground.chain }, { on := 13, ground := Ground.guard }], guard := some (13, false) }) rfl (fun K hK => ?_) AllReadyH.nil)
          go_simp
          (with_reducible refine (Gd.stateN S g v4 x4 _ w7 HT7.out.P HST.out).mono ?_); rintro e w' ⟨rfl, rfl⟩
          go_wp2_with fail
          refine hK.out _ _ ?_ (fun hHeld => ?_)
          · ((try dsimp only); (first | done | trivial))
          clear hK K
          try simp only [Act.put, List.setIfInBounds_toArray, List.set_cons_zero, List.set_cons_succ]
          refine wpAnyH_take (i := 20) (oi := { dst := some 67, op := Op.binOp BinOp.neq 3 (Operand.tmp 62) (Operand.tmp 66) 3, type := 4, pos := _, after := #[{ on := 15, ground := Ground.data }, { on := 19, ground := Ground.data }, { on := 13, ground := Ground.guard }], guard := some (13, false) }) (v := ?_) rfl (by kernel_rfl) (by kernel_rfl) (by kernel_rfl) (fun _ _ _ h => h) (Or.inl ⟨by rfl, ?_⟩) (by assumption) ?_
          rotate_left
          · ((intro w hSw); (try dsimp only at hSw); go_simp; (try with_reducible rfl))
          try simp only [Act.put, List.setIfInBounds_toArray, List.set_cons_zero, List.set_cons_succ]
          refine wpAnyH_take (i := 21) (oi := { dst := some 68, op := Op.pick (Operand.tmp 60) (Operand.const (Value.bool true)) (Operand.tmp 67), type := 4, pos := _, after := #[{ on := 13, ground := Ground.data }, { on := 20, ground := Ground.data }], guard := none }) (v := ?_) rfl (by kernel_rfl) (by kernel_rfl) (by kernel_rfl) (fun _ _ _ h => h) (Or.inl ⟨by rfl, ?_⟩) (by assumption) ?_
          rotate_left
          · ((intro w hSw); (try dsimp only at hSw); go_simp; (try with_reducible rfl))
          try simp only [Act.put, List.setIfInBounds_toArray, List.set_cons_zero, List.set_cons_succ]
          refine wpAnyH_done (by kernel_rfl) ?_ _
          go_wp2
          go_roundw
          case rel => exact ⟨i + 1, d + N, v4, x4, v6, x6, x2, y2, R.drop N, by omega, HDN.out, HDR.out, congrArg (fun n : Nat => Value.slice x2 n y2) HR2L.out, by go_num, HR2.out, by rw [HPN.out, HQN.out]; exact HT7.out⟩
          case measure =>
            show cs.length + 1 - ((i : Int) + 1).toNat < cs.length + 1 - (i : Int).toNat
            omega
    · have hie : i = cs.length + 1 := by omega
      have hil : ¬ (i : Int) ≤ (cs.length : Int) := by omega
      go_wp2_with (go_at_call 7; (with_reducible refine (first8 wr).mono ?_); rintro e w9 ⟨rfl, bq⟩; have HB9 := Lib.hid (below_then HT.out.B bq HT.out.B.size))
      go_ret
      exact ⟨rfl, HB9.out⟩

end Go.Proofs.Ytnaiefjbfpejbaa.Jw
