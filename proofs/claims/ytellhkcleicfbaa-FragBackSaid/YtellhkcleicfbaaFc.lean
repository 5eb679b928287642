/- frag.Cut. -/
import Derived.Test.YtellhkcleicfbaaFb
import Derived.Deep.CutRange
import Derived.Deep.CutBlock
set_option linter.unusedVariables false
namespace Go.Proofs.Ytellhkcleicfbaa.Fc
open Go Go.RowKit Kit Crc Var Get Bytes WireFirst Ref3 Copy Ap Rd RdA Fr Fa Sb Fb

def chunk (b : List Nat) (i : Nat) : List Nat := (b.drop (i * 256)).take 256
def cntN (n : Nat) : Nat := max ((n + 255) / 256) 1
def cutP (id : Nat) (b : List Nat) (i : Nat) : List Nat := partL id i (cntN b.length) (chunk b i)
theorem cnt_le {n : Nat} (h : n ≤ 200000) : cntN n ≤ 782 := by unfold cntN; omega
theorem cnt_pos (n : Nat) : 1 ≤ cntN n := by unfold cntN; omega
theorem rs_alloc {w : World} {base : Nat} {v : Value} {ps : List (Option Addr × Nat × Nat)} (h : Rs w base v ps) (o : Obj) : Rs (w.alloc o) base v ps := World.ownsRow.alloc h o
theorem rs_then {w w1 : World} {base : Nat} {v : Value} {ps : List (Option Addr × Nat × Nat)} (h : Rs w base v ps) (hb : Below w.heap.size w w1) : Rs w1 base v ps := rs_far h (fun k hk _ => hb.block k hk)
theorem dg_then {w w1 : World} {base : Nat} {M : Nat → List Nat} {ps : List (Option Addr × Nat × Nat)} (h : Dg w M base ps) (hb : Below w.heap.size w w1) : Dg w1 M base ps := fun j hj => rb_then (h j hj) hb (Nat.le_refl _)
theorem dg_grown {w w1 : World} {base : Nat} {M : Nat → List Nat} {v : Value} {ps qs : List (Option Addr × Nat × Nat)} (hs : Rs w base v qs) (h : Dg w M base ps) (hg : w.grownBy w1 v.ownBlock) : Dg w1 M base ps := fun j hj => rb_grown hs (h j hj) hg
theorem rs_below {w w1 W : World} {base : Nat} {v : Value} {ps : List (Option Addr × Nat × Nat)} (h : Rs w base v ps) (hg : w.grownBy w1 v.ownBlock) (hb : Below base W w) (hs : base ≤ w.heap.size) : Below base W w1 :=
  hb.grown hg hs (fun j hj => (h.lt j hj).1)
theorem rs_form {w : World} {base : Nat} {v : Value} {ps : List (Option Addr × Nat × Nat)} (h : Rs w base v ps) : ∃ sa sc, v = .slice sa ps.length sc := by
  rcases h.2 with ⟨rfl, h0⟩ | ⟨g, cap, cur, rfl, _⟩
  · exact ⟨none, 0, by rw [h0]⟩
  · exact ⟨_, _, rfl⟩
/-- what Cut answers. -/
def CutQ (M : Nat → List Nat) (q : Nat) (w : World) (e : Ending) (w' : World) : Prop := ∃ la lc A C, e = .returned (.tuple #[.slice la q lc, .int .i64 0]) ∧ q ≤ lc ∧ Dw w' M q w.heap.size la A C ∧ Below w.heap.size w w'
set_option maxRecDepth 100000 in
set_option maxHeartbeats 4000000 in
theorem cutX (id : Nat) (a : Option Addr) (n cap : Nat) (b : List Nat) (w : World) (hn : n = b.length) (hm : n ≤ 200000) (hp : Pt w ⟨a, cap, b⟩) (h1 : 1 ≤ id ∧ id ≤ 4611686018427387904) (q : Nat) (hc : cntN n = q) :
    Calls Try.prog 8 #[.int .u64 (id : Int), .slice a n cap] w (CutQ (cutP id b) q w) := by
  have d1 : ((id : Int) == 0) = false := by rw [beq_eq_false_iff_ne]; omega
  have d2 : ¬ (4611686018427387904 : Int) < (id : Int) := by omega
  have d3 : ¬ (1048576 : Int) < (n : Int) := by omega
  have e1 : IntKind.i64.wrap ((n : Int) + 256) = (n : Int) + 256 := IntWalk.i64_in _ (by omega)
  have e2 : IntKind.i64.wrap ((n : Int) + 256 - 1) = (n : Int) + 256 - 1 := IntWalk.i64_in _ (by omega)
  have e3 : (if ((n : Int) + 256 - 1) / 256 < 1 then (1 : Int) else ((n : Int) + 256 - 1) / 256) = (q : Int) := by
    rw [← hc]; unfold cntN
    split <;> omega
  have HQ := Lib.hid (show 1 ≤ q ∧ q ≤ 782 from ⟨by rw [← hc]; exact cnt_pos n, by rw [← hc]; exact cnt_le hm⟩)
  have HP := Lib.hid hp
  have HN := Lib.hid hn
  have HID := Lib.hid h1
  have HLEN := Lib.hid hm
  have HC := Lib.hid (show q * 256 ≥ b.length ∧ (b.length ≤ 256 * (q - 1) → q = 1) by rw [← hc, hn]; unfold cntN; omega)
  have HM := Lib.hid (show cutP id b = fun i => partL id i q (chunk b i) by unfold cutP; rw [← hn, hc])
  generalize cutP id b = M at *
  clear hn hm hp h1 hc
  go_enter Try.func8, Try.ntmps8
  go_wp2
  go_loopw [1, 7, 26] (fun s1 s7 s26 wr => ∃ (i : Nat) (ps : List (Option Addr × Nat × Nat)) (ra : Option Addr) (rc : Nat) (R : List Nat), i ≤ q ∧ s26 = .int .i64 (i : Int) ∧ s1 = .slice ra R.length rc ∧ Hid (Rs wr w.heap.size s7 ps) ∧ Hid (ps.length = i) ∧ Hid (Dg wr M w.heap.size ps) ∧ Hid (Pt w ⟨ra, rc, R⟩) ∧ Hid (R = b.drop (i * 256)) ∧ Hid (Below w.heap.size w wr)) (fun _ _ s26 _ => q - (intOf s26).toNat)
  case atStart => exact ⟨0, [], a, cap, b, Nat.zero_le _, rfl, by rw [HN.out], Lib.hid (rs_nil _ _), Lib.hid rfl, Lib.hid (fun j hj => absurd hj (Nat.not_lt_zero _)), HP, Lib.hid rfl, Lib.hid (Below.refl _ _)⟩
  case round =>
    obtain ⟨i, ps, ra, rc, R, hi, rfl, rfl, HR, HL, HD, HPR, HRB, HB⟩ := hrel
    by_cases hlt : i < q
    · obtain ⟨N, hN⟩ : ∃ N, N = min R.length 256 := ⟨_, rfl⟩
      obtain ⟨x1, y1, x2, y2, hs1, hs2, p1, p2⟩ := part_next HPR.out N (by omega)
      have e4 : (if (R.length : Int) < 256 then (R.length : Int) else 256) = (N : Int) := by split <;> omega
      have e5 : (if 256 < (R.length : Int) then (256 : Int) else (R.length : Int)) = (N : Int) := by split <;> omega
      have e6 : (if (R.length : Int) ≤ 256 then (R.length : Int) else 256) = (N : Int) := by split <;> omega
      have hqI : (i : Int) < (q : Int) := by omega
      have hw1 : IntKind.i64.wrap ((i : Int) + 1) = (i : Int) + 1 := IntWalk.i64_in _ (by have := HQ.out; omega)
      have hT : R.take N = R.take 256 := by
        rw [hN]
        rcases Nat.le_total R.length 256 with h | h
        · rw [Nat.min_eq_left h, List.take_of_length_le (Nat.le_refl _), List.take_of_length_le h]
        · rw [Nat.min_eq_right h]
      have HM1 := Lib.hid (show partL id i q (R.take N) = M i by rw [HM.out]; show _ = partL id i q ((b.drop (i * 256)).take 256); rw [← HRB.out, hT])
      have HWR := Lib.hid (writtenC id i q x1 N y1 (R.take N) wr (by rw [List.length_take]; omega) (by omega) p1.2.1 (sl_then HB.out (Nat.le_refl _) p1.1) (by have := HID.out; omega) (by have := HQ.out; omega) (by have := HQ.out; omega))
      rw [HM1.out] at HWR
      have HP2 := Lib.hid p2
      have HRD := Lib.hid (show R.length - N = (R.drop N).length by rw [List.length_drop])
      have HRN := Lib.hid (show R.drop N = b.drop ((i + 1) * 256) by
        have h2 := HRB.out
        rcases Nat.le_total R.length 256 with h | h
        · rw [hN, Nat.min_eq_left h, List.drop_of_length_le (Nat.le_refl _)]
          have : b.length ≤ (i + 1) * 256 := by rw [h2, List.length_drop] at h; omega
          rw [List.drop_of_length_le this]
        · rw [hN, Nat.min_eq_right h, h2, List.drop_drop]; congr 1; omega)
      have HIQ := Lib.hid (show i + 1 ≤ q ∧ q - (i + 1) < q - i by omega)
      have HPL := Lib.hid (show ps.length ≤ 1000 by have := HL.out; have := HQ.out; omega)
      obtain ⟨sa, sc, hv⟩ := rs_form HR.out
      subst hv
      obtain ⟨ml, hml⟩ : ∃ ml, ml = (M i).length := ⟨_, rfl⟩
      have HML := Lib.hid hml
      clear hi hlt hN p1 p2 hT hml
      go_wp2_with (first
        | (go_at_call 17; (with_reducible refine HWR.out.mono ?_); rintro e w2 ⟨v2, rfl, hr, hb⟩; obtain ⟨a2, b2, rfl, hc2, hs2', ha2, hx2⟩ := rb_sl hr; rw [← HML.out] at hr hc2 ⊢; have HR2 := Lib.hid (rs_then HR.out hb); have HD2 := Lib.hid (dg_then HD.out hb); have HB2 := Lib.hid (below_then HB.out hb HB.out.size); have HV2 := Lib.hid (rb_base hr HB.out.size); clear hr hb hs2' ha2 hx2 hc2)
        | (at_builtin; refine app_rs rfl _ _ rfl w.heap.size _ ps rfl (rs_alloc HR2.out _) w2.heap.size (a2, ml, b2) rfl (by simp [dv]) HPL.out (by have := HB2.out.size; simp; omega) ?_; intro v3 w3 hr hg; have HR3 := Lib.hid hr; have HD3 := Lib.hid (dg_snoc (p := (a2, ml, b2)) (dg_grown (rs_alloc HR2.out _) (dg_then HD2.out (below_one w2 _)) hg) (by rw [HL.out]; exact rb_grown (rs_alloc HR2.out _) (rb_alloc HV2.out _) hg)); have HB3 := Lib.hid (rs_below (rs_alloc HR2.out _) hg (below_then HB2.out (below_one w2 _) HB2.out.size) (by have := HB2.out.size; simp; omega)); clear hr hg))
      first
        | exact ⟨⟨i + 1, ps ++ [(a2, ml, b2)], x2, y2, R.drop N, HIQ.out.1, by go_num, by rw [← HRD.out], HR3, Lib.hid (by rw [List.length_append, HL.out]; rfl), HD3, HP2, HRN, HB3⟩, by simp only [intOf]; exact HIQ.out.2⟩
        | (go_roundw
           · exact ⟨i + 1, ps ++ [(a2, ml, b2)], x2, y2, R.drop N, HIQ.out.1, by go_num, by rw [← HRD.out], HR3, Lib.hid (by rw [List.length_append, HL.out]; rfl), HD3, HP2, HRN, HB3⟩
           · simp only [intOf]; exact HIQ.out.2)
    · obtain rfl : i = q := by omega
      have hr := HR.out
      rcases hr.2 with ⟨_, h0⟩ | ⟨g, lc, cur, hv, hg2, hcc, hnc, _⟩
      · have := HQ.out; have := HL.out; omega
      · subst hv
        have HDW := Lib.hid (dw_of HL.out hr HD.out)
        have HLC := Lib.hid (show i ≤ lc by rw [← HL.out]; exact hnc)
        have hpl : ps.length = i := HL.out
        rw [hpl] at *
        clear hr hg2 hcc hnc hi hlt
        go_wp2
        go_ret2
        exact ⟨_, lc, _, _, rfl, HLC.out, HDW.out, HB.out⟩
end Go.Proofs.Ytellhkcleicfbaa.Fc
