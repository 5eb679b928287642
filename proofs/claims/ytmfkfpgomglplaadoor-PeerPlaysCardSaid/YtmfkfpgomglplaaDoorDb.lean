/- The document's block of SHA-256. -/
import Derived.Test.YtmfkfpgomglplaaDoorDq
import Derived.BigQuiet
import Derived.BigRegion
import Derived.RegionTactic
import Derived.ChangeAlike
import Derived.StillTailTactics
set_option linter.unusedVariables false
namespace Go.Proofs.YtmfkfpgomglplaaDoor.Db
open Go Go.RowKit Kit Mb Sha Ap Mc1 Sc Mx Sb Pd Su Pa Hm Mm Tg Mf Pk Se Op Dq


theorem turn_2 (x : Int) (w : World) : Calls Tryd.prog 60 #[.int .u32 x, .int .u64 2] w fun e w' => e = .returned (.int .u32 (turnW x 2)) ∧ w = w' := turnN x 2 2 rfl (by decide) (by decide) w
theorem turn_6 (x : Int) (w : World) : Calls Tryd.prog 60 #[.int .u32 x, .int .u64 6] w fun e w' => e = .returned (.int .u32 (turnW x 6)) ∧ w = w' := turnN x 6 6 rfl (by decide) (by decide) w
theorem turn_7 (x : Int) (w : World) : Calls Tryd.prog 60 #[.int .u32 x, .int .u64 7] w fun e w' => e = .returned (.int .u32 (turnW x 7)) ∧ w = w' := turnN x 7 7 rfl (by decide) (by decide) w
theorem turn_11 (x : Int) (w : World) : Calls Tryd.prog 60 #[.int .u32 x, .int .u64 11] w fun e w' => e = .returned (.int .u32 (turnW x 11)) ∧ w = w' := turnN x 11 11 rfl (by decide) (by decide) w
theorem turn_13 (x : Int) (w : World) : Calls Tryd.prog 60 #[.int .u32 x, .int .u64 13] w fun e w' => e = .returned (.int .u32 (turnW x 13)) ∧ w = w' := turnN x 13 13 rfl (by decide) (by decide) w
theorem turn_17 (x : Int) (w : World) : Calls Tryd.prog 60 #[.int .u32 x, .int .u64 17] w fun e w' => e = .returned (.int .u32 (turnW x 17)) ∧ w = w' := turnN x 17 17 rfl (by decide) (by decide) w
theorem turn_18 (x : Int) (w : World) : Calls Tryd.prog 60 #[.int .u32 x, .int .u64 18] w fun e w' => e = .returned (.int .u32 (turnW x 18)) ∧ w = w' := turnN x 18 18 rfl (by decide) (by decide) w
theorem turn_19 (x : Int) (w : World) : Calls Tryd.prog 60 #[.int .u32 x, .int .u64 19] w fun e w' => e = .returned (.int .u32 (turnW x 19)) ∧ w = w' := turnN x 19 19 rfl (by decide) (by decide) w
theorem turn_22 (x : Int) (w : World) : Calls Tryd.prog 60 #[.int .u32 x, .int .u64 22] w fun e w' => e = .returned (.int .u32 (turnW x 22)) ∧ w = w' := turnN x 22 22 rfl (by decide) (by decide) w
theorem turn_25 (x : Int) (w : World) : Calls Tryd.prog 60 #[.int .u32 x, .int .u64 25] w fun e w' => e = .returned (.int .u32 (turnW x 25)) ∧ w = w' := turnN x 25 25 rfl (by decide) (by decide) w
theorem run_words8 (x0 x1 x2 x3 x4 x5 x6 x7 : Int) (w : World) : (Instr.buildSlice 83 8 #[(0, .int .u32 x0), (1, .int .u32 x1), (2, .int .u32 x2), (3, .int .u32 x3), (4, .int .u32 x4), (5, .int .u32 x5), (6, .int .u32 x6), (7, .int .u32 x7)]).run Tryd.prog w = .ok (.slice (some ⟨w.heap.size, 0, none⟩) 8 8) (w.alloc (.cells #[.int .u32 x0, .int .u32 x1, .int .u32 x2, .int .u32 x3, .int .u32 x4, .int .u32 x5, .int .u32 x6, .int .u32 x7] 79)) := by
  first | kernel_rfl | (simp [go_sem]; rfl)
theorem wp_words8 {o : Oper} {a : Act} {w : World} {K : Act → World → Prop} {Q : Exit → Act → World → Prop} (p0 p1 p2 p3 p4 p5 p6 p7 : Operand) (ho : o.op = .buildSlice 83 8 #[(0, p0), (1, p1), (2, p2), (3, p3), (4, p4), (5, p5), (6, p6), (7, p7)]) (x0 x1 x2 x3 x4 x5 x6 x7 : Int) (h0 : a.eval p0 = .int .u32 x0) (h1 : a.eval p1 = .int .u32 x1) (h2 : a.eval p2 = .int .u32 x2) (h3 : a.eval p3 = .int .u32 x3) (h4 : a.eval p4 = .int .u32 x4) (h5 : a.eval p5 = .int .u32 x5) (h6 : a.eval p6 = .int .u32 x6) (h7 : a.eval p7 = .int .u32 x7) (R : Array Value) (hR : R = #[.int .u32 x0, .int .u32 x1, .int .u32 x2, .int .u32 x3, .int .u32 x4, .int .u32 x5, .int .u32 x6, .int .u32 x7])
    (h : K (a.put o.dst (.slice (some ⟨w.heap.size, 0, none⟩) 8 8)) (w.alloc (.cells R 79))) : o.wp Tryd.prog a w K Q := by
  subst hR
  have hb := run_words8 x0 x1 x2 x3 x4 x5 x6 x7 w
  unfold Oper.wp execOp
  simp only [ho, Sem.run_bind, Sem.run_pure, List.map_toArray, List.map_cons, List.map_nil, h0, h1, h2, h3, h4, h5, h6, h7, hb, Result.andThen_ok]
  exact h
theorem wpList_words8 {ops : Array Oper} {rest : List Oper} {o : Oper} {a : Act} {w : World} {Q : Exit → Act → World → Prop} (hgd : o.guard = none) (p0 p1 p2 p3 p4 p5 p6 p7 : Operand) (ho : o.op = .buildSlice 83 8 #[(0, p0), (1, p1), (2, p2), (3, p3), (4, p4), (5, p5), (6, p6), (7, p7)]) (x0 x1 x2 x3 x4 x5 x6 x7 : Int) (h0 : a.eval p0 = .int .u32 x0) (h1 : a.eval p1 = .int .u32 x1) (h2 : a.eval p2 = .int .u32 x2) (h3 : a.eval p3 = .int .u32 x3) (h4 : a.eval p4 = .int .u32 x4) (h5 : a.eval p5 = .int .u32 x5) (h6 : a.eval p6 = .int .u32 x6) (h7 : a.eval p7 = .int .u32 x7) (R : Array Value) (hR : R = #[.int .u32 x0, .int .u32 x1, .int .u32 x2, .int .u32 x3, .int .u32 x4, .int .u32 x5, .int .u32 x6, .int .u32 x7])
    (h : wpList Tryd.prog ops Q rest (a.put o.dst (.slice (some ⟨w.heap.size, 0, none⟩) 8 8)) (w.alloc (.cells R 79))) : wpList Tryd.prog ops Q (o :: rest) a w :=
  wpList_plain hgd fun _ hK => wp_words8 p0 p1 p2 p3 p4 p5 p6 p7 ho x0 x1 x2 x3 x4 x5 x6 x7 h0 h1 h2 h3 h4 h5 h6 h7 R hR (hK _ _ h)
theorem modT (a b c d e : Int) : ((a + b + c + d) % 4294967296 + e) % 4294967296 = (a + b + c + d + e) % 4294967296 := by omega
theorem wrap3 (c y d z : Int) : IntKind.u32.wrap (IntKind.u32.wrap ((c + y) % 4294967296 + d) + z) = (c + y + d + z) % 4294967296 := by rw [IntKind.wrap_u32, IntKind.wrap_u32]; omega
theorem d_facts (D : Nat) (h : D < 64) : (D : Int) < 64 ∧ IntKind.i64.wrap (D : Int) = (D : Int) ∧ wrap64 (D : Int) = (D : Int) := ⟨by omega, IntWalk.i64_in _ (by omega), IntWalk.wrap64_in _ (by omega)⟩
theorem sub_facts (k A B : Nat) (h0 : 16 ≤ k) (h1 : k < 64) (hA : A = k - 16) (hB : B = k - 7) : (k : Int) - 16 = (A : Int) ∧ (k : Int) - 7 = (B : Int) ∧ A < 64 ∧ B < 64 := by omega
theorem wb79 {w : World} {g : Nat} {l : List Int} (h : Wb w g 79 l) : R8 w g l := ⟨_, h, fun j hj => rowW_at l j hj⟩
/-- what the loops over the words keep. -/
def Rq (w : World) (m : List Nat) (gw : Nat) (k : Nat) (wr : World) : Prop := Wb wr gw 79 (wl m k) ∧ Below w.heap.size w wr
theorem Rq.drew {w wr : World} {m : List Nat} {gw k : Nat} (h : Rq w m gw k wr) : Rq w m gw k wr.drew := ⟨h.1, h.2.drew⟩
theorem Rq.set {w wr : World} {m : List Nat} {gw k : Nat} (h : Rq w m gw k wr) (hk : k < 64) (hg : w.heap.size ≤ gw) : Rq w m gw (k + 1) (wr.setCell ⟨gw, k, none⟩ (.int .u32 (wd m k))) := by
  have h1 := h.1.set k (wd m k)
  rw [wl_set m k hk] at h1
  exact ⟨h1, h.2.setCell hg _⟩
/-- one word of two added, a piece at a time. -/
def mixl (v h : List Int) (i : Nat) : List Int := (List.range 8).map fun j => if j < i then (v.getD j 0 + h.getD j 0) % 4294967296 else v.getD j 0
theorem mixl_len (v h : List Int) (i : Nat) : (mixl v h i).length = 8 := by simp [mixl]
theorem mixl_at (v h : List Int) (i j : Nat) (hj : j < 8) : (mixl v h i).getD j 0 = if j < i then (v.getD j 0 + h.getD j 0) % 4294967296 else v.getD j 0 := by
  rw [List.getD_eq_getElem?_getD]; simp [mixl, hj]
theorem mixl_set (v h : List Int) (i : Nat) (hi : i < 8) : (mixl v h i).set i ((v.getD i 0 + h.getD i 0) % 4294967296) = mixl v h (i + 1) := by
  apply List.ext_getElem
  · simp [mixl]
  · intro j h1 h2
    simp only [mixl, List.getElem_set, List.getElem_map, List.getElem_range]
    split
    · rename_i e; subst e; rw [if_pos (by omega)]
    · rename_i e
      by_cases hk : j < i
      · rw [if_pos hk, if_pos (by omega)]
      · rw [if_neg hk, if_neg (by omega)]
theorem mixl_zero (s : St) (h : List Int) : mixl (stL s) h 0 = stL s := rfl
theorem mixl_end (s t : St) : mixl (stL t) (stL s) 8 = stL (addS s t) := by
  show [(t.a + s.a) % 4294967296, (t.b + s.b) % 4294967296, (t.c + s.c) % 4294967296, (t.d + s.d) % 4294967296, (t.e + s.e) % 4294967296, (t.f + s.f) % 4294967296, (t.g + s.g) % 4294967296, (t.h + s.h) % 4294967296] = _
  simp only [stL, addS, Int.add_comm]
/-- what block answers. -/
def BkP (s : St) (m : List Nat) (w : World) (e : Ending) (w' : World) : Prop :=
  ∃ gv cv, e = .returned (.slice (some ⟨gv, 0, none⟩) 8 cv) ∧ R8 w' gv (stL (mixS s m)) ∧ w.heap.size ≤ gv ∧ 8 ≤ cv ∧ Below w.heap.size w w'
theorem info79 : (Tryd.prog.info? 79).map (fun i => (i.zero, i.size, i.bytes)) = some (some (.int .u32 0), 1, 4) := by kernel_rfl
def cellsW (l : List Int) : List Value := l.map (Value.int .u32)
/-- words behind an empty row of one's own. -/
theorem app_words {ops : Array Oper} {rest : List Oper} {o : Oper} {a : Act} {Q : Exit → Act → World → Prop} {w : World} (hgd : o.guard = none) (s x : Operand)
    (ho : o.op = .call { callee := .builtin .append, args := #[s, x], argTypes := #[83, 83] }) (base : Nat) (v : Value) (hs : a.eval s = v) (hown : w.ownsRow base 79 1 v 0 [])
    (gh hc : Nat) (l : List Int) (hx : a.eval x = .slice (some ⟨gh, 0, none⟩) 8 hc) (h8 : l.length = 8) (hr : R8 w gh l) (hbase : base ≤ w.heap.size)
    (h : ∀ gv cv w', R8 w' gv l → base ≤ gv → gv < w'.heap.size → 8 ≤ cv → w.grownBy w' v.ownBlock → wpList Tryd.prog ops Q rest (a.put o.dst (.slice (some ⟨gv, 0, none⟩) 8 cv)) w') : wpList Tryd.prog ops Q (o :: rest) a w := by
  obtain ⟨i0, hi, hz0, hz1, hz2⟩ := info_parts info79
  refine wpList_append_own w hgd s x 83 ho base 79 i0 (.int .u32 0) 1 4 Tryd.underlying83 hi hz0 hz1 hz2 rfl (by decide) v _ _ hs hown ⟨gh, 0, none⟩ 8 hc (cellsW l) hx (by simp [cellsW, h8]) ?_ ?_ (by unfold maxLen; omega) (by omega) hbase ?_
  · intro j u hu
    have hadd : (⟨gh, 0, none⟩ : Addr).add j = ⟨gh, j, none⟩ := by unfold Addr.add; split <;> simp_all
    rw [hadd]
    have hj : j < l.length := by
      rcases Nat.lt_or_ge j l.length with h | h
      · exact h
      · rw [List.getElem?_eq_none (by simpa [cellsW] using h)] at hu; cases hu
    rw [hr.cell j hj]
    simp [cellsW, hj] at hu
    rw [← hu, List.getD_eq_getElem?_getD]; simp [hj]
  · intro u hu
    simp [cellsW] at hu
    obtain ⟨x, _, rfl⟩ := hu; rfl
  · intro v' w' h2 h3 _
    rcases h2.2 with ⟨_, h0⟩ | ⟨g, cap, cur, rfl, hb, hg, hn, hm, hcs, ht⟩
    · omega
    · refine h g cap w' ⟨cur, hg, fun j hj => ?_⟩ hb (Array.getElem?_eq_some_iff.1 hg).1 hn h3
      rw [h8] at hj
      have e : (cur.toList.take ((0 + 8) * 1))[j]? = ([] ++ cellsW l)[j]? := by rw [ht]
      rw [List.nil_append, List.getElem?_take, if_pos (by omega), Array.getElem?_toList] at e
      rw [e]
      simp [cellsW, List.getD_eq_getElem?_getD, h8, hj]
set_option maxRecDepth 100000 in
set_option maxHeartbeats 4000000 in
theorem blockC (s : St) (gh hc gk : Nat) (b off cap : Nat) (m : List Nat) (w : World) (hl : ∀ c ∈ m, c < 256) (hm : m.length = 64) (hcl : Cells w b off m) (hcap : 64 ≤ cap) (hh : R8 w gh (stL s)) (hk : R8 w gk kL) :
    Calls Tryd.prog 52 #[.slice (some ⟨gh, 0, none⟩) 8 hc, .slice (some ⟨gk, 0, none⟩) 64 64, .slice (some ⟨b, off, none⟩) 64 cap] w (BkP s m w) := by
  have HL := Lib.hid hl
  have HC := Lib.hid hcl
  have HM := Lib.hid hm
  have HH := Lib.hid hh
  have HK := Lib.hid hk
  have HCAP := Lib.hid hcap
  clear hl hcl hm hh hk
  have hmk : ∀ w : World, (Instr.makeSlice 83 (.int .i64 64) (.int .i64 64)).run Tryd.prog w = .ok (.slice (some ⟨w.heap.size, 0, none⟩) 64 64) (w.alloc (.cells (rowW (wl m 0)) 79)) := by
    have h := fun w : World => run_make_row' (P := Tryd.prog) (w := w) 83 79 (.int .u32 0) 4 Tryd.underlying83 info79 rfl .i64 .i64 64 (by omega) (by omega)
    rw [wl_zero, show rowW (List.replicate 64 0) = madeCells #[.int .u32 0] 64 by kernel_rfl]
    exact h
  obtain ⟨gw, hgw⟩ : ∃ gw, gw = w.heap.size := ⟨_, rfl⟩
  have HGW := Lib.hid hgw
  have HR0 := Lib.hid (show Rq w m gw 0 (w.alloc (.cells (rowW (wl m 0)) 79)) from ⟨by unfold Wb; rw [hgw]; exact heap_alloc_last w _, (Below.refl _ w).alloc (Nat.le_refl _) _⟩)
  clear hgw
  go_enter Tryd.func52, Tryd.ntmps52
  go_wp2
  rw [← HGW.out]
  clear hmk
  go_loopw [8] (fun s8 wr => ∃ k : Nat, k ≤ 16 ∧ s8 = .int .i64 (k : Int) ∧ Rq w m gw k wr) (fun s8 _ => 16 - (intOf s8).toNat)
  case atStart => exact ⟨0, by omega, rfl, HR0.out⟩
  case round =>
    clear HR0
    obtain ⟨k, hk, rfl, hR⟩ := hrel
    have HR := Lib.hid hR
    by_cases hlt : k < 16
    · have cw : wr.cell? ⟨gw, k, none⟩ = some (.int .u32 ((wl m k).getD k 0)) := hR.1.cell k (by rw [wl_len]; omega)
      have fw1 : wr.frozen? ⟨gw, k, none⟩ = false := hR.1.free k
      obtain ⟨L4, hL4⟩ : ∃ L4, L4 = (m.drop (4 * k)).take 4 := ⟨_, rfl⟩
      obtain ⟨N4, hN4⟩ : ∃ N4, N4 = numL L4 := ⟨_, rfl⟩
      have q4 : L4.length = 4 := by rw [hL4]; simp; have := HM.out; omega
      have x4 : ∀ c ∈ L4, c < 256 := by rw [hL4]; exact fun c hc => HL.out c (List.mem_of_mem_drop (List.mem_of_mem_take hc))
      have hwd : wd m k = (N4 : Int) := by rw [hN4, hL4, fw_num m k (by have := HM.out; omega)]; exact wd_lo m k hlt
      have b4 : N4 < 4294967296 := by have := numL_lt L4 x4; rw [q4] at this; rw [hN4]; exact this
      have HS4 := Lib.hid (show Sl wr (some ⟨b, off + 4 * k, none⟩) L4 from .inr ⟨b, off + 4 * k, rfl, by
        rw [hL4]
        intro i hi
        have hi2 : 4 * k + i < m.length := by simp at hi; omega
        have := cell_then hR.2 (Nat.le_refl _) (HC.out (4 * k + i) hi2)
        rw [show off + 4 * k + i = off + (4 * k + i) by omega, this]; simp⟩)
      have e4 : (N4 : Int) % 4294967296 = (N4 : Int) := by omega
      have HQ4 := Lib.hid q4
      have HX4 := Lib.hid x4
      have HN4 := Lib.hid hN4
      have HNX := Lib.hid (show Rq w m gw (k + 1) (wr.setCell ⟨gw, k, none⟩ (.int .u32 (N4 : Int))) by rw [← hwd]; exact hR.set (by omega) (by rw [HGW.out]; exact Nat.le_refl _))
      have el : 4 * k + 4 - 4 * k = 4 := by omega
      clear hR hL4 q4 x4 hN4 hwd b4
      generalize (wl m k).getD k 0 = Y at *
      go_wp2_with (go_at_call 56; refine (bigC (some ⟨b, off + 4 * k, none⟩) 4 (cap - 4 * k) L4 wr HQ4.out.symm (by rw [HQ4.out]; decide) HX4.out HS4.out).mono ?_; rintro e w' ⟨rfl, rfl⟩; rw [← HN4.out])
      go_roundw
      case rel => exact ⟨k + 1, by omega, by go_num, HNX.out⟩
      case measure => simp [intOf]; omega
    · obtain rfl : k = 16 := by omega
      clear hR hk hlt
      as_aux_lemma =>
        go_wp2
        rw [show (((16 : Nat) : Int)) = 16 from rfl]
        obtain ⟨wo, rfl⟩ : ∃ wo : World, wo = wr := ⟨_, rfl⟩
        go_loopw [9] (fun s9 wr => ∃ k : Nat, 16 ≤ k ∧ k ≤ 64 ∧ s9 = .int .i64 (k : Int) ∧ Rq w m gw k wr) (fun s9 _ => 64 - (intOf s9).toNat)
        case atStart => exact ⟨16, by omega, by omega, rfl, HR.out⟩
        case round =>
          clear HR
          obtain ⟨k, hk0, hk, rfl, hR⟩ := hrel
          by_cases hlt : k < 64
          · have cm : ∀ j, j < k → wr.cell? ⟨gw, j, none⟩ = some (.int .u32 (wd m j)) := by
              intro j hj
              rw [hR.1.cell j (by rw [wl_len]; omega), wl_at m k j (by omega), if_pos hj]
            have c15 := cm (k - 15) (by omega)
            have c2 := cm (k - 2) (by omega)
            have c16 := cm (k - 16) (by omega)
            have c7 := cm (k - 7) (by omega)
            have cw : wr.cell? ⟨gw, k, none⟩ = some (.int .u32 ((wl m k).getD k 0)) := hR.1.cell k (by rw [wl_len]; omega)
            have fw1 : wr.frozen? ⟨gw, k, none⟩ = false := hR.1.free k
            have hwd : wd m k = nw (wd m (k - 16)) (wd m (k - 15)) (wd m (k - 7)) (wd m (k - 2)) := by
              have := wd_hi m (k - 16)
              rw [show k - 16 + 16 = k by omega, show k - 16 + 1 = k - 15 by omega, show k - 16 + 9 = k - 7 by omega, show k - 16 + 14 = k - 2 by omega] at this
              exact this
            have nR := fun w1 (h : Rq w m gw k w1) => Rq.set h (show k < 64 by omega) (by rw [HGW.out]; exact Nat.le_refl _)
            have n16 := fun w1 (h : Rq w m gw k w1) => (nR w1 h).1.cell (k - 16) (by rw [wl_len]; omega)
            have n7 := fun w1 (h : Rq w m gw k w1) => (nR w1 h).1.cell (k - 7) (by rw [wl_len]; omega)
            rw [wl_at m (k + 1) (k - 16) (by omega), if_pos (by omega)] at n16
            rw [wl_at m (k + 1) (k - 7) (by omega), if_pos (by omega)] at n7
            have HKK := Lib.hid (show 16 ≤ k + 1 ∧ k + 1 ≤ 64 by omega)
            have NR := Lib.hid nR
            have N16 := Lib.hid n16
            have N7 := Lib.hid n7
            have HRk := Lib.hid hR
            clear hR cm nR n16 n7
            generalize wd m k = X at *
            generalize (wl m k).getD k 0 = Y at *
            generalize wd m (k - 15) = a at *
            generalize wd m (k - 2) = b2 at *
            generalize wd m (k - 16) = c at *
            generalize wd m (k - 7) = d at *
            obtain ⟨D16, hD16⟩ : ∃ D, D = k - 16 := ⟨_, rfl⟩
            obtain ⟨D7, hD7⟩ : ∃ D, D = k - 7 := ⟨_, rfl⟩
            have HSUB := Lib.hid (sub_facts k D16 D7 hk0 hlt hD16 hD7)
            have HD16 := Lib.hid hD16
            have HD7 := Lib.hid hD7
            clear hD16 hD7
            have i15 : ((k : Int) - 15).toNat = k - 15 := by omega
            have i2 : ((k : Int) - 2).toNat = k - 2 := by omega
            have i16 : ((k : Int) - 16).toNat = k - 16 := by omega
            have i7 : ((k : Int) - 7).toNat = k - 7 := by omega
            as_aux_lemma =>
              go_wp2
              go_big_quiet (fail)
              have HRq := Lib.hid (show Rq w m gw k (wr.drewN nq) from ⟨HRk.out.1, below_drewN HRk.out.2 nq⟩)
              replace c16 : (wr.drewN nq).cell? ⟨gw, k - 16, none⟩ = some (.int .u32 c) := c16
              replace c7 : (wr.drewN nq).cell? ⟨gw, k - 7, none⟩ = some (.int .u32 d) := c7
              replace cw : (wr.drewN nq).cell? ⟨gw, k, none⟩ = some (.int .u32 Y) := cw
              replace fw1 : (wr.drewN nq).frozen? ⟨gw, k, none⟩ = false := fw1
              clear c15 c2 HRk
              generalize wr.drewN nq = wq at *
              as_aux_lemma =>
                rw [nw_is] at hwd
                obtain ⟨T7, e1⟩ : ∃ x, turnW a 7 = x := ⟨_, rfl⟩
                obtain ⟨T18, e2⟩ : ∃ x, turnW a 18 = x := ⟨_, rfl⟩
                obtain ⟨T17, e3⟩ : ∃ x, turnW b2 17 = x := ⟨_, rfl⟩
                obtain ⟨T19, e4⟩ : ∃ x, turnW b2 19 = x := ⟨_, rfl⟩
                have K7 := Lib.hid (show ∀ w1, Calls Tryd.prog 60 #[.int .u32 a, .int .u64 7] w1 fun e w' => e = .returned (.int .u32 T7) ∧ w1 = w' by rw [← e1]; exact fun w1 => turn_7 a w1)
                have K18 := Lib.hid (show ∀ w1, Calls Tryd.prog 60 #[.int .u32 a, .int .u64 18] w1 fun e w' => e = .returned (.int .u32 T18) ∧ w1 = w' by rw [← e2]; exact fun w1 => turn_18 a w1)
                have K17 := Lib.hid (show ∀ w1, Calls Tryd.prog 60 #[.int .u32 b2, .int .u64 17] w1 fun e w' => e = .returned (.int .u32 T17) ∧ w1 = w' by rw [← e3]; exact fun w1 => turn_17 b2 w1)
                have K19 := Lib.hid (show ∀ w1, Calls Tryd.prog 60 #[.int .u32 b2, .int .u64 19] w1 fun e w' => e = .returned (.int .u32 T19) ∧ w1 = w' by rw [← e4]; exact fun w1 => turn_19 b2 w1)
                rw [e1, e2, e3, e4] at hwd
                clear e1 e2 e3 e4
                obtain ⟨Y1, e5⟩ : ∃ x, bits .xor .u32 (bits .xor .u32 T7 T18) (a / 8) = x := ⟨_, rfl⟩
                obtain ⟨Y2, e6⟩ : ∃ x, bits .xor .u32 (bits .xor .u32 T17 T19) (b2 / 1024) = x := ⟨_, rfl⟩
                rw [e5, e6] at hwd
                have hX : IntKind.u32.wrap (IntKind.u32.wrap ((c + Y1) % 4294967296 + d) + Y2) = X := by rw [hwd]; exact wrap3 _ _ _ _
                clear hwd
                go_wp2_with fail
                have ns := N16.out _ HRq.out.drew
                have nt := N7.out _ HRq.out.drew
                have nsd := past_drew (N16.out _ HRq.out)
                have ntd := past_drew (N7.out _ HRq.out)
                have nt := N7.out _ HRq.out.drew
                have nsd := past_drew (N16.out _ HRq.out)
                have ntd := past_drew (N7.out _ HRq.out)
                rw [← HD16.out] at c16 ns nsd
                rw [← HD7.out] at c7 nt ntd
                obtain ⟨z16, z7, l16, l7⟩ := HSUB.out
                obtain ⟨y16, x16, v16⟩ := d_facts D16 l16
                obtain ⟨y7, x7, v7⟩ := d_facts D7 l7
                have hX2 : IntKind.u32.wrap (IntKind.u32.wrap (IntKind.u32.wrap (c + Y1) + d) + Y2) = X := by rw [IntKind.wrap_u32]; exact hX
                clear i15 i2 i16 i7
                have gcw : wq.drew.cell? ⟨gw, k, none⟩ = some (.int .u32 Y) := cw
                have gfw : wq.drew.frozen? ⟨gw, k, none⟩ = false := fw1
                go_region_held3 (fun W => W.cell? ⟨gw, D16, none⟩ = some (.int .u32 c) ∧ W.cell? ⟨gw, D7, none⟩ = some (.int .u32 d)) (first | (refine ⟨?_, ?_⟩ <;> (repeat (first | with_reducible assumption | (with_reducible refine past_drew ?_)))) | exact ⟨ns, nt⟩ | exact ⟨nsd, ntd⟩ | done) (first | (go_at_call 60; (with_reducible refine (K7.out _).mono ?_); rintro e w' ⟨rfl, rfl⟩) | (go_at_call 60; (with_reducible refine (K18.out _).mono ?_); rintro e w' ⟨rfl, rfl⟩) | (go_at_call 60; (with_reducible refine (K17.out _).mono ?_); rintro e w' ⟨rfl, rfl⟩) | (go_at_call 60; (with_reducible refine (K19.out _).mono ?_); rintro e w' ⟨rfl, rfl⟩))
                clear hX hX2 e5 e6 z16 z7 y16 y7 x16 x7 v16 v7 l16 l7 ns nt nsd ntd
                as_aux_lemma =>
                  go_wp2
                  go_roundw
                  case rel => exact ⟨k + 1, HKK.out.1, HKK.out.2, by go_num, NR.out _ HRq.out.drew⟩
                  case measure => simp [intOf]; omega
          · obtain rfl : k = 64 := by omega
            have HR := Lib.hid hR
            clear hR hk hlt hk0
            as_aux_lemma =>
              have HE := Lib.hid (show Rq w m gw 64 (wr.alloc (.cells #[] 79)) from ⟨by have := HR.out.1; unfold Wb at *; rw [Below.heap_alloc _ _ _ (Array.getElem?_eq_some_iff.1 this).1]; exact this, HR.out.2.alloc HR.out.2.size _⟩)
              have HOWN := Lib.hid (show (wr.alloc (.cells #[] 79)).ownsRow wr.heap.size 79 1 (.slice (some ⟨wr.heap.size, 0, none⟩) 0 0) 0 [] from World.ownsRow_made wr #[] 0 (Nat.le_refl _) (by simp) rfl)
              have HHE := Lib.hid (HH.out.then_ HE.out.2 HH.out.lt)
              have HZ := Lib.hid HR.out.2.size
              have HGW2 := Lib.hid (show gw < wr.heap.size from (Array.getElem?_eq_some_iff.1 HR.out.1).1)
              go_wp2_with (at_builtin; refine app_words rfl _ _ rfl wr.heap.size _ rfl HOWN.out gh hc (stL s) rfl rfl HHE.out (by simp) ?_; intro gv cv w5 r5 b5 l5 c5 g5; have HR5 := Lib.hid r5; have HB5 := Lib.hid (And.intro b5 (And.intro l5 c5)); have HG5 := Lib.hid g5; clear r5 b5 l5 c5 g5)
              have g5 : (wr.alloc (.cells #[] 79)).grownBy w5 (some wr.heap.size) := HG5.out
              have HQ5 := Lib.hid (show Rq w m gw 64 w5 from ⟨(g5.block gw (Nat.lt_trans HGW2.out (by simp)) (fun e => by injection e with e; exact absurd e (Nat.ne_of_lt HGW2.out))).trans HE.out.1, HE.out.2.grown g5 HE.out.2.size (fun j hj => by injection hj with hj; rw [← hj]; exact HZ.out)⟩)
              clear g5 HG5
              clear HE HOWN HHE HR
              as_aux_lemma =>
                go_loopw [12, 13] (fun s12 s13 wr => ∃ (k gv cv : Nat) (T : St), k ≤ 64 ∧ s13 = .int .i64 (k : Int) ∧ s12 = .slice (some ⟨gv, 0, none⟩) 8 cv ∧ Hid (rnds m s k = T) ∧ R8 wr gv (stL T) ∧ w.heap.size ≤ gv ∧ 8 ≤ cv ∧ Rq w m gw 64 wr) (fun _ s13 _ => 64 - (intOf s13).toNat)
                case atStart => exact ⟨0, gv, cv, s, by omega, rfl, rfl, Lib.hid rfl, HR5.out, Nat.le_trans HZ.out HB5.out.1, HB5.out.2.2, HQ5.out⟩
                case round =>
                  clear HR5 HB5 HQ5 HGW2 HZ
                  obtain ⟨k, gv, cv, ⟨A, B, C, D, E, F, G, H⟩, hk, rfl, rfl, hS, hR8, hgv, hcv, hQ⟩ := hrel
                  have HQ := Lib.hid hQ
                  have HR8 := Lib.hid hR8
                  have HGV := Lib.hid hgv
                  have HCV := Lib.hid hcv
                  by_cases hlt : k < 64
                  · have v0 : wr.cell? ⟨gv, 0, none⟩ = some (.int .u32 A) := hR8.cell 0 (Nat.lt_of_lt_of_eq (show 0 < 8 by decide) rfl)
                    have v1 : wr.cell? ⟨gv, 1, none⟩ = some (.int .u32 B) := hR8.cell 1 (Nat.lt_of_lt_of_eq (show 1 < 8 by decide) rfl)
                    have v2 : wr.cell? ⟨gv, 2, none⟩ = some (.int .u32 C) := hR8.cell 2 (Nat.lt_of_lt_of_eq (show 2 < 8 by decide) rfl)
                    have v3 : wr.cell? ⟨gv, 3, none⟩ = some (.int .u32 D) := hR8.cell 3 (Nat.lt_of_lt_of_eq (show 3 < 8 by decide) rfl)
                    have v4 : wr.cell? ⟨gv, 4, none⟩ = some (.int .u32 E) := hR8.cell 4 (Nat.lt_of_lt_of_eq (show 4 < 8 by decide) rfl)
                    have v5 : wr.cell? ⟨gv, 5, none⟩ = some (.int .u32 F) := hR8.cell 5 (Nat.lt_of_lt_of_eq (show 5 < 8 by decide) rfl)
                    have v6 : wr.cell? ⟨gv, 6, none⟩ = some (.int .u32 G) := hR8.cell 6 (Nat.lt_of_lt_of_eq (show 6 < 8 by decide) rfl)
                    have v7 : wr.cell? ⟨gv, 7, none⟩ = some (.int .u32 H) := hR8.cell 7 (Nat.lt_of_lt_of_eq (show 7 < 8 by decide) rfl)
                    have ck : wr.cell? ⟨gk, k, none⟩ = some (.int .u32 (kAt k)) := (HK.out.then_ hQ.2 HK.out.lt).cell k (by exact hlt)
                    have cw : wr.cell? ⟨gw, k, none⟩ = some (.int .u32 (wd m k)) := by rw [hQ.1.cell k (by rw [wl_len]; exact hlt), wl_at m 64 k hlt, if_pos hlt]
                    have nx := Lib.hid (show rnds m s (k + 1) = rnd ⟨A, B, C, D, E, F, G, H⟩ (kAt k) (wd m k) by rw [← hS.out]; rfl)
                    clear hR8 hQ hgv hcv hS
                    generalize kAt k = K0 at *
                    generalize wd m k = W0 at *
                    obtain ⟨T6, e1⟩ : ∃ x, turnW E 6 = x := ⟨_, rfl⟩
                    obtain ⟨T11, e2⟩ : ∃ x, turnW E 11 = x := ⟨_, rfl⟩
                    obtain ⟨T25, e3⟩ : ∃ x, turnW E 25 = x := ⟨_, rfl⟩
                    obtain ⟨Y1, e4⟩ : ∃ x, bits .xor .u32 T6 T11 = x := ⟨_, rfl⟩
                    obtain ⟨X1, e5⟩ : ∃ x, bits .xor .u32 Y1 T25 = x := ⟨_, rfl⟩
                    obtain ⟨N1, e6⟩ : ∃ x, bits .and .u32 E F = x := ⟨_, rfl⟩
                    obtain ⟨NE, e7⟩ : ∃ x, bits .xor .u32 (if IntKind.u32.signed = true then -1 else IntKind.u32.max) E = x := ⟨_, rfl⟩
                    obtain ⟨N2, e8⟩ : ∃ x, bits .and .u32 NE G = x := ⟨_, rfl⟩
                    obtain ⟨CH, e9⟩ : ∃ x, bits .xor .u32 N1 N2 = x := ⟨_, rfl⟩
                    obtain ⟨T1, e10⟩ : ∃ x, (H + X1 + CH + K0 + W0) % 4294967296 = x := ⟨_, rfl⟩
                    obtain ⟨T2, e11⟩ : ∃ x, turnW A 2 = x := ⟨_, rfl⟩
                    obtain ⟨T13, e12⟩ : ∃ x, turnW A 13 = x := ⟨_, rfl⟩
                    obtain ⟨T22, e13⟩ : ∃ x, turnW A 22 = x := ⟨_, rfl⟩
                    obtain ⟨Y2, e14⟩ : ∃ x, bits .xor .u32 T2 T13 = x := ⟨_, rfl⟩
                    obtain ⟨X2, e15⟩ : ∃ x, bits .xor .u32 Y2 T22 = x := ⟨_, rfl⟩
                    obtain ⟨M1, e16⟩ : ∃ x, bits .and .u32 A B = x := ⟨_, rfl⟩
                    obtain ⟨M2, e17⟩ : ∃ x, bits .and .u32 A C = x := ⟨_, rfl⟩
                    obtain ⟨M3, e18⟩ : ∃ x, bits .and .u32 B C = x := ⟨_, rfl⟩
                    obtain ⟨M4, e19⟩ : ∃ x, bits .xor .u32 M1 M2 = x := ⟨_, rfl⟩
                    obtain ⟨MJ, e20⟩ : ∃ x, bits .xor .u32 M4 M3 = x := ⟨_, rfl⟩
                    obtain ⟨U2, e21⟩ : ∃ x, (X2 + MJ) % 4294967296 = x := ⟨_, rfl⟩
                    obtain ⟨A1, e22⟩ : ∃ x, (T1 + U2) % 4294967296 = x := ⟨_, rfl⟩
                    obtain ⟨E1, e23⟩ : ∃ x, (D + T1) % 4294967296 = x := ⟨_, rfl⟩
                    have nS : Hid (rnds m s (k + 1) = ⟨A1, A, B, C, E1, E, F, G⟩) := Lib.hid (by
                      have e7' : bits .xor .u32 IntKind.u32.max E = NE := e7
                      rw [nx.out]; simp only [rnd, t1, t2, sig, xo, an, no, e1, e2, e3, e4, e5, e6, e7', e8, e9, e10, e11, e12, e13, e14, e15, e16, e17, e18, e19, e20, e21, e22, e23])
                    have K6 := Lib.hid (show ∀ w1, Calls Tryd.prog 60 #[.int .u32 E, .int .u64 6] w1 fun e w' => e = .returned (.int .u32 T6) ∧ w' = w1 by rw [← e1]; exact fun w1 => (turn_6 E w1).mono fun _ _ h => ⟨h.1, h.2.symm⟩)
                    have K11 := Lib.hid (show ∀ w1, Calls Tryd.prog 60 #[.int .u32 E, .int .u64 11] w1 fun e w' => e = .returned (.int .u32 T11) ∧ w' = w1 by rw [← e2]; exact fun w1 => (turn_11 E w1).mono fun _ _ h => ⟨h.1, h.2.symm⟩)
                    have K25 := Lib.hid (show ∀ w1, Calls Tryd.prog 60 #[.int .u32 E, .int .u64 25] w1 fun e w' => e = .returned (.int .u32 T25) ∧ w' = w1 by rw [← e3]; exact fun w1 => (turn_25 E w1).mono fun _ _ h => ⟨h.1, h.2.symm⟩)
                    have K2 := Lib.hid (show ∀ w1, Calls Tryd.prog 60 #[.int .u32 A, .int .u64 2] w1 fun e w' => e = .returned (.int .u32 T2) ∧ w' = w1 by rw [← e11]; exact fun w1 => (turn_2 A w1).mono fun _ _ h => ⟨h.1, h.2.symm⟩)
                    have K13 := Lib.hid (show ∀ w1, Calls Tryd.prog 60 #[.int .u32 A, .int .u64 13] w1 fun e w' => e = .returned (.int .u32 T13) ∧ w' = w1 by rw [← e12]; exact fun w1 => (turn_13 A w1).mono fun _ _ h => ⟨h.1, h.2.symm⟩)
                    have K22 := Lib.hid (show ∀ w1, Calls Tryd.prog 60 #[.int .u32 A, .int .u64 22] w1 fun e w' => e = .returned (.int .u32 T22) ∧ w' = w1 by rw [← e13]; exact fun w1 => (turn_22 A w1).mono fun _ _ h => ⟨h.1, h.2.symm⟩)
                    clear nx e1 e2 e3 e11 e12 e13
                    as_aux_lemma =>
                      go_wp2_with fail
                      go_big_quiet (first | (go_at_call 60; with_reducible exact Calls.quiet_of_same (K6.out _)) | (go_at_call 60; with_reducible exact Calls.quiet_of_same (K11.out _)) | (go_at_call 60; with_reducible exact Calls.quiet_of_same (K25.out _)))
                      rw [modT, e10]
                      have HQw := Lib.hid (show Rq w m gw 64 (wr.drewN nq) from ⟨HQ.out.1, below_drewN HQ.out.2 nq⟩)
                      have HRw := Lib.hid (show R8 (wr.drewN nq) gv [A, B, C, D, E, F, G, H] from HR8.out)
                      clear v0 v1 v2 v3 v4 v5 v6 v7 ck cw HQ HR8 K6 K11 K25 e4 e5 e6 e7 e8 e9
                      generalize wr.drewN nq = wq at *
                      as_aux_lemma =>
                        have v0 : wq.cell? ⟨gv, 0, none⟩ = some (.int .u32 A) := HRw.out.cell 0 (Nat.lt_of_lt_of_eq (show 0 < 8 by decide) rfl)
                        have v1 : wq.cell? ⟨gv, 1, none⟩ = some (.int .u32 B) := HRw.out.cell 1 (Nat.lt_of_lt_of_eq (show 1 < 8 by decide) rfl)
                        have v2 : wq.cell? ⟨gv, 2, none⟩ = some (.int .u32 C) := HRw.out.cell 2 (Nat.lt_of_lt_of_eq (show 2 < 8 by decide) rfl)
                        go_wp2_with fail
                        go_big_quiet (first | (go_at_call 60; with_reducible exact Calls.quiet_of_same (K2.out _)) | (go_at_call 60; with_reducible exact Calls.quiet_of_same (K13.out _)) | (go_at_call 60; with_reducible exact Calls.quiet_of_same (K22.out _)))
                        rw [e21]
                        have HQx := Lib.hid (show Rq w m gw 64 (wq.drewN nq) from ⟨HQw.out.1, below_drewN HQw.out.2 nq⟩)
                        have HRx := Lib.hid (show R8 (wq.drewN nq) gv [A, B, C, D, E, F, G, H] from HRw.out)
                        clear v0 v1 v2 HQw HRw K2 K13 K22 e14 e15 e16 e17 e18 e19 e20
                        generalize wq.drewN nq = wx at *
                        as_aux_lemma =>
                          have v0 : wx.cell? ⟨gv, 0, none⟩ = some (.int .u32 A) := HRx.out.cell 0 (Nat.lt_of_lt_of_eq (show 0 < 8 by decide) rfl)
                          have v1 : wx.cell? ⟨gv, 1, none⟩ = some (.int .u32 B) := HRx.out.cell 1 (Nat.lt_of_lt_of_eq (show 1 < 8 by decide) rfl)
                          have v2 : wx.cell? ⟨gv, 2, none⟩ = some (.int .u32 C) := HRx.out.cell 2 (Nat.lt_of_lt_of_eq (show 2 < 8 by decide) rfl)
                          have v3 : wx.cell? ⟨gv, 3, none⟩ = some (.int .u32 D) := HRx.out.cell 3 (Nat.lt_of_lt_of_eq (show 3 < 8 by decide) rfl)
                          have v4 : wx.cell? ⟨gv, 4, none⟩ = some (.int .u32 E) := HRx.out.cell 4 (Nat.lt_of_lt_of_eq (show 4 < 8 by decide) rfl)
                          have v5 : wx.cell? ⟨gv, 5, none⟩ = some (.int .u32 F) := HRx.out.cell 5 (Nat.lt_of_lt_of_eq (show 5 < 8 by decide) rfl)
                          have v6 : wx.cell? ⟨gv, 6, none⟩ = some (.int .u32 G) := HRx.out.cell 6 (Nat.lt_of_lt_of_eq (show 6 < 8 by decide) rfl)
                          have HKK := Lib.hid (show k + 1 ≤ 64 by omega)
                          obtain ⟨R, hR⟩ : ∃ R : Array Value, R = #[.int .u32 A1, .int .u32 A, .int .u32 B, .int .u32 C, .int .u32 E1, .int .u32 E, .int .u32 F, .int .u32 G] := ⟨_, rfl⟩
                          have HRR := Lib.hid hR
                          have HNR := Lib.hid (show R8 (wx.alloc (.cells R 79)) wx.heap.size [A1, A, B, C, E1, E, F, G] by rw [hR]; exact R8.new wx [A1, A, B, C, E1, E, F, G])
                          have HNQ := Lib.hid (show Rq w m gw 64 (wx.alloc (.cells R 79)) from ⟨by have := HQx.out.1; unfold Wb at *; rw [Below.heap_alloc _ _ _ (Array.getElem?_eq_some_iff.1 this).1]; exact this, HQx.out.2.alloc HQx.out.2.size _⟩)
                          have HZX := Lib.hid HQx.out.2.size
                          clear hR
                          go_wp2_with fail
                          have HRW := Lib.hid (show R = #[.int .u32 (IntKind.u32.wrap (T1 + U2)), .int .u32 A, .int .u32 B, .int .u32 C, .int .u32 (IntKind.u32.wrap (D + T1)), .int .u32 E, .int .u32 F, .int .u32 G] by rw [HRR.out, IntKind.wrap_u32, IntKind.wrap_u32, e22, e23])
                          go_still_tail 26, (by kernel_rfl)
                          clear v0 v1 v2 v3 v4 v5 v6 e10 e21 e22 e23
                          refine wpList_words8 rfl (.tmp 172) (.tmp 175) (.tmp 178) (.tmp 181) (.tmp 186) (.tmp 189) (.tmp 192) (.tmp 195) rfl (IntKind.u32.wrap (T1 + U2)) A B C (IntKind.u32.wrap (D + T1)) E F G rfl rfl rfl rfl rfl rfl rfl rfl R HRW.out ?_
                          as_aux_lemma =>
                            change wpList _ _ _ _ _ (wx.drew.alloc _)
                            go_wp2
                            go_roundw
                            case rel => exact ⟨k + 1, wx.heap.size, 8, ⟨A1, A, B, C, E1, E, F, G⟩, HKK.out, by go_num, rfl, nS, HNR.out, HZX.out, Nat.le_refl _, HNQ.out.drew⟩
                            case measure => simp [intOf]; omega
                  · obtain rfl : k = 64 := by omega
                    obtain ⟨V, hV⟩ : ∃ V : St, V = ⟨A, B, C, D, E, F, G, H⟩ := ⟨_, rfl⟩
                    rw [← hV] at HR8 hS
                    have HVS := Lib.hid (show stL (mixS s m) = mixl (stL V) (stL s) 8 by rw [mixl_end]; unfold mixS; rw [hS.out])
                    clear hV hS hR8 hQ hgv hcv hlt hk
                    as_aux_lemma =>
                      go_wp2
                      rw [show (((64 : Nat) : Int)) = 64 from rfl]
                      obtain ⟨wo, rfl⟩ : ∃ wo : World, wo = wr := ⟨_, rfl⟩
                      go_loopw [16] (fun s16 wr => ∃ i : Nat, i ≤ 8 ∧ s16 = .int .i64 (i : Int) ∧ R8 wr gv (mixl (stL V) (stL s) i) ∧ Below w.heap.size w wr) (fun s16 _ => 8 - (intOf s16).toNat)
                      case atStart => exact ⟨0, by omega, rfl, HR8.out, HQ.out.2⟩
                      case round =>
                        clear HR8 HQ
                        obtain ⟨i, hi, rfl, hR, hB⟩ := hrel
                        by_cases hlt : i < 8
                        · have cv : wr.drew.cell? ⟨gv, i, none⟩ = some (.int .u32 ((mixl (stL V) (stL s) i).getD i 0)) := hR.cell i (by rw [mixl_len]; exact hlt)
                          have fv : wr.drew.frozen? ⟨gv, i, none⟩ = false := hR.free i
                          have ch : wr.drew.cell? ⟨gh, i, none⟩ = some (.int .u32 ((stL s).getD i 0)) := (HH.out.then_ hB HH.out.lt).cell i (by exact hlt)
                          rw [mixl_at _ _ _ _ hlt, if_neg (Nat.lt_irrefl _)] at cv
                          have nx := mixl_set (stL V) (stL s) i hlt
                          have HN := Lib.hid (show R8 (wr.setCell ⟨gv, i, none⟩ (.int .u32 (((stL V).getD i 0 + (stL s).getD i 0) % 4294967296))) gv (mixl (stL V) (stL s) (i + 1)) by rw [← nx]; exact hR.set i (by rw [mixl_len]; exact hlt) _)
                          have HBN := Lib.hid (show Below w.heap.size w (wr.setCell ⟨gv, i, none⟩ (.int .u32 (((stL V).getD i 0 + (stL s).getD i 0) % 4294967296))) from hB.setCell HGV.out _)
                          clear nx hR hB
                          generalize (stL V).getD i 0 = P at *
                          generalize (stL s).getD i 0 = Q0 at *
                          go_wp2_with fail
                          go_region
                          go_wp2
                          go_roundw
                          case rel => exact ⟨i + 1, by omega, by go_num, HN.out, HBN.out.drew⟩
                          case measure => simp [intOf]; omega
                        · obtain rfl : i = 8 := by omega
                          have HF := Lib.hid (show R8 wr gv (stL (mixS s m)) by rw [HVS.out]; exact hR)
                          have HFB := Lib.hid hB
                          clear hR hB
                          go_wp2
                          go_ret
                          exact ⟨gv, cv, rfl, HF.out, HGV.out, HCV.out, HFB.out⟩

end Go.Proofs.YtmfkfpgomglplaaDoor.Db
