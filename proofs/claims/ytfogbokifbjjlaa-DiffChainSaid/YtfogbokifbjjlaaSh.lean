/- Screens: Mended and May, of narrow cells. -/
import Derived.Test.YtfogbokifbjjlaaSg
set_option linter.unusedVariables false
namespace Go.Proofs.Ytfogbokifbjjlaa.Sh
open Go Go.RowKit Kit Gm Gv Sa Sb Sd Sf Sg

abbrev cO (c : Ce) : Obj := .cells #[.int .i32 c.r, .int .i64 c.fl, .int .i64 c.fg, .int .i64 c.bg, .int .i64 c.wd] 52
/-- a cell is stored in a block of its own. -/
theorem wpList_store_c1 {w : World} {ops : Array Oper} {rest : List Oper} {o : Oper} {a : Act} {Q : Exit → Act → World → Prop} (hgd : o.guard = none) (x y : Operand) (ho : o.op = .store 52 x y)
    (k : Nat) (c : Ce) (vs : Array Value) (hx : a.eval x = .pointer (some ⟨k, 0, none⟩)) (hy : a.eval y = cvA c) (hg : w.heap[k]? = some (.cells vs 52 (0, 0))) (hv : vs.size = 5)
    (hK : ∀ w', w'.heap[k]? = some (cO c) → (∀ B W, B ≤ k → Below B W w → Below B W w') → (∀ j, j ≠ k → w'.heap[j]? = w.heap[j]?) → w.heap.size ≤ w'.heap.size → wpList Try.prog ops Q rest (a.put o.dst undef) w') : wpList Try.prog ops Q (o :: rest) a w :=
  wpList_plain hgd fun _ hk => wp_store_row (P := Try.prog) 52 x y ho k _ hx hy 52 vs hg (by kernel_rfl) (by simp [hv]) (by simp [Value.oneCell']) (hk _ _ (hK _ (setRow_heap w k _ _ 52 _ hg)
    (fun B W hB hb => ⟨hb.os, hb.tape, hb.output, by simpa using hb.size, fun j hj => (setRow_other w k j _ (by omega)).trans (hb.block j hj)⟩) (fun j hj => setRow_other w k j _ hj) (by simp)))
theorem five {w : World} {k : Nat} {c : Ce} (h : w.heap[k]? = some (cO c)) : w.cell? ⟨k, 0, none⟩ = some (.int .i32 c.r) ∧ w.cell? ⟨k, 1, none⟩ = some (.int .i64 c.fl) ∧ w.cell? ⟨k, 2, none⟩ = some (.int .i64 c.fg) ∧ w.cell? ⟨k, 3, none⟩ = some (.int .i64 c.bg) ∧ w.cell? ⟨k, 4, none⟩ = some (.int .i64 c.wd) := by
  refine ⟨?_, ?_, ?_, ?_, ?_⟩ <;> simp [World.cell?, h]
/-- cells that may be, none of them wide. -/
def Nw (L : List Ce) : Prop := ∀ c ∈ L, c.wd = 0 ∧ Cell.mayB c.r c.fl c.fg c.bg c.wd = true
theorem mayY (c : Ce) (h : Cell.mayB c.r c.fl c.fg c.bg c.wd = true) (w : World) : Calls Try.prog 32 #[.agg #[.int .i32 c.r, .int .i64 c.fl, .int .i64 c.fg, .int .i64 c.bg, .int .i64 c.wd]] w fun e w' => e = .returned (.bool true) ∧ Below w.heap.size w w' :=
  (Cell.may c.r c.fl c.fg c.bg c.wd w).mono fun e w' ⟨h1, h2⟩ => ⟨by rw [h1, h], by rw [← h2]; exact below_two w _ _⟩
set_option maxRecDepth 100000 in
set_option maxHeartbeats 4000000 in
theorem mendedN (R C b off n cap : Nat) (L : List Ce) (w : World) (hR : 1 ≤ R) (hC : 1 ≤ C) (hR2 : R ≤ 1000) (hC2 : C ≤ 1000) (hn : n = L.length) (hm : n ≤ 1000000) (hs : Sc w b off L) (hN : Nw L) (hq : n = R * C) :
    Calls Try.prog 57 #[.int .i64 (R : Int), .int .i64 (C : Int), .slice (some ⟨b, off, none⟩) n cap] w fun e w' => e = .returned (.bool true) ∧ Below w.heap.size w w' := by
  have HC21 := Lib.hid (fun w1 => (countsC R C n w1 hR hC hm hR2 hC2).mono fun e w' (h : _ ∧ _) => (⟨by rw [h.1, decide_eq_true hq], h.2⟩ : e = .returned (.bool true) ∧ w1 = w'))
  have h5 : (C : Int) ≠ 0 := by omega
  have HS := Lib.hid hs
  have HN := Lib.hid hn
  have HM := Lib.hid hm
  have HNW := Lib.hid hN
  clear hs hn hm hN hq
  go_enter Try.func57, Try.ntmps57
  go_wp2_with (go_at_call 81; (with_reducible refine (HC21.out _).mono ?_); rintro e w' ⟨rfl, rfl⟩)
  go_loopw [19] (fun s19 wr => ∃ k : Nat, k ≤ n ∧ s19 = .int .i64 k ∧ Hid (Below w.heap.size w wr)) (fun s19 _ => n - (intOf s19).toNat)
  case atStart => exact ⟨0, Nat.zero_le _, rfl, Lib.hid (Below.refl _ _)⟩
  case round =>
    obtain ⟨k, hk, rfl, HB⟩ := hrel
    by_cases hlt : k < n
    · have HKk := Lib.hid (show k + 1 ≤ n ∧ n - (k + 1) < n - k by omega)
      have hkI : (k : Int) < (n : Int) := by omega
      have hw1 : IntKind.i64.wrap ((k : Int) + 1) = (k : Int) + 1 := IntWalk.i64_in _ (by have := HM.out; omega)
      have hkL : k < L.length := by rw [← HN.out]; exact hlt
      obtain ⟨x0, x1, x2, x3, x4⟩ := (HS.out.then_ HB.out (Nat.le_refl _)).at_ k _ (List.getElem?_eq_getElem hkL)
      have hnw := HNW.out _ (List.getElem_mem hkL)
      generalize L[k] = c at *
      obtain ⟨cr, cfl, cfg, cbg, cwd⟩ := c
      obtain ⟨rfl, hmay⟩ : cwd = 0 ∧ _ := hnw
      dsimp only at x0 x1 x2 x3 x4 hmay
      have hbl := below_one wr (cO zeroC)
      have hfr : (wr.alloc (cO zeroC)).heap[wr.heap.size]? = some (cO zeroC) := heap_alloc_last wr _
      dsimp only [cO, zeroC] at hbl hfr
      generalize hwz : wr.alloc (.cells #[.int .i32 0, .int .i64 0, .int .i64 0, .int .i64 0, .int .i64 0] 52) = wz at *
      have HFR := Lib.hid hfr
      have HBZ := Lib.hid hbl
      have HMY := Lib.hid (mayY ⟨cr, cfl, cfg, cbg, 0⟩ hmay)
      have x0 := cell_then hbl (Nat.le_refl _) x0
      have x1 := cell_then hbl (Nat.le_refl _) x1
      have x2 := cell_then hbl (Nat.le_refl _) x2
      have x3 := cell_then hbl (Nat.le_refl _) x3
      have x4 := cell_then hbl (Nat.le_refl _) x4
      clear hmay hbl hfr hk hkL
      go_wp2_with (first
        | (go_at_call 32; (with_reducible refine (HMY.out _).mono ?_); rintro e w3 ⟨rfl, hb3⟩; have z4 := cell_then hb3 (Nat.le_refl _) y4; have HB3 := Lib.hid (below_then HBA.out hb3 HBA.out.size); clear hb3)
        | ((with_reducible refine wpList_store_c1 rfl _ _ rfl wr.heap.size ⟨cr, cfl, cfg, cbg, 0⟩ _ rfl rfl HFR.out rfl ?_); intro wa ha ba ka za; obtain ⟨y0, y1, y2, y3, y4⟩ := five ha; (dsimp only at y0 y1 y2 y3 y4); have HBA := Lib.hid (HB.out.trans (ba _ _ HB.out.size (HBZ.out.mono HB.out.size))); clear ha ba ka za))
      go_quiet (fail)
      have HB4 := Lib.hid (show Below w.heap.size w (w3.drewN nq) from ⟨HB3.out.os, HB3.out.tape, HB3.out.output, HB3.out.size, HB3.out.block⟩)
      go_wp2
      first
        | exact ⟨⟨k + 1, HKk.out.1, by go_num, HB4⟩, by simp only [intOf]; exact HKk.out.2⟩
        | (go_roundw
           · exact ⟨k + 1, HKk.out.1, by go_num, HB4⟩
           · simp only [intOf]; exact HKk.out.2)
    · obtain rfl : k = n := by omega
      clear hk hlt
      go_wp2
      go_ret
      exact ⟨rfl, HB.out⟩
end Go.Proofs.Ytfogbokifbjjlaa.Sh
