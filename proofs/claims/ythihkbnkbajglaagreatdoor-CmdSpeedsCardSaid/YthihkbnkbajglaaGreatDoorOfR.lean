/- The document's least and Of: contracts. -/
import Derived.Test.YthihkbnkbajglaaGreatDoorOfB
set_option linter.unusedVariables false
namespace Go.Proofs.YthihkbnkbajglaaGreatDoor.OfR
open Go Go.RowKit Kit Nums Rate0 Rate1 Scale Steps Tz OfA OfB

/-- a fraction in a block of its own. -/
def Bk (w : World) (p : Nat) (a b : Nat) : Prop := w.heap[p]? = some (.cells #[.int .u64 (a : Int), .int .u64 (b : Int)] 39 (0, 0))
theorem lt_of_block {w : World} {p : Nat} {o : Obj} (h : w.heap[p]? = some o) : p < w.heap.size := (Array.getElem?_eq_some_iff.1 h).1
variable {w w' : World} {p a b : Nat}
theorem Bk.c0 (h : Bk w p a b) : w.cell? ⟨p, 0, none⟩ = some (.int .u64 (a : Int)) := by have h' : w.heap[p]? = _ := h; simp [World.cell?, h']
theorem Bk.c1 (h : Bk w p a b) : w.cell? ⟨p, 1, none⟩ = some (.int .u64 (b : Int)) := by have h' : w.heap[p]? = _ := h; simp [World.cell?, h']
theorem Bk.fz (h : Bk w p a b) (i : Nat) : w.frozen? ⟨p, i, none⟩ = false := by have h' : w.heap[p]? = _ := h; simp [World.frozen?, h']
theorem Bk.set0 (h : Bk w p a b) (v : Nat) : Bk (w.setCell ⟨p, 0, none⟩ (.int .u64 (v : Int))) p v b := by have h' : w.heap[p]? = _ := h; simp [Bk, World.setCell, Array.getElem?_modify, h']
theorem Bk.set1 (h : Bk w p a b) (v : Nat) : Bk (w.setCell ⟨p, 1, none⟩ (.int .u64 (v : Int))) p a v := by have h' : w.heap[p]? = _ := h; simp [Bk, World.setCell, Array.getElem?_modify, h']
theorem Bk.other {q i : Nat} {u : Value} (h : Bk w p a b) (hq : p ≠ q) : Bk (w.setCell ⟨q, i, none⟩ u) p a b := (Below.heap_setCell w ⟨q, i, none⟩ u p hq).trans h
theorem leastF_even {k n : Nat} (h : n % 2 = 0) : leastF (k + 1) n = leastF k (n / 2) := by rw [leastF, if_pos h]
theorem leastF_odd {k n : Nat} (h : ¬ n % 2 = 0) : leastF (k + 1) n = (n, 2 ^ (k + 1)) := by rw [leastF, if_neg h]
/-- what is at block p. -/
def denAt (w : World) (p : Nat) : Nat := match w.cell? ⟨p, 1, none⟩ with
  | some (.int _ n) => n.toNat
  | _ => 0
theorem denAt_of (h : Bk w p a b) : denAt w p = b := by simp [denAt, h.c1]
set_option maxRecDepth 100000 in
set_option maxHeartbeats 2000000 in
theorem leastR (n : Nat) (w : World) (hn : n ≤ 1073741824) :
    Calls Tryz.prog 86 #[.int .u64 (n : Int)] w fun e w' => e = .returned (.agg #[.int .u64 ((leastN n).1 : Int), .int .u64 ((leastN n).2 : Int)]) ∧ Below w.heap.size w w' := by
  obtain ⟨L, hL⟩ : ∃ L, L = leastN n := ⟨_, rfl⟩
  have HL := Lib.hid (show L = leastF 20 n by rw [hL]; rfl)
  rw [← hL]
  clear hL
  have h0 : Bk ((w.alloc (.cells #[.int .u64 0, .int .u64 0] 39)).alloc (.cells #[.int .u64 (n : Int), .int .u64 1048576] 39)) (w.heap.size + 1) n (2 ^ 20) := by
    have := heap_alloc_new (w.alloc (.cells #[.int .u64 0, .int .u64 0] 39)) (.cells #[.int .u64 (n : Int), .int .u64 1048576] 39)
    rw [World.size_alloc] at this
    exact this
  have h1 : Bk ((w.alloc (.cells #[.int .u64 0, .int .u64 0] 39)).alloc (.cells #[.int .u64 (n : Int), .int .u64 1048576] 39)) w.heap.size 0 0 := by
    have e := heap_alloc_new w (.cells #[.int .u64 0, .int .u64 0] 39)
    have hb : Below (w.alloc (.cells #[.int .u64 0, .int .u64 0] 39)).heap.size (w.alloc (.cells #[.int .u64 0, .int .u64 0] 39)) ((w.alloc (.cells #[.int .u64 0, .int .u64 0] 39)).alloc (.cells #[.int .u64 (n : Int), .int .u64 1048576] 39)) := (Below.refl _ _).alloc (Nat.le_refl _) _
    exact (hb.block _ (by rw [World.size_alloc]; omega)).trans e
  have hb0 : Below w.heap.size w ((w.alloc (.cells #[.int .u64 0, .int .u64 0] 39)).alloc (.cells #[.int .u64 (n : Int), .int .u64 1048576] 39)) := ((Below.refl _ _).alloc (Nat.le_refl _) _).alloc (by simp) _
  have H0 := Lib.hid h0
  have H1 := Lib.hid h1
  have HB0 := Lib.hid hb0
  clear h0 h1 hb0
  go_enter Tryz.func86, Tryz.ntmps86
  go_wp2
  go_loopw [] (fun wr => ∃ k x : Nat, k ≤ 20 ∧ x ≤ 1073741824 ∧ Hid (L = leastF k x) ∧ Bk wr (w.heap.size + 1) x (2 ^ k) ∧ Bk wr w.heap.size 0 0 ∧ Below w.heap.size w wr) (fun wr => denAt wr (w.heap.size + 1))
  case atStart => exact ⟨20, n, Nat.le_refl _, hn, HL, H0.out, H1.out, HB0.out⟩
  case round =>
    clear H0 H1 HB0 HL
    obtain ⟨k, x, hk, hx, HL, hB, hR, hb⟩ := hrel
    have hden := denAt_of hB
    have c0 := hB.c0
    have c1 := hB.c1
    have f0 := hB.fz 0
    have f1 := hB.fz 1
    have hk20 : 2 ^ k ≤ 2 ^ 20 := Nat.pow_le_pow_right (by decide) hk
    have e20 : (2 : Nat) ^ 20 = 1048576 := by decide
    have hp := Nat.two_pow_pos k
    have HBB := Lib.hid hB
    have HRR := Lib.hid hR
    have HDen := Lib.hid hden
    have fin : Hid (∀ y D : Nat, Bk wr (w.heap.size + 1) y D → Bk ((wr.setCell ⟨w.heap.size, 0, none⟩ (.int .u64 (y : Int))).setCell ⟨w.heap.size, 1, none⟩ (.int .u64 (D : Int))) w.heap.size y D ∧ Below w.heap.size w ((wr.setCell ⟨w.heap.size, 0, none⟩ (.int .u64 (y : Int))).setCell ⟨w.heap.size, 1, none⟩ (.int .u64 (D : Int)))) := Lib.hid (fun y D _ => ⟨(hR.set0 y).set1 D, (hb.setCell (p := ⟨w.heap.size, 0, none⟩) (Nat.le_refl _) _).setCell (p := ⟨w.heap.size, 1, none⟩) (Nat.le_refl _) _⟩)
    have r0 : wr.cell? ⟨w.heap.size, 0, none⟩ = some (.int .u64 0) := hR.c0
    have r1 : wr.cell? ⟨w.heap.size, 1, none⟩ = some (.int .u64 0) := hR.c1
    have rf0 := hR.fz 0
    have rf1 := (hR.set0 x).fz 1
    have rc0 := (hR.set0 x).c0
    have rc1 : (wr.setCell ⟨w.heap.size, 0, none⟩ (.int .u64 (x : Int))).cell? ⟨w.heap.size, 1, none⟩ = some (.int .u64 0) := (hR.set0 x).c1
    cases k with
    | zero =>
      have HL' := Lib.hid (show L = (x, 1) from HL.out)
      have c1 : wr.cell? ⟨w.heap.size + 1, 1, none⟩ = some (.int .u64 1) := c1
      have HF := Lib.hid (fin.out x 1 (by have := HBB.out; rw [Nat.pow_zero] at this; exact this))
      clear hB hR hden hk20 e20 hp HBB HRR HDen fin HL
      have q0 : ((wr.setCell ⟨w.heap.size, 0, none⟩ (.int .u64 (x : Int))).setCell ⟨w.heap.size, 1, none⟩ (.int .u64 1)).cell? ⟨w.heap.size, 0, none⟩ = some (.int .u64 (x : Int)) := HF.out.1.c0
      have q1 : ((wr.setCell ⟨w.heap.size, 0, none⟩ (.int .u64 (x : Int))).setCell ⟨w.heap.size, 1, none⟩ (.int .u64 1)).cell? ⟨w.heap.size, 1, none⟩ = some (.int .u64 1) := HF.out.1.c1
      go_wp2
      refine bodyPost_ret (v := .agg #[.int .u64 (x : Int), .int .u64 1]) (by simp [results, Tryz.results86, go_sem, q0, q1]) rfl ⟨by rw [HL'.out]; rfl, HF.out.2⟩
    | succ k =>
      obtain ⟨D, hD⟩ : ∃ D, D = 2 ^ k := ⟨_, rfl⟩
      have e2 : 2 ^ (k + 1) = 2 * D := by rw [Nat.pow_succ, hD, Nat.mul_comm]
      obtain ⟨D2, hD2⟩ : ∃ D2, D2 = 2 * D := ⟨_, rfl⟩
      rw [e2, ← hD2] at c1
      have hgt : (1 : Int) < (D2 : Int) := by omega
      by_cases hev : x % 2 = 0
      · have hev' : ((x : Int) % 2 == 0) = true := by rw [beq_iff_eq]; omega
        obtain ⟨X, hX⟩ : ∃ X, X = x / 2 := ⟨_, rfl⟩
        have q1 : (x : Int) / 2 = (X : Int) := by omega
        have q2 : IntKind.u64.wrap (X : Int) = (X : Int) := by rw [wu]; omega
        have q3 : (D2 : Int) / 2 = (D : Int) := by omega
        have q4 : IntKind.u64.wrap (D : Int) = (D : Int) := by rw [wu]; omega
        have HL' := Lib.hid (HL.out.trans (leastF_even hev))
        have f1' := (hB.set0 X).fz 1
        have g1' := (hB.set0 X).c1
        rw [e2, ← hD2] at g1'
        have HN := Lib.hid (show Bk ((wr.setCell ⟨w.heap.size + 1, 0, none⟩ (.int .u64 (X : Int))).setCell ⟨w.heap.size + 1, 1, none⟩ (.int .u64 (D : Int))) (w.heap.size + 1) X D ∧ Bk ((wr.setCell ⟨w.heap.size + 1, 0, none⟩ (.int .u64 (X : Int))).setCell ⟨w.heap.size + 1, 1, none⟩ (.int .u64 (D : Int))) w.heap.size 0 0 ∧ Below w.heap.size w ((wr.setCell ⟨w.heap.size + 1, 0, none⟩ (.int .u64 (X : Int))).setCell ⟨w.heap.size + 1, 1, none⟩ (.int .u64 (D : Int))) from
          ⟨(hB.set0 X).set1 D, (hR.other (by omega)).other (by omega), (hb.setCell (p := ⟨w.heap.size + 1, 0, none⟩) (by show w.heap.size ≤ w.heap.size + 1; omega) _).setCell (p := ⟨w.heap.size + 1, 1, none⟩) (by show w.heap.size ≤ w.heap.size + 1; omega) _⟩)
        have HD := Lib.hid hD
        have HX := Lib.hid hX
        have HME := Lib.hid (show denAt wr (w.heap.size + 1) = D2 by rw [HDen.out, e2, hD2])
        have HD2 := Lib.hid hD2
        have hDpos : 0 < D := by rw [hD]; exact Nat.two_pow_pos k
        clear hB hR hb hden hk20 e20 hp HBB HRR HDen fin HL hD hX e2 hD2 r0 r1 rf0 rf1 rc1 rc0
        go_wp2
        go_roundw
        case rel => exact ⟨k, X, by omega, by have := HX.out; omega, by rw [HX.out]; exact HL', by rw [← HD.out]; exact HN.out.1, HN.out.2.1, HN.out.2.2⟩
        case measure =>
          have e1 := denAt_of HN.out.1
          have e3 := HME.out
          have e4 := HD2.out
          omega
      · have hev' : ((x : Int) % 2 == 0) = false := by rw [beq_eq_false_iff_ne]; omega
        have HL' := Lib.hid (show L = (x, D2) by rw [HL.out, leastF_odd hev, e2, hD2])
        have HF := Lib.hid (fin.out x D2 (by have := HBB.out; rw [e2, ← hD2] at this; exact this))
        clear hB hR hden hk20 e20 hp HBB HRR HDen fin HL hev hD e2 hD2
        have q0 := HF.out.1.c0
        have q1 := HF.out.1.c1
        go_wp2
        refine bodyPost_ret (v := .agg #[.int .u64 (x : Int), .int .u64 (D2 : Int)]) (by simp [results, Tryz.results86, go_sem, q0, q1]) rfl ⟨by rw [HL'.out], HF.out.2⟩
end Go.Proofs.YthihkbnkbajglaaGreatDoor.OfR
