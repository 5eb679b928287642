/- Reading a run of cells (key.readRun, key.need): a plain function, and the contract of the code. -/
import Derived.Test.YtfogbokifbjjlaaLd
import Derived.Test.YtfogbokifbjjlaaRdF
import Derived.StillTailTactics
set_option linter.unusedVariables false
namespace Go.Proofs.Ytfogbokifbjjlaa.Ma
open Go Go.RowKit Kit Gm Gv Crc Var Get Bytes WireFirst Ref3 Copy Ap Sa Sb Rd RdA RdB RdC RdF La
open Sh (wpList_store_c1)

abbrev M64 : Nat := 18446744073709551615
/-- the reader behind k numbers, and the k-th of them. -/
def rst (l : List Nat) (r : Rdr) : Nat → Rdr
  | 0 => r
  | k + 1 => (numN l (rst l r k) M64).2
def rva (l : List Nat) (r : Rdr) (k : Nat) : Int := (numN l (rst l r k) M64).1
theorem num_a (l : List Nat) (r : Rdr) (m : Nat) : (numN l r m).2.a = r.a ∧ (numN l r m).2.len = r.len ∧ (numN l r m).2.cap = r.cap := by
  unfold numN
  split
  · exact ⟨rfl, rfl, rfl⟩
  · split
    · exact ⟨rfl, rfl, rfl⟩
    · split <;> exact ⟨rfl, rfl, rfl⟩
theorem by_num {w : World} {l : List Nat} {r : Rdr} {m : Nat} (h : By w r l) : By w (numN l r m).2 l := by
  obtain ⟨h1, h2, h3⟩ := num_a l r m
  exact ⟨h2.trans h.len, by rw [h1]; exact h.sl, by rw [h2, h3]; exact h.cap, h.small, h.byte⟩
theorem by_rst {w : World} {l : List Nat} {r : Rdr} (h : By w r l) (k : Nat) : By w (rst l r k) l := by
  induction k with
  | zero => exact h
  | succ k ih => exact by_num ih
/-- the six numbers, as far as they were read. -/
def arrV (v : Nat → Int) (k : Nat) : Array Value := ((List.range 6).map fun i => Value.int .u64 (if i < k then v i else 0)).toArray
theorem arr_size (v : Nat → Int) (k : Nat) : (arrV v k).size = 6 := by simp [arrV]
theorem arr_next (v : Nat → Int) (k : Nat) (h : k < 6) : (arrV v k).setIfInBounds k (.int .u64 (v k)) = arrV v (k + 1) := by
  match k, h with
  | 0, _ => rfl
  | 1, _ => rfl
  | 2, _ => rfl
  | 3, _ => rfl
  | 4, _ => rfl
  | 5, _ => rfl
theorem need_t (w : World) : Calls Try.prog 75 #[.bool true] w fun e w' => e = .returned (.tuple #[]) ∧ w = w' := by
  go_enter Try.func75, Try.ntmps75
  go_wp2
  go_end0
  exact ⟨rfl, rfl⟩
/-- what a reading of the package gives up with. -/
def kfault : Value := .iface 100 (.agg #[])
theorem need_f (w : World) : Calls Try.prog 75 #[.bool false] w fun e w' => e = .panicked [{ v := kfault, recovered := false }] ∧ w = w' := by
  go_enter Try.func75, Try.ntmps75
  go_wp2
  exact ⟨rfl, rfl, rfl⟩
def cellR (v : Nat → Int) : Ce := ⟨wrap32 (v 1), wrap64 (v 2), wrap64 (v 3), wrap64 (v 4), wrap64 (v 5)⟩
theorem six_at {w : World} {q : Nat} {v : Nat → Int} (h : w.heap[q]? = some (.cells (arrV v 6) 122 (0, 0))) : w.cell? ⟨q, 0, none⟩ = some (.int .u64 (v 0)) ∧ w.cell? ⟨q, 1, none⟩ = some (.int .u64 (v 1)) ∧ w.cell? ⟨q, 2, none⟩ = some (.int .u64 (v 2)) ∧ w.cell? ⟨q, 3, none⟩ = some (.int .u64 (v 3)) ∧ w.cell? ⟨q, 4, none⟩ = some (.int .u64 (v 4)) ∧ w.cell? ⟨q, 5, none⟩ = some (.int .u64 (v 5)) := by
  refine ⟨?_, ?_, ?_, ?_, ?_, ?_⟩ <;> simp [World.cell?, h, arrV, List.range, List.range.loop]
set_option maxRecDepth 100000 in
set_option maxHeartbeats 4000000 in
theorem readRunOk (p : Nat) (r : Rdr) (l : List Nat) (w : World) (hp : Rc w p r) (hl : By w r l) (he : (rst l r 6).err = 0) (h1 : rva l r 1 ≤ 1114111)
    (hm : Cell.mayB (cellR (rva l r)).r (cellR (rva l r)).fl (cellR (rva l r)).fg (cellR (rva l r)).bg (cellR (rva l r)).wd = true) :
    Calls Try.prog 79 #[.pointer (some ⟨p, 0, none⟩)] w fun e w' => e = .returned (.tuple #[.int .u64 (rva l r 0), cvA (cellR (rva l r))]) ∧ Rc w' p (rst l r 6) ∧ w.grownBy w' (some p) := by
  have hpl := hp.lt
  obtain ⟨hA, hZ⟩ := Sd.two_heap w (.cells #[.int .i32 0, .int .i64 0, .int .i64 0, .int .i64 0, .int .i64 0] 52) (.cells #[.int .u64 0, .int .u64 0, .int .u64 0, .int .u64 0, .int .u64 0, .int .u64 0] 122)
  have hb := Sd.below_two w (.cells #[.int .i32 0, .int .i64 0, .int .i64 0, .int .i64 0, .int .i64 0] 52) (.cells #[.int .u64 0, .int .u64 0, .int .u64 0, .int .u64 0, .int .u64 0, .int .u64 0] 122)
  generalize hw0 : (w.alloc (.cells #[.int .i32 0, .int .i64 0, .int .i64 0, .int .i64 0, .int .i64 0] 52)).alloc (.cells #[.int .u64 0, .int .u64 0, .int .u64 0, .int .u64 0, .int .u64 0, .int .u64 0] 122) = w0 at *
  have HP0 := Lib.hid (hp.then_ hb)
  have HBY := Lib.hid (fun k w' (hg : w.grownBy w' (some p)) => by_rst (By.grown hp hl hg) k)
  have HG0 := Lib.hid (grown_below hb (some p))
  have HA := Lib.hid hA
  have HZ := Lib.hid (show w0.heap[w.heap.size + 1]? = some (.cells (arrV (rva l r) 0) 122 (0, 0)) from hZ)
  have HPL := Lib.hid hpl
  have HNUM := Lib.hid (fun (k : Nat) (w1 : World) (h1 : Rc w1 p (rst l r k)) (h2 : By w1 (rst l r k) l) => (show Calls Try.prog 73 #[.pointer (some ⟨p, 0, none⟩), .int .u64 18446744073709551615] w1 (fun e w' => e = .returned (.int .u64 (rva l r k)) ∧ Rc w' p (rst l r (k + 1)) ∧ w1.grownBy w' (some p)) from numC M64 l h1 h2))
  have HI59 := Lib.hid (show (Try.prog.info? 67).map (·.size) = some 1 by kernel_rfl)
  have HI1 := Lib.hid (fun v : Int => (show (Value.int .u64 v).cells = #[.int .u64 v] from rfl))
  have HE := Lib.hid he
  have H1 := Lib.hid h1
  have HM := Lib.hid hm
  clear hA hZ hb hp hl hpl he h1 hm
  obtain ⟨v, hv⟩ : ∃ v, v = rva l r := ⟨_, rfl⟩
  rw [← hv] at HZ H1 HM ⊢
  simp only [← hv] at HNUM
  clear hv
  go_enter Try.func79, Try.ntmps79
  go_wp2
  go_loopw [8] (fun s8 wr => ∃ k : Nat, k ≤ 6 ∧ s8 = .int .i64 k ∧ Hid (Rc wr p (rst l r k)) ∧ Hid (wr.heap[w.heap.size]? = some (.cells #[.int .i32 0, .int .i64 0, .int .i64 0, .int .i64 0, .int .i64 0] 52 (0, 0))) ∧ Hid (wr.heap[w.heap.size + 1]? = some (.cells (arrV v k) 122 (0, 0))) ∧ Hid (w.grownBy wr (some p)) ∧ Hid (w.heap.size + 2 ≤ wr.heap.size)) (fun s8 _ => 6 - (intOf s8).toNat)
  case atStart => exact ⟨0, Nat.zero_le _, rfl, HP0, HA, HZ, HG0, Lib.hid (Array.getElem?_eq_some_iff.1 HZ.out).1⟩
  case round =>
    obtain ⟨k, hk, rfl, HPk, HAk, HZk, HGk, HSk⟩ := hrel
    by_cases hlt : k < 6
    · have HKk := Lib.hid (show k + 1 ≤ 6 ∧ 6 - (k + 1) < 6 - k by omega)
      have hkI : (k : Int) < 6 := by omega
      have hw1 : IntKind.i64.wrap ((k : Int) + 1) = (k : Int) + 1 := IntWalk.i64_in _ (by omega)
      have HNX := Lib.hid (arr_next v k hlt)
      have HLT := Lib.hid (show k < (arrV v k).size by rw [arr_size]; exact hlt)
      clear hk
      go_wp2_with (first
        | (go_at_call 73; (with_reducible refine (HNUM.out k _ HPk.out (HBY.out k _ HGk.out)).mono ?_); rintro e w1 ⟨rfl, hp1, hg1⟩; have HP1 := Lib.hid (show Rc w1 p (rst l r (k + 1)) from hp1); have HA1 := Lib.hid ((hg1.block _ (Array.getElem?_eq_some_iff.1 HAk.out).1 (by have := HPL.out; intro e; injection e with e; omega)).trans HAk.out); have HZ1 := Lib.hid ((hg1.block _ (Array.getElem?_eq_some_iff.1 HZk.out).1 (by have := HPL.out; intro e; injection e with e; omega)).trans HZk.out); have HG1 := Lib.hid (grown_trans HGk.out hg1); have HS1 := Lib.hid (Nat.le_trans HSk.out hg1.size); clear hp1 hg1)
        | ((with_reducible refine wpList_store_at rfl 67 _ _ rfl HI59.out (w.heap.size + 1) k 122 (arrV v k) (arrV v (k + 1)) (.int .u64 (v k)) rfl rfl (HI1.out _) rfl HZ1.out HLT.out HNX.out ?_); intro w2 h2 b2 k2 z2; have HZ2 := Lib.hid h2; have HP2 := Lib.hid (show Rc w2 p (rst l r (k + 1)) from (k2 _ (by have := HPL.out; omega)).trans HP1.out); have HA2 := Lib.hid ((k2 _ (by omega)).trans HA1.out); have HB2 := Lib.hid (b2 (w.heap.size + 1) w1 (Nat.le_refl _) (Below.refl _ _)); have HG2 := Lib.hid (show w.grownBy w2 (some p) from ⟨HB2.out.os.trans HG1.out.os, HB2.out.tape.trans HG1.out.tape, HB2.out.output.trans HG1.out.output, Nat.le_trans HG1.out.size z2, fun b hb hx => (k2 b (by omega)).trans (HG1.out.block b hb hx)⟩); have HS2 := Lib.hid (Nat.le_trans HS1.out z2); clear h2 b2 k2 z2))
      first
        | exact ⟨⟨k + 1, HKk.out.1, by go_num, HP2, HA2, HZ2, HG2, HS2⟩, by simp only [intOf]; exact HKk.out.2⟩
        | (go_roundw
           · exact ⟨k + 1, HKk.out.1, by go_num, HP2, HA2, HZ2, HG2, HS2⟩
           · simp only [intOf]; exact HKk.out.2)
    · obtain rfl : k = 6 := by omega
      obtain ⟨y0, y1, y2, y3, y4, y5⟩ := six_at HZk.out
      have HERR := Lib.hid (fun w1 (h : Rc w1 p (rst l r 6)) => (show Calls Try.prog 52 #[.pointer (some ⟨p, 0, none⟩)] w1 fun e w' => e = .returned (.int .i64 0) ∧ w1 = w' from HE.out ▸ errC h))
      have HMC := Lib.hid (fun w1 => (Cell.may (cellR v).r (cellR v).fl (cellR v).fg (cellR v).bg (cellR v).wd w1).mono fun e w' (h : _ ∧ _) => (⟨h.1.trans (by rw [HM.out]), by rw [← h.2]; exact Sd.below_two w1 _ _⟩ : e = .returned (.bool true) ∧ Below w1.heap.size w1 w'))
      have hv1 := H1.out
      unfold cellR at HMC
      dsimp only at HMC
      have n1 : w.heap.size + 1 < wr.heap.size := HSk.out
      have n2 : w.heap.size < wr.heap.size := by omega
      have n3 : w.heap.size + 1 ≠ wr.heap.size := by omega
      have n4 : w.heap.size ≠ wr.heap.size := by omega
      have HW2 := Lib.hid (Sd.below_two wr (.cells #[.int .i64 (wrap64 (v 2)), .int .i64 (wrap64 (v 3)), .int .i64 (wrap64 (v 4))] 50) (.cells #[.int .i32 (wrap32 (v 1)), .int .i64 (wrap64 (v 2)), .int .i64 (wrap64 (v 3)), .int .i64 (wrap64 (v 4)), .int .i64 (wrap64 (v 5))] 52))
      have HH2 := Lib.hid (Sd.two_heap wr (.cells #[.int .i64 (wrap64 (v 2)), .int .i64 (wrap64 (v 3)), .int .i64 (wrap64 (v 4))] 50) (.cells #[.int .i32 (wrap32 (v 1)), .int .i64 (wrap64 (v 2)), .int .i64 (wrap64 (v 3)), .int .i64 (wrap64 (v 4)), .int .i64 (wrap64 (v 5))] 52)).2
      clear hk hlt
      go_wp2_with (first
        | (go_at_call 52; (with_reducible refine (HERR.out _ HPk.out).mono ?_); rintro e w' ⟨rfl, rfl⟩)
        | (go_at_call 75; (with_reducible refine (need_t _).mono ?_); rintro e w' ⟨rfl, rfl⟩)
        | (go_at_call 32; (with_reducible refine (HMC.out _).mono ?_); rintro e w5 ⟨rfl, hb5⟩; have HB5 := Lib.hid (below_then HW2.out hb5 HW2.out.size); obtain ⟨x0, x1, x2, x3, x4⟩ := La.five (c := ⟨wrap32 (v 1), wrap64 (v 2), wrap64 (v 3), wrap64 (v 4), wrap64 (v 5)⟩) ((hb5.block _ (Array.getElem?_eq_some_iff.1 HH2.out).1).trans HH2.out); (dsimp only at x0 x1 x2 x3 x4); have HA5 := Lib.hid ((HB5.out.block _ (Array.getElem?_eq_some_iff.1 HAk.out).1).trans HAk.out); replace y0 := cell_then HB5.out (Nat.le_refl _) y0; clear hb5))
      go_still_tail 4, (by kernel_rfl)
      change wpList _ _ _ _ _ w5.drew
      refine wpList_store_c1 rfl _ _ rfl w.heap.size ⟨wrap32 (v 1), wrap64 (v 2), wrap64 (v 3), wrap64 (v 4), wrap64 (v 5)⟩ _ rfl rfl (show w5.drew.heap[w.heap.size]? = _ from HA5.out) rfl ?_
      intro w6 h6 b6 k6 z6
      have HB6 := Lib.hid (b6 w.heap.size w5.drew (Nat.le_refl _) (Below.refl _ _))
      have HG6 := Lib.hid (show w.grownBy w6 (some p) from ⟨HB6.out.os.trans (HB5.out.os.trans HGk.out.os), HB6.out.tape.trans (HB5.out.tape.trans HGk.out.tape), HB6.out.output.trans (HB5.out.output.trans HGk.out.output), Nat.le_trans HGk.out.size (Nat.le_trans HB5.out.size z6), fun b hb hx => (k6 b (by omega)).trans ((HB5.out.block b (Nat.lt_of_lt_of_le hb HGk.out.size)).trans (HGk.out.block b hb hx))⟩)
      have HP6 := Lib.hid (show Rc w6 p (rst l r 6) from (k6 _ (by have := HPL.out; omega)).trans (show Rc w5 p (rst l r 6) from HPk.out.then_ HB5.out))
      obtain ⟨z0, z1, z2, z3, z4⟩ := La.five h6
      dsimp only at z0 z1 z2 z3 z4
      clear h6 b6 k6 z6
      go_wp2
      refine bodyPost_ret (v := .tuple #[.int .u64 (v 0), cvA (cellR v)]) (by simp [results, Try.results79, go_sem, z0, z1, z2, z3, z4, cellR]) rfl ⟨rfl, HP6.out, HG6.out⟩
end Go.Proofs.Ytfogbokifbjjlaa.Ma
