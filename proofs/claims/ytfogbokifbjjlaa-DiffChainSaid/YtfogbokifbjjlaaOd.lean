/- Reading a run of cells (key.readRun), whatever comes. -/
import Derived.Test.YtfogbokifbjjlaaMb
import Derived.Test.YtfogbokifbjjlaaNb
import Derived.Test.YtfogbokifbjjlaaMc
set_option linter.unusedVariables false
namespace Go.Proofs.Ytfogbokifbjjlaa.Oa
open Go Go.RowKit Kit Gm Gv Crc Var Get Bytes WireFirst Ref3 Copy Ap Sa Sb Rd RdA RdB RdC RdF La Ma Mb
open Sh (wpList_store_c1)

/-- the package's own fault. -/
def KP (p : Nat) (w : World) (e : Ending) (w' : World) : Prop := e = .panicked [{ v := kfault, recovered := false }] ∧ (∃ r', Rc w' p r') ∧ w.grownBy w' (some p)
/-- what readRun answers. -/
def RunQ (l : List Nat) (r : Rdr) (p : Nat) (w : World) (e : Ending) (w' : World) : Prop := (okRun l r ∧ e = .returned (.tuple #[.int .u64 (rva l r 0), cvA (cellR (rva l r))]) ∧ Rc w' p (rst l r 6) ∧ w.grownBy w' (some p)) ∨ (¬ okRun l r ∧ KP p w e w')
set_option maxRecDepth 100000 in
set_option maxHeartbeats 4000000 in
theorem readRunAny (p : Nat) (r : Rdr) (l : List Nat) (w : World) (hp : Rc w p r) (hl : By w r l) :
    Calls Try.prog 79 #[.pointer (some ⟨p, 0, none⟩)] w (RunQ l r p w) := by
  have hpl := hp.lt
  obtain ⟨hA, hZ⟩ := Sd.two_heap w (.cells #[.int .i32 0, .int .i64 0, .int .i64 0, .int .i64 0, .int .i64 0] 52) (.cells #[.int .u64 0, .int .u64 0, .int .u64 0, .int .u64 0, .int .u64 0, .int .u64 0] 122)
  have hb := Sd.below_two w (.cells #[.int .i32 0, .int .i64 0, .int .i64 0, .int .i64 0, .int .i64 0] 52) (.cells #[.int .u64 0, .int .u64 0, .int .u64 0, .int .u64 0, .int .u64 0, .int .u64 0] 122)
  generalize hw0 : (w.alloc (.cells #[.int .i32 0, .int .i64 0, .int .i64 0, .int .i64 0, .int .i64 0] 52)).alloc (.cells #[.int .u64 0, .int .u64 0, .int .u64 0, .int .u64 0, .int .u64 0, .int .u64 0] 122) = w0 at *
  have HP0 := Lib.hid (hp.then_ hb)
  have HBY := Lib.hid (fun k w' (hg : w.grownBy w' (some p)) => by_rst (By.grown hp hl hg) k)
  have HG0 := Lib.hid (grown_below hb (some p))
  have HA := Lib.hid hA
  have HZ := Lib.hid (show w0.heap[w.heap.size + 1]? = some (.cells (arrV (rva l r) 0) 122 (0, 0)) from hZ)
  have HPL := Lib.hid hpl
  have HNUM := Lib.hid (fun (k : Nat) (w1 : World) (h1 : Rc w1 p (rst l r k)) (h2 : By w1 (rst l r k) l) => (show Calls Try.prog 73 #[.pointer (some ⟨p, 0, none⟩), .int .u64 18446744073709551615] w1 (fun e w' => e = .returned (.int .u64 (rva l r k)) ∧ Rc w' p (rst l r (k + 1)) ∧ w1.grownBy w' (some p)) from numC M64 l h1 h2))
  have HI59 := Lib.hid (show (Try.prog.info? 67).map (·.size) = some 1 by kernel_rfl)
  have HI1 := Lib.hid (fun v : Int => (show (Value.int .u64 v).cells = #[.int .u64 v] from rfl))
  have HYES := Lib.hid (fun (w' : World) (h : okRun l r) (h2 : Rc w' p (rst l r 6)) (h3 : w.grownBy w' (some p)) => (show RunQ l r p w (.returned (.tuple #[.int .u64 (rva l r 0), cvA (cellR (rva l r))])) w' from .inl ⟨h, rfl, h2, h3⟩))
  have HNO := Lib.hid (fun (w' : World) (h : ¬ okRun l r) (h2 : Rc w' p (rst l r 6)) (h3 : w.grownBy w' (some p)) => (show RunQ l r p w (.panicked [{ v := kfault, recovered := false }]) w' from .inr ⟨h, rfl, ⟨_, h2⟩, h3⟩))
  have HOK := Lib.hid (show okRun l r = ((rst l r 6).err = 0 ∧ rva l r 1 ≤ 1114111 ∧ Cell.mayB (cellR (rva l r)).r (cellR (rva l r)).fl (cellR (rva l r)).fg (cellR (rva l r)).bg (cellR (rva l r)).wd = true) from rfl)
  clear hA hZ hb hp hl hpl
  obtain ⟨v, hv⟩ : ∃ v, v = rva l r := ⟨_, rfl⟩
  rw [← hv] at HZ HOK HYES
  simp only [← hv] at HNUM
  clear hv
  go_enter Try.func79, Try.ntmps79
  go_wp2
  go_loopw [8] (fun s8 wr => ∃ k : Nat, k ≤ 6 ∧ s8 = .int .i64 k ∧ Hid (Rc wr p (rst l r k)) ∧ Hid (wr.heap[w.heap.size]? = some (.cells #[.int .i32 0, .int .i64 0, .int .i64 0, .int .i64 0, .int .i64 0] 52 (0, 0))) ∧ Hid (wr.heap[w.heap.size + 1]? = some (.cells (arrV v k) 122 (0, 0))) ∧ Hid (w.grownBy wr (some p)) ∧ Hid (w.heap.size + 2 ≤ wr.heap.size)) (fun s8 _ => 6 - (intOf s8).toNat)
  case atStart => exact ⟨0, Nat.zero_le _, rfl, HP0, HA, HZ, HG0, Lib.hid (Array.getElem?_eq_some_iff.1 HZ.out).1⟩
  case round =>
    obtain ⟨k, hk, rfl, HPk, HAk, HZk, HGk, HSk⟩ := hrel
    by_cases hlt : k < 6
    · have HKk := Lib.hid (show k + 1 ≤ 6 ∧ 6 - (k + 1) < 6 - k by omega)
      have hkI : (k : Int) < 6 := by omega
      have hw1 : IntKind.i64.wrap ((k : Int) + 1) = (k : Int) + 1 := IntWalk.i64_in _ (by omega)
      have HNX := Lib.hid (arr_next v k hlt)
      have HLT := Lib.hid (show k < (arrV v k).size by rw [arr_size]; exact hlt)
      clear hk
      go_wp2_with (first
        | (go_at_call 73; (with_reducible refine (HNUM.out k _ HPk.out (HBY.out k _ HGk.out)).mono ?_); rintro e w1 ⟨rfl, hp1, hg1⟩; have HP1 := Lib.hid (show Rc w1 p (rst l r (k + 1)) from hp1); have HA1 := Lib.hid ((hg1.block _ (Array.getElem?_eq_some_iff.1 HAk.out).1 (by have := HPL.out; intro e; injection e with e; omega)).trans HAk.out); have HZ1 := Lib.hid ((hg1.block _ (Array.getElem?_eq_some_iff.1 HZk.out).1 (by have := HPL.out; intro e; injection e with e; omega)).trans HZk.out); have HG1 := Lib.hid (grown_trans HGk.out hg1); have HS1 := Lib.hid (Nat.le_trans HSk.out hg1.size); clear hp1 hg1)
        | ((with_reducible refine wpList_store_at rfl 67 _ _ rfl HI59.out (w.heap.size + 1) k 122 (arrV v k) (arrV v (k + 1)) (.int .u64 (v k)) rfl rfl (HI1.out _) rfl HZ1.out HLT.out HNX.out ?_); intro w2 h2 b2 k2 z2; have HZ2 := Lib.hid h2; have HP2 := Lib.hid (show Rc w2 p (rst l r (k + 1)) from (k2 _ (by have := HPL.out; omega)).trans HP1.out); have HA2 := Lib.hid ((k2 _ (by omega)).trans HA1.out); have HB2 := Lib.hid (b2 (w.heap.size + 1) w1 (Nat.le_refl _) (Below.refl _ _)); have HG2 := Lib.hid (show w.grownBy w2 (some p) from ⟨HB2.out.os.trans HG1.out.os, HB2.out.tape.trans HG1.out.tape, HB2.out.output.trans HG1.out.output, Nat.le_trans HG1.out.size z2, fun b hb hx => (k2 b (by omega)).trans (HG1.out.block b hb hx)⟩); have HS2 := Lib.hid (Nat.le_trans HS1.out z2); clear h2 b2 k2 z2))
      first
        | exact ⟨⟨k + 1, HKk.out.1, by go_num, HP2, HA2, HZ2, HG2, HS2⟩, by simp only [intOf]; exact HKk.out.2⟩
        | (go_roundw
           · exact ⟨k + 1, HKk.out.1, by go_num, HP2, HA2, HZ2, HG2, HS2⟩
           · simp only [intOf]; exact HKk.out.2)
    · obtain rfl : k = 6 := by omega
      obtain ⟨y0, y1, y2, y3, y4, y5⟩ := six_at HZk.out
      by_cases he : (rst l r 6).err = 0
      · have HERR := Lib.hid (fun w1 (h : Rc w1 p (rst l r 6)) => (show Calls Try.prog 52 #[.pointer (some ⟨p, 0, none⟩)] w1 fun e w' => e = .returned (.int .i64 0) ∧ w1 = w' from he ▸ errC h))
        by_cases h1 : v 1 ≤ 1114111
        · cases hm : Cell.mayB (cellR v).r (cellR v).fl (cellR v).fg (cellR v).bg (cellR v).wd
          · have HF := Lib.hid (show ¬ okRun l r by rw [HOK.out]; rintro ⟨_, _, h⟩; rw [hm] at h; cases h)
            have HMC := Lib.hid (fun w1 => (Cell.may (cellR v).r (cellR v).fl (cellR v).fg (cellR v).bg (cellR v).wd w1).mono fun e w' (h : _ ∧ _) => (⟨h.1.trans (by rw [hm]), by rw [← h.2]; exact Sd.below_two w1 _ _⟩ : e = .returned (.bool false) ∧ Below w1.heap.size w1 w'))
            unfold cellR at HMC
            dsimp only at HMC
            have hv1 := h1
            have n1 : w.heap.size + 1 < wr.heap.size := HSk.out
            have n2 : w.heap.size < wr.heap.size := by omega
            have n3 : w.heap.size + 1 ≠ wr.heap.size := by omega
            have n4 : w.heap.size ≠ wr.heap.size := by omega
            have HW2 := Lib.hid (Sd.below_two wr (.cells #[.int .i64 (wrap64 (v 2)), .int .i64 (wrap64 (v 3)), .int .i64 (wrap64 (v 4))] 50) (.cells #[.int .i32 (wrap32 (v 1)), .int .i64 (wrap64 (v 2)), .int .i64 (wrap64 (v 3)), .int .i64 (wrap64 (v 4)), .int .i64 (wrap64 (v 5))] 52))
            have HH2 := Lib.hid (Sd.two_heap wr (.cells #[.int .i64 (wrap64 (v 2)), .int .i64 (wrap64 (v 3)), .int .i64 (wrap64 (v 4))] 50) (.cells #[.int .i32 (wrap32 (v 1)), .int .i64 (wrap64 (v 2)), .int .i64 (wrap64 (v 3)), .int .i64 (wrap64 (v 4)), .int .i64 (wrap64 (v 5))] 52)).2
            clear hk hlt hm he h1
            go_wp2_with (first
              | (go_at_call 52; (with_reducible refine (HERR.out _ HPk.out).mono ?_); rintro e w' ⟨rfl, rfl⟩)
              | (go_at_call 75; (with_reducible refine (need_t _).mono ?_); rintro e w' ⟨rfl, rfl⟩)
              | (go_at_call 32; (with_reducible refine (HMC.out _).mono ?_); rintro e w5 ⟨rfl, hb5⟩; have HB5 := Lib.hid (below_then HW2.out hb5 HW2.out.size); obtain ⟨x0, x1, x2, x3, x4⟩ := La.five (c := ⟨wrap32 (v 1), wrap64 (v 2), wrap64 (v 3), wrap64 (v 4), wrap64 (v 5)⟩) ((hb5.block _ (Array.getElem?_eq_some_iff.1 HH2.out).1).trans HH2.out); (dsimp only at x0 x1 x2 x3 x4); have HA5 := Lib.hid ((HB5.out.block _ (Array.getElem?_eq_some_iff.1 HAk.out).1).trans HAk.out); replace y0 := cell_then HB5.out (Nat.le_refl _) y0; have HP5 := Lib.hid (show Rc w5 p (rst l r 6) from HPk.out.then_ HB5.out); have HG5 := Lib.hid (grown_trans HGk.out (grown_below HB5.out (some p))); clear hb5)
              | (go_at_call 75; (with_reducible refine (need_f _).mono ?_); rintro e w' ⟨rfl, rfl⟩))
            go_wp2
            exact ⟨rfl, HNO.out _ HF.out HP5.out HG5.out⟩
          · have HF := Lib.hid (show okRun l r by rw [HOK.out]; exact ⟨he, h1, hm⟩)
            have HMC := Lib.hid (fun w1 => (Cell.may (cellR v).r (cellR v).fl (cellR v).fg (cellR v).bg (cellR v).wd w1).mono fun e w' (h : _ ∧ _) => (⟨h.1.trans (by rw [hm]), by rw [← h.2]; exact Sd.below_two w1 _ _⟩ : e = .returned (.bool true) ∧ Below w1.heap.size w1 w'))
            unfold cellR at HMC
            dsimp only at HMC
            have hv1 := h1
            have n1 : w.heap.size + 1 < wr.heap.size := HSk.out
            have n2 : w.heap.size < wr.heap.size := by omega
            have n3 : w.heap.size + 1 ≠ wr.heap.size := by omega
            have n4 : w.heap.size ≠ wr.heap.size := by omega
            have HW2 := Lib.hid (Sd.below_two wr (.cells #[.int .i64 (wrap64 (v 2)), .int .i64 (wrap64 (v 3)), .int .i64 (wrap64 (v 4))] 50) (.cells #[.int .i32 (wrap32 (v 1)), .int .i64 (wrap64 (v 2)), .int .i64 (wrap64 (v 3)), .int .i64 (wrap64 (v 4)), .int .i64 (wrap64 (v 5))] 52))
            have HH2 := Lib.hid (Sd.two_heap wr (.cells #[.int .i64 (wrap64 (v 2)), .int .i64 (wrap64 (v 3)), .int .i64 (wrap64 (v 4))] 50) (.cells #[.int .i32 (wrap32 (v 1)), .int .i64 (wrap64 (v 2)), .int .i64 (wrap64 (v 3)), .int .i64 (wrap64 (v 4)), .int .i64 (wrap64 (v 5))] 52)).2
            clear hk hlt hm he h1
            go_wp2_with (first
              | (go_at_call 52; (with_reducible refine (HERR.out _ HPk.out).mono ?_); rintro e w' ⟨rfl, rfl⟩)
              | (go_at_call 75; (with_reducible refine (need_t _).mono ?_); rintro e w' ⟨rfl, rfl⟩)
              | (go_at_call 32; (with_reducible refine (HMC.out _).mono ?_); rintro e w5 ⟨rfl, hb5⟩; have HB5 := Lib.hid (below_then HW2.out hb5 HW2.out.size); obtain ⟨x0, x1, x2, x3, x4⟩ := La.five (c := ⟨wrap32 (v 1), wrap64 (v 2), wrap64 (v 3), wrap64 (v 4), wrap64 (v 5)⟩) ((hb5.block _ (Array.getElem?_eq_some_iff.1 HH2.out).1).trans HH2.out); (dsimp only at x0 x1 x2 x3 x4); have HA5 := Lib.hid ((HB5.out.block _ (Array.getElem?_eq_some_iff.1 HAk.out).1).trans HAk.out); replace y0 := cell_then HB5.out (Nat.le_refl _) y0; clear hb5))
            go_still_tail 4, (by kernel_rfl)
            change wpList _ _ _ _ _ w5.drew
            refine wpList_store_c1 rfl _ _ rfl w.heap.size ⟨wrap32 (v 1), wrap64 (v 2), wrap64 (v 3), wrap64 (v 4), wrap64 (v 5)⟩ _ rfl rfl (show w5.drew.heap[w.heap.size]? = _ from HA5.out) rfl ?_
            intro w6 h6 b6 k6 z6
            have HB6 := Lib.hid (b6 w.heap.size w5.drew (Nat.le_refl _) (Below.refl _ _))
            have HG6 := Lib.hid (show w.grownBy w6 (some p) from ⟨HB6.out.os.trans (HB5.out.os.trans HGk.out.os), HB6.out.tape.trans (HB5.out.tape.trans HGk.out.tape), HB6.out.output.trans (HB5.out.output.trans HGk.out.output), Nat.le_trans HGk.out.size (Nat.le_trans HB5.out.size z6), fun b hb hx => (k6 b (by omega)).trans ((HB5.out.block b (Nat.lt_of_lt_of_le hb HGk.out.size)).trans (HGk.out.block b hb hx))⟩)
            have HP6 := Lib.hid (show Rc w6 p (rst l r 6) from (k6 _ (by have := HPL.out; omega)).trans (show Rc w5 p (rst l r 6) from HPk.out.then_ HB5.out))
            obtain ⟨z0, z1, z2, z3, z4⟩ := La.five h6
            dsimp only at z0 z1 z2 z3 z4
            clear h6 b6 k6 z6
            go_wp2
            refine bodyPost_ret (v := .tuple #[.int .u64 (v 0), cvA (cellR v)]) (by simp [results, Try.results79, go_sem, z0, z1, z2, z3, z4, cellR]) rfl (HYES.out _ HF.out HP6.out HG6.out)
        · have HF := Lib.hid (show ¬ okRun l r by rw [HOK.out]; rintro ⟨_, h, _⟩; exact h1 h)
          have d1 : decide (v 1 ≤ 1114111) = false := decide_eq_false h1
          clear hk hlt he h1
          go_wp2_with (first
            | (go_at_call 52; (with_reducible refine (HERR.out _ HPk.out).mono ?_); rintro e w' ⟨rfl, rfl⟩)
            | (go_at_call 75; (with_reducible refine (need_f _).mono ?_); rintro e w' ⟨rfl, rfl⟩))
          go_wp2
          exact ⟨rfl, HNO.out _ HF.out HPk.out HGk.out⟩
      · have HF := Lib.hid (show ¬ okRun l r by rw [HOK.out]; rintro ⟨h, _⟩; exact he h)
        have hne : ((rst l r 6).err == 0) = false := by rw [beq_eq_false_iff_ne]; exact he
        have HERR := Lib.hid (fun w1 (h : Rc w1 p (rst l r 6)) => (show Calls Try.prog 52 #[.pointer (some ⟨p, 0, none⟩)] w1 fun e w' => e = .returned (.int .i64 (rst l r 6).err) ∧ w1 = w' from errC h))
        clear hk hlt he
        go_wp2_with (first
          | (go_at_call 52; (with_reducible refine (HERR.out _ HPk.out).mono ?_); rintro e w' ⟨rfl, rfl⟩)
          | (go_at_call 75; (with_reducible refine (need_f _).mono ?_); rintro e w' ⟨rfl, rfl⟩))
        go_wp2
        exact ⟨rfl, HNO.out _ HF.out HPk.out HGk.out⟩
end Go.Proofs.Ytfogbokifbjjlaa.Oa
/- Reading runs of cells (key.runs), whatever comes. -/
set_option linter.unusedVariables false
namespace Go.Proofs.Ytfogbokifbjjlaa.Ob
open Go Go.RowKit Kit Gm Gv Crc Var Get Bytes WireFirst Ref3 Copy Ap Sa Sb Rd RdA RdB RdC RdF La Ma Mb Oa

theorem run_ok {l : List Nat} {r : Rdr} {p : Nat} {w w' : World} {e : Ending} (h : RunQ l r p w e w') (hok : okRun l r) : e = .returned (.tuple #[.int .u64 (rva l r 0), cvA (cellR (rva l r))]) ∧ Rc w' p (rst l r 6) ∧ w.grownBy w' (some p) := by
  rcases h with h | h
  · exact h.2
  · exact absurd hok h.1
theorem run_no {l : List Nat} {r : Rdr} {p : Nat} {w w' : World} {e : Ending} (h : RunQ l r p w e w') (hok : ¬ okRun l r) : KP p w e w' := by
  rcases h with h | h
  · exact absurd h.1 hok
  · exact h.2
theorem val_in (l : List Nat) (r : Rdr) (k : Nat) : ∃ n : Nat, rva l r k = (n : Int) ∧ n ≤ M64 := Na.num_in l (rst l r k) M64
/-- what runs answers. -/
def RunsQ (l : List Nat) (n : Nat) (r : Rdr) (p : Nat) (w : World) (e : Ending) (w' : World) : Prop :=
  (∃ r' L g, runsF l n (n + 1) r [] = some (r', L) ∧ e = .returned (.slice (some ⟨g, 0, none⟩) L.length n) ∧ w.heap.size ≤ g ∧ RB w' g (L ++ List.replicate (n - L.length) zeroC) ∧ Rc w' p r' ∧ w.grownBy w' (some p) ∧ L.length = n) ∨ (runsF l n (n + 1) r [] = none ∧ KP p w e w')
set_option maxRecDepth 100000 in
set_option maxHeartbeats 8000000 in
/-- key.runs. -/
theorem runsAny (p : Nat) (r : Rdr) (l : List Nat) (n : Nat) (w : World) (hn : n ≤ 12000) (hp : Rc w p r) (hl : By w r l) :
    Calls Try.prog 54 #[.pointer (some ⟨p, 0, none⟩), .int .i64 (n : Int)] w (RunsQ l n r p w) := by
  have HQ1 := Lib.hid (fun (r' : Rdr) (L : List Ce) (g : Nat) (w' : World) (h0 : runsF l n (n + 1) r [] = some (r', L)) (h1 : w.heap.size ≤ g) (h2 : RB w' g (L ++ List.replicate (n - L.length) zeroC)) (h3 : Rc w' p r') (h4 : w.grownBy w' (some p)) (h5 : L.length = n) => (show RunsQ l n r p w (.returned (.slice (some ⟨g, 0, none⟩) L.length n)) w' from .inl ⟨r', L, g, h0, rfl, h1, h2, h3, h4, h5⟩))
  have HQ2 := Lib.hid (fun (r' : Rdr) (w' : World) (h0 : runsF l n (n + 1) r [] = none) (h3 : Rc w' p r') (h4 : w.grownBy w' (some p)) => (show RunsQ l n r p w (.panicked [{ v := kfault, recovered := false }]) w' from .inr ⟨h0, rfl, ⟨r', h3⟩, h4⟩))
  obtain ⟨X, hX⟩ : ∃ X, X = runsF l n (n + 1) r [] := ⟨_, rfl⟩
  rw [← hX] at HQ1 HQ2
  have hmk := make_room n hn w
  have hpl := hp.lt
  have hz := heap_alloc_last w (.cells (flat (List.replicate n zeroC)).toArray 52)
  have hb := below_one w (.cells (flat (List.replicate n zeroC)).toArray 52)
  generalize hZ0 : (flat (List.replicate n zeroC)).toArray = Z0 at *
  generalize hw0 : w.alloc (.cells Z0 52) = w0 at *
  have HR0 := Lib.hid (show RB w0 w.heap.size ([] ++ List.replicate (n - 0) zeroC) by unfold RB; rw [List.nil_append, Nat.sub_zero, hZ0]; exact hz)
  have HP0 := Lib.hid (hp.then_ hb)
  have HG0 := Lib.hid (grown_below hb (some p))
  have HBY := Lib.hid (fun w' (hg : w.grownBy w' (some p)) => By.grown hp hl hg)
  have HPL := Lib.hid hpl
  have HN := Lib.hid hn
  have HF := Lib.hid hX.symm
  have HRR := Lib.hid (fun (r1 : Rdr) (w1 : World) (h1 : Rc w1 p r1) (h2 : By w1 r1 l) => readRunAny p r1 l w1 h1 h2)
  clear hX hp hl hz hb hZ0 hpl
  go_enter Try.func54, Try.ntmps54
  go_wp2
  go_loopw [5] (fun s5 wr => ∃ (f : Nat) (r1 : Rdr) (acc : List Ce), acc.length ≤ n ∧ s5 = .slice (some ⟨w.heap.size, 0, none⟩) acc.length n ∧ Hid (runsF l n f r1 acc = X) ∧ Hid (n - acc.length < f) ∧ Hid (RB wr w.heap.size (acc ++ List.replicate (n - acc.length) zeroC)) ∧ Hid (Rc wr p r1) ∧ Hid (r1.a = r.a ∧ r1.len = r.len ∧ r1.cap = r.cap) ∧ Hid (w.grownBy wr (some p))) (fun s5 _ => match s5 with | .slice _ m _ => n - m | _ => 0)
  case atStart => exact ⟨n + 1, r, [], Nat.zero_le _, rfl, HF, Lib.hid (Nat.lt_succ_self _), HR0, HP0, Lib.hid ⟨rfl, rfl, rfl⟩, HG0⟩
  case round =>
    obtain ⟨f, r1, acc, hk, rfl, HFr, HFu, HRr, HPr, HSr, HGr⟩ := hrel
    by_cases hlt : acc.length < n
    · obtain ⟨f, rfl⟩ : ∃ f', f = f' + 1 := ⟨f - 1, by have := HFu.out; omega⟩
      by_cases hfit : fitRun l n r1 acc
      · obtain ⟨hok, hv0, hv1, hlast⟩ := hfit
        have hnx : runsF l n f (rst l r1 6) (acc ++ List.replicate (rva l r1 0).toNat (cellR (rva l r1))) = X := by
          have h := HFr.out
          rw [runsF, if_neg (by omega), if_pos ⟨hok, hv0, hv1, hlast⟩] at h; exact h
        obtain ⟨V, hV⟩ := Int.eq_ofNat_of_zero_le (Int.le_of_lt hv0)
        have HRUN := Lib.hid ((HRR.out r1 wr HPr.out (by_same (HBY.out wr HGr.out) HSr.out)).mono fun e w' h => run_ok h hok)
        rw [hV] at HRUN hnx hv0 hv1
        rw [Int.toNat_natCast] at hnx
        generalize cellR (rva l r1) = c at *
        have HNX := Lib.hid hnx
        clear hok hnx hV
        obtain ⟨k, hkk⟩ : ∃ k, k = acc.length := ⟨_, rfl⟩
        obtain ⟨m, hm⟩ : ∃ m, m = n - k := ⟨_, rfl⟩
        have HRr2 := HRr
        rw [← hkk] at hv1 hlt hk HFu HRr2 ⊢
        rw [← hm] at hv1 HRr2
        have HKK := Lib.hid hkk
        have HM := Lib.hid (show k + m = n ∧ 0 < m ∧ V ≤ m ∧ 0 < V by omega)
        have HFF := Lib.hid (show n - (k + V) < f by have := HFu.out; omega)
        have HLST := Lib.hid (show (((k : Int) == 0) = true) ∨ (((k : Int) == 0) = false ∧ ∃ j d, k = j + 1 ∧ acc[j]? = some d ∧ d ≠ c) by
          rcases hlast with h | h
          · left; rw [beq_iff_eq, hkk, h]; rfl
          · by_cases h0 : acc = []
            · left; rw [beq_iff_eq, hkk, h0]; rfl
            · obtain ⟨d, h1, h2⟩ := last_of h0
              have hpos : 0 < acc.length := List.length_pos_iff.2 h0
              refine .inr ⟨by rw [beq_eq_false_iff_ne]; omega, k - 1, d, by omega, by rw [hkk]; exact h2, fun e => h (by rw [h1, e])⟩)
        have e1 : IntKind.i64.wrap ((n : Int) - (k : Int)) = (m : Int) := by rw [IntWalk.i64_in _ (by have := HN.out; omega)]; omega
        have e2 : wrap64 ((n : Int) - (k : Int)) = (m : Int) := by rw [IntWalk.wrap64_in _ (by have := HN.out; omega)]; omega
        have e3 : IntKind.u64.wrap (m : Int) = (m : Int) := by rw [IntKind.wrap_u64]; have := HN.out; omega
        have hltI : (k : Int) < (n : Int) := by omega
        clear hlast hm hkk hk hlt HFu HRr HFr
        obtain ⟨cr, cfl, cfg, cbg, cwd⟩ := c
        go_upto_region 5 with (first
          | (go_at_call 79; (with_reducible refine HRUN.out.mono ?_); rintro e w5 ⟨rfl, hp5, hg5⟩; have hal := below_one w5 (.cells #[.int .i32 cr, .int .i64 cfl, .int .i64 cfg, .int .i64 cbg, .int .i64 cwd] 52); have HX6 := Lib.hid (heap_alloc_last w5 (.cells #[.int .i32 cr, .int .i64 cfl, .int .i64 cfg, .int .i64 cbg, .int .i64 cwd] 52)); have hr5 : RB w5 w.heap.size (acc ++ List.replicate m zeroC) := (hg5.block _ HRr2.out.lt (by have := HPL.out; intro e; injection e with e; omega)).trans HRr2.out; have HGX := Lib.hid (show w.heap.size < w5.heap.size from hr5.lt); have HR6 := Lib.hid (hr5.then_ hal (Nat.le_refl _)); have HP6 := Lib.hid (hp5.then_ hal); have HG6 := Lib.hid (grown_trans (grown_trans HGr.out hg5) (grown_below hal (some p))); have HPX := Lib.hid (show p ≠ w5.heap.size from Nat.ne_of_lt hp5.lt); clear hp5 hg5 hal hr5)
          | (go_at_call 75; (with_reducible refine (need_t _).mono ?_); rintro e w' ⟨rfl, rfl⟩))
        have HCX := HRUN
        clear HRUN HCX
        generalize hw6 : w5.alloc (.cells #[.int .i32 cr, .int .i64 cfl, .int .i64 cfg, .int .i64 cbg, .int .i64 cwd] 52) = w6 at *
        generalize hx6 : w5.heap.size = x6 at *
        obtain ⟨x0, x1, x2, x3, x4⟩ := La.five (c := ⟨cr, cfl, cfg, cbg, cwd⟩) HX6.out
        dsimp only at x0 x1 x2 x3 x4
        clear e1 e2 e3 hv0 hv1 hw6 hx6
        have HSS := Lib.hid (show (rst l r1 6).a = r.a ∧ (rst l r1 6).len = r.len ∧ (rst l r1 6).cap = r.cap from ⟨(rst_same l r1 6).1.trans HSr.out.1, (rst_same l r1 6).2.1.trans HSr.out.2.1, (rst_same l r1 6).2.2.trans HSr.out.2.2⟩)
        rcases HLST.out with h0 | ⟨h0, j0, d, hkj, hd, hne⟩
        · go_quiet ((go_at_call 75; exact Calls.quiet_of_same ((need_t _).mono fun _ _ h => ⟨h.1, h.2.symm⟩)))
          clear x0 x1 x2 x3 x4 h0
          go_wp2
          have HB7 := Lib.hid (show Below w6.heap.size w6 (w6.drewN nq) from ⟨rfl, rfl, rfl, Nat.le_refl _, fun _ _ => rfl⟩)
          have HR7 := Lib.hid (show RB (w6.drewN nq) w.heap.size (acc ++ List.replicate 0 (⟨cr, cfl, cfg, cbg, cwd⟩ : Ce) ++ List.replicate (m - 0) zeroC) by rw [List.replicate_zero, List.append_nil, Nat.sub_zero]; exact HR6.out)
          have HP7 := Lib.hid (show Rc (w6.drewN nq) p (rst l r1 6) from HP6.out)
          have HG7 := Lib.hid (show w.grownBy (w6.drewN nq) (some p) from ⟨HG6.out.os, HG6.out.tape, HG6.out.output, HG6.out.size, HG6.out.block⟩)
          have HX7 := Lib.hid (show (w6.drewN nq).heap[x6]? = some (cO ⟨cr, cfl, cfg, cbg, cwd⟩) from HX6.out)
          generalize w6.drewN nq = w7 at *
          go_loopw [5, 46] (fun s5 s46 wr => ∃ j : Nat, j ≤ V ∧ s46 = .int .u64 j ∧ s5 = .slice (some ⟨w.heap.size, 0, none⟩) (k + j) n ∧ Hid (RB wr w.heap.size (acc ++ List.replicate j (⟨cr, cfl, cfg, cbg, cwd⟩ : Ce) ++ List.replicate (m - j) zeroC)) ∧ Hid (Rc wr p (rst l r1 6)) ∧ Hid (wr.heap[x6]? = some (cO ⟨cr, cfl, cfg, cbg, cwd⟩)) ∧ Hid (w.grownBy wr (some p))) (fun _ s46 _ => V - (intOf s46).toNat)
          case atStart => exact ⟨0, Nat.zero_le _, rfl, rfl, HR7, HP7, HX7, HG7⟩
          case round =>
            obtain ⟨j, hj, rfl, rfl, HRj, HPj, HXj, HGj⟩ := hrel
            obtain ⟨x0, x1, x2, x3, x4⟩ := La.five HXj.out
            dsimp only at x0 x1 x2 x3 x4
            by_cases hlt2 : j < V
            · have HKj := Lib.hid (show j + 1 ≤ V ∧ V - (j + 1) < V - j by omega)
              have HJM := Lib.hid (show j < m ∧ k + j + 1 ≤ n by have := HM.out; omega)
              have hjI : (j : Int) < (V : Int) := by omega
              have hju : IntKind.u64.wrap ((j : Int) + 1) = (j : Int) + 1 := by rw [IntKind.wrap_u64]; have := HM.out; have := HN.out; omega
              have HRj2 := Lib.hid (show RB wr w.heap.size ((acc ++ List.replicate j (⟨cr, cfl, cfg, cbg, cwd⟩ : Ce)) ++ zeroC :: List.replicate (m - (j + 1)) zeroC) by rw [← rep_room HJM.out.1]; exact HRj.out)
              have HKL := Lib.hid (show k + j = (acc ++ List.replicate j (⟨cr, cfl, cfg, cbg, cwd⟩ : Ce)).length by rw [List.length_append, List.length_replicate, ← HKK.out])
              have HS1 := Lib.hid (HRj2.out.alloc (.cells #[.int .i32 cr, .int .i64 cfl, .int .i64 cfg, .int .i64 cbg, .int .i64 cwd] 52))
              have HS2 := Lib.hid (show RB (wr.alloc (.cells #[.int .i32 cr, .int .i64 cfl, .int .i64 cfg, .int .i64 cbg, .int .i64 cwd] 52)) wr.heap.size [⟨cr, cfl, cfg, cbg, cwd⟩] from heap_alloc_last wr _)
              have hal := below_one wr (.cells #[.int .i32 cr, .int .i64 cfl, .int .i64 cfg, .int .i64 cbg, .int .i64 cwd] 52)
              have HS3 := Lib.hid (HPj.out.then_ hal)
              have HS4 := Lib.hid ((hal.block _ (Array.getElem?_eq_some_iff.1 HXj.out).1).trans HXj.out)
              have HS5 := Lib.hid (grown_trans HGj.out (grown_below hal (some p)))
              clear hal hj hlt2
              go_wp2_with (at_builtin; refine wpList_append_cell rfl _ _ rfl w.heap.size (k + j) n rfl (acc ++ List.replicate j (⟨cr, cfl, cfg, cbg, cwd⟩ : Ce)) (List.replicate (m - (j + 1)) zeroC) zeroC HS1.out HKL.out HJM.out.2 wr.heap.size 1 ⟨cr, cfl, cfg, cbg, cwd⟩ rfl HS2.out ?_; intro w8 hw8; have HR8 := Lib.hid (show RB w8 w.heap.size (acc ++ List.replicate (j + 1) (⟨cr, cfl, cfg, cbg, cwd⟩ : Ce) ++ List.replicate (m - (j + 1)) zeroC) by rw [← hw8, ← rep_put]; exact HS1.out.put _); have HP8 := Lib.hid (show Rc w8 p (rst l r1 6) by rw [← hw8]; exact (setRow_other _ w.heap.size p _ (Nat.ne_of_lt HPL.out)).trans HS3.out); have HX8 := Lib.hid (show w8.heap[x6]? = some (cO ⟨cr, cfl, cfg, cbg, cwd⟩) by rw [← hw8]; exact (setRow_other _ w.heap.size x6 _ (Ne.symm (Nat.ne_of_lt HGX.out))).trans HS4.out); have HG8 := Lib.hid (show w.grownBy w8 (some p) by rw [← hw8]; exact ⟨HS5.out.os, HS5.out.tape, HS5.out.output, by unfold putR; simpa using HS5.out.size, fun b hb hx => (setRow_other _ w.heap.size b _ (Nat.ne_of_lt hb)).trans (HS5.out.block b hb hx)⟩); clear hw8)
              first
                | exact ⟨⟨j + 1, HKj.out.1, by go_num, rfl, HR8, HP8, HX8, HG8⟩, by simp only [intOf]; exact HKj.out.2⟩
                | (go_roundw
                   · exact ⟨j + 1, HKj.out.1, by go_num, rfl, HR8, HP8, HX8, HG8⟩
                   · simp only [intOf]; exact HKj.out.2)
            · obtain rfl : j = V := by omega
              have HLE := Lib.hid (show (acc ++ List.replicate j (⟨cr, cfl, cfg, cbg, cwd⟩ : Ce)).length = k + j by rw [List.length_append, List.length_replicate, ← HKK.out])
              have HMM := Lib.hid (show k + j ≤ n ∧ n - (k + j) = m - j ∧ n - (k + j) < n - k by have := HM.out; omega)
              clear hj hlt2
              go_wp2
              first
                | exact ⟨⟨f, rst l r1 6, acc ++ List.replicate j (⟨cr, cfl, cfg, cbg, cwd⟩ : Ce), by rw [HLE.out]; exact HMM.out.1, by rw [HLE.out], HNX, Lib.hid (by rw [HLE.out]; exact HFF.out), Lib.hid (by rw [HLE.out, HMM.out.2.1]; exact HRj.out), HPj, HSS, HGj⟩, HMM.out.2.2⟩
                | (go_roundw
                   · exact ⟨f, rst l r1 6, acc ++ List.replicate j (⟨cr, cfl, cfg, cbg, cwd⟩ : Ce), by rw [HLE.out]; exact HMM.out.1, by rw [HLE.out], HNX, Lib.hid (by rw [HLE.out]; exact HFF.out), Lib.hid (by rw [HLE.out, HMM.out.2.1]; exact HRj.out), HPj, HSS, HGj⟩
                   · exact HMM.out.2.2)
        · obtain ⟨y0, y1, y2, y3, y4⟩ := (rb_at HR6.out (show (acc ++ List.replicate m zeroC)[j0]? = some d by rw [List.getElem?_append_left (List.getElem?_eq_some_iff.1 hd).1]; exact hd))
          have hce := ce_ne hne
          have f1 : IntKind.i64.wrap ((k : Int) - 1) = (j0 : Int) := by rw [IntWalk.i64_in _ (by have := HN.out; have := HM.out; omega)]; omega
          have f2 : wrap64 ((k : Int) - 1) = (j0 : Int) := by rw [IntWalk.wrap64_in _ (by have := HN.out; have := HM.out; omega)]; omega
          have f3 : j0 < k := by omega
          have f4 : (j0 : Int) < (k : Int) := by omega
          have f5 : (0 : Int) ≤ (j0 : Int) := Int.natCast_nonneg _
          obtain ⟨dr, dfl, dfg, dbg, dwd⟩ := d
          dsimp only at y0 y1 y2 y3 y4 hce
          clear hkj hd hne
          rcases hce with h1 | h1 | h1 | h1 | h1
          all_goals
            go_quiet ((go_at_call 75; exact Calls.quiet_of_same ((need_t _).mono fun _ _ h => ⟨h.1, h.2.symm⟩)))
            clear x0 x1 x2 x3 x4 y0 y1 y2 y3 y4 h0 h1 f1 f2 f3 f4 f5
            go_wp2
            have HB7 := Lib.hid (show Below w6.heap.size w6 (w6.drewN nq) from ⟨rfl, rfl, rfl, Nat.le_refl _, fun _ _ => rfl⟩)
            have HR7 := Lib.hid (show RB (w6.drewN nq) w.heap.size (acc ++ List.replicate 0 (⟨cr, cfl, cfg, cbg, cwd⟩ : Ce) ++ List.replicate (m - 0) zeroC) by rw [List.replicate_zero, List.append_nil, Nat.sub_zero]; exact HR6.out)
            have HP7 := Lib.hid (show Rc (w6.drewN nq) p (rst l r1 6) from HP6.out)
            have HG7 := Lib.hid (show w.grownBy (w6.drewN nq) (some p) from ⟨HG6.out.os, HG6.out.tape, HG6.out.output, HG6.out.size, HG6.out.block⟩)
            have HX7 := Lib.hid (show (w6.drewN nq).heap[x6]? = some (cO ⟨cr, cfl, cfg, cbg, cwd⟩) from HX6.out)
            generalize w6.drewN nq = w7 at *
            go_loopw [5, 46] (fun s5 s46 wr => ∃ j : Nat, j ≤ V ∧ s46 = .int .u64 j ∧ s5 = .slice (some ⟨w.heap.size, 0, none⟩) (k + j) n ∧ Hid (RB wr w.heap.size (acc ++ List.replicate j (⟨cr, cfl, cfg, cbg, cwd⟩ : Ce) ++ List.replicate (m - j) zeroC)) ∧ Hid (Rc wr p (rst l r1 6)) ∧ Hid (wr.heap[x6]? = some (cO ⟨cr, cfl, cfg, cbg, cwd⟩)) ∧ Hid (w.grownBy wr (some p))) (fun _ s46 _ => V - (intOf s46).toNat)
            case atStart => exact ⟨0, Nat.zero_le _, rfl, rfl, HR7, HP7, HX7, HG7⟩
            case round =>
              obtain ⟨j, hj, rfl, rfl, HRj, HPj, HXj, HGj⟩ := hrel
              obtain ⟨x0, x1, x2, x3, x4⟩ := La.five HXj.out
              dsimp only at x0 x1 x2 x3 x4
              by_cases hlt2 : j < V
              · have HKj := Lib.hid (show j + 1 ≤ V ∧ V - (j + 1) < V - j by omega)
                have HJM := Lib.hid (show j < m ∧ k + j + 1 ≤ n by have := HM.out; omega)
                have hjI : (j : Int) < (V : Int) := by omega
                have hju : IntKind.u64.wrap ((j : Int) + 1) = (j : Int) + 1 := by rw [IntKind.wrap_u64]; have := HM.out; have := HN.out; omega
                have HRj2 := Lib.hid (show RB wr w.heap.size ((acc ++ List.replicate j (⟨cr, cfl, cfg, cbg, cwd⟩ : Ce)) ++ zeroC :: List.replicate (m - (j + 1)) zeroC) by rw [← rep_room HJM.out.1]; exact HRj.out)
                have HKL := Lib.hid (show k + j = (acc ++ List.replicate j (⟨cr, cfl, cfg, cbg, cwd⟩ : Ce)).length by rw [List.length_append, List.length_replicate, ← HKK.out])
                have HS1 := Lib.hid (HRj2.out.alloc (.cells #[.int .i32 cr, .int .i64 cfl, .int .i64 cfg, .int .i64 cbg, .int .i64 cwd] 52))
                have HS2 := Lib.hid (show RB (wr.alloc (.cells #[.int .i32 cr, .int .i64 cfl, .int .i64 cfg, .int .i64 cbg, .int .i64 cwd] 52)) wr.heap.size [⟨cr, cfl, cfg, cbg, cwd⟩] from heap_alloc_last wr _)
                have hal := below_one wr (.cells #[.int .i32 cr, .int .i64 cfl, .int .i64 cfg, .int .i64 cbg, .int .i64 cwd] 52)
                have HS3 := Lib.hid (HPj.out.then_ hal)
                have HS4 := Lib.hid ((hal.block _ (Array.getElem?_eq_some_iff.1 HXj.out).1).trans HXj.out)
                have HS5 := Lib.hid (grown_trans HGj.out (grown_below hal (some p)))
                clear hal hj hlt2
                go_wp2_with (at_builtin; refine wpList_append_cell rfl _ _ rfl w.heap.size (k + j) n rfl (acc ++ List.replicate j (⟨cr, cfl, cfg, cbg, cwd⟩ : Ce)) (List.replicate (m - (j + 1)) zeroC) zeroC HS1.out HKL.out HJM.out.2 wr.heap.size 1 ⟨cr, cfl, cfg, cbg, cwd⟩ rfl HS2.out ?_; intro w8 hw8; have HR8 := Lib.hid (show RB w8 w.heap.size (acc ++ List.replicate (j + 1) (⟨cr, cfl, cfg, cbg, cwd⟩ : Ce) ++ List.replicate (m - (j + 1)) zeroC) by rw [← hw8, ← rep_put]; exact HS1.out.put _); have HP8 := Lib.hid (show Rc w8 p (rst l r1 6) by rw [← hw8]; exact (setRow_other _ w.heap.size p _ (Nat.ne_of_lt HPL.out)).trans HS3.out); have HX8 := Lib.hid (show w8.heap[x6]? = some (cO ⟨cr, cfl, cfg, cbg, cwd⟩) by rw [← hw8]; exact (setRow_other _ w.heap.size x6 _ (Ne.symm (Nat.ne_of_lt HGX.out))).trans HS4.out); have HG8 := Lib.hid (show w.grownBy w8 (some p) by rw [← hw8]; exact ⟨HS5.out.os, HS5.out.tape, HS5.out.output, by unfold putR; simpa using HS5.out.size, fun b hb hx => (setRow_other _ w.heap.size b _ (Nat.ne_of_lt hb)).trans (HS5.out.block b hb hx)⟩); clear hw8)
                first
                  | exact ⟨⟨j + 1, HKj.out.1, by go_num, rfl, HR8, HP8, HX8, HG8⟩, by simp only [intOf]; exact HKj.out.2⟩
                  | (go_roundw
                     · exact ⟨j + 1, HKj.out.1, by go_num, rfl, HR8, HP8, HX8, HG8⟩
                     · simp only [intOf]; exact HKj.out.2)
              · obtain rfl : j = V := by omega
                have HLE := Lib.hid (show (acc ++ List.replicate j (⟨cr, cfl, cfg, cbg, cwd⟩ : Ce)).length = k + j by rw [List.length_append, List.length_replicate, ← HKK.out])
                have HMM := Lib.hid (show k + j ≤ n ∧ n - (k + j) = m - j ∧ n - (k + j) < n - k by have := HM.out; omega)
                clear hj hlt2
                go_wp2
                first
                  | exact ⟨⟨f, rst l r1 6, acc ++ List.replicate j (⟨cr, cfl, cfg, cbg, cwd⟩ : Ce), by rw [HLE.out]; exact HMM.out.1, by rw [HLE.out], HNX, Lib.hid (by rw [HLE.out]; exact HFF.out), Lib.hid (by rw [HLE.out, HMM.out.2.1]; exact HRj.out), HPj, HSS, HGj⟩, HMM.out.2.2⟩
                  | (go_roundw
                     · exact ⟨f, rst l r1 6, acc ++ List.replicate j (⟨cr, cfl, cfg, cbg, cwd⟩ : Ce), by rw [HLE.out]; exact HMM.out.1, by rw [HLE.out], HNX, Lib.hid (by rw [HLE.out]; exact HFF.out), Lib.hid (by rw [HLE.out, HMM.out.2.1]; exact HRj.out), HPj, HSS, HGj⟩
                     · exact HMM.out.2.2)
      · have HNX := Lib.hid (show X = none by
          have h := HFr.out
          rw [runsF, if_neg (by omega), if_neg hfit] at h; exact h.symm)
        by_cases hok : okRun l r1
        · have HRUN := Lib.hid ((HRR.out r1 wr HPr.out (by_same (HBY.out wr HGr.out) HSr.out)).mono fun e w' h => run_ok h hok)
          obtain ⟨V, hV, _⟩ := val_in l r1 0
          rw [hV] at HRUN
          obtain ⟨k, hkk⟩ : ∃ k, k = acc.length := ⟨_, rfl⟩
          obtain ⟨m, hm⟩ : ∃ m, m = n - k := ⟨_, rfl⟩
          have HRr2 := HRr
          have hfit2 : ¬ (0 < V ∧ V ≤ m ∧ (acc = [] ∨ acc.getLast? ≠ some (cellR (rva l r1)))) := by
            rintro ⟨g1, g2, g3⟩
            exact hfit ⟨hok, by rw [hV]; omega, by rw [hV]; omega, g3⟩
          rw [← hkk] at hlt hk HRr2 ⊢
          rw [← hm] at HRr2
          generalize cellR (rva l r1) = c at *
          have hmn : k + m = n ∧ 0 < m := by omega
          have e1 : IntKind.i64.wrap ((n : Int) - (k : Int)) = (m : Int) := by rw [IntWalk.i64_in _ (by have := HN.out; omega)]; omega
          have e2 : wrap64 ((n : Int) - (k : Int)) = (m : Int) := by rw [IntWalk.wrap64_in _ (by have := HN.out; omega)]; omega
          have e3 : IntKind.u64.wrap (m : Int) = (m : Int) := by rw [IntKind.wrap_u64]; have := HN.out; omega
          have hltI : (k : Int) < (n : Int) := by omega
          by_cases h0 : 0 < V
          · by_cases h1 : V ≤ m
            · have hl2 : acc ≠ [] ∧ acc.getLast? = some c := by
                refine ⟨fun h => hfit2 ⟨h0, h1, .inl h⟩, ?_⟩
                cases hc : acc.getLast? with
                | none => exact absurd ⟨h0, h1, .inl (List.getLast?_eq_none_iff.1 hc)⟩ hfit2
                | some d =>
                  by_cases hd : d = c
                  · rw [hd]
                  · exact absurd ⟨h0, h1, .inr (by rw [hc]; intro e; injection e with e; exact hd e)⟩ hfit2
              obtain ⟨d, hd1, hd2⟩ := last_of hl2.1
              rw [hl2.2] at hd1
              injection hd1 with hd1; subst hd1
              have hpos : 0 < acc.length := List.length_pos_iff.2 hl2.1
              obtain ⟨j0, hj0⟩ : ∃ j0, k = j0 + 1 := ⟨k - 1, by omega⟩
              have hd : acc[j0]? = some c := by rw [← hd2]; congr 1; omega
              have HD := Lib.hid hd
              have hk0 : ((k : Int) == 0) = false := by rw [beq_eq_false_iff_ne]; omega
              have f1 : IntKind.i64.wrap ((k : Int) - 1) = (j0 : Int) := by rw [IntWalk.i64_in _ (by have := HN.out; omega)]; omega
              have f2 : wrap64 ((k : Int) - 1) = (j0 : Int) := by rw [IntWalk.wrap64_in _ (by have := HN.out; omega)]; omega
              have f3 : j0 < k := by omega
              have f4 : (j0 : Int) < (k : Int) := by omega
              have f5 : (0 : Int) ≤ (j0 : Int) := Int.natCast_nonneg _
              have hv0 : (0 : Int) < (V : Int) := by omega
              have hv1 : (V : Int) ≤ (m : Int) := by omega
              clear hfit hfit2 hl2 hd2 hpos hj0 hd h0 h1 hV hm hkk hk hlt HFu HRr HFr hmn hok
              obtain ⟨cr, cfl, cfg, cbg, cwd⟩ := c
              go_upto_region 5 with (first
                | (go_at_call 79; (with_reducible refine HRUN.out.mono ?_); rintro e w5 ⟨rfl, hp5, hg5⟩; have hal := below_one w5 (.cells #[.int .i32 cr, .int .i64 cfl, .int .i64 cfg, .int .i64 cbg, .int .i64 cwd] 52); have HX6 := Lib.hid (heap_alloc_last w5 (.cells #[.int .i32 cr, .int .i64 cfl, .int .i64 cfg, .int .i64 cbg, .int .i64 cwd] 52)); have hr5 : RB w5 w.heap.size (acc ++ List.replicate m zeroC) := (hg5.block _ HRr2.out.lt (by have := HPL.out; intro e; injection e with e; omega)).trans HRr2.out; have HR6 := Lib.hid (hr5.then_ hal (Nat.le_refl _)); have HP6 := Lib.hid (hp5.then_ hal); have HG6 := Lib.hid (grown_trans (grown_trans HGr.out hg5) (grown_below hal (some p))); clear hp5 hg5 hal hr5)
                | (go_at_call 75; (with_reducible refine (need_t _).mono ?_); rintro e w' ⟨rfl, rfl⟩))
              clear HRUN
              obtain ⟨y0, y1, y2, y3, y4⟩ := (rb_at HR6.out (show (acc ++ List.replicate m zeroC)[j0]? = some ⟨cr, cfl, cfg, cbg, cwd⟩ by rw [List.getElem?_append_left (List.getElem?_eq_some_iff.1 HD.out).1]; exact HD.out))
              generalize hw6 : w5.alloc (.cells #[.int .i32 cr, .int .i64 cfl, .int .i64 cfg, .int .i64 cbg, .int .i64 cwd] 52) = w6 at *
              generalize hx6 : w5.heap.size = x6 at *
              obtain ⟨x0, x1, x2, x3, x4⟩ := La.five (c := ⟨cr, cfl, cfg, cbg, cwd⟩) HX6.out
              dsimp only at x0 x1 x2 x3 x4 y0 y1 y2 y3 y4
              clear e1 e2 e3 hv0 hv1 hw6 hx6
              go_still_tail 13, (by kernel_rfl)
              change wpList _ _ _ _ _ w6.drew
              have HP7 := Lib.hid (show Rc w6.drew p (rst l r1 6) from HP6.out)
              have HG7 := Lib.hid (show w.grownBy w6.drew (some p) from ⟨HG6.out.os, HG6.out.tape, HG6.out.output, HG6.out.size, HG6.out.block⟩)
              generalize w6.drew = w7 at *
              go_wp2_with (go_at_call 75; (with_reducible refine (need_f _).mono ?_); rintro e w' ⟨rfl, rfl⟩)
              go_wp2
              exact ⟨rfl, HQ2.out _ _ HNX.out HP7.out HG7.out⟩
            · have hv0 : (0 : Int) < (V : Int) := by omega
              have hv1 : decide ((V : Int) ≤ (m : Int)) = false := decide_eq_false (by omega)
              have hv2 : decide (V ≤ m) = false := decide_eq_false h1
              clear hfit hfit2 h0 h1 hV hm hkk hk hlt HFu HRr HFr hmn hok
              obtain ⟨cr, cfl, cfg, cbg, cwd⟩ := c
              go_wp2_with (first
                | (go_at_call 79; (with_reducible refine HRUN.out.mono ?_); rintro e w5 ⟨rfl, hp5, hg5⟩; have hal := below_one w5 (.cells #[.int .i32 cr, .int .i64 cfl, .int .i64 cfg, .int .i64 cbg, .int .i64 cwd] 52); have HX6 := Lib.hid (heap_alloc_last w5 (.cells #[.int .i32 cr, .int .i64 cfl, .int .i64 cfg, .int .i64 cbg, .int .i64 cwd] 52)); have hr5 : RB w5 w.heap.size (acc ++ List.replicate m zeroC) := (hg5.block _ HRr2.out.lt (by have := HPL.out; intro e; injection e with e; omega)).trans HRr2.out; have HR6 := Lib.hid (hr5.then_ hal (Nat.le_refl _)); have HP6 := Lib.hid (hp5.then_ hal); have HG6 := Lib.hid (grown_trans (grown_trans HGr.out hg5) (grown_below hal (some p))); clear hp5 hg5 hal hr5)
                | (go_at_call 75; (with_reducible refine (need_f _).mono ?_); rintro e w' ⟨rfl, rfl⟩))
              go_wp2
              exact ⟨rfl, HQ2.out _ _ HNX.out HP6.out HG6.out⟩
          · have hv0 : ¬ (0 : Int) < (V : Int) := by omega
            clear hfit hfit2 h0 hV hm hkk hk hlt HFu HRr HFr hmn hok
            obtain ⟨cr, cfl, cfg, cbg, cwd⟩ := c
            go_wp2_with (first
              | (go_at_call 79; (with_reducible refine HRUN.out.mono ?_); rintro e w5 ⟨rfl, hp5, hg5⟩; have hal := below_one w5 (.cells #[.int .i32 cr, .int .i64 cfl, .int .i64 cfg, .int .i64 cbg, .int .i64 cwd] 52); have HX6 := Lib.hid (heap_alloc_last w5 (.cells #[.int .i32 cr, .int .i64 cfl, .int .i64 cfg, .int .i64 cbg, .int .i64 cwd] 52)); have hr5 : RB w5 w.heap.size (acc ++ List.replicate m zeroC) := (hg5.block _ HRr2.out.lt (by have := HPL.out; intro e; injection e with e; omega)).trans HRr2.out; have HR6 := Lib.hid (hr5.then_ hal (Nat.le_refl _)); have HP6 := Lib.hid (hp5.then_ hal); have HG6 := Lib.hid (grown_trans (grown_trans HGr.out hg5) (grown_below hal (some p))); clear hp5 hg5 hal hr5)
              | (go_at_call 75; (with_reducible refine (need_f _).mono ?_); rintro e w' ⟨rfl, rfl⟩))
            go_wp2
            exact ⟨rfl, HQ2.out _ _ HNX.out HP6.out HG6.out⟩
        · have HRUN := Lib.hid ((HRR.out r1 wr HPr.out (by_same (HBY.out wr HGr.out) HSr.out)).mono fun e w' h => run_no h hok)
          have hltI : (acc.length : Int) < (n : Int) := by omega
          clear hfit hok hk hlt HFu HRr HFr
          go_wp2_with (go_at_call 79; (with_reducible refine HRUN.out.mono ?_); rintro e w5 ⟨rfl, ⟨r5, hp5⟩, hg5⟩; have HP5 := Lib.hid hp5; have HG5 := Lib.hid (grown_trans HGr.out hg5); clear hp5 hg5)
          go_wp2
          exact ⟨rfl, HQ2.out _ _ HNX.out HP5.out HG5.out⟩
    · have he : acc.length = n := by omega
      have HE := Lib.hid (show X = some (r1, acc) by have h := HFr.out; rw [runs_end (by omega)] at h; exact h.symm)
      have HEN := Lib.hid he
      have hge : ¬ (acc.length : Int) < (n : Int) := by omega
      clear hk hlt he
      go_wp2
      go_ret
      exact HQ1.out _ _ _ _ HE.out (Nat.le_refl _) HRr.out HPr.out HGr.out HEN.out
end Go.Proofs.Ytfogbokifbjjlaa.Ob
/- key.ReadCells, whatever comes. -/
set_option linter.unusedVariables false
namespace Go.Proofs.Ytfogbokifbjjlaa.Oc
open Go Go.RowKit Kit Gm Gv Crc Var Get Bytes WireFirst Ref3 Copy Ap Sa Sb Rd RdA RdB RdC RdF La Ma Mb Mc Oa Ob

set_option maxRecDepth 100000 in
/-- mustBeOwn of the package's own fault. -/
theorem ownC (w : World) : Calls Try.prog 47 #[kfault] w fun e w' => e = .returned (.tuple #[]) ∧ Below w.heap.size w w' := by
  unfold kfault
  have hta : ∀ w, (Instr.typeAssert (.iface 100 (.agg #[])) 20 100 true).run Try.prog w = .ok (.tuple #[.agg #[], .bool true]) w := fun w => by kernel_rfl
  have hb := below_one w (.cells #[] 100)
  have HB := Lib.hid hb
  clear hb
  go_enter Try.func47, Try.ntmps47
  go_wp2
  go_end0
  exact ⟨rfl, HB.out⟩
theorem block_set {w : World} {g : Nat} {x y : Value} {t : TypeId} (h : w.heap[g]? = some (.cells #[x] t (0, 0))) : (w.setCell ⟨g, 0, none⟩ y).heap[g]? = some (.cells #[y] t (0, 0)) := by
  rw [heap_setCell_same _ g 0 _ t y h]; rfl
/-- the two results of ReadCells in their blocks. -/
def Res2 (w : World) (g : Nat) (x y : Value) : Prop := w.heap[g]? = some (.cells #[x] 22 (0, 0)) ∧ w.heap[g + 1]? = some (.cells #[y] 4 (0, 0))
theorem res_then {B g : Nat} {x y : Value} {W w1 : World} (hb : Below B W w1) (hB : W.heap.size ≤ B) (h : Res2 W g x y) : Res2 w1 g x y :=
  ⟨(hb.block _ (Nat.lt_of_lt_of_le (Array.getElem?_eq_some_iff.1 h.1).1 hB)).trans h.1, (hb.block _ (Nat.lt_of_lt_of_le (Array.getElem?_eq_some_iff.1 h.2).1 hB)).trans h.2⟩
theorem res_grown {p g : Nat} {x y : Value} {W w1 : World} (hg : W.grownBy w1 (some p)) (hp : p < g) (h : Res2 W g x y) : Res2 w1 g x y :=
  ⟨(hg.block _ (Array.getElem?_eq_some_iff.1 h.1).1 (by intro e; injection e with e; omega)).trans h.1, (hg.block _ (Array.getElem?_eq_some_iff.1 h.2).1 (by intro e; injection e with e; omega)).trans h.2⟩
theorem res_cells {w : World} {g : Nat} {x y : Value} (h : Res2 w g x y) : w.cell? ⟨g, 0, none⟩ = some x ∧ w.cell? ⟨g + 1, 0, none⟩ = some y :=
  ⟨cell_of_row w g 0 _ 22 _ h.1, cell_of_row w (g + 1) 0 _ 4 _ h.2⟩
theorem res_free {w : World} {g : Nat} {x y : Value} (h : Res2 w g x y) : w.frozen? ⟨g, 0, none⟩ = false ∧ w.frozen? ⟨g + 1, 0, none⟩ = false :=
  ⟨frozen_of_row w g 0 _ 22 h.1, frozen_of_row w (g + 1) 0 _ 4 h.2⟩
def put2 (w : World) (g : Nat) (x y : Value) : World := (w.setCell ⟨g, 0, none⟩ x).setCell ⟨g + 1, 0, none⟩ y
theorem res_put {w : World} {g : Nat} {x y : Value} (h : Res2 w g x y) (a b : Value) : Res2 (put2 w g a b) g a b := by
  refine ⟨?_, ?_⟩
  · unfold put2
    rw [heap_setCell_other _ _ _ _ (by simp)]
    exact block_set h.1
  · unfold put2
    have : (w.setCell ⟨g, 0, none⟩ a).heap[g + 1]? = some (.cells #[y] 4 (0, 0)) := by rw [heap_setCell_other _ _ _ _ (by simp)]; exact h.2
    exact block_set this
theorem below_put {B g : Nat} {W w : World} (h : Below B W w) (hB : B ≤ g) (a b : Value) : Below B W (put2 w g a b) := by
  unfold put2
  exact (h.setCell hB _).setCell (by simp; omega) _
set_option maxRecDepth 100000 in
/-- the deferred closure catches the package's own fault. -/
theorem catch_own (w : World) (g : Nat) (x y : Value) (older : List PanicEntry) (h : Res2 w g x y) :
    CallsD Try.prog 53 #[.pointer (some ⟨g, 0, none⟩), .pointer (some ⟨g + 1, 0, none⟩)] (.panicking ({ v := kfault, recovered := false } :: older)) w fun en u' w' =>
      en = .returned (.tuple #[]) ∧ u' = .panicking ({ v := kfault, recovered := true } :: older) ∧ Res2 w' g (.slice none 0 0) (.bool false) ∧ ∀ B W, B ≤ g → Below B W w → Below B W w' := by
  have HC := Lib.hid (ownC w)
  have HR := Lib.hid h
  have hlt := Lib.hid (show g + 1 < w.heap.size from (Array.getElem?_eq_some_iff.1 h.2).1)
  clear h
  refine callsD_of_wpS Try.func53 rfl fun c₀ cs hu => ?_
  apply wpS_seq
  apply wpS_region
  simp [wpOpsS, go_sem, recoverD, hu, Try.ntmps53, Exit.thenS]
  refine wpS_of_wp ?_
  rw [tm43]
  unfold kfault at *
  go_wp2_with (go_at_call 47; (with_reducible refine HC.out.mono ?_); rintro e w1 ⟨rfl, hb⟩; have HR1 := Lib.hid (res_then hb (Nat.le_refl _) HR.out); have HB1 := Lib.hid hb; obtain ⟨d0, d1⟩ := res_cells HR1.out; obtain ⟨f0, f1⟩ := res_free HR1.out; clear hb)
  have hg := hlt.out
  exact ⟨rfl, _, rfl, .tuple #[], by simp [results, Try.results53], rfl, rfl, res_put HR1.out _ _, fun B W hB hw => below_put (below_then hw HB1.out (Nat.le_trans (by omega) (Nat.le_of_lt hlt.out))) hB _ _⟩
end Go.Proofs.Ytfogbokifbjjlaa.Oc
/- key.ReadCells, whatever comes: the contract. -/
set_option linter.unusedVariables false
namespace Go.Proofs.Ytfogbokifbjjlaa.Od
open Go Go.RowKit Kit Gm Gv Crc Var Get Bytes WireFirst Ref3 Copy Ap Sa Sb Rd RdA RdB RdC RdF La Ma Mb Mc Oa Ob Oc

/-- what ReadCells answers. -/
def RdQ (l : List Nat) (r : Rdr) (n : Int) (p : Nat) (w : World) (e : Ending) (w' : World) : Prop :=
  (∃ (m : Nat) (r' : Rdr) (L : List Ce) (g : Nat), n = (m : Int) ∧ m ≤ 12000 ∧ r.err = 0 ∧ runsF l m (m + 1) r [] = some (r', L) ∧ e = .returned (.tuple #[.slice (some ⟨g, 0, none⟩) L.length m, .bool true]) ∧ w.heap.size ≤ g ∧ RB w' g (L ++ List.replicate (m - L.length) zeroC) ∧ Rc w' p r' ∧ w.grownBy w' (some p) ∧ L.length = m) ∨
  ((∀ m : Nat, n = (m : Int) → m ≤ 12000 → r.err = 0 → runsF l m (m + 1) r [] = none) ∧ e = .returned (.tuple #[.slice none 0 0, .bool false]) ∧ (∃ r', Rc w' p r') ∧ w.grownBy w' (some p))
theorem res_new (w : World) : Res2 ((w.alloc (.cells #[.slice none 0 0] 22)).alloc (.cells #[.bool false] 4)) w.heap.size (.slice none 0 0) (.bool false) :=
  Sd.two_heap w (.cells #[.slice none 0 0] 22) (.cells #[.bool false] 4)
set_option maxRecDepth 100000 in
set_option maxHeartbeats 4000000 in
/-- ahead of the reading. -/
theorem readPre (p : Nat) (r : Rdr) (n : Int) (w : World) (hp : Rc w p r) (h : n < 0 ∨ 12000 < n ∨ r.err ≠ 0) :
    Calls Try.prog 23 #[.pointer (some ⟨p, 0, none⟩), .int .i64 n] w fun e w' => e = .returned (.tuple #[.slice none 0 0, .bool false]) ∧ Rc w' p r ∧ w.grownBy w' (some p) := by
  have hb := Sd.below_two w (.cells #[.slice none 0 0] 22) (.cells #[.bool false] 4)
  have hr := res_new w
  generalize hw0 : (w.alloc (.cells #[.slice none 0 0] 22)).alloc (.cells #[.bool false] 4) = w0 at *
  have hp0 := hp.then_ hb
  have HE := Lib.hid (errC hp0)
  have HP2 := Lib.hid (show Rc (put2 w0 w.heap.size (.slice none 0 0) (.bool false)) p r from ((below_put (Below.refl w.heap.size w0) (Nat.le_refl _) _ _).block p hp.lt).trans hp0)
  have HG2 := Lib.hid (grown_below (below_put hb (Nat.le_refl _) (.slice none 0 0) (.bool false)) (some p))
  have HR2 := Lib.hid (res_cells (res_put hr (.slice none 0 0) (.bool false)))
  obtain ⟨d0, d1⟩ := res_cells hr
  obtain ⟨f0, f1⟩ := res_free hr
  unfold put2 at HP2 HG2 HR2
  clear hp hp0 hb hr
  by_cases h1 : n < 0
  · clear h
    go_enter_defers Try.func23, Try.ntmps23
    go_wp2
    obtain ⟨e0, e1⟩ := HR2.out
    simp [bodyPostD, Leaves, results, Try.results23, go_sem, e0, e1]
    exact ⟨HP2.out, HG2.out⟩
  · by_cases h2 : 12000 < n
    · clear h
      go_enter_defers Try.func23, Try.ntmps23
      go_wp2
      obtain ⟨e0, e1⟩ := HR2.out
      simp [bodyPostD, Leaves, results, Try.results23, go_sem, e0, e1]
      exact ⟨HP2.out, HG2.out⟩
    · have h3 : r.err ≠ 0 := by
        rcases h with h | h | h
        · exact absurd h h1
        · exact absurd h h2
        · exact h
      have h4 : (r.err != 0) = true := by simpa using h3
      clear h h3
      go_enter_defers Try.func23, Try.ntmps23
      go_wp2_with (go_at_call 52; (with_reducible refine HE.out.mono ?_); rintro e w' ⟨rfl, rfl⟩)
      obtain ⟨e0, e1⟩ := HR2.out
      simp [bodyPostD, Leaves, results, Try.results23, go_sem, e0, e1]
      exact ⟨HP2.out, HG2.out⟩
set_option maxRecDepth 100000 in
set_option maxHeartbeats 4000000 in
/-- where the runs fail. -/
theorem readFail (p : Nat) (r : Rdr) (l : List Nat) (n : Nat) (w : World) (hn : n ≤ 12000) (hp : Rc w p r) (hl : By w r l) (he : r.err = 0) (h : runsF l n (n + 1) r [] = none) :
    Calls Try.prog 23 #[.pointer (some ⟨p, 0, none⟩), .int .i64 (n : Int)] w fun e w' => e = .returned (.tuple #[.slice none 0 0, .bool false]) ∧ (∃ r', Rc w' p r') ∧ w.grownBy w' (some p) := by
  have hmf := RdB.hmf
  have hpl := hp.lt
  have hb := Sd.below_two w (.cells #[.slice none 0 0] 22) (.cells #[.bool false] 4)
  have hr := res_new w
  generalize hw0 : (w.alloc (.cells #[.slice none 0 0] 22)).alloc (.cells #[.bool false] 4) = w0 at *
  have HE := Lib.hid (show Calls Try.prog 52 #[.pointer (some ⟨p, 0, none⟩)] w0 fun e w' => e = .returned (.int .i64 0) ∧ w0 = w' from he ▸ errC (hp.then_ hb))
  have HRUN := Lib.hid ((runsAny p r l n w0 hn (hp.then_ hb) (hl.then_ hb)).mono fun e w' hq => (show KP p w0 e w' by
    rcases hq with ⟨_, _, _, h0, _⟩ | ⟨_, h0⟩
    · rw [h] at h0; cases h0
    · exact h0))
  have HB := Lib.hid hb
  have HR := Lib.hid hr
  have HPL := Lib.hid hpl
  have h1 : ¬ (n : Int) < 0 := by omega
  have h2 : ¬ (12000 : Int) < (n : Int) := by omega
  clear hp hl he h hb hr hpl
  go_enter_defers Try.func23, Try.ntmps23
  go_wp2_with (first
    | (go_at_call 52; (with_reducible refine HE.out.mono ?_); rintro e w' ⟨rfl, rfl⟩)
    | (go_at_call 54; (with_reducible refine HRUN.out.mono ?_); rintro e w2 ⟨rfl, ⟨r5, hp5⟩, hg5⟩; have HP5 := Lib.hid hp5; have HG5 := Lib.hid (grown_trans (grown_below HB.out (some p)) hg5); have HR5 := Lib.hid (res_grown hg5 HPL.out HR.out); clear hp5 hg5))
  refine leaves_cons (f := 53) (args := #[.pointer (some ⟨w.heap.size, 0, none⟩), .pointer (some ⟨w.heap.size + 1, 0, none⟩)]) (by simp) (by simp [go_sem]) ?_
  refine (catch_own _ w.heap.size _ _ [] HR5.out).mono ?_
  rintro e u' w'' ⟨rfl, rfl, h3, h4⟩
  obtain ⟨c1, c2⟩ := res_cells h3
  simp [Leaves, settle, results, Try.results23, go_sem, c1, c2]
  have hw := h4 _ w2 (Nat.le_refl _) (Below.refl _ _)
  have hgg := HG5.out
  have e3 := HPL.out
  refine ⟨⟨r5, (hw.block p e3).trans HP5.out⟩, ?_⟩
  exact ⟨hw.os.trans hgg.os, hw.tape.trans hgg.tape, hw.output.trans hgg.output, Nat.le_trans hgg.size hw.size, fun b hb hx => (hw.block b hb).trans (hgg.block b hb hx)⟩
/-- key.ReadCells. -/
theorem readAny (p : Nat) (r : Rdr) (l : List Nat) (n : Int) (w : World) (hp : Rc w p r) (hl : By w r l) :
    Calls Try.prog 23 #[.pointer (some ⟨p, 0, none⟩), .int .i64 n] w (RdQ l r n p w) := by
  by_cases h : n < 0 ∨ 12000 < n ∨ r.err ≠ 0
  · refine (readPre p r n w hp h).mono fun e w' ⟨h1, h2, h3⟩ => .inr ⟨fun m hm hm2 he => ?_, h1, ⟨_, h2⟩, h3⟩
    exfalso
    rcases h with h | h | h
    · omega
    · omega
    · exact h he
  · obtain ⟨m, rfl⟩ := Int.eq_ofNat_of_zero_le (a := n) (by omega)
    have hm : m ≤ 12000 := by omega
    have he : r.err = 0 := by
      by_cases e : r.err = 0
      · exact e
      · exact absurd (.inr (.inr e)) h
    cases hx : runsF l m (m + 1) r [] with
    | none =>
      refine (readFail p r l m w hm hp hl he hx).mono fun e w' ⟨h1, h2, h3⟩ => .inr ⟨fun k hk _ _ => ?_, h1, h2, h3⟩
      obtain rfl : m = k := by omega
      exact hx
    | some x =>
      obtain ⟨r', L⟩ := x
      exact (readYes p r r' l m L w hm hp hl he hx).mono fun e w' ⟨g, h1, h2, h3, h4, h5, h6⟩ => .inl ⟨m, r', L, g, rfl, hm, he, hx, h1, h2, h3, h4, h5, h6⟩
end Go.Proofs.Ytfogbokifbjjlaa.Od
