/- key.ReadCells, where all goes well. -/
import Derived.Test.YtfogbokifbjjlaaMb
set_option linter.unusedVariables false
namespace Go.Proofs.Ytfogbokifbjjlaa.Mc
open Go Go.RowKit Kit Gm Gv Crc Var Get Bytes WireFirst Ref3 Copy Ap Sa Sb Rd RdA RdB RdC RdF La Ma Mb

theorem tm43 (a b v : Value) : #[a, b] ++ ((Array.replicate 6 undef).setIfInBounds 1 v).setIfInBounds 0 v = #[a, b, v, v, undef, undef, undef, undef] := by
  apply Array.toList_inj.1
  simp [List.replicate]
/-- the deferred closure, where the reading ended well: nothing. -/
theorem catch_idle (a b : Addr) (w : World) :
    CallsD Try.prog 53 #[.pointer (some a), .pointer (some b)] .returning w fun e u' w' => e = .returned (.tuple #[]) ∧ u' = .returning ∧ w' = w := by
  refine callsD_of_wpS Try.func53 rfl fun c₀ cs hu => ?_
  apply wpS_seq
  apply wpS_region
  simp [wpOpsS, go_sem, recoverD, hu, Try.ntmps53, Exit.thenS]
  refine wpS_of_wp ?_
  rw [tm43]
  go_wp2
  cases c₀
  simp_all [bodyPostS, results, Try.results53]
set_option maxRecDepth 100000 in
set_option maxHeartbeats 4000000 in
theorem readYes (p : Nat) (r r' : Rdr) (l : List Nat) (n : Nat) (L : List Ce) (w : World) (hn : n ≤ 12000) (hp : Rc w p r) (hl : By w r l) (he : r.err = 0) (h : runsF l n (n + 1) r [] = some (r', L)) :
    Calls Try.prog 23 #[.pointer (some ⟨p, 0, none⟩), .int .i64 (n : Int)] w fun e w' => ∃ g, e = .returned (.tuple #[.slice (some ⟨g, 0, none⟩) L.length n, .bool true]) ∧ w.heap.size ≤ g ∧ RB w' g (L ++ List.replicate (n - L.length) zeroC) ∧ Rc w' p r' ∧ w.grownBy w' (some p) ∧ L.length = n := by
  have hmf := RdB.hmf
  have hpl := hp.lt
  have hb := Sd.below_two w (.cells #[.slice none 0 0] 22) (.cells #[.bool false] 4)
  obtain ⟨hA, hZ⟩ := Sd.two_heap w (.cells #[.slice none 0 0] 22) (.cells #[.bool false] 4)
  generalize hw0 : (w.alloc (.cells #[.slice none 0 0] 22)).alloc (.cells #[.bool false] 4) = w0 at *
  have HE := Lib.hid (show Calls Try.prog 52 #[.pointer (some ⟨p, 0, none⟩)] w0 fun e w' => e = .returned (.int .i64 0) ∧ w0 = w' from he ▸ errC (hp.then_ hb))
  have HRUN := Lib.hid (runsYes p r r' l n L w0 hn (hp.then_ hb) (hl.then_ hb) h)
  have HG := Lib.hid (grown_below hb (some p))
  have HA := Lib.hid hA
  have HZ := Lib.hid hZ
  have HS := Lib.hid (show w.heap.size + 1 < w0.heap.size from (Array.getElem?_eq_some_iff.1 hZ).1)
  have HPL := Lib.hid hpl
  have h1 : ¬ (n : Int) < 0 := by omega
  have h2 : ¬ (12000 : Int) < (n : Int) := by omega
  have HI22 := Lib.hid (show (Try.prog.info? 22).map (·.size) = some 1 by kernel_rfl)
  have HI4 := Lib.hid (show (Try.prog.info? 4).map (·.size) = some 1 by kernel_rfl)
  have HC1 := Lib.hid (fun g : Nat => (show (Value.slice (some ⟨g, 0, none⟩) L.length n).cells = #[.slice (some ⟨g, 0, none⟩) L.length n] from rfl))
  have HC2 := Lib.hid (show (Value.bool true).cells = #[.bool true] from rfl)
  have HL1 := Lib.hid (show 0 < (#[Value.slice none 0 0] : Array Value).size from Nat.zero_lt_one)
  have HL2 := Lib.hid (show 0 < (#[Value.bool false] : Array Value).size from Nat.zero_lt_one)
  have HU1 := Lib.hid (fun g : Nat => (show (#[Value.slice none 0 0] : Array Value).setIfInBounds 0 (.slice (some ⟨g, 0, none⟩) L.length n) = #[.slice (some ⟨g, 0, none⟩) L.length n] from rfl))
  have HU2 := Lib.hid (show (#[Value.bool false] : Array Value).setIfInBounds 0 (.bool true) = #[.bool true] from rfl)
  clear hp hl he h hb hA hZ hpl
  go_enter_defers Try.func23, Try.ntmps23
  go_wp2_with (first
    | (go_at_call 52; (with_reducible refine HE.out.mono ?_); rintro e w' ⟨rfl, rfl⟩)
    | (go_at_call 54; (with_reducible refine HRUN.out.mono ?_); rintro e w2 ⟨g, rfl, hg, hr, hp2, hg2, hL⟩; have HGG := Lib.hid hg; have HR2 := Lib.hid hr; have HP2 := Lib.hid hp2; have HG2 := Lib.hid hg2; have HL := Lib.hid hL; have HA2 := Lib.hid ( (hg2.block _ (Array.getElem?_eq_some_iff.1 HA.out).1 (by have := HPL.out; intro e; injection e with e; omega)).trans HA.out); have HZ2 := Lib.hid ( (hg2.block _ (Array.getElem?_eq_some_iff.1 HZ.out).1 (by have := HPL.out; intro e; injection e with e; omega)).trans HZ.out); clear hg hr hp2 hg2 hL)
    | ((with_reducible refine wpList_store_at rfl 22 _ _ rfl HI22.out w.heap.size 0 22 #[.slice none 0 0] #[.slice (some ⟨g, 0, none⟩) L.length n] (.slice (some ⟨g, 0, none⟩) L.length n) rfl rfl (HC1.out g) rfl HA2.out HL1.out (HU1.out g) ?_); intro w3 h3 b3 k3 z3; have HA3 := Lib.hid h3; have HZ3 := Lib.hid ((k3 _ (Nat.succ_ne_self _)).trans HZ2.out); have HW3 := Lib.hid (b3 _ _ (Nat.le_refl _) (Below.refl w.heap.size w2)); have HK3 := Lib.hid k3; clear h3 b3 k3 z3)
    | ((with_reducible refine wpList_store_at rfl 4 _ _ rfl HI4.out (w.heap.size + 1) 0 4 #[.bool false] #[.bool true] (.bool true) rfl rfl HC2.out rfl HZ3.out HL2.out HU2.out ?_); intro w4 h4 b4 k4 z4; have HZ4 := Lib.hid h4; have HA4 := Lib.hid ((k4 _ (Nat.ne_of_lt (Nat.lt_succ_self _))).trans HA3.out); have HW4 := Lib.hid (b4 _ _ (Nat.le_succ _) HW3.out); have HK4 := Lib.hid k4; clear h4 b4 k4 z4))
  have c1 : w4.cell? ⟨w.heap.size, 0, none⟩ = some (.slice (some ⟨g, 0, none⟩) L.length n) := cell_of_row w4 w.heap.size 0 _ 22 _ HA4.out
  have c2 : w4.cell? ⟨w.heap.size + 1, 0, none⟩ = some (.bool true) := cell_of_row w4 (w.heap.size + 1) 0 _ 4 _ HZ4.out
  refine leaves_cons (f := 53) (args := #[.pointer (some ⟨w.heap.size, 0, none⟩), .pointer (some ⟨w.heap.size + 1, 0, none⟩)]) (by simp) (by simp [go_sem]) ?_
  refine (catch_idle ⟨w.heap.size, 0, none⟩ ⟨w.heap.size + 1, 0, none⟩ _).mono ?_
  rintro e u' w'' ⟨rfl, rfl, rfl⟩
  simp [Leaves, settle, results, Try.results23, go_sem, Act.put, c1, c2]
  have e1 := HS.out
  have e2 := HGG.out
  have e3 := HPL.out
  have hgg := grown_trans HG.out HG2.out
  refine ⟨by omega, ?_, ?_, ?_, HL.out⟩
  · exact (HK4.out g (by omega)).trans ((HK3.out g (by omega)).trans HR2.out)
  · exact (HK4.out p (by omega)).trans ((HK3.out p (by omega)).trans HP2.out)
  · exact ⟨HW4.out.os.trans hgg.os, HW4.out.tape.trans hgg.tape, HW4.out.output.trans hgg.output, Nat.le_trans hgg.size HW4.out.size, fun b hb hx => (HW4.out.block b hb).trans (hgg.block b hb hx)⟩
end Go.Proofs.Ytfogbokifbjjlaa.Mc
