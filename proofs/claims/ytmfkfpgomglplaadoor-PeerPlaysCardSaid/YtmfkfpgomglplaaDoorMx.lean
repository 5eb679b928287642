/- mac.mix. -/
import Derived.Test.YtmfkfpgomglplaaDoorSc
import Derived.Deep.WholeRow
import Derived.RegionTactic
import Derived.ChangeAlike
import Derived.BigRegion
import Derived.Deep.CutRange
set_option linter.unusedVariables false
namespace Go.Proofs.YtmfkfpgomglplaaDoor.Mx
open Go Go.RowKit Kit Mb Sha Mc1 Sc


/-- a state as the value of an array. -/
def stV (s : St) : Value := .agg #[.int .u32 s.a, .int .u32 s.b, .int .u32 s.c, .int .u32 s.d, .int .u32 s.e, .int .u32 s.f, .int .u32 s.g, .int .u32 s.h]
/-- the table of the rounds. -/
def TabR (w : World) : Prop := ∀ i, i < 64 → w.cell? ⟨1, i, none⟩ = some (.int .u32 (kAt i))
theorem mix_of (s0 : St) (m : List Nat) (k : Nat) (hk : k = 64) (a b c d e f g h A B C D E F G H : Int) (h0 : s0 = ⟨a, b, c, d, e, f, g, h⟩) (hr : rnds m s0 k = ⟨A, B, C, D, E, F, G, H⟩) :
    mixS ⟨a, b, c, d, e, f, g, h⟩ m = ⟨(a + A) % 4294967296, (b + B) % 4294967296, (c + C) % 4294967296, (d + D) % 4294967296, (e + E) % 4294967296, (f + F) % 4294967296, (g + G) % 4294967296, (h + H) % 4294967296⟩ := by
  subst hk; subst h0; unfold mixS; rw [hr]; rfl
theorem wpList_store_row {ops : Array Oper} {rest : List Oper} {o : Oper} {a : Act} {w : World} {Q : Exit → Act → World → Prop} (hgd : o.guard = none) (ty : TypeId) (x y : Operand) (ho : o.op = .store ty x y)
    (g : Nat) (cells : Array Value) (hx : a.eval x = .pointer (some ⟨g, 0, none⟩)) (hy : a.eval y = .agg cells)
    (t : TypeId) (old : Array Value) (hg : w.heap[g]? = some (.cells old t (0, 0))) (hi : (Tryd.prog.info? ty).map (·.size) = some cells.size)
    (hold : old.size = cells.size) (h1 : cells.all (·.oneCell') = true)
    (h : wpList Tryd.prog ops Q rest (a.put o.dst undef) (w.setRow g cells)) : wpList Tryd.prog ops Q (o :: rest) a w :=
  wpList_plain hgd fun _ hK => wp_store_row ty x y ho g cells hx hy t old hg hi hold h1 (hK _ _ h)
theorem built8 (x0 x1 x2 x3 x4 x5 x6 x7 : Int) : Tryd.prog.built 80 [(0, .int .u32 x0), (1, .int .u32 x1), (2, .int .u32 x2), (3, .int .u32 x3), (4, .int .u32 x4), (5, .int .u32 x5), (6, .int .u32 x6), (7, .int .u32 x7)] = some #[.int .u32 x0, .int .u32 x1, .int .u32 x2, .int .u32 x3, .int .u32 x4, .int .u32 x5, .int .u32 x6, .int .u32 x7] := by kernel_rfl
theorem wpList_build8 {ops : Array Oper} {rest : List Oper} {o : Oper} {a : Act} {w : World} {Q : Exit → Act → World → Prop} (hgd : o.guard = none) (p0 p1 p2 p3 p4 p5 p6 p7 : Operand) (ho : o.op = .build 80 #[(0, p0), (1, p1), (2, p2), (3, p3), (4, p4), (5, p5), (6, p6), (7, p7)])
    (x0 x1 x2 x3 x4 x5 x6 x7 : Int) (h0 : a.eval p0 = .int .u32 x0) (h1 : a.eval p1 = .int .u32 x1) (h2 : a.eval p2 = .int .u32 x2) (h3 : a.eval p3 = .int .u32 x3) (h4 : a.eval p4 = .int .u32 x4) (h5 : a.eval p5 = .int .u32 x5) (h6 : a.eval p6 = .int .u32 x6) (h7 : a.eval p7 = .int .u32 x7) (R : Array Value) (hR : R = #[.int .u32 x0, .int .u32 x1, .int .u32 x2, .int .u32 x3, .int .u32 x4, .int .u32 x5, .int .u32 x6, .int .u32 x7])
    (h : wpList Tryd.prog ops Q rest (a.put o.dst (.agg R)) w) : wpList Tryd.prog ops Q (o :: rest) a w := by
  refine wpList_plain hgd fun K hK => ?_
  have hb : (Instr.build 80 ((#[(0, p0), (1, p1), (2, p2), (3, p3), (4, p4), (5, p5), (6, p6), (7, p7)] : Array (Nat × Operand)).map fun (i, x) => (i, a.eval x))).run Tryd.prog w = .ok (.agg R) w := by
    subst hR
    refine run_build w 80 _ _ ?_
    simp only [List.map_toArray, List.map_cons, List.map_nil, h0, h1, h2, h3, h4, h5, h6, h7]
    exact built8 _ _ _ _ _ _ _ _
  unfold Oper.wp execOp
  simp only [ho, Sem.run_bind, Sem.run_pure, hb, Result.andThen_ok]
  exact hK _ _ h
theorem all8 (a b c d e f g h : Int) : (#[.int .u32 a, .int .u32 b, .int .u32 c, .int .u32 d, .int .u32 e, .int .u32 f, .int .u32 g, .int .u32 h] : Array Value).all (·.oneCell') = true := rowW_one [a, b, c, d, e, f, g, h]
theorem tabR_then {W w1 : World} (hb : Below W.heap.size W w1) (h : TabR W) : TabR w1 := fun i hi => cell_then hb (Nat.le_refl _) (h i hi)
theorem cells_alloc {w : World} {b off : Nat} {l : List Nat} (h : Cells w b off l) (o : Obj) : Cells (w.alloc o) b off l := fun i hi => past_alloc (h i hi)
theorem run_index_row (R : Array Value) (k : Nat) (hk : k < 64) (x : Int) (h : R[k]? = some (.int .u32 x)) (w : World) : (Instr.index 94 (.agg R) (.int .i64 (k : Int))).run Tryd.prog w = .ok (.int .u32 x) w := by
  have h1 : (0 : Int) ≤ (k : Int) ∧ (k : Int) < (64 : Nat) := by omega
  simp [Instr.index, run_underlying Tryd.underlying94, asIntOf, h1, go_sem, hk]
  rw [h]; rfl
theorem run_index_row8 (R : Array Value) (k : Nat) (hk : k < 8) (x : Int) (h : R[k]? = some (.int .u32 x)) (w : World) : (Instr.index 80 (.agg R) (.int .i64 (k : Int))).run Tryd.prog w = .ok (.int .u32 x) w := by
  have h1 : (0 : Int) ≤ (k : Int) ∧ (k : Int) < (8 : Nat) := by omega
  simp [Instr.index, run_underlying Tryd.underlying80, asIntOf, h1, go_sem, hk]
  rw [h]; rfl
theorem storeCells_row {P : Program} (w : World) (g : Nat) (t : TypeId) (c c' : Array Value) (hz : w.heap[g]? = some (.cells c t (0, 0))) (hi : (P.info? t).map (·.size) = some c'.size) (ho : c.size = c'.size) (h1 : c'.all (·.oneCell') = true) :
    (storeCells ⟨g, 0, none⟩ c'.toList 0).run P w = .ok () (w.setRow g c') := by
  have := run_storeVar_row (P := P) w g t t c c' hz hi ho h1
  cases hq : P.info? t with
  | none => simp [hq] at hi
  | some i =>
    have hs : c'.size = i.size := by simp [hq] at hi; omega
    simpa [storeVar, sizeOf, typeInfo, hq, Value.cells, hs] using this
/-- what it answers. -/
def MixP (s : St) (m : List Nat) (w : World) (e : Ending) (w' : World) : Prop := e = .returned (stV (mixS s m)) ∧ Below w.heap.size w w'
theorem mixP_mk {s : St} {m : List Nat} {w w' : World} {a b c d e f g h : Int} (hm : mixS s m = ⟨a, b, c, d, e, f, g, h⟩) (hb : Below w.heap.size w w') : MixP s m w (.returned (.agg #[.int .u32 a, .int .u32 b, .int .u32 c, .int .u32 d, .int .u32 e, .int .u32 f, .int .u32 g, .int .u32 h])) w' := ⟨by rw [hm]; rfl, hb⟩
set_option maxHeartbeats 1000000 in
set_option maxRecDepth 100000 in
theorem mixC0 (s : St) (b off cap : Nat) (m : List Nat) (w : World) (hl : ∀ c ∈ m, c < 256) (hm : m.length = 64) (hc : Cells w b off m) (hcap : 64 ≤ cap) (hT : TabR w) :
    Calls Tryd.prog 48 #[.agg #[.int .u32 s.a, .int .u32 s.b, .int .u32 s.c, .int .u32 s.d, .int .u32 s.e, .int .u32 s.f, .int .u32 s.g, .int .u32 s.h], .slice (some ⟨b, off, none⟩) 64 cap] w (MixP s m w) := by
  obtain ⟨a, b1, c, d, e0, f, g, h8⟩ := s
  have KS := fun w1 h1 => scheduleC b off cap m w1 hl hm h1 hcap
  have hbl : b < w.heap.size := World.block_lt_of_cell? w _ (hc 0 (by omega))
  have HC := Lib.hid hc
  have HT := Lib.hid hT
  clear hl hc hm hT
  dsimp only
  go_enter Tryd.func48, Tryd.ntmps48
  have hs : (Tryd.prog.info? 94).map (·.size) = some (rowW (wl m 64)).size := by rw [rowW_size, wl_len]; kernel_rfl
  have hst := fun (w1 : World) => run_storeCells_new (P := Tryd.prog) w1 94 #[.int .u32 0, .int .u32 0, .int .u32 0, .int .u32 0, .int .u32 0, .int .u32 0, .int .u32 0, .int .u32 0, .int .u32 0, .int .u32 0, .int .u32 0, .int .u32 0, .int .u32 0, .int .u32 0, .int .u32 0, .int .u32 0, .int .u32 0, .int .u32 0, .int .u32 0, .int .u32 0, .int .u32 0, .int .u32 0, .int .u32 0, .int .u32 0, .int .u32 0, .int .u32 0, .int .u32 0, .int .u32 0, .int .u32 0, .int .u32 0, .int .u32 0, .int .u32 0, .int .u32 0, .int .u32 0, .int .u32 0, .int .u32 0, .int .u32 0, .int .u32 0, .int .u32 0, .int .u32 0, .int .u32 0, .int .u32 0, .int .u32 0, .int .u32 0, .int .u32 0, .int .u32 0, .int .u32 0, .int .u32 0, .int .u32 0, .int .u32 0, .int .u32 0, .int .u32 0, .int .u32 0, .int .u32 0, .int .u32 0, .int .u32 0, .int .u32 0, .int .u32 0, .int .u32 0, .int .u32 0, .int .u32 0, .int .u32 0, .int .u32 0, .int .u32 0] (rowW (wl m 64)) hs (by rw [rowW_size, wl_len]; rfl) (rowW_one _)
  go_wp2_with (go_at_call 58; refine (KS _ (cells_alloc (cells_alloc HC.out _) _)).mono ?_; rintro e w1 ⟨rfl, hB1⟩)
  as_aux_lemma =>
    have hz : w.heap.size + 1 + 1 ≤ w1.heap.size := by have := hB1.size; simpa using this
    have FS : ∀ j v, (#[Value.int .u32 a, .int .u32 b1, .int .u32 c, .int .u32 d, .int .u32 e0, .int .u32 f, .int .u32 g, .int .u32 h8] : Array Value)[j]? = some v → (w1.alloc (.cells (rowW (wl m 64)) 94)).cell? ⟨w.heap.size, j, none⟩ = some v := by
      intro j v hv
      refine past_alloc (cell_then hB1 (Nat.le_refl _) (past_alloc ?_))
      rw [cell_of_row _ w.heap.size j _ 80 (0, 0) (heap_alloc_last w _)]; exact hv
    have c0 : (w1.alloc (.cells (rowW (wl m 64)) 94)).cell? ⟨w.heap.size, 0, none⟩ = some (.int .u32 a) := FS 0 _ rfl
    have c1 : (w1.alloc (.cells (rowW (wl m 64)) 94)).cell? ⟨w.heap.size, 1, none⟩ = some (.int .u32 b1) := FS 1 _ rfl
    have c2 : (w1.alloc (.cells (rowW (wl m 64)) 94)).cell? ⟨w.heap.size, 2, none⟩ = some (.int .u32 c) := FS 2 _ rfl
    have c3 : (w1.alloc (.cells (rowW (wl m 64)) 94)).cell? ⟨w.heap.size, 3, none⟩ = some (.int .u32 d) := FS 3 _ rfl
    have c4 : (w1.alloc (.cells (rowW (wl m 64)) 94)).cell? ⟨w.heap.size, 4, none⟩ = some (.int .u32 e0) := FS 4 _ rfl
    have c5 : (w1.alloc (.cells (rowW (wl m 64)) 94)).cell? ⟨w.heap.size, 5, none⟩ = some (.int .u32 f) := FS 5 _ rfl
    have c6 : (w1.alloc (.cells (rowW (wl m 64)) 94)).cell? ⟨w.heap.size, 6, none⟩ = some (.int .u32 g) := FS 6 _ rfl
    have c7 : (w1.alloc (.cells (rowW (wl m 64)) 94)).cell? ⟨w.heap.size, 7, none⟩ = some (.int .u32 h8) := FS 7 _ rfl
    have Z2 : (w1.alloc (.cells (rowW (wl m 64)) 94)).heap[w.heap.size + 1]? = some (.cells #[.int .u32 0, .int .u32 0, .int .u32 0, .int .u32 0, .int .u32 0, .int .u32 0, .int .u32 0, .int .u32 0] 80 (0, 0)) := by
      rw [Below.heap_alloc _ _ _ (by omega), hB1.block _ (by simp)]
      have := heap_alloc_last (w.alloc (.cells #[.int .u32 a, .int .u32 b1, .int .u32 c, .int .u32 d, .int .u32 e0, .int .u32 f, .int .u32 g, .int .u32 h8] 80)) (.cells #[.int .u32 0, .int .u32 0, .int .u32 0, .int .u32 0, .int .u32 0, .int .u32 0, .int .u32 0, .int .u32 0] 80)
      simpa using this
    have Z3 := heap_alloc_last w1 (.cells (rowW (wl m 64)) 94)
    have BB : Below w.heap.size w (w1.alloc (.cells (rowW (wl m 64)) 94)) := (below_then (((Below.refl _ w).alloc (Nat.le_refl _) _).alloc (by simp) _) hB1 (by simp; omega)).alloc (by omega) _
    have TT := tabR_then BB HT.out
    clear FS hB1 HC HT hz KS hst
    have HBB := Lib.hid BB
    clear BB
    generalize w1.alloc (.cells (rowW (wl m 64)) 94) = w2 at *
    generalize w1.heap.size = g5 at *
    have hRR : ∀ i, i < 64 → (rowW (wl m 64))[i]? = some (.int .u32 (wd m i)) := by
      intro i hi
      rw [rowW_at _ i (by rw [wl_len]; exact hi), wl_at m 64 i hi, if_pos hi]
    generalize rowW (wl m 64) = R at *
    as_aux_lemma =>
      go_region
      as_aux_lemma =>
        go_wp2
        go_region
        as_aux_lemma =>
          go_wp2_with (refine wpList_load_row rfl 94 (.tmp 5) rfl g5 rfl 94 _ (0, 0) _ Z3 Tryd.underlying94 rfl hs ?_)
          as_aux_lemma =>
            have HCC := Lib.hid (And.intro c0 (And.intro c1 (And.intro c2 (And.intro c3 (And.intro c4 (And.intro c5 (And.intro c6 c7)))))))
            have HZ2 := Lib.hid Z2
            have HTT := Lib.hid TT
            have HRR := Lib.hid hRR
            clear c0 c1 c2 c3 c4 c5 c6 c7 Z2 Z3 TT hRR hs hcap hbl
            obtain ⟨s0, hs0⟩ : ∃ s0 : St, s0 = ⟨a, b1, c, d, e0, f, g, h8⟩ := ⟨_, rfl⟩
            have HS0 := Lib.hid hs0
            clear hs0
            go_loop [6, 7, 8, 9, 10, 11, 12, 13, 39] (fun q6 q7 q8 q9 q10 q11 q12 q13 q39 => ∃ (k : Nat) (A B C D E F G H : Int), k ≤ 64 ∧ Hid (rnds m s0 k = ⟨A, B, C, D, E, F, G, H⟩) ∧ q39 = .int .i64 (k : Int) ∧ q6 = .int .u32 A ∧ q7 = .int .u32 B ∧ q8 = .int .u32 C ∧ q9 = .int .u32 D ∧
                q10 = .int .u32 E ∧ q11 = .int .u32 F ∧ q12 = .int .u32 G ∧ q13 = .int .u32 H) (fun _ _ _ _ _ _ _ _ q39 => 64 - (intOf q39).toNat)
            case atStart => exact ⟨0, a, b1, c, d, e0, f, g, h8, by omega, Lib.hid HS0.out, rfl, rfl, rfl, rfl, rfl, rfl, rfl, rfl, rfl⟩
            case round =>
              obtain ⟨k, A, B, C, D, E, F, G, H, hk, hS, rfl, rfl, rfl, rfl, rfl, rfl, rfl, rfl, rfl⟩ := hrel
              by_cases hlt : k < 64
              · have cT := HTT.out k hlt
                have cR := HRR.out k hlt
                have ixR := fun (w : World) => run_index_row R k hlt _ cR w
                have nx := Lib.hid (show rnds m s0 (k + 1) = rnd ⟨A, B, C, D, E, F, G, H⟩ (kAt k) (wd m k) by rw [← hS.out]; rfl)
                as_aux_lemma =>
                  generalize kAt k = K0 at *
                  generalize wd m k = W0 at *
                  obtain ⟨T6, e1⟩ : ∃ x, turnW E 6 = x := ⟨_, rfl⟩
                  obtain ⟨T11, e2⟩ : ∃ x, turnW E 11 = x := ⟨_, rfl⟩
                  obtain ⟨T25, e3⟩ : ∃ x, turnW E 25 = x := ⟨_, rfl⟩
                  obtain ⟨Y1, e4⟩ : ∃ x, bits .xor .u32 T6 T11 = x := ⟨_, rfl⟩
                  obtain ⟨X1, e5⟩ : ∃ x, bits .xor .u32 Y1 T25 = x := ⟨_, rfl⟩
                  obtain ⟨N1, e6⟩ : ∃ x, bits .and .u32 E F = x := ⟨_, rfl⟩
                  obtain ⟨NE, e7⟩ : ∃ x, bits .xor .u32 (if IntKind.u32.signed = true then -1 else IntKind.u32.max) E = x := ⟨_, rfl⟩
                  obtain ⟨N2, e8⟩ : ∃ x, bits .and .u32 NE G = x := ⟨_, rfl⟩
                  obtain ⟨CH, e9⟩ : ∃ x, bits .xor .u32 N1 N2 = x := ⟨_, rfl⟩
                  obtain ⟨T1, e10⟩ : ∃ x, (H + X1 + CH + K0 + W0) % 4294967296 = x := ⟨_, rfl⟩
                  obtain ⟨T2, e11⟩ : ∃ x, turnW A 2 = x := ⟨_, rfl⟩
                  obtain ⟨T13, e12⟩ : ∃ x, turnW A 13 = x := ⟨_, rfl⟩
                  obtain ⟨T22, e13⟩ : ∃ x, turnW A 22 = x := ⟨_, rfl⟩
                  obtain ⟨Y2, e14⟩ : ∃ x, bits .xor .u32 T2 T13 = x := ⟨_, rfl⟩
                  obtain ⟨X2, e15⟩ : ∃ x, bits .xor .u32 Y2 T22 = x := ⟨_, rfl⟩
                  obtain ⟨M1, e16⟩ : ∃ x, bits .and .u32 A B = x := ⟨_, rfl⟩
                  obtain ⟨M2, e17⟩ : ∃ x, bits .and .u32 A C = x := ⟨_, rfl⟩
                  obtain ⟨M3, e18⟩ : ∃ x, bits .and .u32 B C = x := ⟨_, rfl⟩
                  obtain ⟨M4, e19⟩ : ∃ x, bits .xor .u32 M1 M2 = x := ⟨_, rfl⟩
                  obtain ⟨MJ, e20⟩ : ∃ x, bits .xor .u32 M4 M3 = x := ⟨_, rfl⟩
                  obtain ⟨U2, e21⟩ : ∃ x, (X2 + MJ) % 4294967296 = x := ⟨_, rfl⟩
                  obtain ⟨A1, e22⟩ : ∃ x, (T1 + U2) % 4294967296 = x := ⟨_, rfl⟩
                  obtain ⟨E1, e23⟩ : ∃ x, (D + T1) % 4294967296 = x := ⟨_, rfl⟩
                  have nS : Hid (rnds m s0 (k + 1) = ⟨A1, A, B, C, E1, E, F, G⟩) := Lib.hid (by
                    have e7' : bits .xor .u32 IntKind.u32.max E = NE := e7
                    rw [nx.out]; simp only [rnd, t1, t2, sig, xo, an, no, e1, e2, e3, e4, e5, e6, e7', e8, e9, e10, e11, e12, e13, e14, e15, e16, e17, e18, e19, e20, e21, e22, e23])
                  clear nx
                  as_aux_lemma =>
                    go_upto_region 8 with (go_at_call 59; refine (rotM _ _ (by decide) _).mono ?_; rintro e w' ⟨rfl, rfl⟩)
                    as_aux_lemma =>
                      go_upto_region 9 with fail
                      as_aux_lemma =>
                        go_upto_region 10 with (go_at_call 59; refine (rotM _ _ (by decide) _).mono ?_; rintro e w' ⟨rfl, rfl⟩)
                        as_aux_lemma =>
                          go_upto_region 11 with fail
                          as_aux_lemma =>
                            go_wp2
                            as_aux_lemma =>
                              go_round
                              case rel => exact ⟨k + 1, A1, A, B, C, E1, E, F, G, by omega, nS.out, by go_num, by rw [e22], rfl, rfl, rfl, by rw [e23], rfl, rfl, rfl⟩
                              case measure => simp [intOf]; omega
              · have kge : ¬ (k : Int) < 64 := by omega
                have hmx := Lib.hid (mix_of s0 m k (by omega) a b1 c d e0 f g h8 A B C D E F G H HS0.out hS.out)
                obtain ⟨R8, hR8⟩ : ∃ R8, R8 = (#[.int .u32 ((a + A) % 4294967296), .int .u32 ((b1 + B) % 4294967296), .int .u32 ((c + C) % 4294967296), .int .u32 ((d + D) % 4294967296), .int .u32 ((e0 + E) % 4294967296), .int .u32 ((f + F) % 4294967296), .int .u32 ((g + G) % 4294967296), .int .u32 ((h8 + H) % 4294967296)] : Array Value) := ⟨_, rfl⟩
                have HS8 := Lib.hid (show (Tryd.prog.info? 80).map (·.size) = some R8.size by rw [hR8]; kernel_rfl)
                have HOLD := Lib.hid (show (#[.int .u32 0, .int .u32 0, .int .u32 0, .int .u32 0, .int .u32 0, .int .u32 0, .int .u32 0, .int .u32 0] : Array Value).size = R8.size by rw [hR8]; rfl)
                have H1 := Lib.hid (show R8.all (·.oneCell') = true by rw [hR8]; exact all8 _ _ _ _ _ _ _ _)
                have HMP := Lib.hid (show ∀ w', Below w.heap.size w w' → MixP ⟨a, b1, c, d, e0, f, g, h8⟩ m w (.returned (.agg R8)) w' by rw [hR8]; exact fun w' hb => mixP_mk hmx.out hb)
                have HR8 := Lib.hid hR8
                clear hS hk hlt hR8 hmx
                obtain ⟨c0, c1, c2, c3, c4, c5, c6, c7⟩ := HCC.out
                go_wp2_with (first | ((with_reducible refine wpList_build8 (o := ⟨some 135, _, _, _, _, _⟩) ?_ (.tmp 106) (.tmp 110) (.tmp 114) (.tmp 118) (.tmp 122) (.tmp 126) (.tmp 130) (.tmp 134) ?_ ((a + A) % 4294967296) ((b1 + B) % 4294967296) ((c + C) % 4294967296) ((d + D) % 4294967296) ((e0 + E) % 4294967296) ((f + F) % 4294967296) ((g + G) % 4294967296) ((h8 + H) % 4294967296) ?_ ?_ ?_ ?_ ?_ ?_ ?_ ?_ R8 HR8.out ?_); exact rfl; exact rfl; exact rfl; exact rfl; exact rfl; exact rfl; exact rfl; exact rfl; exact rfl; exact rfl; skip) | ((with_reducible refine wpList_store_row (o := ⟨none, _, _, _, _, _⟩) ?_ 80 (.tmp 4) (.tmp 135) ?_ (w.heap.size + 1) R8 ?_ ?_ 80 _ ?_ HS8.out HOLD.out H1.out ?_); exact rfl; exact rfl; exact rfl; exact rfl; exact HZ2.out; skip))
                refine bodyPost_ret (v := .agg R8) (results_cell_row (fn := Tryd.f48) rfl _ _ (w.heap.size + 1) 80 R8 (0, 0) _ rfl (setRow_heap _ (w.heap.size + 1) _ R8 80 _ HZ2.out) Tryd.underlying80 rfl HS8.out) rfl (HMP.out _ (below_setRow HBB.out.drew.drew (Nat.le_succ _) _))
theorem mixC (s : St) (b off cap : Nat) (m : List Nat) (w : World) (hl : ∀ c ∈ m, c < 256) (hm : m.length = 64) (hc : Cells w b off m) (hcap : 64 ≤ cap) (hT : TabR w) :
    Calls Tryd.prog 48 #[stV s, .slice (some ⟨b, off, none⟩) 64 cap] w fun e w' => e = .returned (stV (mixS s m)) ∧ Below w.heap.size w w' :=
  mixC0 s b off cap m w hl hm hc hcap hT

end Go.Proofs.YtmfkfpgomglplaaDoor.Mx
