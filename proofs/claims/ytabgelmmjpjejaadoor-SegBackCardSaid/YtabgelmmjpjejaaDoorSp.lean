/- The parts of a segment in memory. -/
import Derived.Test.YtabgelmmjpjejaaDoorSo
import Derived.Laws.OwnMore
set_option linter.unusedVariables false
namespace Go.Proofs.YtabgelmmjpjejaaDoor.Sp
open Go Go.RowKit Kit Crc Var Get Ref3 Copy Bytes Bx Py Py2 Ry Rz Dn Df Dd Da Dc Rs Rf Rg Ar Bg Hd Sn Rh Sr So


theorem info72 : (Tryd.prog.info? 72).map (fun i => (i.zero, i.size, i.bytes)) = some (some (.agg #[.int .i64 0, .int .u64 0, .int .u64 0, .slice none 0 0, .int .i64 0, .int .i64 0]), 6, 64) := by kernel_rfl
/-- a part more: the row is the same block, or a new one. -/
theorem run_part (w : World) (ty : TypeId) (base : Nat) (v : Value) (n : Nat) (xs : List Value) (hown : w.ownsRow base 72 6 v n xs) (g : Nat) (cs : List Value) (hm : w.heap[g]? = some (.cells cs.toArray 72 (0, 0))) (h6 : cs.length = 6) (h1 : ∀ u ∈ cs, u.oneCell' = true) (hn : n ≤ 100000) (hbase : base ≤ w.heap.size) :
    ∃ v' w', (Builtin.append_ #[54, 54] ty #[v, .slice (some ⟨g, 0, none⟩) 1 1]).run Tryd.prog w = .ok v' w' ∧ w'.ownsRow base 72 6 v' (n + 1) (xs ++ cs) ∧ w.grownBy w' v.ownBlock ∧ (v'.ownBlock = v.ownBlock ∨ v'.ownBlock = some w.heap.size) := by
  obtain ⟨i0, hi, hz, hs, hb⟩ := info_parts info72
  have hnews : ∀ j u, cs[j]? = some u → w.cell? ((⟨g, 0, none⟩ : Addr).add j) = some u := by
    intro j u hu
    have hadd : (⟨g, 0, none⟩ : Addr).add j = ⟨g, j, none⟩ := by unfold Addr.add; split <;> simp_all
    rw [hadd, cell_of_row w g j _ 72 _ hm]
    simpa using hu
  obtain ⟨v', w', hr, h2, h3, _⟩ := run_append_own (P := Tryd.prog) w base 54 ty 72 i0 _ 6 64 Tryd.underlying54 hi hz hs hb rfl (by decide) v n xs hown ⟨g, 0, none⟩ 1 1 cs (by rw [h6]) hnews h1 (by unfold maxLen; omega) (by omega) hbase
  refine ⟨v', w', hr, h2, h3, ?_⟩
  rcases hown.2 with ⟨rfl, rfl⟩ | ⟨g0, cap, cur, rfl, _, hg, hnc, _, hcs, _⟩
  · have hr2 := run_append_nil (P := Tryd.prog) w 54 ty 72 i0 _ Tryd.underlying54 hi hz ⟨g, 0, none⟩ 1 1 cs (by rw [h6, hs]) hnews (by decide) (by decide) (by rw [hb]; decide)
    rw [hr] at hr2
    injection hr2 with e1 e2
    subst e1
    exact .inr rfl
  · by_cases hroom : n + 1 ≤ cap
    · have hfit : n * i0.size + cs.length ≤ cur.size := by rw [h6, hcs, hs]; omega
      have hr2 := run_append_room (P := Tryd.prog) w 54 ty 72 i0 Tryd.underlying54 hi g0 n cap cur hg ⟨g, 0, none⟩ 1 1 cs (by rw [h6, hs]) hnews h1 hroom hfit
      rw [hr] at hr2
      injection hr2 with e1 e2
      subst e1
      exact .inl rfl
    · have holds : ∀ j u, xs[j]? = some u → w.cell? ((⟨g0, 0, none⟩ : Addr).add j) = some u := hown.cells (g := g0) rfl
      have hr2 := run_append_grow (P := Tryd.prog) w 54 ty 72 i0 _ Tryd.underlying54 hi hz ⟨g0, 0, none⟩ n cap xs (by rw [hs]; exact hown.1) holds ⟨g, 0, none⟩ 1 1 cs (by rw [h6, hs]) hnews (by omega) (by omega) (by rw [hb]; exact growslice_fits (by omega) (by omega))
      rw [hr] at hr2
      injection hr2 with e1 e2
      subst e1
      exact .inr rfl
/-- a part, as it lies in memory. -/
structure PV where
  D : Dec
  a : Option Addr
  c : Nat
  at' : Nat
def pcells (p : PV) : List Value := [.int .i64 (p.D.k : Int), .int .u64 (p.D.s : Int), .int .u64 (p.D.t : Int), .slice p.a p.D.b.length p.c, .int .i64 (p.at' : Int), .int .i64 ((p.at' + p.D.n : Nat) : Int)]
/-- the parts' row, and their bytes beside it. -/
def ScanI (w : World) (base : Nat) (v : Value) (ps : List PV) : Prop :=
  w.ownsRow base 72 6 v ps.length (ps.flatMap pcells) ∧ ∀ p ∈ ps, p.D.b = [] ∨ ∃ b off, p.a = some ⟨b, off, none⟩ ∧ Cells w b off p.D.b ∧ base ≤ b ∧ b < w.heap.size ∧ v.ownBlock ≠ some b
theorem scan_nil (w : World) (base : Nat) : ScanI w base (.slice none 0 0) [] := ⟨World.ownsRow_nil _ _ _ _, fun p hp => by cases hp⟩
theorem scan_then {w w1 : World} {base B : Nat} {v : Value} {ps : List PV} (h : ScanI w base v ps) (hb : Below B w w1) (hB : w.heap.size ≤ B) : ScanI w1 base v ps := by
  refine ⟨⟨h.1.1, ?_⟩, fun p hp => ?_⟩
  · rcases h.1.2 with h | ⟨g, cap, cur, hv, hg, hc, rest⟩
    · exact .inl h
    · exact .inr ⟨g, cap, cur, hv, hg, by rw [hb.block g (Nat.lt_of_lt_of_le (Array.getElem?_eq_some_iff.1 hc).1 hB)]; exact hc, rest⟩
  · rcases h.2 p hp with h | ⟨b, off, e, hc, h1, h2, h3⟩
    · exact .inl h
    · exact .inr ⟨b, off, e, cells_then hb hB hc, h1, Nat.lt_of_lt_of_le h2 (Nat.le_trans hb.size (Nat.le_refl _)), h3⟩
theorem scan_set {w : World} {base : Nat} {v : Value} {ps : List PV} (h : ScanI w base v ps) {x : Addr} (hx : x.block < base) (u : Value) : ScanI (w.setCell x u) base v ps := by
  refine ⟨ownsRow_setCell_below h.1 hx u, fun p hp => ?_⟩
  rcases h.2 p hp with h | ⟨b, off, e, hc, h1, h2, h3⟩
  · exact .inl h
  · refine .inr ⟨b, off, e, fun i hi => ?_, h1, ?_, h3⟩
    · rw [World.cell?_of_block (w := w) (Below.heap_setCell w x u b (by omega))]; exact hc i hi
    · have := Below.setCell (Below.refl 0 w) (Nat.zero_le x.block) u
      exact Nat.lt_of_lt_of_le h2 this.size
theorem scan_app {w w' : World} {base : Nat} {v v' : Value} {ps : List PV} {p : PV} (h : ScanI w base v ps) (h2 : w'.ownsRow base 72 6 v' (ps.length + 1) (ps.flatMap pcells ++ pcells p)) (h3 : w.grownBy w' v.ownBlock) (h4 : v'.ownBlock = v.ownBlock ∨ v'.ownBlock = some w.heap.size)
    (hp : p.D.b = [] ∨ ∃ b off, p.a = some ⟨b, off, none⟩ ∧ Cells w b off p.D.b ∧ base ≤ b ∧ b < w.heap.size ∧ v.ownBlock ≠ some b) : ScanI w' base v' (ps ++ [p]) := by
  refine ⟨by simpa using h2, fun q hq => ?_⟩
  have hall : q.D.b = [] ∨ ∃ b off, q.a = some ⟨b, off, none⟩ ∧ Cells w b off q.D.b ∧ base ≤ b ∧ b < w.heap.size ∧ v.ownBlock ≠ some b := by
    rcases List.mem_append.1 hq with hq | hq
    · exact h.2 q hq
    · obtain rfl := List.mem_singleton.1 hq
      exact hp
  rcases hall with he | ⟨b, off, e, hc, h5, h6, h7⟩
  · exact .inl he
  · refine .inr ⟨b, off, e, fun i hi => h3.cell (hc i hi) (fun e => h7 e.symm), h5, Nat.lt_of_lt_of_le h6 h3.size, ?_⟩
    rcases h4 with h4 | h4
    · rw [h4]; exact h7
    · rw [h4]; intro e; injection e with e; omega
theorem scan_grown {B : Nat} {W0 w w' : World} {base : Nat} {v : Value} {ps : List PV} (h : ScanI w base v ps) (h3 : w.grownBy w' v.ownBlock) (hB : B ≤ base) (hb : base ≤ w.heap.size) (h0 : Below B W0 w) : Below B W0 w' :=
  h0.grown h3 (Nat.le_trans hB hb) (fun j hj => Nat.le_trans hB (h.1.lt j hj).1)
theorem pcells_len (p : PV) : (pcells p).length = 6 := rfl
theorem pcells_one (p : PV) : ∀ u ∈ pcells p, u.oneCell' = true := by
  intro u hu
  simp only [pcells, List.mem_cons, List.not_mem_nil, or_false] at hu
  rcases hu with rfl | rfl | rfl | rfl | rfl | rfl <;> rfl
/-- the parts' row, as a slice. -/
theorem scan_slice {w : World} {base : Nat} {v : Value} {ps : List PV} (h : ScanI w base v ps) : ∃ a c, v = .slice a ps.length c ∧ (ps ≠ [] → ∃ g, a = some ⟨g, 0, none⟩) := by
  rcases h.1.2 with ⟨rfl, e⟩ | ⟨g, cap, cur, rfl, _⟩
  · exact ⟨none, 0, by rw [e], fun hne => absurd (List.eq_nil_of_length_eq_zero e) hne⟩
  · exact ⟨_, _, rfl, fun _ => ⟨g, rfl⟩⟩
theorem flat_at {ps : List PV} (j : Nat) (hj : j < ps.length) (i : Nat) (hi : i < 6) : (ps.flatMap pcells)[j * 6 + i]? = (pcells ps[j])[i]? := by
  induction ps generalizing j with
  | nil => simp at hj
  | cons p ps ih =>
    rw [List.flatMap_cons]
    cases j with
    | zero => rw [Nat.zero_mul, Nat.zero_add, List.getElem?_append_left (by rw [pcells_len]; exact hi)]; rfl
    | succ j =>
      rw [List.getElem?_append_right (by rw [pcells_len]; omega), pcells_len, show (j + 1) * 6 + i - 6 = j * 6 + i by omega]
      exact ih j (by simpa using hj)
/-- what a part's cells hold. -/
theorem scan_cells {w : World} {base g c : Nat} {ps : List PV} (h : ScanI w base (.slice (some ⟨g, 0, none⟩) ps.length c) ps) (j : Nat) (hj : j < ps.length) (i : Nat) (hi : i < 6) : w.cell? ⟨g, j * 6 + i, none⟩ = (pcells ps[j])[i]? := by
  rw [h.1.cellAt (j * 6 + i) (by omega)]
  exact flat_at j hj i hi

end Go.Proofs.YtabgelmmjpjejaaDoor.Sp
