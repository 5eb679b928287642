/- Slices of integers: words for memory, contracts of tikref.Ints. No statement of its own. -/
import Derived.Test.YtnaiefjbfpejbaaKit
import Derived.Deep.RegionHeld3
import Derived.RegionTactic
import Derived.Deep.RegionWith
import Derived.Deep.QuietTactic
import Derived.BigQuiet
import Derived.IntWalk
import Derived.Handy
import Derived.Outline
import Derived.LoopTactic
import Derived.OwnWalk
import Derived.Laws.AppendOwnNone
import Derived.Deep.OwnRows
set_option linter.unusedVariables false
namespace Go.Proofs.Ytnaiefjbfpejbaa.Ints
open Go Go.RowKit Kit
/-- a slice of integers. -/
def Ints (w : World) (a : Option Addr) (l : List Int) : Prop := l = [] ∨ ∃ b off, a = some ⟨b, off, none⟩ ∧ ∀ i, (h : i < l.length) → w.cell? ⟨b, off + i, none⟩ = some (.int .i64 l[i])
theorem ints_at {w : World} {b off : Nat} {l : List Int} (h : Ints w (some ⟨b, off, none⟩) l) (i : Nat) (hi : i < l.length) : w.cell? ⟨b, off + i, none⟩ = some (.int .i64 l[i]) := by
  rcases h with rfl | ⟨b', off', e, h⟩
  · simp at hi
  · obtain ⟨rfl, rfl⟩ : b = b' ∧ off = off' := by simpa using e
    exact h i hi
theorem ints_then {B : Nat} {W w1 : World} (hb : Below B W w1) (hB : W.heap.size ≤ B) {a : Option Addr} {l : List Int} (h : Ints W a l) : Ints w1 a l := by
  rcases h with h | ⟨b, off, rfl, h⟩
  · exact .inl h
  · refine .inr ⟨b, off, rfl, fun i hi => ?_⟩
    have hlt := World.block_lt_of_cell? W _ (h i hi)
    rw [hb.cell (p := ⟨b, off + i, none⟩) (Nat.lt_of_lt_of_le hlt hB)]; exact h i hi
theorem cell_then {B : Nat} {W w1 : World} (hb : Below B W w1) (hB : W.heap.size ≤ B) {b o : Nat} {v : Value} (h : W.cell? ⟨b, o, none⟩ = some v) : w1.cell? ⟨b, o, none⟩ = some v := by
  have hlt := World.block_lt_of_cell? W _ h
  rw [hb.cell (p := ⟨b, o, none⟩) (Nat.lt_of_lt_of_le hlt hB)]; exact h
theorem ints_drewN {w : World} {a : Option Addr} {l : List Int} (n : Nat) (h : Ints w a l) : Ints (w.drewN n) a l := h
theorem below_drewN {B : Nat} {a w : World} (h : Below B a w) (n : Nat) : Below B a (w.drewN n) := ⟨h.os, h.tape, h.output, h.size, h.block⟩
def cellsI (l : List Int) : List Value := l.map fun c : Int => Value.int .i64 c
theorem cellsI_app (l m : List Int) : cellsI l ++ cellsI m = cellsI (l ++ m) := by simp [cellsI]
theorem info3 : (Try.prog.info? 3).map (fun i => (i.zero, i.size, i.bytes)) = some (some (.int .i64 0), 1, 8) := by kernel_rfl
theorem add_at (b o i : Nat) : (⟨b, o, none⟩ : Addr).add i = ⟨b, o + i, none⟩ := by unfold Addr.add; split <;> simp_all
/-- an owned row of integers, as a slice. -/
theorem row_ints {w : World} {base : Nat} {v : Value} {l : List Int} {n : Nat} (hn : n = l.length) (h : w.ownsRow base 3 1 v n (cellsI l)) :
    ∃ a cap, v = .slice a l.length cap ∧ (l.length ≤ cap ∧ cap ≤ 9223372036854775807) ∧ Ints w a l ∧ (∀ x, a = some x → base ≤ x.block ∧ x.block < w.heap.size) := by
  subst hn
  rcases h.2 with ⟨rfl, hn⟩ | ⟨g, cap, cur, rfl, hb, hg, hnc, hmx, hcs, htake⟩
  · have : l = [] := List.eq_nil_of_length_eq_zero hn
    subst this
    exact ⟨none, 0, rfl, ⟨Nat.le_refl _, by decide⟩, .inl rfl, fun x hx => by cases hx⟩
  · refine ⟨_, cap, rfl, ⟨hnc, by unfold maxLen at hmx; omega⟩, .inr ⟨g, 0, rfl, ?_⟩, fun x hx => by cases hx; exact ⟨hb, (Array.getElem?_eq_some_iff.1 hg).1⟩⟩
    intro i hi
    have hu : (cellsI l)[i]? = some (.int .i64 l[i]) := by simp [cellsI, hi]
    have := h.cells (g := g) rfl i _ hu
    rw [add_at] at this
    exact this
theorem row_any {w : World} {base : Nat} {v : Value} {l : List Int} {n : Nat} (h : w.ownsRow base 3 1 v n (cellsI l)) :
    ∃ a cap, v = .slice a l.length cap ∧ (l.length ≤ cap ∧ cap ≤ 9223372036854775807) ∧ Ints w a l ∧ (∀ x, a = some x → base ≤ x.block ∧ x.block < w.heap.size) :=
  row_ints (by have := h.1; simp [cellsI] at this; omega) h
/-- a new block that holds integers. -/
theorem ints_new {w : World} {n : Nat} {cs : Array Value} {l : List Int} (hn : n = w.heap.size) (hcs : cs = (cellsI l).toArray) (t : TypeId) : Ints (w.alloc (.cells cs t)) (some ⟨n, 0, none⟩) l := by
  subst hn hcs
  refine .inr ⟨_, 0, rfl, fun i hi => ?_⟩
  rw [Nat.zero_add, World.cell?_alloc_new]
  simp [cellsI, hi]
theorem ints_alloc {w : World} {a : Option Addr} {l : List Int} {o : Obj} (h : Ints w a l) : Ints (w.alloc o) a l := by
  rcases h with h | ⟨b, off, rfl, h⟩
  · exact .inl h
  · refine .inr ⟨b, off, rfl, fun i hi => ?_⟩
    rw [World.cell?_alloc_lt _ _ _ (World.block_lt_of_cell? w _ (h i hi))]; exact h i hi
/-- are two slices of integers the same? -/
theorem intsLen (a1 a2 : Option Addr) (n1 n2 c1 c2 : Nat) (w : World) (h : n1 ≠ n2) :
    Calls Try.prog 16 #[.slice a1 n1 c1, .slice a2 n2 c2] w fun e w' => e = .returned (.bool false) ∧ w = w' := by
  have hb : ((n1 : Int) != (n2 : Int)) = true := by simp; omega
  go_enter Try.func16, Try.ntmps16
  go_wp2
  go_ret
  exact ⟨rfl, rfl⟩
theorem intsEmpty (a1 a2 : Option Addr) (c1 c2 : Nat) (w : World) :
    Calls Try.prog 16 #[.slice a1 0 c1, .slice a2 0 c2] w fun e w' => e = .returned (.bool true) ∧ w = w' := by
  go_enter Try.func16, Try.ntmps16
  go_wp2
  refine wp_loop_rounds 1 ?_
  rw [rounds_succ]
  go_wp2
  go_ret
  exact ⟨rfl, rfl⟩
theorem take_eq_step {l m : List Int} {k : Nat} (hk : k < l.length) (hm : k < m.length) (h : l.take k = m.take k) (e : l[k] = m[k]) : l.take (k + 1) = m.take (k + 1) := by
  rw [List.take_succ_eq_append_getElem hk, List.take_succ_eq_append_getElem hm, h, e]
set_option maxRecDepth 100000 in
set_option maxHeartbeats 1000000 in
theorem intsRow (b1 o1 b2 o2 c1 c2 : Nat) (l m : List Int) (w : World) (hlm : l.length = m.length) (hm : l.length ≤ 9223372036854775000)
    (h1 : ∀ i, (h : i < l.length) → w.cell? ⟨b1, o1 + i, none⟩ = some (.int .i64 l[i])) (h2 : ∀ i, (h : i < m.length) → w.cell? ⟨b2, o2 + i, none⟩ = some (.int .i64 m[i])) :
    Calls Try.prog 16 #[.slice (some ⟨b1, o1, none⟩) l.length c1, .slice (some ⟨b2, o2, none⟩) m.length c2] w fun e w' => e = .returned (.bool (decide (l = m))) ∧ ∃ n, w.drewN n = w' := by
  have HL := Lib.hid hlm
  rw [← hlm]
  generalize hR : decide (l = m) = R
  have HR := Lib.hid hR
  clear hR
  go_enter Try.func16, Try.ntmps16
  go_wp2
  go_loopw [5] (fun s5 wr => ∃ k : Nat, k ≤ l.length ∧ s5 = .int .i64 k ∧ Hid (l.take k = m.take k) ∧ ∃ n, wr = w.drewN n) (fun s5 _ => l.length - (intOf s5).toNat)
  case atStart => exact ⟨0, Nat.zero_le _, rfl, Lib.hid rfl, 0, rfl⟩
  case round =>
    obtain ⟨k, hk, rfl, hT, n, rfl⟩ := hrel
    by_cases hlt : k < l.length
    · have hlt2 : k < m.length := by rw [← HL.out]; exact hlt
      have x1 := h1 k hlt
      have x2 := h2 k hlt2
      by_cases he : l[k] = m[k]
      · have hs := Lib.hid (take_eq_step hlt hlt2 hT.out he)
        rw [he] at x1
        have hne : ((m[k] : Int) != m[k]) = false := by simp
        generalize m[k] = v at x1 x2 hne
        clear he hlm h1 h2
        go_wp2
        go_quiet (fail)
        go_wp2
        exact ⟨⟨k + 1, by omega, by go_num, hs, _, rfl⟩, by simp only [intOf]; omega⟩
      · have hne : ((l[k] : Int) != m[k]) = true := by simpa using he
        have hF := Lib.hid (show l ≠ m from fun h => by subst h; exact he rfl)
        generalize m[k] = v at x2 hne
        generalize l[k] = u at x1 hne
        clear he hlm h1 h2
        go_wp2
        go_quiet (fail)
        go_wp2
        go_ret
        exact ⟨ret_bool (by rw [← HR.out]; simpa using hF.out), _, (World.drewN_drewN _ _ _).symm⟩
    · obtain rfl : k = l.length := by omega
      clear h1 h2 hlm
      go_wp2
      go_ret
      refine ⟨ret_bool ?_, _, rfl⟩
      rw [← HR.out]
      have := hT.out
      rw [List.take_of_length_le (Nat.le_refl _), List.take_of_length_le (by rw [HL.out]; exact Nat.le_refl _)] at this
      simpa using this
theorem intsC (a1 a2 : Option Addr) (c1 c2 : Nat) (l m : List Int) (w : World) (hm : l.length ≤ 9223372036854775000) (h1 : Ints w a1 l) (h2 : Ints w a2 m) :
    Calls Try.prog 16 #[.slice a1 l.length c1, .slice a2 m.length c2] w fun e w' => e = .returned (.bool (decide (l = m))) ∧ ∃ n, w.drewN n = w' := by
  by_cases hlm : l.length = m.length
  · rcases h1 with rfl | ⟨b1, o1, rfl, h1⟩
    · obtain rfl : m = [] := List.eq_nil_of_length_eq_zero hlm.symm
      exact (intsEmpty a1 a2 c1 c2 w).mono fun _ _ ⟨h, g⟩ => ⟨h, 0, g⟩
    · rcases h2 with rfl | ⟨b2, o2, rfl, h2⟩
      · obtain rfl : l = [] := List.eq_nil_of_length_eq_zero hlm
        exact (intsEmpty _ a2 c1 c2 w).mono fun _ _ ⟨h, g⟩ => ⟨h, 0, g⟩
      · exact intsRow b1 o1 b2 o2 c1 c2 l m w hlm hm h1 h2
  · rw [decide_eq_false (fun h => hlm (by rw [h]))]
    exact (intsLen a1 a2 _ _ c1 c2 w hlm).mono fun _ _ ⟨h, g⟩ => ⟨h, 0, g⟩
theorem cellsI_at {w : World} {b off : Nat} {l : List Int} (h : Ints w (some ⟨b, off, none⟩) l) : ∀ j u, (cellsI l)[j]? = some u → w.cell? ((⟨b, off, none⟩ : Addr).add j) = some u := by
  intro j u hu
  rw [add_at]
  have hj : j < l.length := by
    rcases Nat.lt_or_ge j l.length with hlt | hge
    · exact hlt
    · rw [List.getElem?_eq_none (by simpa [cellsI] using hge)] at hu; cases hu
  rw [ints_at h j hj]
  simp [cellsI, hj] at hu
  rw [← hu]
theorem cellsI_one {l : List Int} : ∀ u ∈ cellsI l, u.oneCell' = true := by
  intro u hu
  simp [cellsI] at hu
  obtain ⟨x, _, rfl⟩ := hu
  rfl
theorem past_alloc {w : World} {a : Addr} {v : Value} {o : Obj} (h : w.cell? a = some v) : (w.alloc o).cell? a = some v := by
  rw [World.cell?_alloc_lt _ _ _ (World.block_lt_of_cell? w a h)]; exact h
theorem past_drew {w : World} {a : Addr} {v : Value} (h : w.cell? a = some v) : w.drew.cell? a = some v := h
theorem below_next {w W W1 : World} (h : Below w.heap.size w W) (k : Below W.heap.size W W1) : Below w.heap.size w W1 := below_then h k h.size
theorem below_al {w W : World} {o : Obj} (h : Below w.heap.size w W) : Below w.heap.size w (W.alloc o) := h.alloc h.size _
/-- a slice of integers that came in. -/
theorem row_l {w : World} {a : Option Addr} {len cap : Nat} {zs : List Int} (h : IsRow .i64 w a len cap zs) : ∃ l : List Int, l.length = len ∧ len ≤ cap ∧ cap ≤ 9223372036854775807 ∧ (a = none → cap = 0) ∧ Ints w a l := by
  rcases h with ⟨rfl, rfl, rfl, rfl⟩ | ⟨⟨b, o, sp⟩, rfl, hlc, hm, hz, hcell, hwf⟩
  · exact ⟨[], rfl, Nat.le_refl _, by decide, fun _ => rfl, .inl rfl⟩
  · unfold maxLen at hm
    by_cases h1 : 1 ≤ len
    · have g0 := hcell 0 (by omega)
      have hspot : sp = none := by simpa [Addr.add] using World.cell?_spot g0
      subst hspot
      refine ⟨zs.take len, by simp; omega, hlc, by omega, fun h => (by cases h), .inr ⟨b, o, rfl, fun i hi => ?_⟩⟩
      simp only [List.length_take] at hi
      have g := hcell i (by omega)
      rw [add_at] at g
      rw [g]
      simp [List.getD_eq_getElem?_getD, show i < zs.length by omega]
    · obtain rfl : len = 0 := by omega
      exact ⟨[], rfl, hlc, by omega, fun h => (by cases h), .inl rfl⟩
end Go.Proofs.Ytnaiefjbfpejbaa.Ints
