/- Screens: Copy, Same. -/
import Derived.Test.YtfogbokifbjjlaaSb
set_option linter.unusedVariables false
namespace Go.Proofs.Ytfogbokifbjjlaa.Sd
open Go Go.RowKit Kit Gm Gv Sa Sb

theorem two_heap (w : World) (o1 o2 : Obj) : ((w.alloc o1).alloc o2).heap[w.heap.size]? = some o1 ∧ ((w.alloc o1).alloc o2).heap[w.heap.size + 1]? = some o2 := by
  constructor
  · have h := heap_alloc_old (w.alloc o1) o2 (show w.heap.size < (w.alloc o1).heap.size by simp)
    rw [h]; exact heap_alloc_last w o1
  · have h := heap_alloc_last (w.alloc o1) o2
    simpa using h
theorem below_two (w : World) (o1 o2 : Obj) : Below w.heap.size w ((w.alloc o1).alloc o2) := (below_one w o1).alloc (by simp) o2
/-- the seven cells of a screen. -/
theorem seven {w : World} {k : Nat} {s : Scr} {a : Option Addr} {n cap : Nat} (h : w.heap[k]? = some (svO s a n cap)) : w.cell? ⟨k, 0, none⟩ = some (.int .i64 s.R) ∧ w.cell? ⟨k, 1, none⟩ = some (.int .i64 s.C) ∧ w.cell? ⟨k, 2, none⟩ = some (.slice a n cap) ∧ w.cell? ⟨k, 3, none⟩ = some (.int .i64 s.row) ∧ w.cell? ⟨k, 4, none⟩ = some (.int .i64 s.col) ∧ w.cell? ⟨k, 5, none⟩ = some (.bool s.hid) ∧ w.cell? ⟨k, 6, none⟩ = some (.string s.ti) := by
  refine ⟨?_, ?_, ?_, ?_, ?_, ?_, ?_⟩ <;> simp [World.cell?, h]
/-- a row of cells in a block that may be longer. -/
def Rw (w : World) (g : Nat) (L : List Ce) : Prop := ∃ cur : Array Value, w.heap[g]? = some (.cells cur 52 (0, 0)) ∧ cur.toList.take (L.length * 5) = flat L
theorem Rw.then_ {w w1 : World} {B g : Nat} {L : List Ce} (h : Rw w g L) (hb : Below B w w1) (hB : w.heap.size ≤ B) : Rw w1 g L := by
  obtain ⟨cur, h1, h2⟩ := h
  exact ⟨cur, (hb.block g (Nat.lt_of_lt_of_le (Array.getElem?_eq_some_iff.1 h1).1 hB)).trans h1, h2⟩
theorem Rw.kept {w w1 : World} {k g : Nat} {L : List Ce} (h : Rw w g L) (hk : ∀ j, j ≠ k → w1.heap[j]? = w.heap[j]?) (hne : g ≠ k) : Rw w1 g L := by
  obtain ⟨cur, h1, h2⟩ := h
  exact ⟨cur, (hk g hne).trans h1, h2⟩
theorem Rw.lt {w : World} {g : Nat} {L : List Ce} (h : Rw w g L) : g < w.heap.size := by
  obtain ⟨cur, h1, h2⟩ := h
  exact (Array.getElem?_eq_some_iff.1 h1).1
theorem Rw.sc {w : World} {g : Nat} {L : List Ce} (h : Rw w g L) : Sc w g 0 L := by
  obtain ⟨cur, h1, h2⟩ := h
  intro j hj i hi
  have hlt : j * 5 + i < (flat L).length := by rw [flat_len]; omega
  rw [← flat_at j hj i hi, ← h2, List.getElem?_take, if_pos (by omega)]
  simp [World.cell?, h1]
theorem own_rw {w : World} {base g n cap : Nat} {L : List Ce} (hn : n = L.length) (h0 : 0 < n) (h : w.ownsRow base 52 5 (.slice (some ⟨g, 0, none⟩) n cap) n (flat L)) : Rw w g L := by
  subst hn
  rcases h.2 with ⟨he, h0⟩ | ⟨g', c, cur, he, hb, hg, hnc, hmx, hcs, htake⟩
  · cases he
  · injection he with he; injection he with he; injection he with he
    subst he
    exact ⟨cur, hg, htake⟩
end Go.Proofs.Ytfogbokifbjjlaa.Sd
