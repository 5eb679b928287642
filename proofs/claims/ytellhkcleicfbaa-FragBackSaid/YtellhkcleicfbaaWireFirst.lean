/- tiklaw2.first: what the examples of chapter 2 fix: closed calls over this seat's translation. -/
import Derived.Test.YtellhkcleicfbaaGet
import Derived.Test.YtellhkcleicfbaaBytes
import Derived.Handy
import Derived.Lib.SlBytesConst
import Derived.Laws.IdiomStrings
import Derived.Outline
namespace Go.Proofs.Ytellhkcleicfbaa.WireFirst
open Go Go.RowKit Kit Crc Var Get Bytes

theorem cells_block {w : World} {b : Nat} {l : List Nat} (h : ∀ i, (hi : i < l.length) → w.cell? ⟨b, i, none⟩ = some (.int .u8 ((l[i] : Nat) : Int))) : Cells w b 0 l := by
  intro i hi; rw [Nat.zero_add]; exact h i hi
theorem cells_then {B : Nat} {W w1 : World} (hb : Below B W w1) (hB : W.heap.size ≤ B) {b off : Nat} {l : List Nat} (h : Cells W b off l) : Cells w1 b off l :=
  fun i hi => cell_then hb hB (h i hi)
theorem tab_then {B : Nat} {W w1 : World} (hb : Below B W w1) (hB : W.heap.size ≤ B) (h : TabC W) : TabC w1 :=
  fun i hi => cell_then hb hB (h i hi)
theorem sl_then {B : Nat} {W w1 : World} (hb : Below B W w1) (hB : W.heap.size ≤ B) {a : Option Addr} {l : List Nat} (h : Sl W a l) : Sl w1 a l := by
  rcases h with h | ⟨b, off, rfl, h⟩
  · exact .inl h
  · exact .inr ⟨b, off, rfl, cells_then hb hB h⟩
theorem cells_alloc {w : World} {b off : Nat} {l : List Nat} {o : Obj} (h : Cells w b off l) : Cells (w.alloc o) b off l := fun i hi => past_alloc (h i hi)
theorem tab_alloc {w : World} {o : Obj} (h : TabC w) : TabC (w.alloc o) := fun i hi => past_alloc (h i hi)
theorem sl_alloc {w : World} {a : Option Addr} {l : List Nat} {o : Obj} (h : Sl w a l) : Sl (w.alloc o) a l := by
  rcases h with h | ⟨b, off, rfl, h⟩
  · exact .inl h
  · exact .inr ⟨b, off, rfl, cells_alloc h⟩
/-- a new block that holds bytes. -/
theorem cells_new (w : World) (l : List Nat) : Cells (w.alloc (.cells (cellsOf l).toArray 5)) w.heap.size 0 l := by
  intro i hi
  rw [Nat.zero_add, World.cell?_alloc_new]
  simp [cellsOf, hi]
theorem cells_lit {w : World} {n : Nat} {cs : Array Value} {l : List Nat} (hn : n = w.heap.size) (hcs : cs = (cellsOf l).toArray) : Cells (w.alloc (.cells cs 5)) n 0 l := by
  subst hn hcs; exact cells_new w l
theorem cells_mark {w : World} {n : Nat} {cs : Array Value} {fr : Nat × Nat} {l : List Nat} (hn : n = w.heap.size) (hcs : cs = (cellsOf l).toArray) : Cells (w.alloc (.cells cs 5 fr)) n 0 l := by
  subst hn hcs
  intro i hi
  rw [Nat.zero_add, World.cell?_alloc_mark]
  simp [cellsOf, hi]
theorem grow_left {W w : World} (h : Below W.heap.size W w) {w1 : World} (k : Below w.heap.size w w1) : Below W.heap.size W w1 := below_then h k h.size
end Go.Proofs.Ytellhkcleicfbaa.WireFirst
