/- tiklaw2.first: what the examples of chapter 2 fix: closed calls over this seat's translation. -/
import Derived.Test.YtlhapnnepcnfbabDoorGet
import Derived.Test.YtlhapnnepcnfbabDoorBytes
import Derived.Handy
import Derived.Lib.SlBytesConst
import Derived.Laws.IdiomStrings
import Derived.Outline
namespace Go.Proofs.YtlhapnnepcnfbabDoor.WireFirst
open Go Go.RowKit Kit Crc Var Get Bytes

theorem cells_block {w : World} {b : Nat} {l : List Nat} (h : ∀ i, (hi : i < l.length) → w.cell? ⟨b, i, none⟩ = some (.int .u8 ((l[i] : Nat) : Int))) : Cells w b 0 l := by
  intro i hi; rw [Nat.zero_add]; exact h i hi
theorem cells_then {B : Nat} {W w1 : World} (hb : Below B W w1) (hB : W.heap.size ≤ B) {b off : Nat} {l : List Nat} (h : Cells W b off l) : Cells w1 b off l :=
  fun i hi => cell_then hb hB (h i hi)
theorem tab_then {B : Nat} {W w1 : World} (hb : Below B W w1) (hB : W.heap.size ≤ B) (h : TabC W) : TabC w1 :=
  fun i hi => cell_then hb hB (h i hi)
theorem sl_then {B : Nat} {W w1 : World} (hb : Below B W w1) (hB : W.heap.size ≤ B) {a : Option Addr} {l : List Nat} (h : Sl W a l) : Sl w1 a l := by
  rcases h with h | ⟨b, off, rfl, h⟩
  · exact .inl h
  · exact .inr ⟨b, off, rfl, cells_then hb hB h⟩
theorem cells_alloc {w : World} {b off : Nat} {l : List Nat} {o : Obj} (h : Cells w b off l) : Cells (w.alloc o) b off l := fun i hi => past_alloc (h i hi)
theorem tab_alloc {w : World} {o : Obj} (h : TabC w) : TabC (w.alloc o) := fun i hi => past_alloc (h i hi)
theorem sl_alloc {w : World} {a : Option Addr} {l : List Nat} {o : Obj} (h : Sl w a l) : Sl (w.alloc o) a l := by
  rcases h with h | ⟨b, off, rfl, h⟩
  · exact .inl h
  · exact .inr ⟨b, off, rfl, cells_alloc h⟩
/-- a new block that holds bytes. -/
theorem cells_new (w : World) (l : List Nat) : Cells (w.alloc (.cells (cellsOf l).toArray 5)) w.heap.size 0 l := by
  intro i hi
  rw [Nat.zero_add, World.cell?_alloc_new]
  simp [cellsOf, hi]
theorem cells_lit {w : World} {n : Nat} {cs : Array Value} {l : List Nat} (hn : n = w.heap.size) (hcs : cs = (cellsOf l).toArray) : Cells (w.alloc (.cells cs 5)) n 0 l := by
  subst hn hcs; exact cells_new w l
theorem cells_mark {w : World} {n : Nat} {cs : Array Value} {fr : Nat × Nat} {l : List Nat} (hn : n = w.heap.size) (hcs : cs = (cellsOf l).toArray) : Cells (w.alloc (.cells cs 5 fr)) n 0 l := by
  subst hn hcs
  intro i hi
  rw [Nat.zero_add, World.cell?_alloc_mark]
  simp [cellsOf, hi]
set_option maxRecDepth 100000 in
theorem four258 (w : World) : Calls Tryd.prog 29 #[.int .u32 258] w fun e w' => e = .returned (.slice (some ⟨w.heap.size, 0, none⟩) 4 4) ∧ w.alloc (.cells (cellsOf [0, 0, 1, 2]).toArray 5) = w' := by
  go_enter Tryd.func29, Tryd.ntmps29
  go_wp2
  go_ret
  exact ⟨rfl, rfl⟩
theorem grow_left {W w : World} (h : Below W.heap.size W w) {w1 : World} (k : Below w.heap.size w w1) : Below W.heap.size W w1 := below_then h k h.size
set_option maxRecDepth 100000 in
set_option maxHeartbeats 400000 in
theorem first (w : World) (hT : TabC w) : Calls Tryd.prog 8 #[] w fun e w' => e = .returned (.bool true) ∧ Below w.heap.size w w' := by
  have g300 : getF ([172, 2].drop 0) 0 0 = (300, 2, 0) := by decide
  have x1 : crc [49, 50, 51, 52, 53, 54, 55, 56, 57] = 3421780262 := by decide
  have v300 : varL 300 = [172, 2] := by rw [varL_more (by decide), varL_small (by decide)]
  have G := Lib.hid g300
  have X := Lib.hid x1
  have V := Lib.hid v300
  have HT := Lib.hid hT
  have kc := fun (w : World) (C : Array Value) (n c g : Nat) (hg : g = w.heap.size) => Go.Joins.run_convert_bytes_const_at (P := Tryd.prog) w 22 5 C n c g hg Tryd.underlying22 Tryd.underlying5
  clear g300 x1 v300 hT
  go_enter Tryd.func8, Tryd.ntmps8
  go_wp2_with fail
  refine (getRow w.heap.size 0 2 [172, 2] 0 _ (by decide) (by decide) (by decide) (cells_new w [172, 2])).mono ?_
  rw [G.out, show end_ (300, 2, 0) 0 = 2 from by decide]
  rintro e w1 ⟨rfl, rfl⟩
  go_wp2_with fail
  refine (varC 300 _ (by decide)).mono ?_
  rintro e w2 ⟨v2, rfl, own2, hb2⟩
  obtain ⟨a2, c2, rfl, _, sl2, _⟩ := row_sl own2
  rw [V.out] at sl2 ⊢
  go_wp2_with fail
  refine (bytesC a2 (some ⟨w2.heap.size, 0, none⟩) c2 2 [172, 2] [172, 2] _ (sl_alloc sl2) (.inr ⟨_, 0, rfl, cells_lit rfl rfl⟩) (by decide) (by decide)).mono ?_
  rw [show decide (([172, 2] : List Nat) = [172, 2]) = true from by decide]
  rintro e w3 ⟨rfl, rfl⟩
  go_wp2_with fail
  refine (crcRow (w2.heap.size + 1) 0 9 [49, 50, 51, 52, 53, 54, 55, 56, 57] _ (by decide) (by decide) (cells_mark (by simp) rfl) (tab_alloc (tab_alloc (tab_then hb2 (Nat.le_refl _) (tab_alloc HT.out))))).mono ?_
  rw [X.out]
  rintro e w4 ⟨rfl, rfl⟩
  go_wp2_with fail
  refine (four258 _).mono ?_
  rintro e w5 ⟨rfl, rfl⟩
  go_wp2_with fail
  refine (bytesC (some ⟨w2.heap.size + 1 + 1, 0, none⟩) (some ⟨w2.heap.size + 1 + 1 + 1, 0, none⟩) 4 4 [0, 0, 1, 2] [0, 0, 1, 2] _ (sl_alloc (.inr ⟨_, 0, rfl, cells_lit (by simp) rfl⟩)) (.inr ⟨_, 0, rfl, cells_lit (by simp) rfl⟩) (by decide) (by decide)).mono ?_
  rw [show decide (([0, 0, 1, 2] : List Nat) = [0, 0, 1, 2]) = true from by decide]
  rintro e w6 ⟨rfl, rfl⟩
  go_wp2
  go_ret
  refine ⟨rfl, ?_⟩
  have hs := hb2.size
  simp only [World.size_alloc] at hs
  have h2 : Below w.heap.size w w2 := grow_left ((Below.refl _ _).alloc (Nat.le_refl _) _) hb2
  exact (((h2.alloc (by omega) _).alloc (by simp only [World.size_alloc]; omega) _).alloc (by simp only [World.size_alloc]; omega) _).alloc (by simp only [World.size_alloc]; omega) _
end Go.Proofs.YtlhapnnepcnfbabDoor.WireFirst
