/- Screens: Copy, Same. -/
import Derived.Test.YtjfeejoplchmpaaDoorSb
set_option linter.unusedVariables false
namespace Go.Proofs.YtjfeejoplchmpaaDoor.Sd
open Go Go.RowKit Kit Gm Gv Sa Sb

theorem two_heap (w : World) (o1 o2 : Obj) : ((w.alloc o1).alloc o2).heap[w.heap.size]? = some o1 ∧ ((w.alloc o1).alloc o2).heap[w.heap.size + 1]? = some o2 := by
  constructor
  · have h := heap_alloc_old (w.alloc o1) o2 (show w.heap.size < (w.alloc o1).heap.size by simp)
    rw [h]; exact heap_alloc_last w o1
  · have h := heap_alloc_last (w.alloc o1) o2
    simpa using h
theorem below_two (w : World) (o1 o2 : Obj) : Below w.heap.size w ((w.alloc o1).alloc o2) := (below_one w o1).alloc (by simp) o2
/-- the seven cells of a screen. -/
theorem seven {w : World} {k : Nat} {s : Scr} {a : Option Addr} {n cap : Nat} (h : w.heap[k]? = some (svO s a n cap)) : w.cell? ⟨k, 0, none⟩ = some (.int .i64 s.R) ∧ w.cell? ⟨k, 1, none⟩ = some (.int .i64 s.C) ∧ w.cell? ⟨k, 2, none⟩ = some (.slice a n cap) ∧ w.cell? ⟨k, 3, none⟩ = some (.int .i64 s.row) ∧ w.cell? ⟨k, 4, none⟩ = some (.int .i64 s.col) ∧ w.cell? ⟨k, 5, none⟩ = some (.bool s.hid) ∧ w.cell? ⟨k, 6, none⟩ = some (.string s.ti) := by
  refine ⟨?_, ?_, ?_, ?_, ?_, ?_, ?_⟩ <;> simp [World.cell?, h]
/-- a row of cells in a block that may be longer. -/
def Rw (w : World) (g : Nat) (L : List Ce) : Prop := ∃ cur : Array Value, w.heap[g]? = some (.cells cur 32 (0, 0)) ∧ cur.toList.take (L.length * 5) = flat L
theorem Rw.then_ {w w1 : World} {B g : Nat} {L : List Ce} (h : Rw w g L) (hb : Below B w w1) (hB : w.heap.size ≤ B) : Rw w1 g L := by
  obtain ⟨cur, h1, h2⟩ := h
  exact ⟨cur, (hb.block g (Nat.lt_of_lt_of_le (Array.getElem?_eq_some_iff.1 h1).1 hB)).trans h1, h2⟩
theorem Rw.kept {w w1 : World} {k g : Nat} {L : List Ce} (h : Rw w g L) (hk : ∀ j, j ≠ k → w1.heap[j]? = w.heap[j]?) (hne : g ≠ k) : Rw w1 g L := by
  obtain ⟨cur, h1, h2⟩ := h
  exact ⟨cur, (hk g hne).trans h1, h2⟩
theorem Rw.lt {w : World} {g : Nat} {L : List Ce} (h : Rw w g L) : g < w.heap.size := by
  obtain ⟨cur, h1, h2⟩ := h
  exact (Array.getElem?_eq_some_iff.1 h1).1
theorem Rw.sc {w : World} {g : Nat} {L : List Ce} (h : Rw w g L) : Sc w g 0 L := by
  obtain ⟨cur, h1, h2⟩ := h
  intro j hj i hi
  have hlt : j * 5 + i < (flat L).length := by rw [flat_len]; omega
  rw [← flat_at j hj i hi, ← h2, List.getElem?_take, if_pos (by omega)]
  simp [World.cell?, h1]
theorem own_rw {w : World} {base g n cap : Nat} {L : List Ce} (hn : n = L.length) (h0 : 0 < n) (h : w.ownsRow base 32 5 (.slice (some ⟨g, 0, none⟩) n cap) n (flat L)) : Rw w g L := by
  subst hn
  rcases h.2 with ⟨he, h0⟩ | ⟨g', c, cur, he, hb, hg, hnc, hmx, hcs, htake⟩
  · cases he
  · injection he with he; injection he with he; injection he with he
    subst he
    exact ⟨cur, hg, htake⟩
def CpQ (w : World) (s : Scr) (n : Nat) (L : List Ce) (e : Ending) (w' : World) : Prop := ∃ g c, e = .returned (svA s (some ⟨g, 0, none⟩) n c) ∧ w.heap.size ≤ g ∧ n ≤ c ∧ Rw w' g L ∧ Below w.heap.size w w'
set_option maxRecDepth 100000 in
set_option maxHeartbeats 2000000 in
/-- screen.Copy. -/
theorem copyC (s : Scr) (b off n cap : Nat) (L : List Ce) (w : World) (hn : n = L.length) (h0 : 0 < n) (hm : n ≤ 1000000) (h : Sc w b off L) :
    Calls Tryd.prog 8 #[svA s (some ⟨b, off, none⟩) n cap] w (CpQ w s n L) := by
  obtain ⟨R, C, row, col, hid, ti⟩ := s
  obtain ⟨hA, hZ⟩ := two_heap w (svO ⟨R, C, row, col, hid, ti⟩ (some ⟨b, off, none⟩) n cap) (svO ⟨0, 0, 0, 0, false, ⟨#[]⟩⟩ none 0 0)
  have hb := below_two w (svO ⟨R, C, row, col, hid, ti⟩ (some ⟨b, off, none⟩) n cap) (svO ⟨0, 0, 0, 0, false, ⟨#[]⟩⟩ none 0 0)
  have hsz : ((w.alloc (svO ⟨R, C, row, col, hid, ti⟩ (some ⟨b, off, none⟩) n cap)).alloc (svO ⟨0, 0, 0, 0, false, ⟨#[]⟩⟩ none 0 0)).heap.size = w.heap.size + 2 := by simp
  dsimp only [svO] at hA hZ hb hsz
  generalize hw2 : (w.alloc (.cells #[.int .i64 R, .int .i64 C, .slice (some ⟨b, off, none⟩) n cap, .int .i64 row, .int .i64 col, .bool hid, .string ti] 24)).alloc (.cells #[.int .i64 0, .int .i64 0, .slice none 0 0, .int .i64 0, .int .i64 0, .bool false, .string ⟨#[]⟩] 24) = w2 at *
  obtain ⟨c0, c1, c2, c3, c4, c5, c6⟩ := seven (s := ⟨R, C, row, col, hid, ti⟩) hA
  dsimp only at c0 c1 c2 c3 c4 c5 c6
  have HC := Lib.hid (cloneC b off n cap L w2 hn h0 hm (h.then_ hb (Nat.le_refl _)))
  have HA := Lib.hid hA
  have HZ := Lib.hid hZ
  have HB := Lib.hid hb
  have HN := Lib.hid hn
  have H0 := Lib.hid h0
  have HSZ := Lib.hid hsz
  clear h hn h0 hm hA hZ hb hsz
  go_enter Tryd.func8, Tryd.ntmps8
  go_wp2_with (first
    | (go_at_call 16; (with_reducible refine HC.out.mono ?_); rintro e w3 ⟨g, c, rfl, hg, hnc, _, hown, b3⟩; have HA3 := Lib.hid ((b3.block _ (Array.getElem?_eq_some_iff.1 HA.out).1).trans HA.out); have HZ3 := Lib.hid ((b3.block _ (Array.getElem?_eq_some_iff.1 HZ.out).1).trans HZ.out); have HB3 := Lib.hid (below_then HB.out b3 HB.out.size); have HR3 := Lib.hid (own_rw HN.out H0.out hown); have HG := Lib.hid hg; have HNC := Lib.hid hnc; clear hg hnc hown b3)
    | ((with_reducible refine wpList_store_cells rfl _ _ rfl w.heap.size ⟨R, C, row, col, hid, ti⟩ (some ⟨b, off, none⟩) n cap (some ⟨g, 0, none⟩) n c rfl rfl HA3.out ?_); intro w4 h4 b4 k4 z4; have HB4 := Lib.hid (b4 _ _ (Nat.le_refl _) HB3.out); have HZ4 := Lib.hid ((k4 _ (Nat.succ_ne_self _)).trans HZ3.out); have HR4 := Lib.hid (HR3.out.kept k4 (by have := HG.out; have := HSZ.out; omega)); obtain ⟨d0, d1, d2, d3, d4, d5, d6⟩ := seven (s := ⟨R, C, row, col, hid, ti⟩) h4; (dsimp only at d0 d1 d2 d3 d4 d5 d6); clear h4 b4 k4 z4)
    | ((with_reducible refine wpList_store_sc rfl _ _ rfl (w.heap.size + 1) ⟨R, C, row, col, hid, ti⟩ (some ⟨g, 0, none⟩) n c _ rfl rfl HZ4.out rfl ?_); intro w5 h5 b5 k5 z5; have HB5 := Lib.hid (b5 _ _ (Nat.le_succ _) HB4.out); have HR5 := Lib.hid (HR4.out.kept k5 (by have := HG.out; have := HSZ.out; omega)); obtain ⟨f0, f1, f2, f3, f4, f5, f6⟩ := seven (s := ⟨R, C, row, col, hid, ti⟩) h5; (dsimp only at f0 f1 f2 f3 f4 f5 f6); clear h5 b5 k5 z5))
  refine bodyPost_ret (v := .agg #[.int .i64 R, .int .i64 C, .slice (some ⟨g, 0, none⟩) n c, .int .i64 row, .int .i64 col, .bool hid, .string ti]) (by simp [results, Tryd.results8, go_sem, f0, f1, f2, f3, f4, f5, f6]) rfl ?_
  exact ⟨g, c, rfl, by have := HG.out; have := HSZ.out; omega, HNC.out, HR5.out, HB5.out⟩
end Go.Proofs.YtjfeejoplchmpaaDoor.Sd
