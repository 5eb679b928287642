/- One end of the line: where it lies. -/
import Derived.Test.YtmfkfpgomglplaaDoorWn
import Derived.Test.YtmfkfpgomglplaaDoorOp
set_option linter.unusedVariables false
namespace Go.Proofs.YtmfkfpgomglplaaDoor.Pe
open Go Go.RowKit Kit Mb Sha Ap Mc1 Sc Mx Sb Pd Su Pa Hm Mm Tg Mf Pk Se Wn Op


/-- all old blocks outside lo .. hi are as they were. -/
structure Bt (lo hi : Nat) (w w' : World) : Prop where
  os : w'.os = w.os
  tape : w'.tape = w.tape
  output : w'.output = w.output
  size : w.heap.size ≤ w'.heap.size
  block : ∀ k, k < w.heap.size → (k < lo ∨ hi ≤ k) → w'.heap[k]? = w.heap[k]?
theorem Bt.of {lo hi : Nat} {w w' : World} (h : Below w.heap.size w w') : Bt lo hi w w' := ⟨h.os, h.tape, h.output, h.size, fun k hk _ => h.block k hk⟩
theorem Bt.trans {lo hi : Nat} {a b c : World} (h : Bt lo hi a b) (k : Bt lo hi b c) : Bt lo hi a c :=
  ⟨k.os.trans h.os, k.tape.trans h.tape, k.output.trans h.output, Nat.le_trans h.size k.size, fun i hi2 hx => (k.block i (Nat.lt_of_lt_of_le hi2 h.size) hx).trans (h.block i hi2 hx)⟩
theorem Bt.then_ {lo hi : Nat} {a b c : World} (h : Bt lo hi a b) (k : Below b.heap.size b c) : Bt lo hi a c := h.trans (Bt.of k)
theorem Bt.set {lo hi : Nat} {a b : World} (h : Bt lo hi a b) {p : Addr} (h1 : lo ≤ p.block) (h2 : p.block < hi) (u : Value) : Bt lo hi a (b.setCell p u) :=
  ⟨h.os, h.tape, h.output, by simpa using h.size, fun k hk hx => (Below.heap_setCell b p u k (by omega)).trans (h.block k hk hx)⟩
theorem Bt.drew {lo hi : Nat} {a b : World} (h : Bt lo hi a b) : Bt lo hi a b.drew := ⟨h.os, h.tape, h.output, h.size, h.block⟩
theorem Bt.below {lo hi B : Nat} {W w w' : World} (hb : Below B W w) (h : Bt lo hi w w') (hB : B ≤ lo) (hs : B ≤ w.heap.size) : Below B W w' :=
  ⟨h.os.trans hb.os, h.tape.trans hb.tape, h.output.trans hb.output, Nat.le_trans hb.size h.size, fun k hk => (h.block k (by omega) (by omega)).trans (hb.block k hk)⟩
theorem Bt.cell {lo hi : Nat} {w w' : World} (h : Bt lo hi w w') {b o : Nat} {v : Value} (hx : b < lo ∨ hi ≤ b) (hc : w.cell? ⟨b, o, none⟩ = some v) : w'.cell? ⟨b, o, none⟩ = some v := by
  rw [World.cell?_of_block (w := w) (h.block b (World.block_lt_of_cell? w _ hc) hx)]; exact hc
/-- the bytes of a slice that lies outside lo .. hi. -/
def Out (lo hi : Nat) (a : Option Addr) : Prop := ∀ x, a = some x → x.block < lo ∨ hi ≤ x.block
def Inn (lo hi : Nat) (a : Option Addr) : Prop := ∀ x, a = some x → lo ≤ x.block ∧ x.block < hi
theorem Bt.sl {lo hi : Nat} {w w' : World} (h : Bt lo hi w w') {a : Option Addr} {l : List Nat} (ho : Out lo hi a) (hc : Sl w a l) : Sl w' a l := by
  rcases hc with hc | ⟨b, off, rfl, hc⟩
  · exact .inl hc
  · exact .inr ⟨b, off, rfl, fun i hi => h.cell (ho _ rfl) (hc i hi)⟩
theorem Bt.wn {lo hi : Nat} {w w' : World} (h : Bt lo hi w w') {g n : Nat} (ho : g < lo ∨ hi ≤ g) (hc : Wn w g n) : Wn w' g n := (h.block g hc.lt ho).trans hc
/-- one end, as plain values. -/
structure Pe where
  (key : List Nat) (d v out last : Nat) (ad : Int)
/-- where it lies: its own block, its window's, its key. -/
structure Pl where
  (lo hi g h : Nat) (ka : Option Addr) (kc : Nat)
structure Ok (q : Pe) : Prop where
  kl : ∀ c ∈ q.key, c < 256
  klen : q.key.length ≤ 800000
  d1 : 1 ≤ q.d
  d2 : q.d ≤ 2
  v8 : q.v < 8
  om : q.out ≤ 4611686018427387904
def peV (x : Pl) (q : Pe) : Array Value := #[.slice x.ka q.key.length x.kc, .int .i64 (q.d : Int), .int .i64 (q.v : Int), .int .u64 (q.out : Int), .pointer (some ⟨x.h, 0, none⟩), .int .i64 q.ad]
structure Pr (w : World) (x : Pl) (q : Pe) : Prop where
  blk : w.heap[x.g]? = some (.cells (peV x q) 93 (0, 0))
  win : Wn w x.h q.last
  ks : Sl w x.ka q.key
  k0 : x.ka = none → x.kc = 0
  kcap : q.key.length ≤ x.kc
  ki : Inn x.lo x.hi x.ka
  kg : ∀ y, x.ka = some y → y.block ≠ x.g ∧ y.block ≠ x.h
  ne : x.g ≠ x.h
  g1 : x.lo ≤ x.g
  g2 : x.g < x.hi
  h1 : x.lo ≤ x.h
  h2 : x.h < x.hi
variable {w w' : World} {x : Pl} {q : Pe}
theorem Pr.gl (h : Pr w x q) : x.g < w.heap.size := (Array.getElem?_eq_some_iff.1 h.blk).1
theorem Pr.then_ (h : Pr w x q) (hb : Below w.heap.size w w') : Pr w' x q :=
  ⟨(hb.block _ h.gl).trans h.blk, h.win.then hb (Nat.le_refl _), sl_then hb (Nat.le_refl _) h.ks, h.k0, h.kcap, h.ki, h.kg, h.ne, h.g1, h.g2, h.h1, h.h2⟩
theorem Pr.apart {lo hi : Nat} (h : Pr w x q) (hb : Bt lo hi w w') (ho : x.hi ≤ lo ∨ hi ≤ x.lo) : Pr w' x q := by
  have a1 := h.g1
  have a2 := h.g2
  have a3 := h.h1
  have a4 := h.h2
  exact ⟨(hb.block _ h.gl (by omega)).trans h.blk, hb.wn (by omega) h.win, hb.sl (fun y hy => by have := h.ki y hy; omega) h.ks, h.k0, h.kcap, h.ki, h.kg, h.ne, h.g1, h.g2, h.h1, h.h2⟩
theorem sl_set {w : World} {a : Option Addr} {l : List Nat} (h : Sl w a l) {p : Addr} (hp : ∀ y, a = some y → y.block ≠ p.block) (u : Value) : Sl (w.setCell p u) a l := by
  rcases h with h | ⟨b, off, rfl, h⟩
  · exact .inl h
  · exact .inr ⟨b, off, rfl, fun i hi => past_set (h i hi) (show b ≠ p.block from hp ⟨b, off, none⟩ rfl)⟩
theorem Pr.cell0 (h : Pr w x q) : w.cell? ⟨x.g, 0, none⟩ = some (.slice x.ka q.key.length x.kc) := by rw [cell_of_row w x.g 0 _ 93 _ h.blk]; rfl
theorem Pr.cell1 (h : Pr w x q) : w.cell? ⟨x.g, 1, none⟩ = some (.int .i64 (q.d : Int)) := by rw [cell_of_row w x.g 1 _ 93 _ h.blk]; rfl
theorem Pr.cell2 (h : Pr w x q) : w.cell? ⟨x.g, 2, none⟩ = some (.int .i64 (q.v : Int)) := by rw [cell_of_row w x.g 2 _ 93 _ h.blk]; rfl
theorem Pr.cell3 (h : Pr w x q) : w.cell? ⟨x.g, 3, none⟩ = some (.int .u64 (q.out : Int)) := by rw [cell_of_row w x.g 3 _ 93 _ h.blk]; rfl
theorem Pr.cell4 (h : Pr w x q) : w.cell? ⟨x.g, 4, none⟩ = some (.pointer (some ⟨x.h, 0, none⟩)) := by rw [cell_of_row w x.g 4 _ 93 _ h.blk]; rfl
theorem Pr.cell5 (h : Pr w x q) : w.cell? ⟨x.g, 5, none⟩ = some (.int .i64 q.ad) := by rw [cell_of_row w x.g 5 _ 93 _ h.blk]; rfl
theorem Pr.free (h : Pr w x q) (i : Nat) : w.frozen? ⟨x.g, i, none⟩ = false := frozen_of_row w x.g i _ 93 h.blk
theorem Pr.set3 (h : Pr w x q) (n : Nat) : Pr (w.setCell ⟨x.g, 3, none⟩ (.int .u64 (n : Int))) x { q with out := n } :=
  ⟨by rw [heap_setCell_same w x.g 3 _ 93 _ h.blk]; rfl, by
    have := h.win; unfold Wn at *; rw [heap_setCell_other w _ _ _ (Ne.symm h.ne)]; exact this, sl_set h.ks (fun y hy => (h.kg y hy).1) _, h.k0, h.kcap, h.ki, h.kg, h.ne, h.g1, h.g2, h.h1, h.h2⟩
theorem Pr.set5 (h : Pr w x q) (n : Int) : Pr (w.setCell ⟨x.g, 5, none⟩ (.int .i64 n)) x { q with ad := n } :=
  ⟨by rw [heap_setCell_same w x.g 5 _ 93 _ h.blk]; rfl, by
    have := h.win; unfold Wn at *; rw [heap_setCell_other w _ _ _ (Ne.symm h.ne)]; exact this, sl_set h.ks (fun y hy => (h.kg y hy).1) _, h.k0, h.kcap, h.ki, h.kg, h.ne, h.g1, h.g2, h.h1, h.h2⟩
theorem Pr.setW (h : Pr w x q) (n : Nat) : Pr (w.setCell ⟨x.h, 0, none⟩ (.int .u64 (n : Int))) x { q with last := n } :=
  ⟨by rw [heap_setCell_other w _ _ _ h.ne]; exact h.blk, h.win.set n, sl_set h.ks (fun y hy => (h.kg y hy).2) _, h.k0, h.kcap, h.ki, h.kg, h.ne, h.g1, h.g2, h.h1, h.h2⟩
theorem Pr.drewN (h : Pr w x q) (n : Nat) : Pr (w.drewN n) x q := ⟨h.blk, h.win, h.ks, h.k0, h.kcap, h.ki, h.kg, h.ne, h.g1, h.g2, h.h1, h.h2⟩
theorem Pr.drew (h : Pr w x q) : Pr w.drew x q := ⟨h.blk, h.win, h.ks, h.k0, h.kcap, h.ki, h.kg, h.ne, h.g1, h.g2, h.h1, h.h2⟩

end Go.Proofs.YtmfkfpgomglplaaDoor.Pe
