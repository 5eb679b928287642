/- Package utf: contracts of the decoder. -/
import Derived.Test.YtlhapnnepcnfbabWords
import Derived.Test.YtlhapnnepcnfbabUMath
import Derived.Test.YtlhapnnepcnfbabUBits
set_option linter.unusedVariables false
namespace Go.Proofs.Ytlhapnnepcnfbab.UDec
open Go Go.RowKit Words UMath

/-- a decoder at p. -/
def Dw (w : World) (p : Nat) (d : Dec) : Prop := Blk w p 43 #[.int .i32 d.s, .int .i64 d.h, .int .i64 d.n, .int .u8 d.lo, .int .u8 d.hi]
theorem Dw.five {w : World} {p : Nat} {d : Dec} (h : Dw w p d) : (w.cell? ⟨p, 0, none⟩ = some (.int .i32 d.s) ∧ w.cell? ⟨p, 1, none⟩ = some (.int .i64 d.h) ∧ w.cell? ⟨p, 2, none⟩ = some (.int .i64 d.n) ∧ w.cell? ⟨p, 3, none⟩ = some (.int .u8 d.lo) ∧ w.cell? ⟨p, 4, none⟩ = some (.int .u8 d.hi)) ∧
    w.frozen? ⟨p, 0, none⟩ = false ∧ w.frozen? ⟨p, 1, none⟩ = false ∧ w.frozen? ⟨p, 2, none⟩ = false ∧ w.frozen? ⟨p, 3, none⟩ = false ∧ w.frozen? ⟨p, 4, none⟩ = false :=
  ⟨⟨Blk.cell h 0, Blk.cell h 1, Blk.cell h 2, Blk.cell h 3, Blk.cell h 4⟩, Blk.frozen h 0, Blk.frozen h 1, Blk.frozen h 2, Blk.frozen h 3, Blk.frozen h 4⟩
set_option maxRecDepth 100000 in
theorem newC (w : World) : Calls Try.prog 10 #[] w fun e w' => e = .returned (.pointer (some ⟨w.heap.size, 0, none⟩)) ∧ w.alloc (.cells #[.int .i32 0, .int .i64 0, .int .i64 0, .int .u8 0, .int .u8 0] 43) = w' := by
  go_enter Try.func10, Try.ntmps10
  go_wp2
  go_ret
  exact ⟨rfl, rfl⟩
theorem pendC (p : Nat) (d : Dec) (w : World) (h : Dw w p d) : Calls Try.prog 14 #[.pointer (some ⟨p, 0, none⟩)] w fun e w' => e = .returned (.int .i64 d.h) ∧ w = w' := by
  obtain ⟨⟨c0, c1, c2, c3, c4⟩, _⟩ := h.five
  go_enter Try.func14, Try.ntmps14
  go_wp2
  go_ret
  exact ⟨rfl, rfl⟩
theorem folC (p : Nat) (d : Dec) (c : Int) (w : World) (h : Dw w p d) : Calls Try.prog 28 #[.pointer (some ⟨p, 0, none⟩), .int .u8 c] w fun e w' => e = .returned (.bool (folB d c)) ∧ w = w' := by
  obtain ⟨⟨c0, c1, c2, c3, c4⟩, _⟩ := h.five
  have HF : Hid (∀ b b' : Bool, decide (d.lo ≤ c) = b → decide (c ≤ d.hi) = b' → folB d c = (b && b')) := fun b b' h1 h2 => by unfold folB; rw [h1, h2]
  generalize folB d c = R at *
  cases h1 : decide (d.lo ≤ c) <;> cases h2 : decide (c ≤ d.hi)
  all_goals
    have HR := Lib.hid (HF.out _ _ h1 h2)
    go_enter Try.func28, Try.ntmps28
    go_wp2
    go_ret
    exact ⟨ret_bool (by rw [HR.out]; rfl), rfl⟩
theorem set5 {w : World} {p : Nat} {d : Dec} (h : Dw w p d) (s n q lo hi : Int) :
    Dw (((((w.setCell ⟨p, 0, none⟩ (.int .i32 s)).setCell ⟨p, 1, none⟩ (.int .i64 n)).setCell ⟨p, 2, none⟩ (.int .i64 q)).setCell ⟨p, 3, none⟩ (.int .u8 lo)).setCell ⟨p, 4, none⟩ (.int .u8 hi)) p ⟨s, n, q, lo, hi⟩ :=
  ((((Blk.set_ h 0 (.int .i32 s)).set_ 1 (.int .i64 n)).set_ 2 (.int .i64 q)).set_ 3 (.int .u8 lo)).set_ 4 (.int .u8 hi)
theorem grown5 (w : World) (p : Nat) (a b c d e : Value) : w.grownBy (((((w.setCell ⟨p, 0, none⟩ a).setCell ⟨p, 1, none⟩ b).setCell ⟨p, 2, none⟩ c).setCell ⟨p, 3, none⟩ d).setCell ⟨p, 4, none⟩ e) (some p) :=
  grownBy_trans (grownBy_trans (grownBy_trans (grownBy_trans (grownBy_set w p 0 a) (grownBy_set _ p 1 b)) (grownBy_set _ p 2 c)) (grownBy_set _ p 3 d)) (grownBy_set _ p 4 e)
set_option maxRecDepth 100000 in
theorem beginC (p : Nat) (d : Dec) (s n lo hi : Int) (w : World) (h : Dw w p d) :
    Calls Try.prog 34 #[.pointer (some ⟨p, 0, none⟩), .int .i32 s, .int .i64 n, .int .u8 lo, .int .u8 hi] w fun e w' => e = .returned (.tuple #[]) ∧ Dw w' p ⟨s, 1, n, lo, hi⟩ ∧ w.grownBy w' (some p) := by
  obtain ⟨⟨c0, c1, c2, c3, c4⟩, f0, f1, f2, f3, f4⟩ := h.five
  go_enter Try.func34, Try.ntmps34
  go_wp2
  go_end0
  exact ⟨rfl, set5 h _ _ _ _ _, grown5 _ _ _ _ _ _ _⟩
/-- what Flush leaves. -/
def FlP (w : World) (p : Nat) (d : Dec) (e : Ending) (w' : World) : Prop :=
  ∃ v, e = .returned v ∧ Dw w' p d0 ∧ w.grownBy w' (some p) ∧ w'.ownsRow w.heap.size 21 1 v (flushL d).length (cellsK .i32 (flushL d))
theorem flush0 (p : Nat) (w : World) (h : Dw w p d0) : Calls Try.prog 15 #[.pointer (some ⟨p, 0, none⟩)] w (FlP w p d0) := by
  obtain ⟨⟨c0, c1, c2, c3, c4⟩, f0, f1, f2, f3, f4⟩ := h.five
  simp only [d0] at c1
  go_enter Try.func15, Try.ntmps15
  go_wp2
  go_ret
  exact ⟨_, rfl, h, grownBy_refl _ _, World.ownsRow_nil _ _ _ _⟩
theorem flush1 (p : Nat) (d : Dec) (w : World) (h : Dw w p d) (hd : d.h ≠ 0) : Calls Try.prog 15 #[.pointer (some ⟨p, 0, none⟩)] w (FlP w p d) := by
  obtain ⟨⟨c0, c1, c2, c3, c4⟩, f0, f1, f2, f3, f4⟩ := h.five
  have hne : (d.h == 0) = false := by simpa using hd
  have HF := Lib.hid (show flushL d = [65533] by rw [flushL, if_neg hd])
  go_enter Try.func15, Try.ntmps15
  go_wp2
  go_ret
  refine ⟨_, rfl, (set5 h 0 0 0 0 0).alloc _, grownBy_trans (grown5 _ _ _ _ _ _ _) (grown_of_below (below_one _ _) _), ?_⟩
  rw [HF.out]
  exact own_made _ [65533] _ (by simp [World.setCell]) 1 rfl (by simp [World.setCell]) (by decide)
theorem flushC (p : Nat) (d : Dec) (w : World) (h : Dw w p d) (hok : OkD d) : Calls Try.prog 15 #[.pointer (some ⟨p, 0, none⟩)] w (FlP w p d) := by
  by_cases hd : d.h = 0
  · obtain rfl := (ok_h hok).2.2 hd
    exact flush0 p w h
  · exact flush1 p d w h hd
/-- but for two blocks all is as it was. -/
structure Two (w w' : World) (p : Nat) (r : Option Nat) : Prop where
  os : w'.os = w.os
  tape : w'.tape = w.tape
  output : w'.output = w.output
  size : w.heap.size ≤ w'.heap.size
  block : ∀ k, k < w.heap.size → k ≠ p → some k ≠ r → w'.heap[k]? = w.heap[k]?
theorem two_row {w w' : World} {p : Nat} {r : Option Nat} (h : w.grownBy w' r) : Two w w' p r := ⟨h.os, h.tape, h.output, h.size, fun k hk _ h2 => h.block k hk h2⟩
theorem two_p {w w' : World} {p : Nat} {r : Option Nat} (h : w.grownBy w' (some p)) : Two w w' p r := ⟨h.os, h.tape, h.output, h.size, fun k hk h1 _ => h.block k hk (fun e => h1 (by injection e))⟩
theorem Two.trans {a b c : World} {p : Nat} {r : Option Nat} (h : Two a b p r) (k : Two b c p r) : Two a c p r :=
  ⟨k.os.trans h.os, k.tape.trans h.tape, k.output.trans h.output, Nat.le_trans h.size k.size, fun i hi h1 h2 => (k.block i (Nat.lt_of_lt_of_le hi h.size) h1 h2).trans (h.block i hi h1 h2)⟩
/-- a step into a row of its own: one that was not there counts for nothing. -/
theorem Two.new {a b c : World} {p : Nat} {r s : Option Nat} (h : Two a b p r) (k : Two b c p s) (hs : ∀ j, s = some j → a.heap.size ≤ j) : Two a c p r :=
  ⟨k.os.trans h.os, k.tape.trans h.tape, k.output.trans h.output, Nat.le_trans h.size k.size, fun i hi h1 h2 => (k.block i (Nat.lt_of_lt_of_le hi h.size) h1 (fun e => by have := hs i e.symm; omega)).trans (h.block i hi h1 h2)⟩
theorem Two.grown {a b : World} {p base : Nat} {r : Option Nat} (h : Two a b p r) (hr : ∀ j, r = some j → a.heap.size ≤ j) : a.grownBy b (some p) :=
  ⟨h.os, h.tape, h.output, h.size, fun i hi hne => h.block i hi (fun e => hne (by rw [e])) (fun e => by have := hr i e.symm; omega)⟩
theorem Blk.two {w w' : World} {g p : Nat} {t : TypeId} {cs : Array Value} {r : Option Nat} (h : Blk w g t cs) (hb : Two w w' p r) (h1 : g ≠ p) (h2 : some g ≠ r) : Blk w' g t cs := (hb.block g (Words.Blk.lt h) h1 h2).trans h
theorem own_two {w w' : World} {p base e : Nat} {v : Value} {n : Nat} {xs : List Value} {r : Option Nat} (h : w.ownsRow base e 1 v n xs) (hb : Two w w' p r) (h1 : v.ownBlock ≠ some p) (h2 : v.ownBlock = none ∨ v.ownBlock ≠ r) : w'.ownsRow base e 1 v n xs := by
  refine ⟨h.1, ?_⟩
  rcases h.2 with h3 | ⟨g, cap, cur, rfl, hg, hh, q⟩
  · exact .inl h3
  · refine .inr ⟨g, cap, cur, rfl, hg, ?_, q⟩
    have hlt := lt_of_block hh
    exact (hb.block g hlt (fun e => h1 (by rw [← e]; rfl)) (by simpa [Value.ownBlock] using h2)).trans hh
theorem info21 : (Try.prog.info? 21).map (fun i => (i.zero, i.size, i.bytes)) = some (some (.int .i32 0), 1, 4) := by kernel_rfl
/-- what start, goOn and take answer: the row l with more behind it, the decoder. -/
def ApP (w : World) (p base : Nat) (v : Value) (xs out : List Int) (d : Dec) (e : Ending) (w' : World) : Prop :=
  ∃ v', e = .returned v' ∧ w'.ownsRow base 21 1 v' (xs ++ out).length (cellsK .i32 (xs ++ out)) ∧ Dw w' p d ∧ Two w w' p v.ownBlock
theorem apP_nil {w w' : World} {p base : Nat} {v : Value} {xs : List Int} {d : Dec} (hown : w.ownsRow base 21 1 v xs.length (cellsK .i32 xs)) (hd0 : ∃ d', Dw w p d') (hd : Dw w' p d) (hg : w.grownBy w' (some p)) :
    ApP w p base v xs [] d (.returned v) w' := by
  obtain ⟨d', hd'⟩ := hd0
  refine ⟨v, rfl, ?_, hd, two_p hg⟩
  rw [List.append_nil]
  exact hown.kept hg (.inr (own_blk_ne hown hd' (by decide)))
/-- what an append of one sign leaves. -/
theorem apP_one {w w2 : World} {p base : Nat} {v v2 : Value} {xs : List Int} {x : Int} {d : Dec} (hown : w.ownsRow base 21 1 v xs.length (cellsK .i32 xs)) (hd : Dw w p d)
    (hown2 : w2.ownsRow base 21 1 v2 (xs.length + 1) (cellsK .i32 xs ++ [.int .i32 x])) (hg : w.grownBy w2 v.ownBlock) :
    ApP w p base v xs [x] d (.returned v2) w2 := by
  refine ⟨v2, rfl, ?_, Blk.grown hd hg (fun e => own_blk_ne hown hd (by decide) e.symm), two_row hg⟩
  rw [List.length_append, ← cellsK_app]; exact hown2
set_option maxRecDepth 100000 in
theorem start1 (p base : Nat) (v : Value) (xs : List Int) (c : Int) (w : World) (h : Dw w p d0) (hown : w.ownsRow base 21 1 v xs.length (cellsK .i32 xs)) (hb : base ≤ w.heap.size) (hx : xs.length ≤ 100000) (h0 : 0 ≤ c) (h1 : c ≤ 127) : Calls Try.prog 30 #[.pointer (some ⟨p, 0, none⟩), v, .int .u8 c] w (ApP w p base v xs (startD c).1 (startD c).2) := by
  obtain ⟨i0, hi, hz0, hz1, hz2⟩ := info_parts info21
  have HS := Lib.hid (show startD c = ([c], d0) by rw [startD, if_pos (by omega)])
  rw [HS.out]
  go_enter Try.func30, Try.ntmps30
  go_wp2_with (at_builtin; refine wpList_append_own _ rfl _ _ 31 rfl base 21 i0 (.int .i32 0) 1 4 Try.underlying31 hi hz0 hz1 hz2 rfl (by decide) _ _ _ rfl (World.ownsRow.alloc hown _) ⟨w.heap.size, 0, none⟩ 1 1 [.int .i32 c] rfl rfl (cell_one_new _ _ _) (fun x hx => by simp at hx; subst hx; rfl) (by unfold maxLen; omega) (by omega) (by simp; omega) ?_; intro v2 w2 hown2 hgrow2 hnil2)
  go_ret
  have hg : w.grownBy w2 v.ownBlock := grownBy_trans (grown_of_below (below_one _ _) _) hgrow2
  exact apP_one hown h hown2 hg
set_option maxRecDepth 100000 in
theorem startBad (p base : Nat) (v : Value) (xs : List Int) (c : Int) (w : World) (h : Dw w p d0) (hown : w.ownsRow base 21 1 v xs.length (cellsK .i32 xs)) (hb : base ≤ w.heap.size) (hx : xs.length ≤ 100000) (h0 : 0 ≤ c) (h1 : c ≤ 255) (hc : (128 ≤ c ∧ c ≤ 193) ∨ 245 ≤ c) : Calls Try.prog 30 #[.pointer (some ⟨p, 0, none⟩), v, .int .u8 c] w (ApP w p base v xs (startD c).1 (startD c).2) := by
  obtain ⟨i0, hi, hz0, hz1, hz2⟩ := info_parts info21
  have HS := Lib.hid (show startD c = ([65533], d0) by rw [startD, if_neg (by omega), if_neg (by omega), if_neg (by omega), if_neg (by omega), if_neg (by omega), if_neg (by omega), if_neg (by omega), if_neg (by omega)])
  rw [HS.out]
  have n1 : (c == 224) = false := by simp; omega
  have n2 : (c == 237) = false := by simp; omega
  have n3 : (c == 240) = false := by simp; omega
  have n4 : (c == 244) = false := by simp; omega
  rcases hc with ⟨hc, hc2⟩ | hc
  all_goals
    go_enter Try.func30, Try.ntmps30
    go_wp2_with (at_builtin; refine wpList_append_own _ rfl _ _ 31 rfl base 21 i0 (.int .i32 0) 1 4 Try.underlying31 hi hz0 hz1 hz2 rfl (by decide) _ _ _ rfl (World.ownsRow.alloc hown _) ⟨w.heap.size, 0, none⟩ 1 1 [.int .i32 65533] rfl rfl (cell_one_new _ _ _) (fun x hx => by simp at hx; subst hx; rfl) (by unfold maxLen; omega) (by omega) (by simp; omega) ?_; intro v2 w2 hown2 hgrow2 hnil2)
    go_ret
    have hg : w.grownBy w2 v.ownBlock := grownBy_trans (grown_of_below (below_one _ _) _) hgrow2
    exact apP_one hown h hown2 hg
set_option maxRecDepth 100000 in
theorem startB (p base : Nat) (v : Value) (xs : List Int) (c : Int) (w : World) (h : Dw w p d0) (hown : w.ownsRow base 21 1 v xs.length (cellsK .i32 xs)) (hb : base ≤ w.heap.size) (hx : xs.length ≤ 100000) (h0 : 194 ≤ c) (h1 : c ≤ 223)  : Calls Try.prog 30 #[.pointer (some ⟨p, 0, none⟩), v, .int .u8 c] w (ApP w p base v xs (startD c).1 (startD c).2) := by
  have HS := Lib.hid (show startD c = ([], ⟨c % 32, 1, 2, 128, 191⟩) by rw [startD, if_neg (by omega), if_pos (by omega)])
  rw [HS.out]
  have n224 : (c == 224) = false := by simp; omega
  have n237 : (c == 237) = false := by simp; omega
  have n240 : (c == 240) = false := by simp; omega
  have n244 : (c == 244) = false := by simp; omega
  have ha := UBits.and31 c (by omega) (by omega)
  have ha0 : 0 ≤ c % 32 := by omega
  have ha1 : c % 32 < 32 := by omega
  go_enter Try.func30, Try.ntmps30
  go_wp2_with fail
  refine (beginC p d0 _ 2 128 191 _ h).mono ?_
  rintro e w1 ⟨rfl, hd, hg⟩
  go_wp2
  go_ret
  exact apP_nil hown ⟨_, h⟩ hd hg
set_option maxRecDepth 100000 in
theorem startC (p base : Nat) (v : Value) (xs : List Int) (c : Int) (w : World) (h : Dw w p d0) (hown : w.ownsRow base 21 1 v xs.length (cellsK .i32 xs)) (hb : base ≤ w.heap.size) (hx : xs.length ≤ 100000) (h0 : 224 ≤ c) (h1 : c ≤ 224)  : Calls Try.prog 30 #[.pointer (some ⟨p, 0, none⟩), v, .int .u8 c] w (ApP w p base v xs (startD c).1 (startD c).2) := by
  have HS := Lib.hid (show startD c = ([], ⟨c % 16, 1, 3, 160, 191⟩) by rw [startD, if_neg (by omega), if_neg (by omega), if_pos (by omega)])
  rw [HS.out]
  have n237 : (c == 237) = false := by simp; omega
  have n240 : (c == 240) = false := by simp; omega
  have n244 : (c == 244) = false := by simp; omega
  obtain rfl : c = 224 := by omega
  go_enter Try.func30, Try.ntmps30
  go_wp2_with fail
  refine (beginC p d0 _ 3 160 191 _ h).mono ?_
  rintro e w1 ⟨rfl, hd, hg⟩
  go_wp2
  go_ret
  exact apP_nil hown ⟨_, h⟩ hd hg
set_option maxRecDepth 100000 in
theorem startD_ (p base : Nat) (v : Value) (xs : List Int) (c : Int) (w : World) (h : Dw w p d0) (hown : w.ownsRow base 21 1 v xs.length (cellsK .i32 xs)) (hb : base ≤ w.heap.size) (hx : xs.length ≤ 100000) (h0 : 237 ≤ c) (h1 : c ≤ 237)  : Calls Try.prog 30 #[.pointer (some ⟨p, 0, none⟩), v, .int .u8 c] w (ApP w p base v xs (startD c).1 (startD c).2) := by
  have HS := Lib.hid (show startD c = ([], ⟨c % 16, 1, 3, 128, 159⟩) by rw [startD, if_neg (by omega), if_neg (by omega), if_neg (by omega), if_pos (by omega)])
  rw [HS.out]
  have n224 : (c == 224) = false := by simp; omega
  have n240 : (c == 240) = false := by simp; omega
  have n244 : (c == 244) = false := by simp; omega
  obtain rfl : c = 237 := by omega
  go_enter Try.func30, Try.ntmps30
  go_wp2_with fail
  refine (beginC p d0 _ 3 128 159 _ h).mono ?_
  rintro e w1 ⟨rfl, hd, hg⟩
  go_wp2
  go_ret
  exact apP_nil hown ⟨_, h⟩ hd hg
set_option maxRecDepth 100000 in
theorem startE (p base : Nat) (v : Value) (xs : List Int) (c : Int) (w : World) (h : Dw w p d0) (hown : w.ownsRow base 21 1 v xs.length (cellsK .i32 xs)) (hb : base ≤ w.heap.size) (hx : xs.length ≤ 100000) (h0 : 225 ≤ c) (h1 : c ≤ 239) (hn237 : c ≠ 237) : Calls Try.prog 30 #[.pointer (some ⟨p, 0, none⟩), v, .int .u8 c] w (ApP w p base v xs (startD c).1 (startD c).2) := by
  have HS := Lib.hid (show startD c = ([], ⟨c % 16, 1, 3, 128, 191⟩) by rw [startD, if_neg (by omega), if_neg (by omega), if_neg (by omega), if_neg (by omega), if_pos (by omega)])
  rw [HS.out]
  have n224 : (c == 224) = false := by simp; omega
  have n237 : (c == 237) = false := by simp; omega
  have n240 : (c == 240) = false := by simp; omega
  have n244 : (c == 244) = false := by simp; omega
  have ha := UBits.and15 c (by omega) (by omega)
  have ha0 : 0 ≤ c % 16 := by omega
  have ha1 : c % 16 < 16 := by omega
  go_enter Try.func30, Try.ntmps30
  go_wp2_with fail
  refine (beginC p d0 _ 3 128 191 _ h).mono ?_
  rintro e w1 ⟨rfl, hd, hg⟩
  go_wp2
  go_ret
  exact apP_nil hown ⟨_, h⟩ hd hg
set_option maxRecDepth 100000 in
theorem startF (p base : Nat) (v : Value) (xs : List Int) (c : Int) (w : World) (h : Dw w p d0) (hown : w.ownsRow base 21 1 v xs.length (cellsK .i32 xs)) (hb : base ≤ w.heap.size) (hx : xs.length ≤ 100000) (h0 : 240 ≤ c) (h1 : c ≤ 240)  : Calls Try.prog 30 #[.pointer (some ⟨p, 0, none⟩), v, .int .u8 c] w (ApP w p base v xs (startD c).1 (startD c).2) := by
  have HS := Lib.hid (show startD c = ([], ⟨c % 8, 1, 4, 144, 191⟩) by rw [startD, if_neg (by omega), if_neg (by omega), if_neg (by omega), if_neg (by omega), if_neg (by omega), if_pos (by omega)])
  rw [HS.out]
  have n224 : (c == 224) = false := by simp; omega
  have n237 : (c == 237) = false := by simp; omega
  have n244 : (c == 244) = false := by simp; omega
  obtain rfl : c = 240 := by omega
  go_enter Try.func30, Try.ntmps30
  go_wp2_with fail
  refine (beginC p d0 _ 4 144 191 _ h).mono ?_
  rintro e w1 ⟨rfl, hd, hg⟩
  go_wp2
  go_ret
  exact apP_nil hown ⟨_, h⟩ hd hg
set_option maxRecDepth 100000 in
theorem startG (p base : Nat) (v : Value) (xs : List Int) (c : Int) (w : World) (h : Dw w p d0) (hown : w.ownsRow base 21 1 v xs.length (cellsK .i32 xs)) (hb : base ≤ w.heap.size) (hx : xs.length ≤ 100000) (h0 : 241 ≤ c) (h1 : c ≤ 243)  : Calls Try.prog 30 #[.pointer (some ⟨p, 0, none⟩), v, .int .u8 c] w (ApP w p base v xs (startD c).1 (startD c).2) := by
  have HS := Lib.hid (show startD c = ([], ⟨c % 8, 1, 4, 128, 191⟩) by rw [startD, if_neg (by omega), if_neg (by omega), if_neg (by omega), if_neg (by omega), if_neg (by omega), if_neg (by omega), if_pos (by omega)])
  rw [HS.out]
  have n224 : (c == 224) = false := by simp; omega
  have n237 : (c == 237) = false := by simp; omega
  have n240 : (c == 240) = false := by simp; omega
  have n244 : (c == 244) = false := by simp; omega
  have ha := UBits.and7 c (by omega) (by omega)
  have ha0 : 0 ≤ c % 8 := by omega
  have ha1 : c % 8 < 8 := by omega
  go_enter Try.func30, Try.ntmps30
  go_wp2_with fail
  refine (beginC p d0 _ 4 128 191 _ h).mono ?_
  rintro e w1 ⟨rfl, hd, hg⟩
  go_wp2
  go_ret
  exact apP_nil hown ⟨_, h⟩ hd hg
set_option maxRecDepth 100000 in
theorem startH (p base : Nat) (v : Value) (xs : List Int) (c : Int) (w : World) (h : Dw w p d0) (hown : w.ownsRow base 21 1 v xs.length (cellsK .i32 xs)) (hb : base ≤ w.heap.size) (hx : xs.length ≤ 100000) (h0 : 244 ≤ c) (h1 : c ≤ 244)  : Calls Try.prog 30 #[.pointer (some ⟨p, 0, none⟩), v, .int .u8 c] w (ApP w p base v xs (startD c).1 (startD c).2) := by
  have HS := Lib.hid (show startD c = ([], ⟨c % 8, 1, 4, 128, 143⟩) by rw [startD, if_neg (by omega), if_neg (by omega), if_neg (by omega), if_neg (by omega), if_neg (by omega), if_neg (by omega), if_neg (by omega), if_pos (by omega)])
  rw [HS.out]
  have n224 : (c == 224) = false := by simp; omega
  have n237 : (c == 237) = false := by simp; omega
  have n240 : (c == 240) = false := by simp; omega
  obtain rfl : c = 244 := by omega
  go_enter Try.func30, Try.ntmps30
  go_wp2_with fail
  refine (beginC p d0 _ 4 128 143 _ h).mono ?_
  rintro e w1 ⟨rfl, hd, hg⟩
  go_wp2
  go_ret
  exact apP_nil hown ⟨_, h⟩ hd hg
end Go.Proofs.Ytlhapnnepcnfbab.UDec
