/- Plain signs, and a text. -/
import Derived.Test.YtnaiefjbfpejbaaFb
import Derived.Laws.BytesArg
set_option linter.unusedVariables false
namespace Go.Proofs.Ytnaiefjbfpejbaa.Fc
open Go Go.RowKit Kit Ep Eb Er Ea Es Et Eu Ev Ek Ew Ex Ey Ez Fa Fb


theorem ground_print {r : Int} (h : 32 ≤ r ∧ (r < 127 ∨ 159 < r)) : takeM (bg 0) r = (bg 0, printE r) := by
  have h1 : ¬ r = 24 := by omega
  have h2 : ¬ r = 26 := by omega
  have h3 : ¬ r = 27 := by omega
  have e : inGroundE r = printE r := by
    unfold inGroundE
    rw [if_neg (by omega)]
    rcases h.2 with h4 | h4
    · rw [if_pos h4]
    · rw [if_neg (by omega), if_neg (by omega)]
  unfold takeM
  rw [if_neg h1, if_neg h2, if_neg h3, if_neg (show ¬ (bg 0).st = 1 from fun hh => by cases hh), if_neg (show ¬ (bg 0).st = 2 from fun hh => by cases hh), if_neg (show ¬ (bg 0).st = 3 from fun hh => by cases hh), if_neg (show ¬ (bg 0).st = 4 from fun hh => by cases hh), if_neg (show ¬ (bg 0).st = 5 from fun hh => by cases hh), if_neg (show ¬ (bg 0).st = 6 from fun hh => by cases hh), if_neg (show ¬ (bg 0).st = 7 from fun hh => by cases hh), e]
theorem fold_plain (l : List Int) : ∀ es, (∀ r ∈ l, 32 ≤ r ∧ (r < 127 ∨ 159 < r)) → l.foldl feedS (bg 0, es) = (bg 0, es ++ l.map printE) := by
  induction l with
  | nil => intro es _; simp
  | cons r l ih =>
    intro es h
    have h1 : feedS (bg 0, es) r = (bg 0, es ++ [printE r]) := by
      unfold feedS
      rw [ground_print (h r (List.mem_cons_self ..))]
      rfl
    rw [List.foldl_cons, h1, ih _ (fun q hq => h q (List.mem_cons_of_mem _ hq)), List.map_cons, List.append_assoc]; rfl
theorem feed_plain {l : List Int} (h : ∀ r ∈ l, 32 ≤ r ∧ (r < 127 ∨ 159 < r)) : feedM (bg 0) l = (bg 0, l.map printE) := by
  have := fold_plain l [] h
  simpa [feedM] using this
theorem text_take {p : Ps} {r : Int} (hs : p.st = 4) (h : 32 ≤ r ∧ r ≤ 126) (ht : p.tx.length < 128) : takeM p r = ({ p with tx := p.tx ++ [r] }, blankE) := by
  unfold takeM
  rw [if_neg (show ¬ r = 24 by omega), if_neg (show ¬ r = 26 by omega), if_neg (show ¬ r = 27 by omega), if_neg (show ¬ p.st = 1 by omega), if_neg (show ¬ p.st = 2 by omega), if_neg (show ¬ p.st = 3 by omega), if_pos hs]
  unfold inCommandM
  rw [if_neg (show ¬ r = 7 by omega), if_neg (show ¬ r < 32 by omega), if_neg (show ¬ r = 127 by omega), if_pos ht]
theorem fold_text (l : List Int) : ∀ t, (∀ r ∈ l, 32 ≤ r ∧ r ≤ 126) → t.length + l.length ≤ 128 → l.foldl feedS ({ bg 4 with tx := t }, []) = ({ bg 4 with tx := t ++ l }, []) := by
  induction l with
  | nil => intro t _ _; simp
  | cons r l ih =>
    intro t h hl
    rw [List.length_cons] at hl
    have h1 : feedS ({ bg 4 with tx := t }, []) r = ({ bg 4 with tx := t ++ [r] }, []) := by
      unfold feedS
      rw [text_take rfl (h r (List.mem_cons_self ..)) (show t.length < 128 by omega)]
      rfl
    rw [List.foldl_cons, h1, ih _ (fun q hq => h q (List.mem_cons_of_mem _ hq)) (by simp; omega), List.append_assoc]; rfl
theorem feed_text {l : List Int} (h : ∀ r ∈ l, 32 ≤ r ∧ r ≤ 126) (hl : l.length ≤ 120) : feedM (bg 0) ([27, 93] ++ l) = ({ bg 4 with tx := l }, []) := by
  have h1 : feedM (bg 0) ([27, 93] ++ l) = l.foldl feedS ({ bg 4 with tx := [] }, []) := rfl
  rw [h1, fold_text l [] h (by simp; omega), List.nil_append]
theorem feed_bell (l : List Int) : feedM { bg 4 with tx := l } [7] = (bg 0, [oscE l]) := rfl
theorem feed_back (l : List Int) : feedM { bg 4 with tx := l } [27, 92] = (bg 0, [oscE l]) := rfl
theorem utf_one {r : Int} (h : 0 ≤ r ∧ r ≤ 126) : (Utf8.encode r).data.toList = [UInt8.ofNat r.toNat] := by
  obtain ⟨n, rfl⟩ := Int.eq_ofNat_of_zero_le h.1
  have c1 : n < 128 := by omega
  have v : Utf8.valid (n : Int) = true := by simp [Utf8.valid]; omega
  simp [Utf8.encode, v, c1]
theorem fold_utf (l : List Int) : ∀ s : ByteArray, (∀ r ∈ l, 0 ≤ r ∧ r ≤ 126) → (l.foldl (fun r n => r ++ Utf8.encode n) s).data.toList = s.data.toList ++ l.map fun n => UInt8.ofNat n.toNat := by
  induction l with
  | nil => intro s _; simp
  | cons r l ih =>
    intro s h
    rw [List.foldl_cons, ih _ (fun q hq => h q (List.mem_cons_of_mem _ hq)), List.map_cons]
    have := utf_one (h r (List.mem_cons_self ..))
    simp [ByteArray.data_append, this]
/-- plain signs are their own bytes. -/
theorem runes_plain {l : List Int} (h : ∀ r ∈ l, 32 ≤ r ∧ r ≤ 126) : runesBytes l = strOfNums l := by
  have h1 := fold_utf l ByteArray.empty (fun r hr => by have := h r hr; omega)
  apply ByteArray.ext
  apply Array.toList_inj.1
  rw [runesBytes, h1, strOfNums_data]; rfl
/-- signs that came in. -/
theorem row_r {w : World} {a : Option Addr} {len cap : Nat} {zs : List Int} (h : IsRow .i32 w a len cap zs) : ∃ l : List Int, l.length = len ∧ len ≤ cap ∧ cap ≤ 9223372036854775807 ∧ (a = none → cap = 0) ∧ LRow w a l := by
  rcases h with ⟨rfl, rfl, rfl, rfl⟩ | ⟨⟨b, o, sp⟩, rfl, hlc, hm, hz, hcell, hwf⟩
  · exact ⟨[], rfl, Nat.le_refl _, by decide, fun _ => rfl, .inl rfl⟩
  · unfold maxLen at hm
    by_cases h1 : 1 ≤ len
    · have g0 := hcell 0 (by omega)
      have hspot : sp = none := by simpa [Addr.add] using World.cell?_spot g0
      subst hspot
      refine ⟨zs.take len, by simp; omega, hlc, by omega, fun h => (by cases h), .inr ⟨b, o, rfl, fun i hi => ?_⟩⟩
      simp only [List.length_take] at hi
      have g := hcell i (by omega)
      rw [Ints.add_at] at g
      rw [g]
      simp [List.getD_eq_getElem?_getD, show i < zs.length by omega]
    · obtain rfl : len = 0 := by omega
      exact ⟨[], rfl, hlc, by omega, fun h => (by cases h), .inl rfl⟩
theorem lrow_then {w w1 : World} {B : Nat} {a : Option Addr} {l : List Int} (h : LRow w a l) (hb : Below B w w1) (hB : w.heap.size ≤ B) : LRow w1 a l := by
  rcases h with h | ⟨b, off, rfl, h⟩
  · exact .inl h
  · exact .inr ⟨b, off, rfl, fun i hi => cell_then hb hB (h i hi)⟩
theorem lrow_lt {w : World} {a : Option Addr} {l : List Int} (h : LRow w a l) (h0 : l ≠ []) : ∃ b off, a = some ⟨b, off, none⟩ ∧ b < w.heap.size := by
  rcases h with h | ⟨b, off, rfl, h⟩
  · exact absurd h h0
  · exact ⟨b, off, rfl, World.block_lt_of_cell? w _ (h 0 (List.length_pos_iff.2 h0))⟩

end Go.Proofs.Ytnaiefjbfpejbaa.Fc
