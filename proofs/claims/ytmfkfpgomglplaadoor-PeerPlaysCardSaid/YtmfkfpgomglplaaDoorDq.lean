/- The document's Big, Four, Eight; rows of words. -/
import Derived.Test.YtmfkfpgomglplaaDoorOp
import Derived.Test.YtmfkfpgomglplaaDoorAr
set_option linter.unusedVariables false
namespace Go.Proofs.YtmfkfpgomglplaaDoor.Dq
open Go Go.RowKit Kit Mb Sha Ap Mc1 Sc Mx Sb Pd Su Pa Hm Mm Tg Mf Pk Se Op


/-- the document's number of bytes. -/
theorem bigC (a : Option Addr) (n cap : Nat) (l : List Nat) (w : World) (hn : n = l.length) (h8 : l.length ≤ 8) (hl : ∀ c ∈ l, c < 256) (hs : Sl w a l) :
    Calls Tryd.prog 56 #[.slice a n cap] w fun e w' => e = .returned (.int .u64 ((numL l : Nat) : Int)) ∧ w = w' := by
  subst hn
  have HS := Lib.hid hs
  have HL := Lib.hid hl
  have H8 := Lib.hid h8
  clear hs hl h8
  go_enter Tryd.func56, Tryd.ntmps56
  go_wp2
  go_loopw [3, 4] (fun s3 s4 wr => ∃ k : Nat, k ≤ l.length ∧ s4 = .int .i64 (k : Int) ∧ s3 = .int .u64 ((numL (l.take k) : Nat) : Int) ∧ w = wr) (fun _ s4 _ => l.length - (intOf s4).toNat)
  case atStart => exact ⟨0, Nat.zero_le _, rfl, rfl, rfl⟩
  case round =>
    obtain ⟨k, hk, rfl, rfl, rfl⟩ := hrel
    have h8 := H8.out
    by_cases hlt : k < l.length
    · obtain ⟨b, off, rfl, hc⟩ : ∃ b off, a = some ⟨b, off, none⟩ ∧ Cells w b off l := by
        rcases HS.out with h | h
        · rw [h] at hlt; simp at hlt
        · exact h
      have cx := hc k hlt
      have nx := numL_next l k hlt
      have lx := HL.out _ (List.getElem_mem hlt)
      have lt := numL_lt (l.take k) (fun c hc => HL.out c (List.mem_of_mem_take hc))
      have lt2 : numL (l.take k) < 72057594037927936 := by
        have e : (l.take k).length = k := by rw [List.length_take]; omega
        rw [e] at lt
        exact Nat.lt_of_lt_of_le lt (Nat.le_trans (Nat.pow_le_pow_right (by decide) (show k ≤ 7 by omega)) (by decide))
      have eo := or64 (numL (l.take k)) l[k] lt2 lx
      rw [← nx] at eo
      have hk8 : k < 8 := by omega
      clear nx lt hc h8
      generalize hN1 : numL (l.take (k + 1)) = N1 at *
      have HN1 := Lib.hid hN1
      clear hN1
      generalize numL (l.take k) = N0 at *
      generalize l[k] = X at *
      have w0 : IntKind.u64.wrap ((N0 : Int) * 256) = (N0 : Int) * 256 := by rw [IntKind.wrap_u64]; omega
      have w1 : IntKind.u64.wrap (X : Int) = (X : Int) := by rw [IntKind.wrap_u64]; omega
      go_wp2
      go_roundw
      case rel => exact ⟨k + 1, by omega, by go_num, by rw [HN1.out], trivial⟩
      case measure => simp [intOf]; omega
    · obtain rfl : k = l.length := by omega
      rw [List.take_length]
      go_wp2
      go_ret
      exact ⟨rfl, rfl⟩
theorem fourC (n : Nat) (w : World) (hn : n < 4294967296) : Calls Tryd.prog 53 #[.int .u32 (n : Int)] w fun e w' => e = .returned (.slice (some ⟨w.heap.size, 0, none⟩) 4 4) ∧ w' = w.alloc (.cells (cellsOf (be4 n)).toArray 5) := by
  have e0 : (n : Int) / 16777216 % 256 = ((n / 16777216 % 256 : Nat) : Int) := by omega
  have e1 : (n : Int) / 65536 % 256 = ((n / 65536 % 256 : Nat) : Int) := by omega
  have e2 : (n : Int) / 256 % 256 = ((n / 256 % 256 : Nat) : Int) := by omega
  have e3 : (n : Int) % 256 = ((n % 256 : Nat) : Int) := by omega
  have HC := Lib.hid (show (cellsOf (be4 n)).toArray = #[.int .u8 ((n / 16777216 % 256 : Nat) : Int), .int .u8 ((n / 65536 % 256 : Nat) : Int), .int .u8 ((n / 256 % 256 : Nat) : Int), .int .u8 ((n % 256 : Nat) : Int)] by simp [cellsOf, be4])
  generalize n / 16777216 % 256 = A at *
  generalize n / 65536 % 256 = B at *
  generalize n / 256 % 256 = C at *
  generalize n % 256 = D at *
  clear hn
  go_enter Tryd.func53, Tryd.ntmps53
  go_wp2
  go_ret
  exact ⟨rfl, by rw [HC.out]⟩
theorem four_rb (n : Nat) (w : World) : Rb (w.alloc (.cells (cellsOf (be4 n)).toArray 5)) w.heap.size (.slice (some ⟨w.heap.size, 0, none⟩) 4 4) (be4 n) := Bb.own (l := be4 n) (heap_alloc_last w _) (Nat.le_refl _) (by simp [be4])
/-- eight bytes. -/
theorem eightC (n : Nat) (w : World) (hn : n < 18446744073709551616) : Calls Tryd.prog 51 #[.int .u64 (n : Int)] w fun e w' => ∃ v, e = .returned v ∧ Rb w' w.heap.size v (be8 n) ∧ Below w.heap.size w w' := by
  have e0 : (n : Int) / 4294967296 % 4294967296 = ((n / 4294967296 : Nat) : Int) := by omega
  have e1 : (n : Int) % 4294967296 = ((n % 4294967296 : Nat) : Int) := by omega
  have KA := Lib.hid (fun w1 => fourC (n / 4294967296) w1 (by omega))
  have KB := Lib.hid (fun w1 => fourC (n % 4294967296) w1 (by omega))
  have HE := Lib.hid (show be8 n = be4 (n / 4294967296) ++ be4 (n % 4294967296) by unfold be8; congr 1; simp [be4]; omega)
  generalize n / 4294967296 = A at *
  generalize n % 4294967296 = B at *
  clear hn
  have HB0 := Lib.hid ((Below.refl w.heap.size w).alloc (Nat.le_refl _) (.cells (cellsOf (be4 A)).toArray 5))
  have HB1 := Lib.hid (HB0.out.alloc HB0.out.size (.cells (cellsOf (be4 B)).toArray 5))
  have HR := Lib.hid (rb_alloc (four_rb A w) (.cells (cellsOf (be4 B)).toArray 5))
  have HS := Lib.hid (show Sl ((w.alloc (.cells (cellsOf (be4 A)).toArray 5)).alloc (.cells (cellsOf (be4 B)).toArray 5)) (some ⟨w.heap.size + 1, 0, none⟩) (be4 B) from sl_lit (by simp) rfl)
  go_enter Tryd.func51, Tryd.ntmps51
  go_wp2_with (first
    | (go_at_call 53; (with_reducible refine (KA.out _).mono ?_); rintro e w1 ⟨rfl, rfl⟩)
    | (go_at_call 53; (with_reducible refine (KB.out _).mono ?_); rintro e w1 ⟨rfl, rfl⟩)
    | (at_builtin; refine app_sl rfl _ _ rfl w.heap.size _ (be4 A) rfl HR.out _ 4 4 (be4 B) rfl rfl (fun h => by cases h) HS.out (by simp [be4]) (by simp; omega) ?_; intro v2 w2 o2 b2; have O2 := Lib.hid o2; have Q2 := Lib.hid (b2 _ _ (Nat.le_refl _) HB1.out); clear o2 b2))
  go_ret
  exact ⟨_, rfl, by rw [HE.out]; exact O2.out, Q2.out⟩
/-- a row of words, of one's own, or longer than is seen. -/
def R8 (w : World) (g : Nat) (l : List Int) : Prop := ∃ cur, w.heap[g]? = some (.cells cur 79 (0, 0)) ∧ ∀ j, j < l.length → cur[j]? = some (.int .u32 (l.getD j 0))
theorem R8.cell {w : World} {g : Nat} {l : List Int} (h : R8 w g l) (j : Nat) (hj : j < l.length) : w.cell? ⟨g, j, none⟩ = some (.int .u32 (l.getD j 0)) := by
  obtain ⟨cur, hc, h⟩ := h
  rw [cell_of_row w g j _ 79 _ hc]; exact h j hj
theorem R8.free {w : World} {g : Nat} {l : List Int} (h : R8 w g l) (j : Nat) : w.frozen? ⟨g, j, none⟩ = false := by
  obtain ⟨cur, hc, h⟩ := h
  exact frozen_of_row w g j _ 79 hc
theorem R8.lt {w : World} {g : Nat} {l : List Int} (h : R8 w g l) : g < w.heap.size := by
  obtain ⟨cur, hc, h⟩ := h
  exact (Array.getElem?_eq_some_iff.1 hc).1
theorem R8.far {w w' : World} {g : Nat} {l : List Int} (h : R8 w g l) (hb : w'.heap[g]? = w.heap[g]?) : R8 w' g l := by
  obtain ⟨cur, hc, h⟩ := h
  exact ⟨cur, hb.trans hc, h⟩
theorem R8.then_ {w w' : World} {g B : Nat} {l : List Int} (h : R8 w g l) (hb : Below B w w') (hB : g < B) : R8 w' g l := h.far (hb.block g hB)
theorem R8.set {w : World} {g : Nat} {l : List Int} (h : R8 w g l) (i : Nat) (hi : i < l.length) (x : Int) : R8 (w.setCell ⟨g, i, none⟩ (.int .u32 x)) g (l.set i x) := by
  obtain ⟨cur, hc, h⟩ := h
  refine ⟨_, heap_setCell_same w g i _ 79 _ hc, fun j hj => ?_⟩
  rw [List.length_set] at hj
  have hjc : j < cur.size := (Array.getElem?_eq_some_iff.1 (h j hj)).1
  have hic : i < cur.size := (Array.getElem?_eq_some_iff.1 (h i hi)).1
  by_cases e : i = j
  · subst e
    simp [List.getD_eq_getElem?_getD, hi, hic]
  · rw [Array.getElem?_setIfInBounds_ne e, h j hj]
    simp [List.getD_eq_getElem?_getD, List.getElem?_set_ne e]
theorem R8.other {w : World} {g b i : Nat} {l : List Int} {v : Value} (h : R8 w g l) (hb : g ≠ b) : R8 (w.setCell ⟨b, i, none⟩ v) g l := h.far (heap_setCell_other w _ _ _ hb)
theorem R8.new (w : World) (l : List Int) : R8 (w.alloc (.cells (rowW l) 79)) w.heap.size l := ⟨_, heap_alloc_last w _, fun j hj => rowW_at l j hj⟩
def kR : List Int := (List.range 64).map kAt
set_option maxRecDepth 100000 in
theorem constC (w : World) : Calls Tryd.prog 50 #[] w fun e w' => e = .returned (.slice (some ⟨w.heap.size, 0, none⟩) 64 64) ∧ w' = w.alloc (.cells (rowW kL) 79) := by
  have HC := Lib.hid (show rowW kL = _ from rfl)
  go_enter Tryd.func50, Tryd.ntmps50
  go_wp2
  go_ret
  exact ⟨rfl, rfl⟩
def stL (s : St) : List Int := [s.a, s.b, s.c, s.d, s.e, s.f, s.g, s.h]
theorem fw_num (m : List Nat) (k : Nat) (h : 4 * k + 4 ≤ m.length) : ((numL ((m.drop (4 * k)).take 4) : Nat) : Int) = fw m k := by
  have e : (m.drop (4 * k)).take 4 = [m.getD (4 * k) 0, m.getD (4 * k + 1) 0, m.getD (4 * k + 2) 0, m.getD (4 * k + 3) 0] := by
    apply List.ext_getElem
    · simp; omega
    · intro i h1 h2
      have hi : i < 4 := by simpa using h2
      have : i = 0 ∨ i = 1 ∨ i = 2 ∨ i = 3 := by omega
      rcases this with rfl | rfl | rfl | rfl <;> (simp [List.getD_eq_getElem?_getD]; rw [List.getElem?_eq_getElem (by omega)]; rfl)
  rw [e]
  simp only [numL, fw, List.foldl_cons, List.foldl_nil, Nat.zero_mul, Nat.zero_add]

end Go.Proofs.YtmfkfpgomglplaaDoor.Dq
