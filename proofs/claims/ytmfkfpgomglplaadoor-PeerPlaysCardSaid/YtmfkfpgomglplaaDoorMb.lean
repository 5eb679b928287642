/- Slices of bytes: how they lie, tikref.Bytes and CopyBytes, mac.Equal. -/
import Derived.Test.YtmfkfpgomglplaaDoorKit
import Derived.LoopTactic
import Derived.Laws.BitsAllLaws
import Derived.Lib.LaidTab
import Derived.Outline
import Derived.OwnWalk
import Derived.Laws.BytesArg
import Derived.Laws.AppendOwnNone
import Derived.Deep.QuietTactic
import Derived.BigQuiet
set_option linter.unusedVariables false
namespace Go.Proofs.YtmfkfpgomglplaaDoor.Mb
open Go Go.RowKit Kit

/-- the bytes of a slice's elements. -/
def Cells (w : World) (b off : Nat) (l : List Nat) : Prop := ∀ i, (h : i < l.length) → w.cell? ⟨b, off + i, none⟩ = some (.int .u8 ((l[i] : Nat) : Int))
/-- of whatever slice: nil, or a row. -/
def Sl (w : World) (a : Option Addr) (l : List Nat) : Prop := l = [] ∨ ∃ b off, a = some ⟨b, off, none⟩ ∧ Cells w b off l
/-- bytes as cells. -/
def cellsOf (l : List Nat) : List Value := l.map fun c : Nat => Value.int .u8 (c : Int)
theorem cellsOf_snoc (l : List Nat) (c : Nat) : cellsOf l ++ [.int .u8 (c : Int)] = cellsOf (l ++ [c]) := by simp [cellsOf]
theorem cellsOf_nil : cellsOf [] = [] := rfl
theorem info5 : (Tryd.prog.info? 5).map (fun i => (i.zero, i.size, i.bytes)) = some (some (.int .u8 0), 1, 1) := by kernel_rfl
/-- an owned row of bytes, as a slice: its address, and its cells. -/
theorem row_sl {w : World} {base : Nat} {v : Value} {l : List Nat} (h : w.ownsRow base 5 1 v l.length (cellsOf l)) :
    ∃ a cap, v = .slice a l.length cap ∧ l.length ≤ cap ∧ Sl w a l ∧ (∀ x, a = some x → base ≤ x.block ∧ x.block < w.heap.size) := by
  rcases h.2 with ⟨rfl, hn⟩ | ⟨g, cap, cur, rfl, hb, hg, hnc, _, hcs, htake⟩
  · have : l = [] := List.eq_nil_of_length_eq_zero hn
    subst this
    exact ⟨none, 0, rfl, Nat.le_refl _, .inl rfl, fun x hx => by cases hx⟩
  · refine ⟨_, cap, rfl, hnc, .inr ⟨g, 0, rfl, ?_⟩, fun x hx => by cases hx; exact ⟨hb, (Array.getElem?_eq_some_iff.1 hg).1⟩⟩
    intro i hi
    have hu : (cellsOf l)[i]? = some (.int .u8 ((l[i] : Nat) : Int)) := by simp [cellsOf, hi]
    have := h.cells (g := g) rfl i _ hu
    have hadd : (⟨g, 0, none⟩ : Addr).add i = ⟨g, i, none⟩ := by unfold Addr.add; split <;> simp_all
    rw [hadd] at this
    rw [Nat.zero_add]; exact this
/-- the text of bytes. -/
def strL (l : List Nat) : ByteArray := strOfNums (l.map fun n : Nat => (n : Int))
theorem conv_row (b off cap : Nat) (l : List Nat) (w : World) (h : Cells w b off l) : (convert 22 9 (.slice (some ⟨b, off, none⟩) l.length cap)).run Tryd.prog w = .ok (.string (strL l)) w := by
  refine run_convert_bytes_arg (P := Tryd.prog) w 22 5 Tryd.underlying22 Tryd.underlying5 b off l.length cap _ (by simp) ?_ 9 Tryd.underlying9
  intro i hi
  rw [h i hi]; simp [List.getD, hi]
theorem conv_empty (a : Option Addr) (cap : Nat) (w : World) : (convert 22 9 (.slice a 0 cap)).run Tryd.prog w = .ok (.string (strL [])) w := by
  cases a with
  | none =>
    rw [run_convert_bytes_nil (P := Tryd.prog) w 22 5 Tryd.underlying22 Tryd.underlying5 0 cap 9 Tryd.underlying9]; rfl
  | some x =>
    rw [run_convert_bytes_string (P := Tryd.prog) w 22 9 5 _ 0 cap Tryd.underlying22 Tryd.underlying5 Tryd.underlying9, run_bytesToString w x 0 cap [] (by simp [loadCells, loadCellsFrom])]
    rfl
theorem conv_sl (a : Option Addr) (cap : Nat) (l : List Nat) (w : World) (h : Sl w a l) : (convert 22 9 (.slice a l.length cap)).run Tryd.prog w = .ok (.string (strL l)) w := by
  rcases h with rfl | ⟨b, off, rfl, h⟩
  · exact conv_empty a cap w
  · exact conv_row b off cap l w h
theorem strL_inj {l m : List Nat} (hl : ∀ c ∈ l, c < 256) (hm : ∀ c ∈ m, c < 256) : ((strL l).toList == (strL m).toList) = decide (l = m) := by
  have e : ∀ l : List Nat, (strL l).toList = l.map fun n => UInt8.ofNat n := by
    intro l
    rw [ByteArray.toList_eq]; simp [strL, strOfNums]
  rw [e, e]
  by_cases h : l = m
  · subst h; simp
  · rw [decide_eq_false h]
    simp only [beq_eq_false_iff_ne]
    intro hh
    apply h
    have : l.map (fun n => (UInt8.ofNat n).toNat) = m.map (fun n => (UInt8.ofNat n).toNat) := by
      have := congrArg (List.map UInt8.toNat) hh
      simpa [List.map_map, Function.comp_def] using this
    have e1 : ∀ k : List Nat, (∀ c ∈ k, c < 256) → k.map (fun n => (UInt8.ofNat n).toNat) = k := by
      intro k hk
      conv => rhs; rw [← List.map_id k]
      apply List.map_congr_left
      intro c hc
      have := hk c hc
      simp; omega
    rw [e1 l hl, e1 m hm] at this
    exact this
theorem bytesC (a1 a2 : Option Addr) (c1 c2 : Nat) (l1 l2 : List Nat) (w : World) (h1 : Sl w a1 l1) (h2 : Sl w a2 l2) (m1 : ∀ c ∈ l1, c < 256) (m2 : ∀ c ∈ l2, c < 256) :
    Calls Tryd.prog 15 #[.slice a1 l1.length c1, .slice a2 l2.length c2] w fun e w' => e = .returned (.bool (decide (l1 = l2))) ∧ w = w' := by
  have k1 := conv_sl a1 c1 l1 w h1
  have k2 := conv_sl a2 c2 l2 w h2
  have E := Lib.hid (strL_inj m1 m2)
  clear h1 h2 m1 m2
  go_enter Tryd.func15, Tryd.ntmps15
  go_wp2
  go_ret
  exact ⟨ret_bool E.out, rfl⟩
/-- what CopyBytes answers. -/
def Cp (l : List Nat) (w : World) (e : Ending) (w' : World) : Prop :=
  ∃ v, e = .returned v ∧ w'.ownsRow w.heap.size 5 1 v l.length (cellsOf l) ∧ Below w.heap.size w w'
theorem cellsOf_at {w : World} {b off : Nat} {l : List Nat} (h : Cells w b off l) : ∀ j u, (cellsOf l)[j]? = some u → w.cell? ((⟨b, off, none⟩ : Addr).add j) = some u := by
  intro j u hu
  have hadd : (⟨b, off, none⟩ : Addr).add j = ⟨b, off + j, none⟩ := by unfold Addr.add; split <;> simp_all
  rw [hadd]
  have hj : j < l.length := by
    rcases Nat.lt_or_ge j l.length with hlt | hge
    · exact hlt
    · rw [List.getElem?_eq_none (by simpa [cellsOf] using hge)] at hu; cases hu
  rw [h j hj]
  simp [cellsOf, hj] at hu
  rw [← hu]
theorem cellsOf_one {l : List Nat} : ∀ u ∈ cellsOf l, u.oneCell' = true := by
  intro u hu
  simp [cellsOf] at hu
  obtain ⟨x, _, rfl⟩ := hu
  rfl
set_option maxRecDepth 100000 in
theorem copyRow (b off cap : Nat) (l : List Nat) (w : World) (hm : l.length ≤ 1000000) (hc : Cells w b off l) :
    Calls Tryd.prog 14 #[.slice (some ⟨b, off, none⟩) l.length cap] w (Cp l w) := by
  obtain ⟨i0, hi, hz0, hz1, hz2⟩ := info_parts info5
  have hown : (w.alloc (.cells #[] 5)).ownsRow w.heap.size 5 1 (.slice (some ⟨w.heap.size, 0, none⟩) 0 0) 0 [] := World.ownsRow_made w #[] 0 (Nat.le_refl _) (by simp) rfl
  have hcs := cellsOf_at (fun i hi => past_alloc (o := .cells #[] 5) (hc i hi))
  have hlen : (cellsOf l).length = l.length * 1 := by simp [cellsOf]
  go_enter Tryd.func14, Tryd.ntmps14
  go_wp2_with (at_builtin; refine wpList_append_own _ rfl _ _ 22 rfl w.heap.size 5 i0 (.int .u8 0) 1 1 Tryd.underlying22 hi hz0 hz1 hz2 rfl (by decide) _ _ _ rfl hown ⟨b, off, none⟩ l.length cap (cellsOf l) rfl hlen hcs cellsOf_one (by unfold maxLen; omega) (by omega) (by simp) ?_; intro v' w3 hown' hgrow3 hnil3)
  go_ret
  refine ⟨v', rfl, by simpa using hown', ?_⟩
  exact ((Below.refl _ _).alloc (Nat.le_refl _) _).grown hgrow3 (by simp) (fun j hj => by cases hj; exact Nat.le_refl _)
set_option maxRecDepth 100000 in
theorem copyEmpty (x : Addr) (cap : Nat) (w : World) : Calls Tryd.prog 14 #[.slice (some x) 0 cap] w (Cp [] w) := by
  obtain ⟨i0, hi, hz0, hz1, hz2⟩ := info_parts info5
  have hown : (w.alloc (.cells #[] 5)).ownsRow w.heap.size 5 1 (.slice (some ⟨w.heap.size, 0, none⟩) 0 0) 0 [] := World.ownsRow_made w #[] 0 (Nat.le_refl _) (by simp) rfl
  go_enter Tryd.func14, Tryd.ntmps14
  go_wp2_with (at_builtin; refine wpList_append_own _ rfl _ _ 22 rfl w.heap.size 5 i0 (.int .u8 0) 1 1 Tryd.underlying22 hi hz0 hz1 hz2 rfl (by decide) _ _ _ rfl hown x 0 cap [] rfl rfl (fun j u hu => by simp at hu) (fun u hu => by simp at hu) (by unfold maxLen; omega) (by omega) (by simp) ?_; intro v' w3 hown' hgrow3 hnil3)
  go_ret
  refine ⟨v', rfl, by rw [cellsOf_nil]; simpa using hown', ?_⟩
  exact ((Below.refl _ _).alloc (Nat.le_refl _) _).grown hgrow3 (by simp) (fun j hj => by cases hj; exact Nat.le_refl _)
set_option maxRecDepth 100000 in
theorem copyNil (w : World) : Calls Tryd.prog 14 #[.slice none 0 0] w (Cp [] w) := by
  obtain ⟨i0, hi, hz0, hz1, hz2⟩ := info_parts info5
  have hown : (w.alloc (.cells #[] 5)).ownsRow w.heap.size 5 1 (.slice (some ⟨w.heap.size, 0, none⟩) 0 0) 0 [] := World.ownsRow_made w #[] 0 (Nat.le_refl _) (by simp) rfl
  go_enter Tryd.func14, Tryd.ntmps14
  go_wp2_with (at_builtin; refine wpList_append_own_none rfl _ _ 22 rfl w.heap.size 5 i0 1 Tryd.underlying22 hi _ _ _ rfl hown rfl ?_)
  go_ret
  exact ⟨_, rfl, by rw [cellsOf_nil]; simpa using hown, (Below.refl _ _).alloc (Nat.le_refl _) _⟩
theorem copyC (a : Option Addr) (cap : Nat) (l : List Nat) (w : World) (hm : l.length ≤ 1000000) (hc : Sl w a l) (h0 : a = none → cap = 0) : Calls Tryd.prog 14 #[.slice a l.length cap] w (Cp l w) := by
  rcases hc with rfl | ⟨b, off, rfl, hc⟩
  · cases a with
    | none => obtain rfl := h0 rfl; exact copyNil w
    | some x => exact copyEmpty x cap w
  · exact copyRow b off cap l w hm hc
theorem sl_cells {w : World} {x : Addr} {l : List Nat} (h : Sl w (some x) l) : ∀ j u, (cellsOf l)[j]? = some u → w.cell? (x.add j) = some u := by
  intro j u hu
  rcases h with rfl | ⟨b, off, e, h⟩
  · simp [cellsOf] at hu
  · injection e with e; subst e; exact cellsOf_at h j u hu
theorem cellsOf_app (l m : List Nat) : cellsOf l ++ cellsOf m = cellsOf (l ++ m) := by simp [cellsOf]
theorem own_set {w : World} {base e n g cap k : Nat} {u : Value} {xs : List Value} (h : w.ownsRow base e 1 (.slice (some ⟨g, 0, none⟩) n cap) n xs) : (w.setCell ⟨g, k, none⟩ u).ownsRow base e 1 (.slice (some ⟨g, 0, none⟩) n cap) n (xs.set k u) := by
  refine ⟨by simpa using h.1, ?_⟩
  rcases h.2 with ⟨hv, _⟩ | ⟨g', cap', cur, hv, hb, hg, hnc, hmx, hcs, htake⟩
  · cases hv
  · injection hv with h1 h2 h3
    injection h1 with h1
    injection h1 with h1
    subst h1 h3
    exact .inr ⟨g, cap, cur.setIfInBounds k u, rfl, hb, by simp [World.setCell, Array.getElem?_modify, hg], hnc, hmx, by simpa using hcs, by rw [← htake]; simp [List.take_set]⟩
theorem cells_block {w : World} {b : Nat} {l : List Nat} (h : ∀ i, (hi : i < l.length) → w.cell? ⟨b, i, none⟩ = some (.int .u8 ((l[i] : Nat) : Int))) : Cells w b 0 l := by
  intro i hi; rw [Nat.zero_add]; exact h i hi
theorem cells_then {B : Nat} {W w1 : World} (hb : Below B W w1) (hB : W.heap.size ≤ B) {b off : Nat} {l : List Nat} (h : Cells W b off l) : Cells w1 b off l :=
  fun i hi => cell_then hb hB (h i hi)
theorem sl_then {B : Nat} {W w1 : World} (hb : Below B W w1) (hB : W.heap.size ≤ B) {a : Option Addr} {l : List Nat} (h : Sl W a l) : Sl w1 a l := by
  rcases h with h | ⟨b, off, rfl, h⟩
  · exact .inl h
  · exact .inr ⟨b, off, rfl, cells_then hb hB h⟩
theorem below_next {w W W1 : World} (h : Below w.heap.size w W) (k : Below W.heap.size W W1) : Below w.heap.size w W1 := below_then h k h.size
theorem u8_xn (a b : Nat) (ha : a < 256) (hb : b < 256) : bits .xor .u8 (a : Int) (b : Int) = ((a ^^^ b : Nat) : Int) := u8_xor_nat a b ha hb
theorem u8_on (a b : Nat) (ha : a < 256) (hb : b < 256) : bits .or .u8 (a : Int) (b : Int) = ((a ||| b : Nat) : Int) := u8_or_nat a b ha hb
theorem nat_xor_zero (a b : Nat) : a ^^^ b = 0 ↔ a = b := by
  constructor
  · intro h
    have h2 : a ^^^ b ^^^ b = 0 ^^^ b := by rw [h]
    rwa [Nat.xor_assoc, Nat.xor_self, Nat.xor_zero, Nat.zero_xor] at h2
  · rintro rfl; exact Nat.xor_self _
theorem take_eq_next {l m : List Nat} {i : Nat} (h1 : i < l.length) (h2 : i < m.length) : (l.take (i + 1) = m.take (i + 1)) ↔ (l.take i = m.take i ∧ l[i] = m[i]) := by
  rw [List.take_succ_eq_append_getElem h1, List.take_succ_eq_append_getElem h2]
  constructor
  · intro h
    have h3 := List.append_inj' h rfl
    exact ⟨h3.1, by simpa using h3.2⟩
  · rintro ⟨h, g⟩; rw [h, g]
set_option maxRecDepth 100000 in
theorem equalC (a1 a2 : Option Addr) (c1 c2 : Nat) (l1 l2 : List Nat) (w : World) (h1 : Sl w a1 l1) (h2 : Sl w a2 l2) (m1 : ∀ c ∈ l1, c < 256) (m2 : ∀ c ∈ l2, c < 256) (hz : l1.length ≤ 9223372036854775000) :
    Calls Tryd.prog 22 #[.slice a1 l1.length c1, .slice a2 l2.length c2] w fun e w' => e = .returned (.bool (decide (l1 = l2))) ∧ Below w.heap.size w w' := by
  by_cases hlen : l1.length = l2.length
  · obtain ⟨N, hN⟩ : ∃ N, N = l1.length := ⟨_, rfl⟩
    have hN2 : N = l2.length := hN.trans hlen
    rw [← hN, ← hN2]
    have HN := Lib.hid hN
    have HN2 := Lib.hid hN2
    have HZ := Lib.hid (show N ≤ 9223372036854775000 by omega)
    have H1 := Lib.hid h1
    have H2 := Lib.hid h2
    have M1 := Lib.hid m1
    have M2 := Lib.hid m2
    have b1 : ((N : Int) != (N : Int)) = false := by simp
    obtain ⟨R, hR⟩ : ∃ R, R = decide (l1 = l2) := ⟨_, rfl⟩
    rw [← hR]
    have HR := Lib.hid hR
    clear h1 h2 m1 m2 hlen hN hN2 hz hR
    go_enter Tryd.func22, Tryd.ntmps22
    go_wp2_with fail
    go_loopw [5, 6, 14] (fun s5 s6 s14 wr => ∃ (i o : Nat), i ≤ N ∧ o < 256 ∧ s14 = .int .i64 (i : Int) ∧ s5 = .int .u8 (o : Int) ∧ (o = 0 ↔ l1.take i = l2.take i) ∧ Below w.heap.size w wr) (fun _ _ s14 _ => N - (intOf s14).toNat)
    case atStart => exact ⟨0, 0, Nat.zero_le _, by decide, rfl, rfl, by simp, ⟨rfl, rfl, rfl, Nat.le_refl _, fun _ _ => rfl⟩⟩
    case round =>
      obtain ⟨i, o, hi', ho, rfl, rfl, hiff, hW⟩ := hrel
      by_cases hlt : i < N
      · have hi1 : i < l1.length := by rw [← HN.out]; exact hlt
        have hi2 : i < l2.length := by rw [← HN2.out]; exact hlt
        obtain ⟨g1, o1, rfl, C1⟩ : ∃ g o, a1 = some ⟨g, o, none⟩ ∧ Cells w g o l1 := by
          rcases H1.out with h | h
          · rw [h] at hi1; simp at hi1
          · exact h
        obtain ⟨g2, o2, rfl, C2⟩ : ∃ g o, a2 = some ⟨g, o, none⟩ ∧ Cells w g o l2 := by
          rcases H2.out with h | h
          · rw [h] at hi2; simp at hi2
          · exact h
        have k1 : wr.cell? ⟨g1, o1 + i, none⟩ = some (.int .u8 ((l1[i] : Nat) : Int)) := cell_then hW (Nat.le_refl _) (C1 i hi1)
        have k2 : wr.cell? ⟨g2, o2 + i, none⟩ = some (.int .u8 ((l2[i] : Nat) : Int)) := cell_then hW (Nat.le_refl _) (C2 i hi2)
        have x1 : l1[i] < 256 := M1.out _ (List.getElem_mem _)
        have x2 : l2[i] < 256 := M2.out _ (List.getElem_mem _)
        have hnx := take_eq_next hi1 hi2
        clear C1 C2
        generalize l1[i] = x at *
        generalize l2[i] = y at *
        have e1 : bits .xor .u8 (x : Int) (y : Int) = ((x ^^^ y : Nat) : Int) := u8_xn x y x1 x2
        have hxy : x ^^^ y < 256 := Nat.xor_lt_two_pow (n := 8) x1 x2
        have e2 : bits .or .u8 (o : Int) ((x ^^^ y : Nat) : Int) = ((o ||| (x ^^^ y) : Nat) : Int) := u8_on _ _ ho hxy
        have ho2 : o ||| (x ^^^ y) < 256 := Nat.or_lt_two_pow (n := 8) ho hxy
        have hz : o ||| (x ^^^ y) = 0 ↔ l1.take (i + 1) = l2.take (i + 1) := by
          rw [Nat.or_eq_zero_iff, nat_xor_zero, hiff, hnx]
        have HIF := Lib.hid hz
        have HO2 := Lib.hid ho2
        generalize o ||| (x ^^^ y) = o' at *
        generalize x ^^^ y = z at *
        have HW := Lib.hid hW
        have n1 := HZ.out
        clear hiff hnx hz ho2 hxy hW
        go_wp2
        go_quiet (fail)
        go_wp2
        have hd := HW.out
        go_roundw
        case rel => exact ⟨i + 1, o', by omega, HO2.out, by go_num, rfl, HIF.out, ⟨hd.os, hd.tape, hd.output, hd.size, hd.block⟩⟩
        case measure => simp [intOf]; omega
      · obtain rfl : i = N := by omega
        have hfin : o = 0 ↔ l1 = l2 := by
          rw [hiff]
          have f1 : l1.take i = l1 := by rw [HN.out, List.take_length]
          have f2 : l2.take i = l2 := by rw [HN2.out, List.take_length]
          rw [f1, f2]
        have r1 : decide ((o : Int) = 0) = R := by rw [HR.out]; exact decide_eq_decide.2 (by rw [← hfin]; omega)
        have r2 : decide (o = 0) = R := by rw [HR.out]; exact decide_eq_decide.2 hfin
        have r3 : ((o : Int) == 0) = R := by rw [← r1]; rfl
        have HW := Lib.hid hW
        clear hfin hiff hW
        go_wp2
        go_ret
        exact ⟨rfl, HW.out⟩
  · have b1 : ((l1.length : Int) != (l2.length : Int)) = true := by simp; omega
    have hR : decide (l1 = l2) = false := decide_eq_false (fun h => hlen (by rw [h]))
    rw [hR]
    clear h1 h2 m1 m2 hR
    go_enter Tryd.func22, Tryd.ntmps22
    go_wp2
    go_ret
    exact ⟨rfl, Below.refl _ _⟩
end Go.Proofs.YtmfkfpgomglplaaDoor.Mb
