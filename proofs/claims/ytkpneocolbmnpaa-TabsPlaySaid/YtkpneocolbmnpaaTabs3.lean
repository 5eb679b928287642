/- Package tabs: contracts of Resize, New; the examples of chapter 10. -/
import Derived.Test.YtkpneocolbmnpaaTabs2
set_option linter.unusedVariables false
namespace Go.Proofs.Ytkpneocolbmnpaa.Tabs
open Go Go.RowKit Kit Ints TabsMath

/-- stops, or what New begins with. -/
def Sx (w : World) (p : Nat) (a : Option Addr) (l : List Bool) : Prop :=
  w.heap[p]? = some (.cells #[.slice a l.length l.length] 73 (0, 0)) ∧ ((l = [] ∧ a = none) ∨ ∃ b, a = some ⟨b, 0, none⟩ ∧ w.rowIs b 4 l.length (fun i => .bool (l.getD i false)))
/-- is there a stop at column c of so many? -/
def tgt (l : List Bool) (c : Nat) : Bool := if c < l.length then l.getD c false else (decide (0 < c) && decide (c % 8 = 0))
def resL (l : List Bool) (n : Nat) : List Bool := (List.range n).map (tgt l)
theorem resL_len (l : List Bool) (n : Nat) : (resL l n).length = n := by simp [resL]
theorem resL_at (l : List Bool) (n i : Nat) (h : i < n) : (resL l n).getD i false = tgt l i := by simp [resL, h]
theorem info4 : (Try.prog.info? 4).map (fun i => (i.zero, i.size, i.bytes)) = some (some (.bool false), 1, 1) := by kernel_rfl
theorem size4 : (Try.prog.info? 4).map (·.size) = some 1 := by kernel_rfl
def boolsV (l : List Bool) : List Value := l.map Value.bool
/-- what Resize leaves. -/
def ResP (w : World) (p : Nat) (l : List Bool) (cols : Int) (e : Ending) (w' : World) : Prop :=
  e = .returned (.int .i64 0) ∧ St w' p w.heap.size (resL l cols.toNat) ∧ w.grownBy w' (some p)
theorem resizeNo (p : Nat) (cols : Int) (w : World) (hc : cols < 1 ∨ 200 < cols) :
    Calls Try.prog 33 #[.pointer (some ⟨p, 0, none⟩), .int .i64 cols] w fun e w' => e = .returned (.int .i64 1) ∧ w = w' := by
  rcases hc with hc | hc
  · go_enter Try.func33, Try.ntmps33
    go_wp2
    go_ret
    exact ⟨rfl, rfl⟩
  · go_enter Try.func33, Try.ntmps33
    go_wp2
    go_ret
    exact ⟨rfl, rfl⟩
set_option maxRecDepth 100000 in
set_option maxHeartbeats 1000000 in
theorem resizeC (p : Nat) (a : Option Addr) (l : List Bool) (n : Nat) (w : World) (h : Sx w p a l) (hl : l.length ≤ 200) (h1 : 1 ≤ n) (h2 : n ≤ 200) :
    Calls Try.prog 33 #[.pointer (some ⟨p, 0, none⟩), .int .i64 (n : Int)] w (ResP w p l (n : Int)) := by
  have hmk := run_make_row' (P := Try.prog) 54 4 (.bool false) 1 Try.underlying54 info4 rfl .i64 .i64 n (by omega) (by omega)
  have c0 : w.cell? ⟨p, 0, none⟩ = some (.slice a l.length l.length) := by simp [World.cell?, h.1]
  have hpl := lt_of_block h.1
  have HS := Lib.hid h
  clear h
  obtain ⟨kept, hkept⟩ : ∃ kept, kept = min l.length n := ⟨_, rfl⟩
  obtain ⟨cs, hcs⟩ : ∃ cs, cs = (boolsV l).take kept := ⟨_, rfl⟩
  have HK := Lib.hid hkept
  have HC := Lib.hid hcs
  have hcl : cs.length = kept := by rw [hcs, hkept]; simp [boolsV]
  have HL := Lib.hid hcl
  clear hkept hcs hcl
  obtain ⟨Z, hZ⟩ : ∃ Z : List Value, Z.toArray = madeCells #[.bool false] n := ⟨(madeCells #[.bool false] n).toList, rfl⟩
  have HZ := Lib.hid hZ
  have hZl : Z.length = n := by have := congrArg Array.size hZ; simpa [size_madeCells] using this
  have hZz := Lib.hid (show ∀ i, i < n → Z[i]? = some (.bool false) from fun i hi => by rw [← List.getElem?_toArray, hZ]; simp [madeCells, hi, Nat.mod_one])
  rw [← hZ] at hmk
  clear hZ
  go_enter Try.func33, Try.ntmps33
  go_wp2_with (with_reducible refine wpList_copy_splice rfl (.tmp 16) (.tmp 20) 54 54 rfl 4 Try.underlying54 size4 _ _ _ _ _ _ rfl rfl w.heap.size 0 Z 4 ?c1 cs ?c2 ?c3 ?c4 ?c5 w.heap.size w ?c6 (Nat.le_refl _) ?_)
  case c1 => exact Array.getElem?_push_size
  case c2 => rw [HL.out, HK.out]
  case c3 =>
    intro hpos
    rcases HS.out.2 with ⟨rfl, _⟩ | ⟨b, rfl, hrow⟩
    · have := HL.out; have := HK.out; simp at this; omega
    · refine ⟨_, rfl, fun j v hv => ?_⟩
      have hj : j < l.length ∧ v = .bool (l.getD j false) := by
        rw [HC.out] at hv
        rw [List.getElem?_take] at hv
        split at hv
        · have := HK.out
          have hj : j < l.length := by omega
          refine ⟨hj, ?_⟩
          simp [boolsV, hj] at hv
          simp [hj, hv]
        · cases hv
      rw [add_at, Nat.zero_add, hj.2]
      exact (hrow.alloc _).cell hj.1
  case c4 => rw [HL.out, hZl]; have := HK.out; omega
  case c5 =>
    intro v hv
    rw [HC.out] at hv
    have := List.mem_of_mem_take hv
    obtain ⟨x, _, rfl⟩ := List.mem_map.1 this
    rfl
  case c6 => exact (Below.refl _ _).alloc (Nat.le_refl _) _
  intro w2 HG2 hB2
  have hrow : w2.rowIs w.heap.size 4 n (fun j => .bool (if j < kept then tgt l j else false)) := by
    refine ⟨_, HG2.out, ?_, fun i hi => ?_⟩
    · rw [List.size_toArray, length_splice _ _ _ (by rw [HL.out, hZl]; have := HK.out; omega)]; exact hZl
    · show _ = some (Value.bool (if i < kept then tgt l i else false))
      rw [List.getElem?_toArray, splice, List.take_zero, List.nil_append, Nat.zero_add]
      by_cases hk : i < kept
      · have hi2 : i < l.length := by have := HK.out; omega
        rw [List.getElem?_append_left (by rw [HL.out]; exact hk), HC.out, List.getElem?_take, if_pos hk, if_pos hk]
        simp [boolsV, hi2, tgt]
      · rw [List.getElem?_append_right (by rw [HL.out]; omega), List.getElem?_drop, if_neg hk, show cs.length + (i - cs.length) = i by rw [HL.out]; omega]
        exact hZz.out i hi
  have hkn : kept ≤ n := by have := HK.out; omega
  have HKL := Lib.hid (show l.length ≤ kept ∨ kept = n by have := HK.out; omega)
  go_wp2
  go_loopw [7] (fun s7 wr => ∃ k : Nat, kept ≤ k ∧ k ≤ n ∧ s7 = .int .i64 (k : Int) ∧ wr.rowIs w.heap.size 4 n (fun j => .bool (if j < k then tgt l j else false)) ∧ Below w.heap.size w wr) (fun s7 _ => n - (intOf s7).toNat)
  case atStart => exact ⟨kept, Nat.le_refl _, hkn, by rw [HL.out], hrow, hB2⟩
  case round =>
    clear hrow hB2
    obtain ⟨k, hk1, hk2, rfl, hrow, hB⟩ := hrel
    by_cases hlt : k < n
    · have hkl : ¬ k < l.length := by have := HKL.out; omega
      have hT : tgt l k = (decide (0 < k) && decide (k % 8 = 0)) := by rw [tgt, if_neg hkl]
      have hcell := hrow.cell hlt
      have hfz := hrow.frozen k
      have HX := Lib.hid (show ∀ v, v = tgt l k → (wr.setCell ⟨w.heap.size, k, none⟩ (.bool v)).rowIs w.heap.size 4 n (fun j => .bool (if j < k + 1 then tgt l j else false)) from fun v hv => (hrow.set k (.bool v)).congr fun j hj => by
        by_cases e : j = k
        · subst e; rw [if_pos rfl, if_pos (by omega), hv]
        · rw [if_neg e]; congr 1
          by_cases h3 : j < k
          · rw [if_pos h3, if_pos (by omega)]
          · rw [if_neg h3, if_neg (by omega)])
      rw [if_neg (by omega)] at hcell
      have hBs := Lib.hid (show ∀ v, Below w.heap.size w (wr.setCell ⟨w.heap.size, k, none⟩ v) from fun v => hB.setCell (Nat.le_refl _) v)
      have HT := Lib.hid hT
      clear hT hrow hB
      by_cases hk0 : k = 0
      · subst hk0
        have HX' := Lib.hid (HX.out false (by rw [HT.out]; rfl))
        go_wp2
        go_roundw
        case rel => exact ⟨1, by omega, by omega, by go_num, HX'.out, hBs.out _⟩
        case measure => simp [intOf]; omega
      · have hk3 : 0 < (k : Int) := by omega
        cases h8 : decide (k % 8 = 0)
        · have hm : ((k : Int) % 8 == 0) = false := by simp at h8 ⊢; omega
          have HX' := Lib.hid (HX.out false (by rw [HT.out, h8, Bool.and_false]))
          clear h8
          go_wp2
          go_roundw
          case rel => exact ⟨k + 1, by omega, by omega, by go_num, HX'.out, hBs.out _⟩
          case measure => simp [intOf]; omega
        · have hm : ((k : Int) % 8 == 0) = true := by simp at h8 ⊢; omega
          have HX' := Lib.hid (HX.out true (by rw [HT.out, h8]; simp; omega))
          clear h8
          go_wp2
          go_roundw
          case rel => exact ⟨k + 1, by omega, by omega, by go_num, HX'.out, hBs.out _⟩
          case measure => simp [intOf]; omega
    · obtain rfl : k = n := by omega
      have hcp : wr.cell? ⟨p, 0, none⟩ = some (.slice a l.length l.length) := by rw [hB.cell (p := ⟨p, 0, none⟩) hpl]; exact c0
      have hfp : wr.frozen? ⟨p, 0, none⟩ = false := by rw [hB.frozen (p := ⟨p, 0, none⟩) hpl]; simp [World.frozen?, HS.out.1]
      go_wp2
      go_ret
      refine ⟨rfl, ⟨?_, ?_⟩, ?_⟩
      · rw [Int.toNat_natCast, resL_len]
        simp [World.setCell, Array.getElem?_modify, hB.block p hpl, HS.out.1]
      · rw [Int.toNat_natCast, resL_len]
        refine (hrow.setOther (a := ⟨p, 0, none⟩) (by show w.heap.size ≠ p; omega) _).congr fun i hi => ?_
        rw [if_pos hi, resL_at _ _ _ hi]
      · exact ⟨hB.os, hB.tape, hB.output, by simp [World.setCell]; exact hB.size, fun k hk hne => (Below.heap_setCell wr ⟨p, 0, none⟩ _ k (fun e => hne (by rw [e]))).trans (hB.block k hk)⟩
end Go.Proofs.Ytkpneocolbmnpaa.Tabs
