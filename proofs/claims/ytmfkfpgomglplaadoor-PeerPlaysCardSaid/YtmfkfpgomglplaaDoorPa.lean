/- mac.pad. -/
import Derived.Test.YtmfkfpgomglplaaDoorAp
import Derived.Test.YtmfkfpgomglplaaDoorSha
import Derived.Test.YtmfkfpgomglplaaDoorSc
import Derived.Deep.OwnRows
import Derived.Laws.CopyOwn
set_option linter.unusedVariables false
namespace Go.Proofs.YtmfkfpgomglplaaDoor.Pa
open Go Go.RowKit Kit Mb Sha Ap


theorem size5 : (Tryd.prog.info? 5).map (·.size) = some 1 := by kernel_rfl
/-- a block of bytes. -/
def Bb (w : World) (g : Nat) (l : List Nat) : Prop := w.heap[g]? = some (.cells (cellsOf l).toArray 5 (0, 0))
theorem Bb.cell {w : World} {g : Nat} {l : List Nat} (h : Bb w g l) (i : Nat) (hi : i < l.length) : w.cell? ⟨g, i, none⟩ = some (.int .u8 ((l.getD i 0 : Nat) : Int)) := by
  rw [cell_of_row w g i _ 5 _ h]; simp [cellsOf, hi]
theorem Bb.free {w : World} {g : Nat} {l : List Nat} (h : Bb w g l) (i : Nat) : w.frozen? ⟨g, i, none⟩ = false := frozen_of_row w g i _ 5 h
theorem Bb.set {w : World} {g : Nat} {l : List Nat} (h : Bb w g l) (i c : Nat) : Bb (w.setCell ⟨g, i, none⟩ (.int .u8 (c : Int))) g (l.set i c) := by
  unfold Bb; rw [heap_setCell_same w g i _ 5 _ h]; simp [cellsOf, List.map_set]
theorem Bb.own {w : World} {g base : Nat} {l : List Nat} (h : Bb w g l) (hb : base ≤ g) (hl : l.length ≤ 1000000) : Rb w base (.slice (some ⟨g, 0, none⟩) l.length l.length) l := by
  refine ⟨by simp [cellsOf], .inr ⟨g, l.length, (cellsOf l).toArray, rfl, hb, h, Nat.le_refl _, by unfold maxLen; omega, by simp [cellsOf], ?_⟩⟩
  exact List.take_of_length_le (by simp [cellsOf])
def zs64 (l : List Nat) : List Nat := l ++ List.replicate (64 - l.length) 0
def stp (l : List Nat) (c i : Nat) : List Nat := ((zs64 l).take i).map (fun x => x ^^^ c) ++ (zs64 l).drop i
theorem spl (l : List Nat) : splice (cellsOf (List.replicate 64 0)) 0 (cellsOf l) = cellsOf (zs64 l) := by
  rw [splice, List.take_zero, List.nil_append, Nat.zero_add, zs64, ← cellsOf_app]
  congr 1
  unfold cellsOf
  rw [List.length_map, ← List.map_drop, List.drop_replicate]
theorem zs64_len (l : List Nat) (h : l.length ≤ 64) : (zs64 l).length = 64 := by simp [zs64]; omega
theorem stp_len (l : List Nat) (c i : Nat) (h : l.length ≤ 64) : (stp l c i).length = 64 := by
  have := zs64_len l h
  simp [stp]; omega
theorem stp_zero (l : List Nat) (c : Nat) : stp l c 0 = zs64 l := by simp [stp]
theorem stp_all (l : List Nat) (c : Nat) (h : l.length ≤ 64) : stp l c 64 = padK l c := by
  have := zs64_len l h
  rw [stp, List.take_of_length_le (by omega), List.drop_eq_nil_of_le (by omega), List.append_nil, zs64, List.map_append, List.map_replicate, Nat.zero_xor]; rfl
theorem stp_at (l : List Nat) (c i : Nat) (h : l.length ≤ 64) (hi : i < 64) : (stp l c i).getD i 0 = (zs64 l).getD i 0 := by
  have hz := zs64_len l h
  rw [stp, List.getD_eq_getElem?_getD, List.getElem?_append_right (by simp; omega)]
  simp [hz, Nat.min_eq_left (Nat.le_of_lt hi)]
theorem stp_next (l : List Nat) (c i : Nat) (h : l.length ≤ 64) (hi : i < 64) : (stp l c i).set i ((zs64 l).getD i 0 ^^^ c) = stp l c (i + 1) := by
  have hz := zs64_len l h
  have hd : (zs64 l).drop i = (zs64 l)[i] :: (zs64 l).drop (i + 1) := List.drop_eq_getElem_cons (by omega)
  have ht : (zs64 l).take (i + 1) = (zs64 l).take i ++ [(zs64 l)[i]] := List.take_succ_eq_append_getElem (by omega)
  have hg : (zs64 l).getD i 0 = (zs64 l)[i] := by rw [List.getD_eq_getElem?_getD]; simp [hz, hi]
  have hle : (((zs64 l).take i).map (fun x => x ^^^ c)).length = i := by simp; omega
  rw [stp, stp, ht, hg, hd, List.set_append_right _ _ (by omega), hle, Nat.sub_self, List.set_cons_zero, List.map_append, List.append_assoc]; rfl
theorem zs64_lt (l : List Nat) (h : ∀ c ∈ l, c < 256) (i : Nat) : (zs64 l).getD i 0 < 256 := by
  rw [List.getD_eq_getElem?_getD]
  cases hx : (zs64 l)[i]? with
  | none => decide
  | some v =>
    have := List.mem_of_getElem? hx
    rcases List.mem_append.1 this with hm | hm
    · exact h v hm
    · have := (List.mem_replicate.1 hm).2; simp; omega
set_option maxRecDepth 100000 in
set_option maxHeartbeats 1000000 in
theorem padC (a : Option Addr) (cap : Nat) (l : List Nat) (c : Nat) (w : World) (hs : Sl w a l) (hlen : l.length ≤ 64) (hl : ∀ x ∈ l, x < 256) (hc : c < 256) :
    Calls Tryd.prog 54 #[.slice a l.length cap, .int .u8 (c : Int)] w fun e w' => ∃ v, e = .returned v ∧ Rb w' w.heap.size v (padK l c) ∧ Below w.heap.size w w' := by
  have hmk : ∀ w : World, (Instr.makeSlice 22 (.int .i64 64) (.int .i64 64)).run Tryd.prog w = .ok (.slice (some ⟨w.heap.size, 0, none⟩) 64 64) (w.alloc (.cells (madeCells #[.int .u8 0] 64) 5)) := run_make_row' (P := Tryd.prog) 22 5 (.int .u8 0) 1 Tryd.underlying22 info5 rfl .i64 .i64 64 (by omega) (by omega)
  have HS := Lib.hid hs
  have HL := Lib.hid hlen
  have HX := Lib.hid hl
  have HC := Lib.hid hc
  clear hs hlen hl hc
  obtain ⟨Z, hZ⟩ : ∃ Z : List Value, Z.toArray = madeCells #[.int .u8 0] 64 := ⟨(madeCells #[.int .u8 0] 64).toList, rfl⟩
  have hZz : Z = cellsOf (List.replicate 64 0) := by
    have : Z.toArray = (cellsOf (List.replicate 64 0)).toArray := by rw [hZ]; kernel_rfl
    simpa using congrArg Array.toList this
  rw [← hZ] at hmk
  have HZ := Lib.hid hZz
  clear hZ hZz
  obtain ⟨cs, hcs⟩ : ∃ cs, cs = cellsOf l := ⟨_, rfl⟩
  have HCS := Lib.hid hcs
  have hcl : cs.length = l.length := by rw [hcs]; simp [cellsOf]
  have HCL := Lib.hid hcl
  clear hcs hcl
  go_enter Tryd.func54, Tryd.ntmps54
  go_wp2_with (with_reducible refine wpList_copy_splice rfl (.tmp 8) (.tmp 9) 22 22 rfl 5 Tryd.underlying22 size5 _ _ _ _ _ _ rfl rfl w.heap.size 0 Z 5 ?c1 cs ?c2 ?c3 ?c4 ?c5 w.heap.size w ?c6 (Nat.le_refl _) ?_)
  case c1 => exact Array.getElem?_push_size
  case c2 => rw [HCL.out]; have := HL.out; exact (Nat.min_eq_left this).symm
  case c3 =>
    intro hpos
    rcases HS.out with rfl | ⟨b, off, rfl, hrow⟩
    · have h2 := HCL.out; rw [h2] at hpos; simp at hpos
    · refine ⟨_, rfl, fun j v hv => ?_⟩
      rw [HCS.out] at hv
      exact sl_cells (w := w.alloc _) (sl_alloc (.inr ⟨b, off, rfl, hrow⟩) _) j v hv
  case c4 => rw [HCL.out, HZ.out]; have := HL.out; simp [cellsOf]; omega
  case c5 => rw [HCS.out]; exact cellsOf_one
  case c6 => exact (Below.refl _ _).alloc (Nat.le_refl _) _
  intro w2 HG2 hB2
  have hrow : Bb w2 w.heap.size (stp l c 0) := by
    rw [stp_zero]
    have := HG2.out
    unfold Bb
    rw [this, HZ.out, HCS.out, spl]
  have HR := Lib.hid (And.intro hrow hB2)
  clear hrow hB2 HG2
  go_wp2
  go_loopw [6, 13] (fun s6 s13 wr => ∃ i : Nat, i ≤ 64 ∧ s13 = .int .i64 (i : Int) ∧ Bb wr w.heap.size (stp l c i) ∧ Below w.heap.size w wr) (fun _ s13 _ => 64 - (intOf s13).toNat)
  case atStart => exact ⟨0, by omega, rfl, HR.out.1, HR.out.2⟩
  case round =>
    clear HR
    obtain ⟨i, hi, rfl, hR, hB⟩ := hrel
    by_cases hlt : i < 64
    · have c0 := hR.cell i (by rw [stp_len l c i HL.out]; exact hlt)
      have f0 := hR.free i
      rw [stp_at l c i HL.out hlt] at c0
      have hx : (zs64 l).getD i 0 < 256 := zs64_lt l HX.out i
      have nx := stp_next l c i HL.out hlt
      have nR := Lib.hid (show ∀ W, W = wr.setCell ⟨w.heap.size, i, none⟩ (.int .u8 (((zs64 l).getD i 0 ^^^ c : Nat) : Int)) → Bb W w.heap.size (stp l c (i + 1)) ∧ Below w.heap.size w W from fun W hW => by
        subst hW
        have := hR.set i ((zs64 l).getD i 0 ^^^ c)
        rw [nx] at this
        exact ⟨this, hB.setCell (p := ⟨w.heap.size, i, none⟩) (by simp) _⟩)
      have ex : bits .xor .u8 (((zs64 l).getD i 0 : Nat) : Int) (c : Int) = (((zs64 l).getD i 0 ^^^ c : Nat) : Int) := u8_xn _ _ hx HC.out
      clear hR hB nx
      generalize (zs64 l).getD i 0 ^^^ c = Y at *
      generalize (zs64 l).getD i 0 = X at *
      go_wp2
      go_roundw
      case rel => exact ⟨i + 1, by omega, by go_num, nR.out _ rfl⟩
      case measure => simp [intOf]; omega
    · obtain rfl : i = 64 := by omega
      have hl64 := stp_len l c 64 HL.out
      have ho := hR.own (Nat.le_refl w.heap.size) (by rw [hl64]; decide)
      rw [hl64, stp_all l c HL.out] at ho
      have HO := Lib.hid (And.intro ho hB)
      clear hR hB hl64 ho
      go_wp2
      go_ret
      exact ⟨_, rfl, HO.out⟩

end Go.Proofs.YtmfkfpgomglplaaDoor.Pa
