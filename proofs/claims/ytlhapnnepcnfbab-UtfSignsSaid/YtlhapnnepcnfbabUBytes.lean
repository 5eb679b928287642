/- tikref.Bytes: are two slices of bytes the same? -/
import Derived.Test.YtlhapnnepcnfbabWords
import Derived.Laws.BytesArg
set_option linter.unusedVariables false
namespace Go.Proofs.Ytlhapnnepcnfbab.UBytes
open Go Go.RowKit Words
/-- the text of bytes. -/
def strL (l : List Int) : ByteArray := strOfNums l
theorem conv_row (b off cap : Nat) (l : List Int) (w : World) (h : ∀ i, (h : i < l.length) → w.cell? ⟨b, off + i, none⟩ = some (.int .u8 l[i])) : (convert 22 9 (.slice (some ⟨b, off, none⟩) l.length cap)).run Try.prog w = .ok (.string (strL l)) w := by
  refine run_convert_bytes_arg (P := Try.prog) w 22 5 Try.underlying22 Try.underlying5 b off l.length cap _ rfl ?_ 9 Try.underlying9
  intro i hi
  rw [h i hi]; simp [List.getD, hi]
theorem conv_empty (a : Option Addr) (cap : Nat) (w : World) : (convert 22 9 (.slice a 0 cap)).run Try.prog w = .ok (.string (strL [])) w := by
  cases a with
  | none =>
    rw [run_convert_bytes_nil (P := Try.prog) w 22 5 Try.underlying22 Try.underlying5 0 cap 9 Try.underlying9]; rfl
  | some x =>
    rw [run_convert_bytes_string (P := Try.prog) w 22 9 5 _ 0 cap Try.underlying22 Try.underlying5 Try.underlying9, run_bytesToString w x 0 cap [] (by simp [loadCells, loadCellsFrom])]
    rfl
theorem conv_sl (a : Option Addr) (cap : Nat) (l : List Int) (w : World) (h : Row .u8 w a l) : (convert 22 9 (.slice a l.length cap)).run Try.prog w = .ok (.string (strL l)) w := by
  rcases h with rfl | ⟨b, off, rfl, h⟩
  · exact conv_empty a cap w
  · exact conv_row b off cap l w h
theorem strL_list (l : List Int) : (strL l).toList = l.map fun n : Int => UInt8.ofNat n.toNat := by
  rw [ByteArray.toList_eq]; simp [strL, strOfNums]
theorem back_list {l : List Int} (hl : ∀ c ∈ l, 0 ≤ c ∧ c ≤ 255) : l.map (fun n : Int => ((UInt8.ofNat n.toNat).toNat : Int)) = l := by
  conv => rhs; rw [← List.map_id l]
  apply List.map_congr_left
  intro c hc
  have := hl c hc
  simp; omega
theorem strL_inj {l m : List Int} (hl : ∀ c ∈ l, 0 ≤ c ∧ c ≤ 255) (hm : ∀ c ∈ m, 0 ≤ c ∧ c ≤ 255) : ((strL l).toList == (strL m).toList) = decide (l = m) := by
  rw [strL_list, strL_list]
  by_cases h : l = m
  · subst h; simp
  · rw [decide_eq_false h]
    simp only [beq_eq_false_iff_ne]
    intro hh
    apply h
    have : l.map (fun n : Int => ((UInt8.ofNat n.toNat).toNat : Int)) = m.map (fun n : Int => ((UInt8.ofNat n.toNat).toNat : Int)) := by
      have := congrArg (List.map fun u : UInt8 => (u.toNat : Int)) hh
      simpa [List.map_map, Function.comp_def] using this
    rwa [back_list hl, back_list hm] at this
theorem bytesC (a1 a2 : Option Addr) (c1 c2 : Nat) (l1 l2 : List Int) (w : World) (h1 : Row .u8 w a1 l1) (h2 : Row .u8 w a2 l2) (m1 : ∀ c ∈ l1, 0 ≤ c ∧ c ≤ 255) (m2 : ∀ c ∈ l2, 0 ≤ c ∧ c ≤ 255) :
    Calls Try.prog 19 #[.slice a1 l1.length c1, .slice a2 l2.length c2] w fun e w' => e = .returned (.bool (decide (l1 = l2))) ∧ w = w' := by
  have k1 := conv_sl a1 c1 l1 w h1
  have k2 := conv_sl a2 c2 l2 w h2
  have E := Lib.hid (strL_inj m1 m2)
  clear h1 h2 m1 m2
  go_enter Try.func19, Try.ntmps19
  go_wp2
  go_ret
  exact ⟨ret_bool E.out, rfl⟩
end Go.Proofs.Ytlhapnnepcnfbab.UBytes
