/- tikref.Bytes: are two slices of bytes the same? -/
import Derived.Test.YtellhkcleicfbaaVar
import Derived.Laws.BytesArg
namespace Go.Proofs.Ytellhkcleicfbaa.Bytes
open Go Go.RowKit Kit Crc Var
/-- the text of bytes. -/
def strL (l : List Nat) : ByteArray := strOfNums (l.map fun n : Nat => (n : Int))
theorem conv_row (b off cap : Nat) (l : List Nat) (w : World) (h : Cells w b off l) : (convert 23 9 (.slice (some ⟨b, off, none⟩) l.length cap)).run Try.prog w = .ok (.string (strL l)) w := by
  refine run_convert_bytes_arg (P := Try.prog) w 23 5 Try.underlying23 Try.underlying5 b off l.length cap _ (by simp) ?_ 9 Try.underlying9
  intro i hi
  rw [h i hi]; simp [List.getD, hi]
theorem conv_empty (a : Option Addr) (cap : Nat) (w : World) : (convert 23 9 (.slice a 0 cap)).run Try.prog w = .ok (.string (strL [])) w := by
  cases a with
  | none =>
    rw [run_convert_bytes_nil (P := Try.prog) w 23 5 Try.underlying23 Try.underlying5 0 cap 9 Try.underlying9]; rfl
  | some x =>
    rw [run_convert_bytes_string (P := Try.prog) w 23 9 5 _ 0 cap Try.underlying23 Try.underlying5 Try.underlying9, run_bytesToString w x 0 cap [] (by simp [loadCells, loadCellsFrom])]
    rfl
theorem conv_sl (a : Option Addr) (cap : Nat) (l : List Nat) (w : World) (h : Sl w a l) : (convert 23 9 (.slice a l.length cap)).run Try.prog w = .ok (.string (strL l)) w := by
  rcases h with rfl | ⟨b, off, rfl, h⟩
  · exact conv_empty a cap w
  · exact conv_row b off cap l w h
theorem strL_inj {l m : List Nat} (hl : ∀ c ∈ l, c < 256) (hm : ∀ c ∈ m, c < 256) : ((strL l).toList == (strL m).toList) = decide (l = m) := by
  have e : ∀ l : List Nat, (strL l).toList = l.map fun n => UInt8.ofNat n := by
    intro l
    rw [ByteArray.toList_eq]; simp [strL, strOfNums]
  rw [e, e]
  by_cases h : l = m
  · subst h; simp
  · rw [decide_eq_false h]
    simp only [beq_eq_false_iff_ne]
    intro hh
    apply h
    have : l.map (fun n => (UInt8.ofNat n).toNat) = m.map (fun n => (UInt8.ofNat n).toNat) := by
      have := congrArg (List.map UInt8.toNat) hh
      simpa [List.map_map, Function.comp_def] using this
    have e1 : ∀ k : List Nat, (∀ c ∈ k, c < 256) → k.map (fun n => (UInt8.ofNat n).toNat) = k := by
      intro k hk
      conv => rhs; rw [← List.map_id k]
      apply List.map_congr_left
      intro c hc
      have := hk c hc
      simp; omega
    rw [e1 l hl, e1 m hm] at this
    exact this
theorem bytesC (a1 a2 : Option Addr) (c1 c2 : Nat) (l1 l2 : List Nat) (w : World) (h1 : Sl w a1 l1) (h2 : Sl w a2 l2) (m1 : ∀ c ∈ l1, c < 256) (m2 : ∀ c ∈ l2, c < 256) :
    Calls Try.prog 11 #[.slice a1 l1.length c1, .slice a2 l2.length c2] w fun e w' => e = .returned (.bool (decide (l1 = l2))) ∧ w = w' := by
  have k1 := conv_sl a1 c1 l1 w h1
  have k2 := conv_sl a2 c2 l2 w h2
  have E := Lib.hid (strL_inj m1 m2)
  clear h1 h2 m1 m2
  go_enter Try.func11, Try.ntmps11
  go_wp2
  go_ret
  exact ⟨ret_bool E.out, rfl⟩
end Go.Proofs.Ytellhkcleicfbaa.Bytes
