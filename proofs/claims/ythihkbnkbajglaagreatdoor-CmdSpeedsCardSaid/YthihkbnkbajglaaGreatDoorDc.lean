/- Decimal digits, the document's. -/
import Derived.Test.YthihkbnkbajglaaGreatDoorWd
import Derived.Deep.RegionWith
set_option linter.unusedVariables false
namespace Go.Proofs.YthihkbnkbajglaaGreatDoor.Dc
open Go Go.RowKit Kit

def decL (n : Nat) : List Int := if n < 10 then [48 + (n : Int)] else decL (n / 10) ++ [48 + ((n % 10 : Nat) : Int)]
termination_by n
decreasing_by omega
theorem decL_small {n : Nat} (h : n < 10) : decL n = [48 + (n : Int)] := by rw [decL, if_pos h]
theorem decL_more {n : Nat} (h : ¬ n < 10) : decL n = decL (n / 10) ++ [48 + ((n % 10 : Nat) : Int)] := by rw [decL, if_neg h]
theorem decL_dig (n : Nat) : ∀ r ∈ decL n, 48 ≤ r ∧ r ≤ 57 := by
  induction n using Nat.strongRecOn with
  | ind n ih =>
    intro r hr
    by_cases h : n < 10
    · rw [decL_small h] at hr
      have := List.mem_singleton.1 hr
      omega
    · rw [decL_more h] at hr
      rcases List.mem_append.1 hr with hr | hr
      · exact ih (n / 10) (by omega) r hr
      · have := List.mem_singleton.1 hr
        omega
theorem decL_len (n : Nat) : ∀ k, n < 10 ^ (k + 1) → (decL n).length ≤ k + 1 := by
  intro k
  induction k generalizing n with
  | zero => intro h; rw [decL_small (by simpa using h)]; exact Nat.le_refl _
  | succ k ih =>
    intro h
    by_cases h1 : n < 10
    · rw [decL_small h1]; simp
    · rw [decL_more h1, List.length_append, List.length_singleton]
      have := ih (n / 10) (by rw [Nat.pow_succ] at h; omega)
      omega
theorem conv_one (W : World) (k : Nat) (c : Int) (h : W.cell? ⟨k, 0, none⟩ = some (.int .u8 c)) : (convert 57 9 (.slice (some ⟨k, 0, none⟩) 1 1)).run Tryz.prog W = .ok (.string (strOfNums [c])) W := by
  refine run_convert_bytes_arg (P := Tryz.prog) W 57 5 Tryz.underlying57 Tryz.underlying5 k 0 1 1 [c] rfl (fun i hi => ?_) 9 Tryz.underlying9
  have : i = 0 := by omega
  subst this
  exact h
theorem cell_lit (w : World) (c : Int) : (w.alloc (.cells #[.int .u8 c] 5)).cell? ⟨w.heap.size, 0, none⟩ = some (.int .u8 c) := by
  rw [cell_of_row _ _ 0 _ 5 (0, 0) (heap_alloc_new w _)]; rfl
theorem str_app (l m : List Int) : strOfNums l ++ strOfNums m = strOfNums (l ++ m) := by
  apply ByteArray.ext
  apply Array.toList_inj.1
  simp [ByteArray.data_append, strOfNums]
set_option maxRecDepth 100000 in
set_option maxHeartbeats 2000000 in
/-- decimal digits. -/
theorem decC (n : Nat) : n < 18446744073709551616 → ∀ w : World, Calls Tryz.prog 17 #[.int .u64 (n : Int)] w fun e w' => e = .returned (.string (strOfNums (decL n))) ∧ Below w.heap.size w w' := by
  induction n using Nat.strongRecOn with
  | ind n ih =>
    intro hn w
    by_cases h : n < 10
    · rw [decL_small h]
      have hcv := conv_one (w.alloc (.cells #[.int .u8 (48 + (n : Int))] 5)) w.heap.size (48 + (n : Int)) (cell_lit w _)
      have h1 : (48 + (n : Int)) % 256 = 48 + (n : Int) := by omega
      have hnI : (n : Int) < 10 := by omega
      clear ih
      go_enter Tryz.func17, Tryz.ntmps17
      go_wp2
      go_ret
      exact ⟨rfl, (Below.refl _ _).alloc (Nat.le_refl _) _⟩
    · rw [decL_more h]
      have HIH := Lib.hid (fun W => ih (n / 10) (by omega) (by omega) W)
      obtain ⟨q, hq⟩ : ∃ q, q = n / 10 := ⟨_, rfl⟩
      obtain ⟨d, hd⟩ : ∃ d, d = n % 10 := ⟨_, rfl⟩
      rw [← hq] at HIH
      rw [← hq, ← hd]
      have e1 : (n : Int).tdiv 10 = (q : Int) := by rw [hq]; rfl
      have e2 : (n : Int).tmod 10 = (d : Int) := by rw [hd]; rfl
      have e3 : (n : Int) / 10 = (q : Int) := by omega
      have e4 : (n : Int) % 10 = (d : Int) := by omega
      have hdl : d < 10 := by omega
      have h1 : (48 + (d : Int)) % 256 = 48 + (d : Int) := by omega
      have hnI : ¬ (n : Int) < 10 := by omega
      have z1 : IntKind.u64.wrap (q : Int) = (q : Int) := by rw [IntKind.wrap_u64]; omega
      have z2 : IntKind.u64.wrap (48 + (d : Int)) = 48 + (d : Int) := by rw [IntKind.wrap_u64]; omega
      have z3 : IntKind.u8.wrap (48 + (d : Int)) = 48 + (d : Int) := by rw [IntKind.wrap_u8]; omega
      have hs1 : (strOfNums (decL q)).size ≤ 20 := by rw [strOfNums_size]; exact decL_len q 19 (by omega)
      have hs2 : (strOfNums [48 + (d : Int)]).size = 1 := strOfNums_size _
      have hcv0 := conv_one (w.drew.alloc (.cells #[.int .u8 (48 + (d : Int))] 5)) w.heap.size (48 + (d : Int)) (cell_lit w.drew _)
      have hcv1 := conv_one (w.alloc (.cells #[.int .u8 (48 + (d : Int))] 5)).drew w.heap.size (48 + (d : Int)) (cell_lit w _)
      have HST := Lib.hid (str_app (decL q) [48 + (d : Int)])
      clear ih hq hd h
      go_enter Tryz.func17, Tryz.ntmps17
      go_wp2
      go_region_with ((go_at_call 17; (with_reducible refine (HIH.out _).mono ?_); rintro e w1 ⟨rfl, bq⟩; have hcvA := conv_one (w1.alloc (.cells #[.int .u8 (48 + (d : Int))] 5)) w1.heap.size (48 + (d : Int)) (cell_lit w1 _); (first | (have hcvB := conv_one w1 w.heap.size (48 + (d : Int)) (cell_then bq (Nat.le_refl _) (cell_lit w _))) | skip); (first | (have HBQ := Lib.hid (show Below w.heap.size w w1 from ⟨bq.os, bq.tape, bq.output, bq.size, bq.block⟩)) | (have HBQ := Lib.hid (show Below w.heap.size w w1 from below_then ((Below.refl w.heap.size w).alloc (Nat.le_refl _) (.cells #[.int .u8 (48 + (d : Int))] 5)) ⟨bq.os, bq.tape, bq.output, bq.size, bq.block⟩ (by simp)))); clear bq))
      all_goals
        go_wp2
        go_ret
        refine ⟨congrArg (fun z => Ending.returned (.string z)) HST.out, ?_⟩
        first | exact HBQ.out.alloc HBQ.out.size _ | exact HBQ.out

open Lib in
theorem dec_same (n : Nat) : strOfNums (decL n) = ⟨(decDigits n).toArray⟩ := by
  have h : (decL n).map (fun c => UInt8.ofNat c.toNat) = decDigits n := by
    induction n using Nat.strongRecOn with
    | ind n ih =>
      by_cases h : n < 10
      · rw [decL_small h, decDigits, dif_pos h]
        have : (48 + (n : Int)).toNat = 48 + n := by omega
        simp [this]
      · rw [decL_more h, decDigits, dif_neg h, List.map_append, ih (n / 10) (by omega)]
        have : (48 + ((n % 10 : Nat) : Int)).toNat = 48 + n % 10 := by omega
        rw [List.map_cons, List.map_nil, this]
  unfold strOfNums
  rw [h]
theorem decB (n : Nat) (hn : n < 18446744073709551616) (w : World) : Calls Tryz.prog 17 #[.int .u64 (n : Int)] w fun e w' => e = .returned (.string (Wd.bs (Lib.decDigits n))) ∧ Below w.heap.size w w' := by
  have h := decC n hn w
  rwa [dec_same] at h
end Go.Proofs.YthihkbnkbajglaaGreatDoor.Dc
