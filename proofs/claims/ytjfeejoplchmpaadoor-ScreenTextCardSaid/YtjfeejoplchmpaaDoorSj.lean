/- Screens: TrimRight, of spaces. -/
import Derived.Test.YtjfeejoplchmpaaDoorSi
set_option linter.unusedVariables false
namespace Go.Proofs.YtjfeejoplchmpaaDoor.Sj
open Go Go.RowKit Kit Gm Gv Sa Sb Sd Sf Sg Sh Si

/-- plain signs as a string. -/
def asc (l : List Nat) : ByteArray := ⟨(l.map UInt8.ofNat).toArray⟩
theorem asc_size (l : List Nat) : (asc l).size = l.length := by simp [asc, ByteArray.size]
theorem asc_at (l : List Nat) (i : Nat) (h : i < (asc l).size) (h2 : i < l.length) (hl : l[i] < 256) : ((asc l)[i]'h).toNat = l[i] := by
  have e : (asc l)[i]'h = (asc l).data[i]'h := rfl
  have e2 : (asc l).data[i]'h = UInt8.ofNat l[i] := by
    have h3 : (asc l).data[i]? = some (UInt8.ofNat l[i]) := by
      show ((l.map UInt8.ofNat).toArray)[i]? = _
      simp [List.getElem?_eq_getElem h2]
    exact (Array.getElem?_eq_some_iff.1 h3).2
  rw [e, e2, UInt8.toNat_ofNat']
  exact Nat.mod_eq_of_lt hl
theorem asc_cut (l : List Nat) (i : Nat) : (asc l).extract 0 i = asc (l.take i) := by
  apply ByteArray.ext
  simp [asc, ByteArray.data_extract, List.map_take]
def trimL (l : List Nat) : List Nat := (l.reverse.dropWhile (· == 32)).reverse
theorem drop_rep (k : Nat) (x : List Nat) : (List.replicate k 32 ++ x).dropWhile (· == 32) = x.dropWhile (· == 32) := by
  induction k with
  | zero => rfl
  | succ k ih => rw [List.replicate_succ, List.cons_append, List.dropWhile_cons]; simp [ih]
theorem trim_rep (m : List Nat) (k : Nat) : trimL (m ++ List.replicate k 32) = trimL m := by
  unfold trimL
  rw [List.reverse_append, List.reverse_replicate, drop_rep]
theorem trim_last (m : List Nat) (c : Nat) (h : c ≠ 32) : trimL (m ++ [c]) = m ++ [c] := by
  unfold trimL
  rw [List.reverse_append]
  simp [h]
set_option maxRecDepth 100000 in
set_option maxHeartbeats 2000000 in
theorem trimB (l : List Nat) (w : World) (hl : ∀ c ∈ l, c < 256) (hm : l.length ≤ 1000000) : Calls Tryd.prog 28 #[.string (asc l), .int .u8 32] w fun e w' => e = .returned (.string (asc (trimL l))) ∧ w = w' := by
  have HL := Lib.hid hl
  have HM := Lib.hid hm
  clear hl hm
  go_enter Tryd.func28, Tryd.ntmps28
  go_wp2
  go_loopw [0] (fun s0 wr => wr = w ∧ ∃ m : List Nat, s0 = .string (asc m) ∧ Hid (∃ k, l = m ++ List.replicate k 32)) (fun s0 _ => match s0 with | .string s => s.size | _ => 0)
  case atStart => exact ⟨rfl, l, rfl, Lib.hid ⟨0, by simp⟩⟩
  case round =>
    obtain ⟨rfl, m, rfl, HK⟩ := hrel
    rcases List.eq_nil_or_concat m with rfl | ⟨x, c, rfl⟩
    · have HE := Lib.hid (show asc [] = asc (trimL l) by obtain ⟨k, hk⟩ := HK.out; rw [hk, trim_rep]; rfl)
      have hz : (asc []).size = 0 := rfl
      generalize asc [] = S at *
      go_wp2
      go_ret
      exact ⟨by rw [HE.out]; rfl, rfl⟩
    · obtain ⟨k, hk⟩ := HK.out
      rw [List.concat_eq_append] at *
      have hc : c < 256 := HL.out c (by rw [hk]; simp)
      have hx : x.length ≤ 1000000 := by have := HM.out; rw [hk] at this; simp at this; omega
      have hz := asc_size (x ++ [c])
      rw [List.length_append, List.length_singleton] at hz
      have hat : ∀ h, (((asc (x ++ [c]))[x.length]'h).toNat : Int) = (c : Int) := fun h => by
        rw [asc_at (x ++ [c]) x.length h (by simp) (by simpa using hc)]; simp
      have hcut : (asc (x ++ [c])).extract 0 x.length = asc x := by rw [asc_cut]; simp
      have HT := Lib.hid (show c ≠ 32 → asc (x ++ [c]) = asc (trimL l) from fun h => by rw [hk, trim_rep, trim_last _ _ h])
      have HK2 := Lib.hid (show c = 32 → ∃ k, l = x ++ List.replicate k 32 from fun h => ⟨k + 1, by rw [hk, h, List.append_assoc, List.replicate_succ]; rfl⟩)
      have HXS := Lib.hid (asc_size x)
      generalize asc (x ++ [c]) = S at *
      generalize x.length = n at *
      have h1 : wrap64 (((n + 1 : Nat) : Int) - 1) = (n : Int) := by rw [IntWalk.wrap64_in _ (by omega)]; omega
      have h2 : IntKind.i64.wrap (((n + 1 : Nat) : Int) - 1) = (n : Int) := by rw [IntWalk.i64_in _ (by omega)]; omega
      have h1' : wrap64 ((n : Int) + 1 - 1) = (n : Int) := by rw [IntWalk.wrap64_in _ (by omega)]; omega
      have h2' : IntKind.i64.wrap ((n : Int) + 1 - 1) = (n : Int) := by rw [IntWalk.i64_in _ (by omega)]; omega
      have h6 : wrap64 (n : Int) = (n : Int) := IntWalk.wrap64_in _ (by omega)
      have h6' : IntKind.i64.wrap (n : Int) = (n : Int) := IntWalk.i64_in _ (by omega)
      have h3 : n < n + 1 := Nat.lt_succ_self n
      have h4 : (0 : Int) < ((n + 1 : Nat) : Int) := by omega
      have h5 : (0 : Int) < (n : Int) + 1 := by omega
      clear hk hc hx HK
      by_cases h32 : c = 32
      · have hb : ((c : Int) == 32) = true := by rw [beq_iff_eq]; omega
        have HKn := Lib.hid (HK2.out h32)
        have HSZ := Lib.hid hz
        clear h32
        go_wp2
        go_roundw
        · exact ⟨by trivial, x, rfl, HKn⟩
        · simp [HSZ.out, HXS.out]
      · have hb : ((c : Int) == 32) = false := by rw [beq_eq_false_iff_ne]; omega
        have HE := Lib.hid (HT.out h32)
        clear h32
        go_wp2
        go_ret
        exact ⟨by rw [← HE.out]; rfl, rfl⟩
end Go.Proofs.YtjfeejoplchmpaaDoor.Sj
