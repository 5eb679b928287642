/- Names of segments, as plain lists of bytes. -/
import Derived.Test.YtabgelmmjpjejaaDoorLy
import Derived.Lib.AtoiTie
import Derived.Lib.ItoaNum
import Derived.Lib.Repeat
set_option linter.unusedVariables false
namespace Go.Proofs.YtabgelmmjpjejaaDoor.Np
open Go Go.RowKit Kit

open Lib in
def six (n : Nat) : List UInt8 := [dg n 5, dg n 4, dg n 3, dg n 2, dg n 1, dg n 0]
open Lib in
theorem dg_zero {n j : Nat} (h : n < 10 ^ j) : dg n j = 48 := by
  unfold dg; rw [Nat.div_eq_of_lt h]; rfl
open Lib in
theorem six_is {n : Nat} (h1 : 1 ≤ n) (h : n ≤ 999999) : repeatL [48] (6 - nDigits n) ++ decDigits n = six n ∧ nDigits n ≤ 6 := by
  rw [decDigits_eq]
  by_cases a1 : n < 10
  · rw [nDigits_unique 0 n (by omega) (by omega)]
    refine ⟨?_, by omega⟩
    rw [six, dg_zero (j := 5) (by omega), dg_zero (j := 4) (by omega), dg_zero (j := 3) (by omega), dg_zero (j := 2) (by omega), dg_zero (j := 1) (by omega)]; rfl
  by_cases a2 : n < 100
  · rw [nDigits_unique 1 n (by omega) (by omega)]
    refine ⟨?_, by omega⟩
    rw [six, dg_zero (j := 5) (by omega), dg_zero (j := 4) (by omega), dg_zero (j := 3) (by omega), dg_zero (j := 2) (by omega)]; rfl
  by_cases a3 : n < 1000
  · rw [nDigits_unique 2 n (by omega) (by omega)]
    refine ⟨?_, by omega⟩
    rw [six, dg_zero (j := 5) (by omega), dg_zero (j := 4) (by omega), dg_zero (j := 3) (by omega)]; rfl
  by_cases a4 : n < 10000
  · rw [nDigits_unique 3 n (by omega) (by omega)]
    refine ⟨?_, by omega⟩
    rw [six, dg_zero (j := 5) (by omega), dg_zero (j := 4) (by omega)]; rfl
  by_cases a5 : n < 100000
  · rw [nDigits_unique 4 n (by omega) (by omega)]
    refine ⟨?_, by omega⟩
    rw [six, dg_zero (j := 5) (by omega)]; rfl
  · rw [nDigits_unique 5 n (by omega) (by omega)]
    exact ⟨rfl, by omega⟩
open Lib in
theorem dg_nat (n j : Nat) : (dg n j).toNat = 48 + n / 10 ^ j % 10 := by
  unfold dg
  rw [UInt8.toNat_ofNat']
  have := Nat.mod_lt (n / 10 ^ j) (show 0 < 10 by decide)
  omega
open Lib in
theorem dg_val (n j : Nat) : digitVal (dg n j) = some (n / 10 ^ j % 10) := by
  have h := dg_nat n j
  have := Nat.mod_lt (n / 10 ^ j) (show 0 < 10 by decide)
  unfold digitVal
  rw [if_pos (by omega)]
  congr 1
  omega
open Lib in
theorem six_num {n : Nat} (h : n ≤ 999999) : atoiAll (six n) = .ok (n : Int) := by
  rw [atoiAll_short (six n) (show 6 ≤ 18 by decide)]
  have h5 := dg_nat n 5
  have e : atoi (six n) = (decNat (six n)).map fun (m : Nat) => (m : Int) := by
    have n1 : ¬ (dg n 5 == 45) = true := by
      intro hh; rw [beq_iff_eq] at hh; rw [hh] at h5
      have : (45 : UInt8).toNat = 45 := rfl
      omega
    have n2 : ¬ (dg n 5 == 43) = true := by
      intro hh; rw [beq_iff_eq] at hh; rw [hh] at h5
      have : (43 : UInt8).toNat = 43 := rfl
      omega
    unfold six atoi
    dsimp only
    rw [if_neg n1, if_neg n2]
  rw [e]
  have e2 : decNat (six n) = some n := by
    unfold decNat six
    simp only [List.isEmpty_cons, Bool.false_eq_true, if_false, decFrom, dg_val]
    congr 1
    omega
  rw [e2]; rfl
def nameB (n : Nat) : ByteArray := ⟨(115 :: six n).toArray⟩
theorem nameB_list (n : Nat) : (nameB n).data.toList = 115 :: six n := rfl
theorem name_inj {m n : Nat} (hm : m ≤ 999999) (hn : n ≤ 999999) (h : nameB m = nameB n) : m = n := by
  have e := congrArg (fun b : ByteArray => b.data.toList) h
  simp only [nameB_list] at e
  injection e with _ e
  have a := six_num hm
  rw [e, six_num hn] at a
  injection a with a
  omega
/-- the name of whatever number: none, out of the bounds. -/
def nameS (n : Int) : ByteArray := if 1 ≤ n ∧ n ≤ 999999 then nameB n.toNat else ⟨#[]⟩
theorem nameS_in {n : Nat} (h1 : 1 ≤ n) (h2 : n ≤ 999999) : nameS (n : Int) = nameB n := by unfold nameS; rw [if_pos (by omega)]; rfl
theorem nameS_out {n : Int} (h : ¬ (1 ≤ n ∧ n ≤ 999999)) : nameS n = ⟨#[]⟩ := by unfold nameS; rw [if_neg h]
end Go.Proofs.YtabgelmmjpjejaaDoor.Np
