/- Words of speeds: plain facts. -/
import Derived.Test.YthihkbnkbajglaaGreatDoorKit
import Derived.Lib.AtoiTie
import Derived.Lib.ItoaNum
import Derived.Lib.Bytealg
import Derived.Lib.Strings
set_option linter.unusedVariables false
namespace Go.Proofs.YthihkbnkbajglaaGreatDoor.Wd
open Go Go.RowKit Kit

open Lib in
theorem dig_nat (d : Nat) (h : d < 10) : (UInt8.ofNat (48 + d)).toNat = 48 + d := by rw [UInt8.toNat_ofNat']; omega
open Lib in
theorem dig_val (d : Nat) (h : d < 10) : digitVal (UInt8.ofNat (48 + d)) = some d := by
  unfold digitVal
  rw [dig_nat d h, if_pos (by omega)]
  congr 1
  omega
open Lib in
theorem dec_dig (n : Nat) : ∀ b ∈ decDigits n, 48 ≤ b.toNat ∧ b.toNat ≤ 57 := by
  induction n using Nat.strongRecOn with
  | ind n ih =>
    intro b hb
    by_cases h : n < 10
    · rw [decDigits, dif_pos h] at hb
      rw [List.mem_singleton.1 hb, dig_nat n h]
      omega
    · rw [decDigits, dif_neg h] at hb
      rcases List.mem_append.1 hb with hb | hb
      · exact ih (n / 10) (by omega) b hb
      · rw [List.mem_singleton.1 hb, dig_nat (n % 10) (by omega)]
        omega
open Lib in
theorem dec_ne (n : Nat) : decDigits n ≠ [] := by
  intro h
  have := decDigits_length n
  rw [h] at this
  have := nDigits_pos n
  simp at *
  omega
open Lib in
theorem decFrom_snoc (b : UInt8) (d : Nat) (hd : digitVal b = some d) : ∀ (l : List UInt8) (acc m : Nat), decFrom acc l = some m → decFrom acc (l ++ [b]) = some (m * 10 + d) := by
  intro l
  induction l with
  | nil =>
    intro acc m h
    simp only [decFrom, Option.some.injEq] at h
    subst h
    simp [decFrom, hd]
  | cons x l ih =>
    intro acc m h
    simp only [decFrom, List.cons_append] at h ⊢
    cases hx : digitVal x with
    | none => rw [hx] at h; simp at h
    | some v => rw [hx] at h; exact ih _ m h
open Lib in
theorem dec_from (n : Nat) : decFrom 0 (decDigits n) = some n := by
  induction n using Nat.strongRecOn with
  | ind n ih =>
    by_cases h : n < 10
    · rw [decDigits, dif_pos h]
      simp only [decFrom, dig_val n h]
      simp
    · rw [decDigits, dif_neg h, decFrom_snoc _ (n % 10) (dig_val (n % 10) (by omega)) _ 0 (n / 10) (ih (n / 10) (by omega))]
      congr 1
      omega
open Lib in
theorem dec_atoi (n : Nat) : atoi (decDigits n) = some (n : Int) := by
  have h1 := dec_from n
  have h2 := dec_dig n
  cases hc : decDigits n with
  | nil => exact absurd hc (dec_ne n)
  | cons b r =>
    rw [hc] at h1 h2
    have hb := h2 b List.mem_cons_self
    have n1 : ¬ (b == 45) = true := by intro h; rw [beq_iff_eq] at h; subst h; revert hb; decide
    have n2 : ¬ (b == 43) = true := by intro h; rw [beq_iff_eq] at h; subst h; revert hb; decide
    show (if b == 45 then (decNat r).map fun (m : Nat) => -(m : Int) else if b == 43 then (decNat r).map fun (m : Nat) => (m : Int) else (decNat (b :: r)).map fun (m : Nat) => (m : Int)) = some (n : Int)
    rw [if_neg n1, if_neg n2]
    unfold decNat
    simp [h1]
open Lib in
theorem dec_len {n : Nat} (h : n ≤ 9999) : (decDigits n).length ≤ 4 := by
  rw [decDigits_length]
  by_cases h1 : n < 10
  · rw [nDigits_small h1]; omega
  by_cases h2 : n < 100
  · rw [nDigits_unique 1 n (by omega) (by omega)]; omega
  by_cases h3 : n < 1000
  · rw [nDigits_unique 2 n (by omega) (by omega)]; omega
  · rw [nDigits_unique 3 n (by omega) (by omega)]; omega
open Lib in
theorem index_at (c : UInt8) (r : List UInt8) : ∀ l : List UInt8, (∀ b ∈ l, b ≠ c) → indexByte (l ++ c :: r) c = (l.length : Int) := by
  intro l
  induction l with
  | nil => intro _; simp [indexByte]
  | cons b l ih =>
    intro h
    have hb : (b == c) = false := by simpa using h b List.mem_cons_self
    have h' := ih (fun x hx => h x (List.mem_cons_of_mem _ hx))
    simp only [List.cons_append, indexByte, hb, Bool.false_eq_true, if_false, h', List.length_cons]
    rw [if_neg (by rw [beq_iff_eq]; omega)]
    omega
/-- a string of these bytes. -/
def bs (l : List UInt8) : ByteArray := ⟨l.toArray⟩
theorem bs_size (l : List UInt8) : (bs l).size = l.length := by simp [bs, ByteArray.size]
theorem bs_list (l : List UInt8) : (bs l).toList = l := by rw [ByteArray.toList_eq]; simp [bs]
theorem bs_data (l : List UInt8) : (bs l).data.toList = l := by simp [bs]
theorem bs_app (l m : List UInt8) : bs l ++ bs m = bs (l ++ m) := by
  apply ByteArray.ext
  apply Array.toList_inj.1
  simp [ByteArray.data_append, bs]
theorem bs_take (l m : List UInt8) : (bs (l ++ m)).extract 0 l.length = bs l := by
  apply ByteArray.ext
  apply Array.toList_inj.1
  simp [bs, ByteArray.data_extract]
theorem bs_drop (l m : List UInt8) : (bs (l ++ m)).extract l.length (bs (l ++ m)).size = bs m := by
  rw [bs_size]
  apply ByteArray.ext
  apply Array.toList_inj.1
  simp [bs, ByteArray.data_extract]
/-- "a/b", "speed a/b". -/
def fr (a b : Nat) : List UInt8 := Lib.decDigits a ++ 47 :: Lib.decDigits b
def sp (a b : Nat) : List UInt8 := [115, 112, 101, 101, 100, 32] ++ fr a b
theorem no_slash (a : Nat) : ∀ b ∈ Lib.decDigits a, b ≠ 47 := by
  intro b hb h
  subst h
  have := dec_dig a _ hb
  revert this; decide
theorem fr_head (a b : Nat) : ∃ c r, fr a b = c :: r ∧ 48 ≤ c.toNat ∧ c.toNat ≤ 57 := by
  have h2 := dec_dig a
  cases hc : Lib.decDigits a with
  | nil => exact absurd hc (dec_ne a)
  | cons c r =>
    rw [hc] at h2
    exact ⟨c, r ++ 47 :: Lib.decDigits b, by rw [fr, hc]; rfl, h2 c List.mem_cons_self⟩
theorem fr_not (a b : Nat) (x : UInt8) (l : List UInt8) (hx : x.toNat < 48 ∨ 57 < x.toNat) : (fr a b == x :: l) = false := by
  obtain ⟨c, r, h, h1, h2⟩ := fr_head a b
  rw [h, beq_eq_false_iff_ne]
  intro e
  injection e with e1 e2
  subst e1
  omega
theorem sp_not (a b : Nat) (x : UInt8) (l : List UInt8) (hx : x ≠ 115) : (sp a b == x :: l) = false := by
  rw [beq_eq_false_iff_ne]
  intro e
  injection e with e1 e2
  exact hx e1.symm
theorem sp_seek (a b : Nat) : Lib.hasPrefix (sp a b) [115, 101, 101, 107, 32] = false ∧ Lib.trimPrefix (sp a b) [115, 101, 101, 107, 32] = sp a b := by
  have h : Lib.hasPrefix (sp a b) [115, 101, 101, 107, 32] = false := by simp [Lib.hasPrefix, sp, List.isPrefixOf]
  exact ⟨h, by unfold Lib.trimPrefix; rw [h]; rfl⟩
theorem sp_speed (a b : Nat) : Lib.hasPrefix (sp a b) [115, 112, 101, 101, 100, 32] = true ∧ Lib.trimPrefix (sp a b) [115, 112, 101, 101, 100, 32] = fr a b := by
  have h : Lib.hasPrefix (sp a b) [115, 112, 101, 101, 100, 32] = true := by simp [Lib.hasPrefix, sp, List.isPrefixOf]
  exact ⟨h, by unfold Lib.trimPrefix; rw [h]; rfl⟩
theorem fr_len {a b : Nat} (ha : a ≤ 9999) (hb : b ≤ 9999) : (fr a b).length ≤ 9 := by
  have h1 := dec_len ha
  have h2 := dec_len hb
  simp only [fr, List.length_append, List.length_cons]
  omega
end Go.Proofs.YthihkbnkbajglaaGreatDoor.Wd
