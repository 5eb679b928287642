/- Signs and their bytes: no program. -/
import Derived.Test.YtnaiefjbfpejbaaWords
import Derived.Laws.BytesArg
import Derived.Laws.Cover4
set_option linter.unusedVariables false
namespace Go.Proofs.Ytnaiefjbfpejbaa.Um
open Go

/-- is a number a sign? -/
def signB (r : Int) : Bool := decide (0 ≤ r) && decide (r ≤ 1114111) && (decide (r < 55296) || decide (57343 < r))
def fixZ (r : Int) : Int := if signB r then r else 65533
def sizeZ (r : Int) : Int := if fixZ r < 128 then 1 else if fixZ r < 2048 then 2 else if fixZ r < 65536 then 3 else 4
def tailZ (r : Int) : Int := 128 + r % 64
def encZ (r : Int) : List Int :=
  if fixZ r < 128 then [fixZ r] else if fixZ r < 2048 then [192 + fixZ r / 64, tailZ (fixZ r)]
  else if fixZ r < 65536 then [224 + fixZ r / 4096, tailZ (fixZ r / 64), tailZ (fixZ r)]
  else [240 + fixZ r / 262144, tailZ (fixZ r / 4096), tailZ (fixZ r / 64), tailZ (fixZ r)]
def encL (l : List Int) : List Int := l.flatMap encZ
theorem fix_sign (r : Int) : signB (fixZ r) = true := by
  unfold fixZ; split
  · assumption
  · decide
theorem fix_fix (r : Int) : fixZ (fixZ r) = fixZ r := by
  rw [fixZ, if_pos (fix_sign r)]
theorem sign_in {r : Int} (h : signB r = true) : 0 ≤ r ∧ r ≤ 1114111 ∧ (r < 55296 ∨ 57343 < r) := by
  simp [signB] at h; omega
theorem enc_fix (r : Int) : encZ (fixZ r) = encZ r := by unfold encZ; rw [fix_fix]
theorem enc_len (r : Int) : ((encZ r).length : Int) = sizeZ r := by
  unfold encZ sizeZ; repeat' split
  all_goals simp
theorem enc_len4 (r : Int) : 1 ≤ (encZ r).length ∧ (encZ r).length ≤ 4 := by
  unfold encZ; repeat' split
  all_goals simp
theorem enc_byte (r : Int) : ∀ c ∈ encZ r, 0 ≤ c ∧ c ≤ 255 := by
  have h := sign_in (fix_sign r)
  unfold encZ tailZ
  intro c hc
  repeat' split at hc
  all_goals simp at hc; omega
theorem encL_fix (l : List Int) : encL (l.map fixZ) = encL l := by
  induction l with
  | nil => rfl
  | cons r l ih =>
    show encZ (fixZ r) ++ encL (l.map fixZ) = encZ r ++ encL l
    rw [ih, enc_fix]
theorem encL_snoc (l : List Int) (r : Int) : encL (l ++ [r]) = encL l ++ encZ r := by simp [encL]
theorem encL_byte (l : List Int) : ∀ c ∈ encL l, 0 ≤ c ∧ c ≤ 255 := by
  intro c hc
  obtain ⟨r, _, hr⟩ := List.mem_flatMap.1 hc
  exact enc_byte r c hr
theorem encL_len (l : List Int) : (encL l).length ≤ 4 * l.length := by
  induction l with
  | nil => simp [encL]
  | cons r l ih =>
    have := (enc_len4 r).2
    show (encZ r ++ encL l).length ≤ _
    simp; omega
theorem wrap8 (r : Int) : IntKind.u8.wrap r = r % 256 := by simp [IntKind.wrap, IntKind.bits, IntKind.signed]
theorem take_snoc_enc (l : List Int) (k : Nat) (hk : k < l.length) : encL (l.take (k + 1)) = encL (l.take k) ++ encZ l[k] := by
  rw [List.take_succ_eq_append_getElem hk, encL_snoc]
theorem valid_sign (r : Int) : Utf8.valid r = signB r := by
  unfold Utf8.valid signB
  rw [Bool.eq_iff_iff]
  simp
  omega
theorem str_app (a b : List Int) : strOfNums (a ++ b) = strOfNums a ++ strOfNums b := by
  apply ByteArray.ext
  simp [strOfNums]
theorem byte_eq {a : Int} {n : Nat} (h : a = (n : Int)) : UInt8.ofNat a.toNat = UInt8.ofNat n := by subst h; rfl
theorem enc_rune (r : Int) : strOfNums (encZ r) = Utf8.encode r := by
  obtain ⟨c, hc, hf⟩ : ∃ c : Nat, (if Utf8.valid r = true then r.toNat else Utf8.runeError) = c ∧ fixZ r = (c : Int) := by
    refine ⟨_, rfl, ?_⟩
    unfold fixZ
    rw [valid_sign]
    split
    · have := sign_in ‹_›; omega
    · rfl
  have e : Utf8.encode r = (if c < 0x80 then ⟨#[UInt8.ofNat c]⟩ else if c < 0x800 then ⟨#[UInt8.ofNat (0xC0 + c / 64), UInt8.ofNat (0x80 + c % 64)]⟩ else if c < 0x10000 then ⟨#[UInt8.ofNat (0xE0 + c / 4096), UInt8.ofNat (0x80 + c / 64 % 64), UInt8.ofNat (0x80 + c % 64)]⟩ else ⟨#[UInt8.ofNat (0xF0 + c / 262144), UInt8.ofNat (0x80 + c / 4096 % 64), UInt8.ofNat (0x80 + c / 64 % 64), UInt8.ofNat (0x80 + c % 64)]⟩ : ByteArray) := by
    unfold Utf8.encode
    rw [hc]
  rw [e]
  unfold encZ tailZ
  rw [hf]
  by_cases h1 : c < 128
  · rw [if_pos (show (c : Int) < 128 by omega), if_pos h1]; rfl
  rw [if_neg (show ¬ (c : Int) < 128 by omega), if_neg h1]
  by_cases h2 : c < 2048
  · rw [if_pos (show (c : Int) < 2048 by omega), if_pos h2]
    unfold strOfNums
    simp only [List.map_cons, List.map_nil]
    rw [byte_eq (show (192 : Int) + (c : Int) / 64 = ((192 + c / 64 : Nat) : Int) by omega), byte_eq (show (128 : Int) + (c : Int) % 64 = ((128 + c % 64 : Nat) : Int) by omega)]
  rw [if_neg (show ¬ (c : Int) < 2048 by omega), if_neg h2]
  by_cases h3 : c < 65536
  · rw [if_pos (show (c : Int) < 65536 by omega), if_pos h3]
    unfold strOfNums
    simp only [List.map_cons, List.map_nil]
    rw [byte_eq (show (224 : Int) + (c : Int) / 4096 = ((224 + c / 4096 : Nat) : Int) by omega), byte_eq (show (128 : Int) + (c : Int) / 64 % 64 = ((128 + c / 64 % 64 : Nat) : Int) by omega), byte_eq (show (128 : Int) + (c : Int) % 64 = ((128 + c % 64 : Nat) : Int) by omega)]
  · rw [if_neg (show ¬ (c : Int) < 65536 by omega), if_neg h3]
    unfold strOfNums
    simp only [List.map_cons, List.map_nil]
    rw [byte_eq (show (240 : Int) + (c : Int) / 262144 = ((240 + c / 262144 : Nat) : Int) by omega), byte_eq (show (128 : Int) + (c : Int) / 4096 % 64 = ((128 + c / 4096 % 64 : Nat) : Int) by omega), byte_eq (show (128 : Int) + (c : Int) / 64 % 64 = ((128 + c / 64 % 64 : Nat) : Int) by omega), byte_eq (show (128 : Int) + (c : Int) % 64 = ((128 + c % 64 : Nat) : Int) by omega)]
theorem fold_runes (l : List Int) : ∀ s : ByteArray, l.foldl (fun r n => r ++ Utf8.encode n) s = s ++ strOfNums (encL l) := by
  induction l with
  | nil =>
    intro s
    show s = s ++ strOfNums []
    apply ByteArray.ext
    simp [strOfNums]
  | cons r l ih =>
    intro s
    rw [List.foldl_cons, ih, show encL (r :: l) = encZ r ++ encL l from List.flatMap_cons, str_app, enc_rune, ByteArray.append_assoc]
theorem runes_enc (l : List Int) : strOfNums (encL l) = runesBytes l := by
  unfold runesBytes
  rw [fold_runes]
  apply ByteArray.ext
  simp

end Go.Proofs.Ytnaiefjbfpejbaa.Um
