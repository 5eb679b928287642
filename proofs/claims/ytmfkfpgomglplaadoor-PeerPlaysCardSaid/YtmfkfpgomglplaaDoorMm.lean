/- What a key is alike to: pure. -/
import Derived.Test.YtmfkfpgomglplaaDoorSha
set_option linter.unusedVariables false
namespace Go.Proofs.YtmfkfpgomglplaaDoor.Mm
open Go Sha

theorem keyL_short (key : List Nat) (h : key.length ≤ 64) : keyL key = key := by unfold keyL; rw [if_neg (by omega)]
theorem keyL_long (key : List Nat) (h : 64 < key.length) : keyL key = sha key := by unfold keyL; rw [if_pos h]
/-- noughts behind a key change nothing, up to 64 bytes. -/
theorem padK_zero (key : List Nat) (n c : Nat) (h : key.length + n ≤ 64) : padK (key ++ List.replicate n 0) c = padK key c := by
  unfold padK
  rw [List.map_append, List.map_replicate, Nat.zero_xor, List.append_assoc, List.length_append, List.length_replicate, List.replicate_append_replicate]
  congr 2; omega
theorem hmac_zero (key l : List Nat) (n : Nat) (h : key.length + n ≤ 64) : hmac (key ++ List.replicate n 0) l = hmac key l := by
  unfold hmac
  rw [keyL_short (key ++ List.replicate n 0) (by simp; omega), keyL_short key (by omega), padK_zero _ _ _ h, padK_zero _ _ _ h]
/-- a long key is its sum. -/
theorem hmac_long (key l : List Nat) (h : 64 < key.length) : hmac (sha key) l = hmac key l := by
  unfold hmac
  rw [keyL_short (sha key) (by rw [sha_len]; omega), keyL_long key h]
/-- the tag. -/
def tagL (key l : List Nat) : List Nat := (hmac key l).take 16
theorem tagL_len (key l : List Nat) : (tagL key l).length = 16 := by simp [tagL, hmac_len]
theorem tagL_lt (key l : List Nat) : ∀ c ∈ tagL key l, c < 256 := fun c hc => hmac_lt key l c (List.mem_of_mem_take hc)
theorem tagL_zero (key l : List Nat) (n : Nat) (h : key.length + n ≤ 64) : tagL (key ++ List.replicate n 0) l = tagL key l := by unfold tagL; rw [hmac_zero _ _ _ h]
theorem tagL_long (key l : List Nat) (h : 64 < key.length) : tagL (sha key) l = tagL key l := by unfold tagL; rw [hmac_long _ _ h]

end Go.Proofs.YtmfkfpgomglplaaDoor.Mm
