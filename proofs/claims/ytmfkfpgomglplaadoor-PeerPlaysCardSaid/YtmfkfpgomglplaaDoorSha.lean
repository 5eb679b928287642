/- SHA-256 and HMAC as plain functions over lists of bytes. -/
import Derived.Laws.BitsAllLaws
namespace Go.Proofs.YtmfkfpgomglplaaDoor.Sha
open Go

/-- a word turned right by n. -/
def turnW (x : Int) (n : Nat) : Int := bits .or .u32 (x * 2 ^ (32 - n) % 4294967296) (x / 2 ^ n)
def xo (a b : Int) : Int := bits .xor .u32 a b
def an (a b : Int) : Int := bits .and .u32 a b
def no (a : Int) : Int := bits .xor .u32 IntKind.u32.max a
def sig (x : Int) (a b c : Nat) : Int := xo (xo (turnW x a) (turnW x b)) (turnW x c)
def sis (x : Int) (a b c : Nat) : Int := xo (xo (turnW x a) (turnW x b)) (x / 2 ^ c)
/-- the next word of a schedule. -/
def nw (a x c y : Int) : Int := (a + sis x 7 18 3 + c + sis y 17 19 10) % 4294967296
/-- the state of eight words. -/
structure St where
  (a b c d e f g h : Int)
deriving DecidableEq
def t1 (s : St) (k w : Int) : Int := (s.h + sig s.e 6 11 25 + xo (an s.e s.f) (an (no s.e) s.g) + k + w) % 4294967296
def t2 (s : St) : Int := (sig s.a 2 13 22 + xo (xo (an s.a s.b) (an s.a s.c)) (an s.b s.c)) % 4294967296
def rnd (s : St) (k w : Int) : St := ⟨(t1 s k w + t2 s) % 4294967296, s.a, s.b, s.c, (s.d + t1 s k w) % 4294967296, s.e, s.f, s.g⟩
def kL : List Int := [
    0x428A2F98, 0x71374491, 0xB5C0FBCF, 0xE9B5DBA5, 0x3956C25B, 0x59F111F1, 0x923F82A4, 0xAB1C5ED5,
    0xD807AA98, 0x12835B01, 0x243185BE, 0x550C7DC3, 0x72BE5D74, 0x80DEB1FE, 0x9BDC06A7, 0xC19BF174,
    0xE49B69C1, 0xEFBE4786, 0x0FC19DC6, 0x240CA1CC, 0x2DE92C6F, 0x4A7484AA, 0x5CB0A9DC, 0x76F988DA,
    0x983E5152, 0xA831C66D, 0xB00327C8, 0xBF597FC7, 0xC6E00BF3, 0xD5A79147, 0x06CA6351, 0x14292967,
    0x27B70A85, 0x2E1B2138, 0x4D2C6DFC, 0x53380D13, 0x650A7354, 0x766A0ABB, 0x81C2C92E, 0x92722C85,
    0xA2BFE8A1, 0xA81A664B, 0xC24B8B70, 0xC76C51A3, 0xD192E819, 0xD6990624, 0xF40E3585, 0x106AA070,
    0x19A4C116, 0x1E376C08, 0x2748774C, 0x34B0BCB5, 0x391C0CB3, 0x4ED8AA4A, 0x5B9CCA4F, 0x682E6FF3,
    0x748F82EE, 0x78A5636F, 0x84C87814, 0x8CC70208, 0x90BEFFFA, 0xA4506CEB, 0xBEF9A3F7, 0xC67178F2]
def kAt (i : Nat) : Int := kL.getD i 0
/-- four bytes as a word. -/
def fw (m : List Nat) (i : Nat) : Int := ((((m.getD (4 * i) 0 * 256 + m.getD (4 * i + 1) 0) * 256 + m.getD (4 * i + 2) 0) * 256 + m.getD (4 * i + 3) 0 : Nat) : Int)
def slide (l : List Int) : List Int := l.tail ++ [nw (l.getD 0 0) (l.getD 1 0) (l.getD 9 0) (l.getD 14 0)]
def win (m : List Nat) : Nat → List Int
  | 0 => (List.range 16).map (fw m)
  | k + 1 => slide (win m k)
/-- the k-th word of a block's schedule. -/
def wd (m : List Nat) (k : Nat) : Int := (win m k).getD 0 0
def rnds (m : List Nat) (s : St) : Nat → St
  | 0 => s
  | i + 1 => rnd (rnds m s i) (kAt i) (wd m i)
def addS (s t : St) : St := ⟨(s.a + t.a) % 4294967296, (s.b + t.b) % 4294967296, (s.c + t.c) % 4294967296, (s.d + t.d) % 4294967296, (s.e + t.e) % 4294967296, (s.f + t.f) % 4294967296, (s.g + t.g) % 4294967296, (s.h + t.h) % 4294967296⟩
/-- a block taken in. -/
def mixS (s : St) (m : List Nat) : St := addS s (rnds m s 64)
def st0 : St := ⟨0x6A09E667, 0xBB67AE85, 0x3C6EF372, 0xA54FF53A, 0x510E527F, 0x9B05688C, 0x1F83D9AB, 0x5BE0CD19⟩
def blk (m : List Nat) (i : Nat) : List Nat := (m.drop (64 * i)).take 64
def takes (m : List Nat) (s : St) : Nat → St
  | 0 => s
  | i + 1 => mixS (takes m s i) (blk m i)
def be4 (n : Nat) : List Nat := [n / 16777216 % 256, n / 65536 % 256, n / 256 % 256, n % 256]
def be8 (n : Nat) : List Nat := be4 (n / 4294967296) ++ be4 n
/-- how many noughts. -/
def gap (n : Nat) : Nat := (119 - n % 64) % 64
def padL (n : Nat) : List Nat := 128 :: List.replicate (gap n) 0 ++ be8 (8 * n)
def outS (s : St) : List Nat := be4 s.a.toNat ++ be4 s.b.toNat ++ be4 s.c.toNat ++ be4 s.d.toNat ++ be4 s.e.toNat ++ be4 s.f.toNat ++ be4 s.g.toNat ++ be4 s.h.toNat
def msg (l : List Nat) : List Nat := l ++ padL l.length
/-- the sum of bytes. -/
def sha (l : List Nat) : List Nat := outS (takes (msg l) st0 ((msg l).length / 64))
def padK (key : List Nat) (c : Nat) : List Nat := (key.map (fun x => x ^^^ c)) ++ List.replicate (64 - key.length) c
def keyL (key : List Nat) : List Nat := if 64 < key.length then sha key else key
def hmac (key l : List Nat) : List Nat := sha (padK (keyL key) 92 ++ sha (padK (keyL key) 54 ++ l))
theorem win_len (m : List Nat) (k : Nat) : (win m k).length = 16 := by
  induction k with
  | zero => simp [win]
  | succ k ih => simp [win, slide, ih]
theorem win_at (m : List Nat) (j : Nat) : ∀ k, j < 16 → (win m k).getD j 0 = wd m (k + j) := by
  induction j with
  | zero => intro k _; rfl
  | succ j ih =>
    intro k hj
    have hl := win_len m k
    have e : (win m (k + 1)).getD j 0 = (win m k).getD (j + 1) 0 := by
      show (slide (win m k)).getD j 0 = _
      unfold slide
      rw [List.getD_eq_getElem?_getD, List.getD_eq_getElem?_getD, List.getElem?_append_left (by simp; omega), List.getElem?_tail, ← List.getD_eq_getElem?_getD]
    rw [← e, ih (k + 1) (by omega)]
    congr 1; omega
theorem wd_hi (m : List Nat) (k : Nat) : wd m (k + 16) = nw (wd m k) (wd m (k + 1)) (wd m (k + 9)) (wd m (k + 14)) := by
  have hl := win_len m k
  have e : (win m (k + 1)).getD 15 0 = nw ((win m k).getD 0 0) ((win m k).getD 1 0) ((win m k).getD 9 0) ((win m k).getD 14 0) := by
    show (slide (win m k)).getD 15 0 = _
    unfold slide
    rw [List.getD_eq_getElem?_getD, List.getElem?_append_right (by simp; omega)]
    simp [hl]
  rw [win_at m 15 (k + 1) (by omega), win_at m 0 k (by omega), win_at m 1 k (by omega), win_at m 9 k (by omega), win_at m 14 k (by omega)] at e
  rw [show k + 16 = k + 1 + 15 by omega, e]; rfl
theorem wd_lo (m : List Nat) (i : Nat) (h : i < 16) : wd m i = fw m i := by
  have := win_at m i 0 h
  rw [Nat.zero_add] at this
  rw [← this]
  show ((List.range 16).map (fw m)).getD i 0 = _
  rw [List.getD_eq_getElem?_getD]
  simp [h]
theorem be4_len (n : Nat) : (be4 n).length = 4 := rfl
theorem be4_lt (n : Nat) : ∀ c ∈ be4 n, c < 256 := by intro c hc; simp [be4] at hc; omega
theorem be8_len (n : Nat) : (be8 n).length = 8 := rfl
theorem be8_lt (n : Nat) : ∀ c ∈ be8 n, c < 256 := by
  intro c hc
  rcases List.mem_append.1 hc with h | h
  · exact be4_lt _ c h
  · exact be4_lt _ c h
theorem outS_len (s : St) : (outS s).length = 32 := rfl
theorem outS_lt (s : St) : ∀ c ∈ outS s, c < 256 := by
  intro c hc
  simp only [outS, List.mem_append] at hc
  rcases hc with ((((((h | h) | h) | h) | h) | h) | h) | h <;> exact be4_lt _ c h
theorem sha_len (l : List Nat) : (sha l).length = 32 := outS_len _
theorem sha_lt (l : List Nat) : ∀ c ∈ sha l, c < 256 := outS_lt _
theorem padL_len (n : Nat) : (padL n).length = 1 + gap n + 8 := by simp [padL, be8_len]; omega
theorem gap_is (n j : Nat) (h : j ≤ gap n) : (n + 1 + j) % 64 = 56 ↔ j = gap n := by unfold gap at *; omega
theorem gap_lt (n : Nat) : gap n < 64 := by unfold gap; omega
theorem gap_mod (n m : Nat) (h : n % 64 = m % 64) : gap n = gap m := by unfold gap; rw [h]
theorem msg_len (l : List Nat) : (msg l).length = l.length + 1 + gap l.length + 8 := by simp [msg, padL_len]; omega
theorem msg_mod (l : List Nat) : (msg l).length % 64 = 0 := by
  rw [msg_len]; have := (gap_is l.length (gap l.length) (Nat.le_refl _)).2 rfl; omega
theorem msg_lt (l : List Nat) (h : ∀ c ∈ l, c < 256) : ∀ c ∈ msg l, c < 256 := by
  intro c hc
  simp only [msg, padL, List.mem_append, List.mem_cons] at hc
  rcases hc with hc | (hc | hc) | hc
  · exact h c hc
  · omega
  · have := (List.mem_replicate.1 hc).2; omega
  · exact be8_lt _ c hc
theorem blk_len (m : List Nat) (i : Nat) (h : 64 * i + 64 ≤ m.length) : (blk m i).length = 64 := by simp [blk]; omega
theorem blk_left (x y : List Nat) (n i : Nat) (hx : x.length = 64 * n) (h : i < n) : blk (x ++ y) i = blk x i := by
  unfold blk
  rw [List.drop_append_of_le_length (by omega), List.take_append_of_le_length (by simp; omega)]
theorem blk_right (x y : List Nat) (n i : Nat) (hx : x.length = 64 * n) : blk (x ++ y) (n + i) = blk y i := by
  unfold blk
  rw [show 64 * (n + i) = x.length + 64 * i by omega, ← List.drop_drop, List.drop_left]
theorem takes_left (x y : List Nat) (s : St) (n k : Nat) (hx : x.length = 64 * n) (h : k ≤ n) : takes (x ++ y) s k = takes x s k := by
  induction k with
  | zero => rfl
  | succ k ih => rw [takes, takes, ih (by omega), blk_left x y n k hx (by omega)]
theorem takes_app (x y : List Nat) (s : St) (n k : Nat) (hx : x.length = 64 * n) : takes (x ++ y) s (n + k) = takes y (takes x s n) k := by
  induction k with
  | zero => exact takes_left x y s n n hx (Nat.le_refl _)
  | succ k ih => rw [show n + (k + 1) = n + k + 1 by omega, takes, takes, ih, blk_right x y n k hx]
/-- the sum in two goes: the whole blocks, then the rest with its padding. -/
theorem sha_two (l : List Nat) : sha l = outS (takes (l.drop (64 * (l.length / 64)) ++ padL l.length) (takes l st0 (l.length / 64)) ((l.drop (64 * (l.length / 64)) ++ padL l.length).length / 64)) := by
  have hx : (l.take (64 * (l.length / 64))).length = 64 * (l.length / 64) := by simp; omega
  have e : msg l = l.take (64 * (l.length / 64)) ++ (l.drop (64 * (l.length / 64)) ++ padL l.length) := by
    rw [← List.append_assoc, List.take_append_drop]; rfl
  have h1 : takes l st0 (l.length / 64) = takes (l.take (64 * (l.length / 64))) st0 (l.length / 64) := by
    have := takes_left (l.take (64 * (l.length / 64))) (l.drop (64 * (l.length / 64))) st0 (l.length / 64) (l.length / 64) hx (Nat.le_refl _)
    rwa [List.take_append_drop] at this
  unfold sha
  rw [h1, ← takes_app _ _ _ _ _ hx, ← e]
  congr 2
  have h2 := congrArg List.length e
  rw [List.length_append, hx] at h2
  omega
theorem padK_len (key : List Nat) (c : Nat) (h : key.length ≤ 64) : (padK key c).length = 64 := by simp [padK]; omega
theorem keyL_len (key : List Nat) : (keyL key).length ≤ 64 := by
  unfold keyL; split
  · rw [sha_len]; omega
  · omega
theorem keyL_lt (key : List Nat) (h : ∀ c ∈ key, c < 256) : ∀ c ∈ keyL key, c < 256 := by
  unfold keyL; split
  · exact sha_lt key
  · exact h
theorem padK_lt (key : List Nat) (c : Nat) (h : ∀ x ∈ key, x < 256) (hc : c < 256) : ∀ x ∈ padK key c, x < 256 := by
  intro x hx
  rcases List.mem_append.1 hx with hx | hx
  · obtain ⟨y, hy, rfl⟩ := List.mem_map.1 hx
    exact Nat.xor_lt_two_pow (n := 8) (h y hy) hc
  · have := (List.mem_replicate.1 hx).2; omega
theorem hmac_len (key l : List Nat) : (hmac key l).length = 32 := sha_len _
theorem hmac_lt (key l : List Nat) : ∀ c ∈ hmac key l, c < 256 := sha_lt _

end Go.Proofs.YtmfkfpgomglplaaDoor.Sha
