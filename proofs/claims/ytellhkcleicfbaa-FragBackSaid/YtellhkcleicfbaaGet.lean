/- Numbers out of bytes (wire.Get): a plain function, and the contract of the code. -/
import Derived.Test.YtellhkcleicfbaaVar
namespace Go.Proofs.Ytellhkcleicfbaa.Get
open Go Go.RowKit Kit Crc Var

/-- reading from the front: the number, how many bytes it has, what went wrong. -/
def getF : List Nat → Nat → Nat → Nat × Nat × Nat
  | [], _, _ => (0, 0, 3)
  | c :: l, i, acc => if i = 9 ∧ 1 < c then (0, 0, 2) else if 128 ≤ c then getF l (i + 1) (acc + c % 128 * 2 ^ (7 * i)) else if c = 0 ∧ 0 < i then (0, 0, 2) else (acc + c * 2 ^ (7 * i), i + 1, 0)
theorem orU {a b k : Nat} (ha : a < 2 ^ k) (hs : a + b * 2 ^ k < 18446744073709551616) : bits .or .u64 (a : Int) ((b * 2 ^ k : Nat) : Int) = ((a + b * 2 ^ k : Nat) : Int) := by
  rw [bits_or_u64_nat a (b * 2 ^ k) (by omega) (by omega)]
  have := Nat.two_pow_add_eq_or_of_lt ha b
  rw [Nat.mul_comm] at this
  rw [Nat.or_comm, ← this, Nat.add_comm]
theorem three (a b c : Int) {x y z : Int} (h : a = x) (g : b = y) (f : c = z) : Ending.returned (.tuple #[.int .u64 a, .int .i64 b, .int .i64 c]) = .returned (.tuple #[.int .u64 x, .int .i64 y, .int .i64 z]) := by rw [h, g, f]
theorem drop_cons {l : List Nat} {k : Nat} (h : k < l.length) : l.drop k = l[k] :: l.drop (k + 1) := List.drop_eq_getElem_cons h

theorem pow_step {acc c i : Nat} (hi : i ≤ 8) (ha : acc < 2 ^ (7 * i)) : acc + c % 128 * 2 ^ (7 * i) < 2 ^ (7 * (i + 1)) ∧ acc + c % 128 * 2 ^ (7 * i) < 18446744073709551616 := by
  have h1 : c % 128 * 2 ^ (7 * i) ≤ 127 * 2 ^ (7 * i) := Nat.mul_le_mul_right _ (by omega)
  have h2 : 2 ^ (7 * (i + 1)) = 128 * 2 ^ (7 * i) := by rw [show 7 * (i + 1) = 7 * i + 7 by omega, Nat.pow_add]; omega
  have h3 : 2 ^ (7 * i) ≤ 2 ^ 56 := Nat.pow_le_pow_right (by decide) (by omega)
  have h4 : (2 : Nat) ^ 56 = 72057594037927936 := by decide
  omega
theorem orStep {acc c i : Nat} (hi : i ≤ 8) (ha : acc < 2 ^ (7 * i)) : bits .or .u64 (acc : Int) (IntKind.u64.wrap ((c : Int) % 128 * 2 ^ (7 * i))) = ((acc + c % 128 * 2 ^ (7 * i) : Nat) : Int) := by
  obtain ⟨_, hs⟩ := pow_step (c := c) hi ha
  have e : IntKind.u64.wrap ((c : Int) % 128 * 2 ^ (7 * i)) = ((c % 128 * 2 ^ (7 * i) : Nat) : Int) := by
    rw [IntKind.wrap_u64]
    have : ((c : Int) % 128 * 2 ^ (7 * i)) = ((c % 128 * 2 ^ (7 * i) : Nat) : Int) := by push_cast; rfl
    rw [this]; omega
  rw [e]; exact orU ha hs
theorem getF_err9 {c : Nat} {l : List Nat} {acc : Nat} (h : 1 < c) : getF (c :: l) 9 acc = (0, 0, 2) := by rw [getF, if_pos ⟨rfl, h⟩]
theorem getF_more {c i : Nat} {l : List Nat} {acc : Nat} (hi : ¬ i = 9) (h : 128 ≤ c) : getF (c :: l) i acc = getF l (i + 1) (acc + c % 128 * 2 ^ (7 * i)) := by
  rw [getF, if_neg (fun x => hi x.1), if_pos h]
theorem getF_zero {i : Nat} {l : List Nat} {acc : Nat} (h : 0 < i) : getF (0 :: l) i acc = (0, 0, 2) := by
  rw [getF, if_neg (by omega), if_neg (by omega), if_pos ⟨rfl, h⟩]
theorem getF_end {c i : Nat} {l : List Nat} {acc : Nat} (h9 : i = 9 → c ≤ 1) (h : c < 128) (h0 : c = 0 → i = 0) : getF (c :: l) i acc = (acc + c * 2 ^ (7 * i), i + 1, 0) := by
  rw [getF, if_neg (by omega), if_neg (by omega), if_neg (by omega)]
/-- what the loop keeps: the number so far, the place. -/
def Rl (R : Nat × Nat × Nat) (l : List Nat) (p : Nat) (s7 s8 : Value) : Prop := ∃ (i acc : Nat), i ≤ 9 ∧ s7 = .int .u64 acc ∧ s8 = .int .i64 i ∧ acc < 2 ^ (7 * i) ∧ R = getF (l.drop (p + i)) i acc
/-- what Get answers at a place within. -/
def end_ (r : Nat × Nat × Nat) (at' : Nat) : Int := if r.2.2 = 0 then (at' : Int) + r.2.1 else 0
set_option maxRecDepth 100000 in
set_option maxHeartbeats 4000000 in
theorem getRow (b off cap : Nat) (l : List Nat) (p : Nat) (w : World) (hl : ∀ c ∈ l, c < 256) (hm : l.length ≤ 9223372036854775000) (hp : p ≤ l.length) (hc : Cells w b off l) :
    Calls Try.prog 43 #[.slice (some ⟨b, off, none⟩) l.length cap, .int .i64 p] w fun e w' =>
      e = .returned (.tuple #[.int .u64 ((getF (l.drop p) 0 0).1 : Int), .int .i64 (end_ (getF (l.drop p) 0 0) p), .int .i64 ((getF (l.drop p) 0 0).2.2 : Int)]) ∧ w = w' := by
  generalize hR : getF (l.drop p) 0 0 = R
  have HR := Lib.hid hR
  clear hR
  go_enter Try.func43, Try.ntmps43
  go_wp2
  go_loop [7, 8] (fun s7 s8 => Rl R l p s7 s8) (fun _ s8 => 10 - (intOf s8).toNat)
  case atStart => exact ⟨0, 0, by omega, rfl, rfl, by decide, HR.out.symm⟩
  case round =>
    obtain ⟨i, acc, hi, rfl, rfl, hacc, hrest⟩ := hrel
    have HS := Lib.hid hrest
    clear hrest HR
    by_cases hlt : p + i < l.length
    · have hcell := hc (p + i) hlt
      have hb := hl l[p + i] (List.getElem_mem hlt)
      have HD := Lib.hid (drop_cons hlt)
      generalize hcv : l[p + i] = c at hb hcell HD
      clear hcv
      by_cases h9 : i = 9
      · subst h9
        by_cases h1 : 1 < c
        · have HE := Lib.hid (show R = (0, 0, 2) from by rw [HS.out, HD.out, getF_err9 h1])
          clear HS HD
          go_wp2
          go_ret3
          exact ⟨three _ _ _ (by rw [HE.out]; rfl) (by rw [HE.out]; rfl) (by rw [HE.out]; rfl), rfl⟩
        · by_cases hc0 : c = 0
          · subst hc0
            have HE := Lib.hid (show R = (0, 0, 2) from by rw [HS.out, HD.out, getF_zero (by omega)])
            clear HS HD
            go_wp2
            go_ret3
            exact ⟨three _ _ _ (by rw [HE.out]; rfl) (by rw [HE.out]; rfl) (by rw [HE.out]; rfl), rfl⟩
          · obtain rfl : c = 1 := by omega
            have HE := Lib.hid (show R = (acc + 1 * 2 ^ (7 * 9), 10, 0) from by rw [HS.out, HD.out, getF_end (by omega) (by omega) (by omega)])
            have HA := Lib.hid hacc
            clear HS HD hacc
            go_wp2
            go_ret3
            refine ⟨three _ _ _ ?_ (by rw [HE.out, end_, if_pos rfl]; simp; omega) (by rw [HE.out]; rfl), rfl⟩
            rw [HE.out]
            have hA : acc < 2 ^ 63 := HA.out
            exact orU (b := 1) hA (by omega)
      · have hi8 : i ≤ 8 := by omega
        have eS := orStep (c := c) hi8 hacc
        by_cases hm8 : 128 ≤ c
        · have HP := Lib.hid (pow_step (c := c) hi8 hacc)
          have HE := Lib.hid (show R = getF (l.drop (p + i + 1)) (i + 1) (acc + c % 128 * 2 ^ (7 * i)) from by rw [HS.out, HD.out, getF_more h9 hm8])
          have hm8' : (128 : Int) ≤ (c : Int) := by omega
          clear HS HD
          generalize acc + c % 128 * 2 ^ (7 * i) = acc' at eS HP HE
          go_wp2
          refine ⟨⟨_, _, _, _, _, ⟨i + 1, acc', by omega, rfl, by go_num, HP.out.1, HE.out⟩, rfl, rfl, rfl, rfl, rfl⟩, ?_⟩
          simp only [intOf]; omega
        · by_cases hc0 : c = 0
          · subst hc0
            by_cases hi0 : 0 < i
            · have HE := Lib.hid (show R = (0, 0, 2) from by rw [HS.out, HD.out, getF_zero hi0])
              clear HS HD
              go_wp2
              go_ret3
              exact ⟨three _ _ _ (by rw [HE.out]; rfl) (by rw [HE.out]; rfl) (by rw [HE.out]; rfl), rfl⟩
            · obtain rfl : i = 0 := by omega
              obtain rfl : acc = 0 := by omega
              have HE := Lib.hid (show R = (0, 1, 0) from by rw [HS.out, HD.out, getF_end (by omega) (by omega) (by omega)])
              have hcell0 : w.cell? ⟨b, off + p, none⟩ = some (.int .u8 0) := hcell
              have hlt0 : p < l.length := hlt
              have e00 : bits .or .u64 0 0 = 0 := by decide
              clear HS HD eS hcell hlt
              go_wp2
              go_ret3
              exact ⟨three _ _ _ (by rw [HE.out]; decide) (by rw [HE.out, end_, if_pos rfl]; simp) (by rw [HE.out]; rfl), rfl⟩
          · have HE := Lib.hid (show R = (acc + c * 2 ^ (7 * i), i + 1, 0) from by rw [HS.out, HD.out, getF_end (by omega) (by omega) (by omega)])
            have hc128 : c % 128 = c := by omega
            rw [hc128] at eS
            have hcne : ((c : Int) == 0) = false := by simp; omega
            clear HS HD hc128
            generalize acc + c * 2 ^ (7 * i) = acc' at eS HE
            go_wp2
            go_ret3
            exact ⟨three _ _ _ (by rw [HE.out]) (by rw [HE.out, end_, if_pos rfl]; simp; omega) (by rw [HE.out]; rfl), rfl⟩
    · have hd : l.drop (p + i) = [] := List.drop_eq_nil_of_le (by omega)
      have HE := Lib.hid (show R = (0, 0, 3) from by rw [HS.out, hd]; rfl)
      clear hd HS
      go_wp2
      go_ret3
      exact ⟨three _ _ _ (by rw [HE.out]; rfl) (by rw [HE.out]; rfl) (by rw [HE.out]; rfl), rfl⟩
end Go.Proofs.Ytellhkcleicfbaa.Get
