/- WireFronts: plain facts, wire.Get at whatever place, and the walk of the law. -/
import Derived.Test.YtlhapnnepcnfbabDoorArgB
import Derived.Test.YtlhapnnepcnfbabDoorCopy
import Derived.Deep.CutRange
set_option linter.unusedVariables false
namespace Go.Proofs.YtlhapnnepcnfbabDoor.Fronts
open Go Go.RowKit Kit Crc Var Get Bytes WireFirst Copy

theorem pow7 (i : Nat) : 2 ^ (7 * (i + 1)) = 128 * 2 ^ (7 * i) := by rw [show 7 * (i + 1) = 7 * i + 7 by omega, Nat.pow_add]; omega
theorem pow64 {i : Nat} (h : i ≤ 8) : 2 ^ (64 - 7 * i) = 128 * 2 ^ (64 - 7 * (i + 1)) := by rw [show 64 - 7 * i = 64 - 7 * (i + 1) + 7 by omega, Nat.pow_add]; omega
theorem not9 {n i : Nat} (hi : i ≤ 9) (h : n < 2 ^ (64 - 7 * i)) (hn : 128 ≤ n) : i ≤ 8 := by
  rcases Nat.lt_or_ge i 9 with h1 | h1
  · omega
  · obtain rfl : i = 9 := by omega
    have : (2 : Nat) ^ (64 - 7 * 9) = 2 := by decide
    omega
theorem getF_app (r : List Nat) : ∀ (k n : Nat), n ≤ k → ∀ (i acc : Nat), i ≤ 9 → n < 2 ^ (64 - 7 * i) → (n = 0 → i = 0) → getF (varL n ++ r) i acc = (acc + n * 2 ^ (7 * i), i + (varL n).length, 0) := by
  intro k
  induction k with
  | zero =>
    intro n hn i acc hi h h0
    obtain rfl : n = 0 := by omega
    obtain rfl : i = 0 := h0 rfl
    rw [varL_small (by omega), List.cons_append, getF_end (by omega) (by omega) (by omega)]; simp
  | succ k ih =>
    intro n hn i acc hi h h0
    by_cases hs : n < 128
    · rw [varL_small hs, List.cons_append, getF_end (fun e => by subst e; have : (2 : Nat) ^ (64 - 7 * 9) = 2 := by decide
                                                                 omega) hs h0]; simp
    · have hi8 := not9 hi h (by omega)
      have hp := pow64 hi8
      rw [varL_more hs, List.cons_append, getF_more (by omega) (by omega), ih (n / 128) (by omega) (i + 1) _ (by omega) (by omega) (by omega), pow7]
      have e : n * 2 ^ (7 * i) = (n % 128 + 128 * (n / 128)) * 2 ^ (7 * i) := by rw [Nat.mod_add_div]
      rw [e, Nat.add_mul]
      have e2 : (n % 128 + 128) % 128 = n % 128 := by omega
      have e3 : n / 128 * (128 * 2 ^ (7 * i)) = 128 * (n / 128) * 2 ^ (7 * i) := by rw [← Nat.mul_assoc, Nat.mul_comm (n / 128) 128]
      rw [e2, e3]
      simp only [List.length_cons]
      rw [Nat.add_assoc]
      congr 2
      omega
/-- the last byte of a number's text; with its top bit and a nought behind it is none. -/
theorem varL_split : ∀ (k n : Nat), n ≤ k → ∃ p x, varL n = p ++ [x] ∧ x < 128 ∧ ∀ i acc, i ≤ 9 → n < 2 ^ (64 - 7 * i) → getF (p ++ [x + 128, 0]) i acc = (0, 0, 2) := by
  have small : ∀ n, n < 128 → ∃ p x, varL n = p ++ [x] ∧ x < 128 ∧ ∀ i acc, i ≤ 9 → n < 2 ^ (64 - 7 * i) → getF (p ++ [x + 128, 0]) i acc = (0, 0, 2) := by
    intro n hn
    refine ⟨[], n, by rw [varL_small hn]; rfl, hn, fun i acc hi h => ?_⟩
    by_cases h9 : i = 9
    · subst h9; exact getF_err9 (by omega)
    · show getF ((n + 128) :: [0]) i acc = _
      rw [getF_more h9 (by omega), getF_zero (by omega)]
  intro k
  induction k with
  | zero => intro n hn; exact small n (by omega)
  | succ k ih =>
    intro n hn
    by_cases hs : n < 128
    · exact small n hs
    · obtain ⟨p, x, e, hx, hg⟩ := ih (n / 128) (by omega)
      refine ⟨(n % 128 + 128) :: p, x, by rw [varL_more hs, e]; rfl, hx, fun i acc hi h => ?_⟩
      have hi8 := not9 hi h (by omega)
      have hp := pow64 hi8
      rw [List.cons_append, getF_more (by omega) (by omega)]
      exact hg _ _ (by omega) (by omega)
/-- what Get answers, whatever the place. -/
def getA (l : List Nat) (p : Int) : Int × Int × Int :=
  if p < 0 ∨ (l.length : Int) < p then (0, 0, 1) else (((getF (l.drop p.toNat) 0 0).1 : Int), end_ (getF (l.drop p.toNat) 0 0) p.toNat, ((getF (l.drop p.toNat) 0 0).2.2 : Int))
def GetP (l : List Nat) (p : Int) (w : World) (e : Ending) (w' : World) : Prop :=
  e = .returned (.tuple #[.int .u64 (getA l p).1, .int .i64 (getA l p).2.1, .int .i64 (getA l p).2.2]) ∧ w = w'
theorem getA_front (la lb : List Nat) (n : Nat) (h : n < 18446744073709551616) : getA (la ++ varL n ++ lb) (la.length : Nat) = ((n : Int), ((la.length : Int) + ((varL n).length : Nat)), 0) := by
  have e : (la ++ varL n ++ lb).drop la.length = varL n ++ lb := by rw [List.append_assoc, List.drop_left]
  have g := getF_app lb n n (Nat.le_refl _) 0 0 (by omega) (by simpa using h) (fun _ => rfl)
  rw [getA, if_neg (by simp; omega)]
  simp only [Int.toNat_natCast, e, g]
  simp [end_]
theorem getA_none (l : List Nat) (p : Int) (h : p < 0 ∨ (l.length : Int) < p) : getA l p = (0, 0, 1) := by rw [getA, if_pos h]
theorem getA_long (l : List Nat) (h : getF l 0 0 = (0, 0, 2)) : getA l 0 = (0, 0, 2) := by
  rw [getA, if_neg (by omega)]
  simp only [Int.toNat_zero, List.drop_zero, h]
  simp [end_]
set_option maxRecDepth 100000 in
theorem outG (a : Option Addr) (n cap : Nat) (p : Int) (w : World) (hm : n ≤ 9223372036854775000) (h : p < 0 ∨ (n : Int) < p) :
    Calls Tryd.prog 11 #[.slice a n cap, .int .i64 p] w fun e w' => e = .returned (.tuple #[.int .u64 0, .int .i64 0, .int .i64 1]) ∧ w = w' := by
  go_enter Tryd.func11, Tryd.ntmps11
  rcases h with h | h
  · go_wp2
    go_ret3
    exact ⟨rfl, rfl⟩
  · have h0 : ¬ p < 0 := by omega
    go_wp2
    go_ret3
    exact ⟨rfl, rfl⟩
set_option maxRecDepth 100000 in
theorem emptyG (a : Option Addr) (cap : Nat) (w : World) :
    Calls Tryd.prog 11 #[.slice a 0 cap, .int .i64 0] w fun e w' => e = .returned (.tuple #[.int .u64 0, .int .i64 0, .int .i64 3]) ∧ w = w' := by
  go_enter Tryd.func11, Tryd.ntmps11
  go_wp2
  refine wp_loop_rounds 1 ?_
  rw [rounds_succ]
  go_wp2
  go_ret3
  exact ⟨rfl, rfl⟩
theorem getG (a : Option Addr) (cap : Nat) (l : List Nat) (p : Int) (w : World) (hl : ∀ c ∈ l, c < 256) (hm : l.length ≤ 9223372036854775000) (hc : Sl w a l) :
    Calls Tryd.prog 11 #[.slice a l.length cap, .int .i64 p] w (GetP l p w) := by
  by_cases hp : p < 0 ∨ (l.length : Int) < p
  · have e : getA l p = (0, 0, 1) := by rw [getA, if_pos hp]
    unfold GetP; rw [e]
    exact outG a l.length cap p w hm hp
  · obtain ⟨q, rfl⟩ := Int.eq_ofNat_of_zero_le (a := p) (by omega)
    have e : getA l q = (((getF (l.drop q) 0 0).1 : Int), end_ (getF (l.drop q) 0 0) q, ((getF (l.drop q) 0 0).2.2 : Int)) := by rw [getA, if_neg hp]; rfl
    unfold GetP; rw [e]
    rcases hc with rfl | ⟨b, off, rfl, hc⟩
    · obtain rfl : q = 0 := by simp at hp; omega
      exact emptyG a cap w
    · exact getRow b off cap l q w hl hm (by omega) hc
theorem copyC (a : Option Addr) (cap : Nat) (l : List Nat) (w : World) (hm : l.length ≤ 1000000) (hc : Sl w a l) (h0 : a = none → cap = 0) : Calls Tryd.prog 10 #[.slice a l.length cap] w (Cp l w) := by
  rcases hc with rfl | ⟨b, off, rfl, hc⟩
  · cases a with
    | none => obtain rfl := h0 rfl; exact copyNil w
    | some x => exact copyEmpty x cap w
  · exact copyRow b off cap l w hm hc
theorem sl_cells {w : World} {x : Addr} {l : List Nat} (h : Sl w (some x) l) : ∀ j u, (cellsOf l)[j]? = some u → w.cell? (x.add j) = some u := by
  intro j u hu
  rcases h with rfl | ⟨b, off, e, h⟩
  · simp [cellsOf] at hu
  · injection e with e; subst e; exact cellsOf_at h j u hu
theorem cellsOf_app (l m : List Nat) : cellsOf l ++ cellsOf m = cellsOf (l ++ m) := by simp [cellsOf]
theorem own_set {w : World} {base e n g cap k : Nat} {u : Value} {xs : List Value} (h : w.ownsRow base e 1 (.slice (some ⟨g, 0, none⟩) n cap) n xs) : (w.setCell ⟨g, k, none⟩ u).ownsRow base e 1 (.slice (some ⟨g, 0, none⟩) n cap) n (xs.set k u) := by
  refine ⟨by simpa using h.1, ?_⟩
  rcases h.2 with ⟨hv, _⟩ | ⟨g', cap', cur, hv, hb, hg, hnc, hmx, hcs, htake⟩
  · cases hv
  · injection hv with h1 h2 h3
    injection h1 with h1
    injection h1 with h1
    subst h1 h3
    exact .inr ⟨g, cap, cur.setIfInBounds k u, rfl, hb, by simp [World.setCell, Array.getElem?_modify, hg], hnc, hmx, by simpa using hcs, by rw [← htake]; simp [List.take_set]⟩
end Go.Proofs.YtlhapnnepcnfbabDoor.Fronts
