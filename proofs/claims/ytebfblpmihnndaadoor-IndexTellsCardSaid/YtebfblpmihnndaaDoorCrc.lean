/- The sum of bytes (wire.Crc): a plain function, and the contract of the code's loop. -/
import Derived.Test.YtebfblpmihnndaaDoorKit
import Derived.LoopTactic
import Derived.Laws.BitsAllLaws
import Derived.Lib.LaidTab
import Derived.Outline
namespace Go.Proofs.YtebfblpmihnndaaDoor.Crc
open Go Go.RowKit Kit

def tabL : List Nat := [0, 498536548, 997073096, 651767980, 1994146192, 1802195444, 1303535960, 1342533948, 3988292384, 4027552580, 3604390888, 3412177804, 2607071920, 2262029012, 2685067896, 3183342108]
def tabAt (i : Nat) : Nat := tabL.getD i 0
def half (s : Nat) : Nat := (s / 16) ^^^ tabAt (s % 16)
def crcByte (s c : Nat) : Nat := half (half (s ^^^ c))
def run (l : List Nat) (s : Nat) : Nat := l.foldl crcByte s
def crc (l : List Nat) : Nat := 4294967295 ^^^ run l 4294967295

theorem tabAt_lt (i : Nat) : tabAt i < 4294967296 := by
  unfold tabAt
  rw [List.getD_eq_getElem?_getD]
  cases h : tabL[i]? with
  | none => decide
  | some v =>
    have hm := List.mem_of_getElem? h
    have : ∀ v ∈ tabL, v < 4294967296 := by decide
    exact this v hm
theorem half_lt {s : Nat} (h : s < 4294967296) : half s < 4294967296 := by
  unfold half
  exact Nat.xor_lt_two_pow (n := 32) (by omega) (tabAt_lt _)
theorem crcByte_lt {s c : Nat} (h : s < 4294967296) (hc : c < 256) : crcByte s c < 4294967296 :=
  half_lt (half_lt (Nat.xor_lt_two_pow (n := 32) h (by omega)))
theorem run_lt {l : List Nat} (hl : ∀ c ∈ l, c < 256) {s : Nat} (h : s < 4294967296) : run l s < 4294967296 := by
  induction l generalizing s with
  | nil => exact h
  | cons c l ih => exact ih (fun x hx => hl x (List.mem_cons_of_mem _ hx)) (crcByte_lt h (hl c (List.mem_cons_self ..)))
theorem run_snoc (l : List Nat) (s : Nat) (k : Nat) (h : k < l.length) : run (l.take (k + 1)) s = crcByte (run (l.take k) s) l[k] := by
  unfold run; rw [List.take_succ_eq_append_getElem h, List.foldl_append]; rfl

/-- the bytes of a slice's elements. -/
def Cells (w : World) (b off : Nat) (l : List Nat) : Prop := ∀ i, (h : i < l.length) → w.cell? ⟨b, off + i, none⟩ = some (.int .u8 ((l[i] : Nat) : Int))
/-- the sixteen numbers of the table. -/
def TabC (w : World) : Prop := ∀ i, i < 16 → w.cell? ⟨0, i, none⟩ = some (.int .u32 ((tabAt i : Nat) : Int))

theorem xorU {a b : Nat} (ha : a < 4294967296) (hb : b < 4294967296) : bits .xor .u32 (a : Int) (b : Int) = ((a ^^^ b : Nat) : Int) := u32_xor_nat a b ha hb
theorem and15 {a : Nat} (ha : a < 4294967296) : bits .and .u32 (a : Int) 15 = ((a % 16 : Nat) : Int) := by
  have := u32_and_nat a 15 ha (by decide)
  rw [show ((15 : Nat) : Int) = 15 from rfl] at this
  rw [this, show (15 : Nat) = 2 ^ 4 - 1 from rfl, Nat.and_two_pow_sub_one_eq_mod]
theorem halfU {a : Nat} (ha : a < 4294967296) : bits .xor .u32 ((a : Int) / 16) ((tabAt (a % 16) : Nat) : Int) = ((half a : Nat) : Int) := by
  have := xorU (a := a / 16) (b := tabAt (a % 16)) (by omega) (tabAt_lt _)
  rw [show ((a / 16 : Nat) : Int) = (a : Int) / 16 from by omega] at this
  rw [this]; rfl

set_option maxRecDepth 100000 in
theorem crcRow (b off cap : Nat) (l : List Nat) (w : World) (hl : ∀ c ∈ l, c < 256) (hm : l.length ≤ 9223372036854775807) (hc : Cells w b off l) (hT : TabC w) :
    Calls Tryd.prog 17 #[.slice (some ⟨b, off, none⟩) l.length cap] w fun e w' => e = .returned (.int .u32 ((crc l : Nat) : Int)) ∧ w = w' := by
  go_enter Tryd.func17, Tryd.ntmps17
  go_wp2
  go_loop [3, 8] (fun s i => ∃ k : Nat, k ≤ l.length ∧ i = .int .i64 k ∧ s = .int .u32 ((run (l.take k) 4294967295 : Nat) : Int)) (fun _ i => l.length - (intOf i).toNat)
  case atStart => exact ⟨0, Nat.zero_le _, rfl, rfl⟩
  case round =>
    obtain ⟨k, hk, rfl, rfl⟩ := hrel
    have hS := run_lt (l := l.take k) (fun c h => hl c (List.mem_of_mem_take h)) (s := 4294967295) (by decide)
    by_cases hlt : k < l.length
    · have hcell := hc k hlt
      have hb := hl l[k] (List.getElem_mem hlt)
      have hsn := Lib.hid (run_snoc l 4294967295 k hlt)
      generalize hs : run (l.take k) 4294967295 = S at hS ⊢ hsn
      generalize hcv : l[k] = c at hb hcell hsn
      obtain ⟨X, hX⟩ : ∃ X, X = S ^^^ c := ⟨_, rfl⟩
      obtain ⟨Y, hY⟩ : ∃ Y, Y = half X := ⟨_, rfl⟩
      obtain ⟨Z, hZ⟩ : ∃ Z, Z = half Y := ⟨_, rfl⟩
      obtain ⟨i, hi⟩ : ∃ i, i = X % 16 := ⟨_, rfl⟩
      obtain ⟨j, hj⟩ : ∃ j, j = Y % 16 := ⟨_, rfl⟩
      have lX : X < 4294967296 := by rw [hX]; exact Nat.xor_lt_two_pow (n := 32) hS (by omega)
      have lY : Y < 4294967296 := by rw [hY]; exact half_lt lX
      have e0 : (c : Int) % 4294967296 = c := by omega
      have e1 : bits .xor .u32 (S : Int) (c : Int) = (X : Int) := by rw [hX]; exact xorU hS (by omega)
      have e2 : bits .and .u32 (X : Int) 15 = (i : Int) := by rw [hi]; exact and15 lX
      have e3 : bits .xor .u32 ((X : Int) / 16) ((tabAt i : Nat) : Int) = (Y : Int) := by rw [hi, hY]; exact halfU lX
      have e4 : bits .and .u32 (Y : Int) 15 = (j : Int) := by rw [hj]; exact and15 lY
      have e5 : bits .xor .u32 ((Y : Int) / 16) ((tabAt j : Nat) : Int) = (Z : Int) := by rw [hj, hZ]; exact halfU lY
      have ti := hT i (by omega)
      have tj := hT j (by omega)
      have bi : (i : Int) < 16 := by omega
      have bj : (j : Int) < 16 := by omega
      have fin : Hid (Z = run (l.take (k + 1)) 4294967295) := by rw [hsn.out, hZ, hY, hX]; rfl
      clear hX hY hZ hi hj hsn hs hcv lX lY
      go_wp2
      go_round
      case rel => exact ⟨k + 1, by omega, by go_num, by rw [fin.out]⟩
      case measure => simp [intOf]; omega
    · have : k = l.length := by omega
      subst this
      go_wp2
      go_ret
      rw [List.take_length] at hS
      exact ⟨ret_int (xorU (by decide) hS), rfl⟩
/-- of whatever slice: nil, or a row. -/
def Sl (w : World) (a : Option Addr) (l : List Nat) : Prop := l = [] ∨ ∃ b off, a = some ⟨b, off, none⟩ ∧ Cells w b off l
set_option maxRecDepth 100000 in
theorem crcEmpty (a : Option Addr) (cap : Nat) (w : World) :
    Calls Tryd.prog 17 #[.slice a 0 cap] w fun e w' => e = .returned (.int .u32 ((crc [] : Nat) : Int)) ∧ w = w' := by
  have e1 : bits .xor .u32 IntKind.u32.max 4294967295 = 0 := by decide
  go_enter Tryd.func17, Tryd.ntmps17
  go_wp2
  refine wp_loop_rounds 1 ?_
  rw [rounds_succ]
  go_wp2
  go_ret
  exact ⟨rfl, rfl⟩
theorem crcC (a : Option Addr) (cap : Nat) (l : List Nat) (w : World) (hl : ∀ c ∈ l, c < 256) (hm : l.length ≤ 9223372036854775807) (hc : Sl w a l) (hT : TabC w) :
    Calls Tryd.prog 17 #[.slice a l.length cap] w fun e w' => e = .returned (.int .u32 ((crc l : Nat) : Int)) ∧ w = w' := by
  rcases hc with rfl | ⟨b, off, rfl, hc⟩
  · exact crcEmpty a cap w
  · exact crcRow b off cap l w hl hm hc hT
end Go.Proofs.YtebfblpmihnndaaDoor.Crc
