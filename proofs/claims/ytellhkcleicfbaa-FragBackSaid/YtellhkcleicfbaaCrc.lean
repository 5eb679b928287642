/- The sum of bytes (wire.Crc): a plain function, and the contract of the code's loop. -/
import Derived.Test.YtellhkcleicfbaaKit
import Derived.LoopTactic
import Derived.Laws.BitsAllLaws
import Derived.Lib.LaidTab
import Derived.Outline
namespace Go.Proofs.Ytellhkcleicfbaa.Crc
open Go Go.RowKit Kit

def tabL : List Nat := [0, 498536548, 997073096, 651767980, 1994146192, 1802195444, 1303535960, 1342533948, 3988292384, 4027552580, 3604390888, 3412177804, 2607071920, 2262029012, 2685067896, 3183342108]
def tabAt (i : Nat) : Nat := tabL.getD i 0
def half (s : Nat) : Nat := (s / 16) ^^^ tabAt (s % 16)
def crcByte (s c : Nat) : Nat := half (half (s ^^^ c))
def run (l : List Nat) (s : Nat) : Nat := l.foldl crcByte s
def crc (l : List Nat) : Nat := 4294967295 ^^^ run l 4294967295

theorem tabAt_lt (i : Nat) : tabAt i < 4294967296 := by
  unfold tabAt
  rw [List.getD_eq_getElem?_getD]
  cases h : tabL[i]? with
  | none => decide
  | some v =>
    have hm := List.mem_of_getElem? h
    have : ∀ v ∈ tabL, v < 4294967296 := by decide
    exact this v hm
theorem half_lt {s : Nat} (h : s < 4294967296) : half s < 4294967296 := by
  unfold half
  exact Nat.xor_lt_two_pow (n := 32) (by omega) (tabAt_lt _)
theorem crcByte_lt {s c : Nat} (h : s < 4294967296) (hc : c < 256) : crcByte s c < 4294967296 :=
  half_lt (half_lt (Nat.xor_lt_two_pow (n := 32) h (by omega)))
theorem run_lt {l : List Nat} (hl : ∀ c ∈ l, c < 256) {s : Nat} (h : s < 4294967296) : run l s < 4294967296 := by
  induction l generalizing s with
  | nil => exact h
  | cons c l ih => exact ih (fun x hx => hl x (List.mem_cons_of_mem _ hx)) (crcByte_lt h (hl c (List.mem_cons_self ..)))
theorem run_snoc (l : List Nat) (s : Nat) (k : Nat) (h : k < l.length) : run (l.take (k + 1)) s = crcByte (run (l.take k) s) l[k] := by
  unfold run; rw [List.take_succ_eq_append_getElem h, List.foldl_append]; rfl

/-- the bytes of a slice's elements. -/
def Cells (w : World) (b off : Nat) (l : List Nat) : Prop := ∀ i, (h : i < l.length) → w.cell? ⟨b, off + i, none⟩ = some (.int .u8 ((l[i] : Nat) : Int))
/-- the sixteen numbers of the table. -/
def TabC (w : World) : Prop := ∀ i, i < 16 → w.cell? ⟨0, i, none⟩ = some (.int .u32 ((tabAt i : Nat) : Int))

theorem xorU {a b : Nat} (ha : a < 4294967296) (hb : b < 4294967296) : bits .xor .u32 (a : Int) (b : Int) = ((a ^^^ b : Nat) : Int) := u32_xor_nat a b ha hb
theorem and15 {a : Nat} (ha : a < 4294967296) : bits .and .u32 (a : Int) 15 = ((a % 16 : Nat) : Int) := by
  have := u32_and_nat a 15 ha (by decide)
  rw [show ((15 : Nat) : Int) = 15 from rfl] at this
  rw [this, show (15 : Nat) = 2 ^ 4 - 1 from rfl, Nat.and_two_pow_sub_one_eq_mod]
theorem halfU {a : Nat} (ha : a < 4294967296) : bits .xor .u32 ((a : Int) / 16) ((tabAt (a % 16) : Nat) : Int) = ((half a : Nat) : Int) := by
  have := xorU (a := a / 16) (b := tabAt (a % 16)) (by omega) (tabAt_lt _)
  rw [show ((a / 16 : Nat) : Int) = (a : Int) / 16 from by omega] at this
  rw [this]; rfl

/-- of whatever slice: nil, or a row. -/
def Sl (w : World) (a : Option Addr) (l : List Nat) : Prop := l = [] ∨ ∃ b off, a = some ⟨b, off, none⟩ ∧ Cells w b off l
end Go.Proofs.Ytellhkcleicfbaa.Crc
