/- The Reader: Raw, its closure and all. -/
import Derived.Test.YtfogbokifbjjlaaRdD
set_option linter.unusedVariables false
namespace Go.Proofs.Ytfogbokifbjjlaa.RdE
open Go Go.RowKit Kit Crc Var Get WireFirst Ref3 Copy Rd RdA RdB RdC RdD

variable {w w' w2 : World} {p : Nat} {r : Rdr}
theorem rawOk (n : Nat) (l : List Nat) (hp : Rc w p r) (hl : By w r l) (h1 : r.at_ + n ≤ l.length) (hs : l.length ≤ 1000000) :
    Calls Try.prog 106 #[.pointer (some ⟨p, 0, none⟩), .int .i64 (n : Int)] w (RawQ w p { r with at_ := r.at_ + n } ((l.drop r.at_).take n)) := by
  by_cases hn : n = 0
  · subst hn
    rw [List.take_zero]
    show Calls Try.prog 106 #[.pointer (some ⟨p, 0, none⟩), .int .i64 0] w (RawQ w p r [])
    cases ha : r.a with
    | none => exact rawZ1 l hp hl (by omega) ha hs
    | some x =>
      by_cases h2 : r.cap = r.at_
      · exact rawZ2 x l hp hl (by omega) ha h2 hs
      · exact rawZ3 x l hp hl (by omega) ha h2 hs
  · rcases hl.sl with h0 | ⟨b, off, ha, hc⟩
    · rw [h0] at h1; simp at h1; omega
    · exact rawSome b off n l hp hl h1 (by omega) ha hc hs
/-- what Raw answers, and what becomes of the reader. -/
def rawN (l : List Nat) (r : Rdr) (n : Int) : List Nat × Rdr :=
  if r.err ≠ 0 then ([], r) else if n < 0 then ([], { r with err := 1 }) else if (l.length : Int) < (r.at_ : Int) + n then ([], { r with err := 3 }) else ((l.drop r.at_).take n.toNat, { r with at_ := r.at_ + n.toNat })
def Clo75 (w : World) (p q : Nat) (r : Rdr) (m : List Nat) (w' : World) : Prop := ∃ a cap, CloQ w p q r (.slice a m.length cap) w' ∧ m.length ≤ cap ∧ Sl w' a m ∧ (∀ x, a = some x → w.heap.size ≤ x.block ∧ x.block ≠ p)
end Go.Proofs.Ytfogbokifbjjlaa.RdE
