/- Slices that came in. -/
import Derived.Test.YtabgelmmjpjejaaDoorBx
import Derived.Test.YtabgelmmjpjejaaDoorPy2
set_option linter.unusedVariables false
namespace Go.Proofs.YtabgelmmjpjejaaDoor.Ar
open Go Go.RowKit Kit Crc Var Get Ref3 Copy Bytes Bx Py Py2 

/-- the numbers of a slice that came in. -/
theorem row_ints {k : IntKind} {w : World} {a : Option Addr} {len cap : Nat} {zs : List Int} (h : IsRow k w a len cap zs) :
    ∃ l : List Int, l.length = len ∧ (∀ n ∈ l, (Lit.int k n).wf = true) ∧ (l = [] ∨ ∃ b off, a = some ⟨b, off, none⟩ ∧ ∀ i, (h : i < l.length) → w.cell? ⟨b, off + i, none⟩ = some (.int k l[i])) ∧ (a = none → cap = 0) ∧ len ≤ cap ∧ len ≤ 9223372036854775807 := by
  by_cases h1 : 1 ≤ len
  · rcases h with ⟨_, h0, _⟩ | ⟨⟨b, o, sp⟩, rfl, hlc, hmx, hz, hcell, hwf⟩
    · omega
    have g0 := hcell 0 (by omega)
    have hspot : sp = none := by simpa [Addr.add] using World.cell?_spot g0
    subst hspot
    refine ⟨zs.take len, by simp; omega, fun n hn => hwf n (List.mem_of_mem_take hn), .inr ⟨b, o, rfl, ?_⟩, (fun h => by cases h), hlc, by unfold maxLen at hmx; omega⟩
    intro i hi
    have hi' : i < zs.length := by simp at hi; omega
    have g := hcell i hi'
    have hadd : (⟨b, o, none⟩ : Addr).add i = ⟨b, o + i, none⟩ := by unfold Addr.add; split <;> simp_all
    rw [hadd] at g
    rw [g]
    simp [List.getD_eq_getElem?_getD, hi']
  · refine ⟨[], by simp; omega, fun n hn => by simp at hn, .inl rfl, ?_, by omega, by omega⟩
    intro ha
    rcases h with ⟨_, _, h0, _⟩ | ⟨x, hx, _⟩
    · exact h0
    · rw [ha] at hx; cases hx
theorem in8 {n : Int} (h : (Lit.int .u8 n).wf = true) : 0 ≤ n ∧ n < 256 := by
  simp only [Lit.wf, Bool.and_eq_true, decide_eq_true_eq] at h
  have h1 : IntKind.u8.min = 0 := by decide
  have h2 : IntKind.u8.max = 255 := by decide
  omega
/-- bytes that came in. -/
theorem row_bytes {w : World} {a : Option Addr} {len cap : Nat} {zs : List Int} (h : IsRow .u8 w a len cap zs) :
    ∃ l : List Nat, l.length = len ∧ (∀ c ∈ l, c < 256) ∧ Sl w a l ∧ (a = none → cap = 0) ∧ len ≤ cap ∧ len ≤ 9223372036854775807 := by
  obtain ⟨l, hl, hw, hc, h0, hcap, hmx⟩ := row_ints h
  refine ⟨l.map Int.toNat, by simpa using hl, ?_, ?_, h0, hcap, hmx⟩
  · intro c hc
    obtain ⟨n, hn, rfl⟩ := List.mem_map.1 hc
    have := in8 (hw n hn)
    omega
  · rcases hc with rfl | ⟨b, off, rfl, hc⟩
    · exact .inl rfl
    · refine .inr ⟨b, off, rfl, fun i hi => ?_⟩
      rw [toNat_at (fun n hn => (in8 (hw n hn)).1) i hi]
      exact hc i _
/-- numbers of 64 bits that came in. -/
theorem row_nums {w : World} {a : Option Addr} {len cap : Nat} {zs : List Int} (h : IsRow .u64 w a len cap zs) :
    ∃ l : List Nat, l.length = len ∧ (∀ c ∈ l, c < 18446744073709551616) ∧ (l = [] ∨ ∃ b off, a = some ⟨b, off, none⟩ ∧ ∀ i, (h : i < l.length) → w.cell? ⟨b, off + i, none⟩ = some (.int .u64 ((l[i] : Nat) : Int))) := by
  obtain ⟨l, hl, hw, hc, h0, hcap, hmx⟩ := row_ints h
  refine ⟨l.map Int.toNat, by simpa using hl, ?_, ?_⟩
  · intro c hc
    obtain ⟨n, hn, rfl⟩ := List.mem_map.1 hc
    have := inU (hw n hn)
    omega
  · rcases hc with rfl | ⟨b, off, rfl, hc⟩
    · exact .inl rfl
    · refine .inr ⟨b, off, rfl, fun i hi => ?_⟩
      rw [toNat_at (fun n hn => (inU (hw n hn)).1) i hi]
      exact hc i _

end Go.Proofs.YtabgelmmjpjejaaDoor.Ar
