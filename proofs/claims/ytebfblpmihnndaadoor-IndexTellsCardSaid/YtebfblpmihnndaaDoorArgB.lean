/- How bytes that came in read, and the table of the sums. -/
import Derived.Test.YtebfblpmihnndaaDoorBytes
import Derived.Lib.LaidTab
namespace Go.Proofs.YtebfblpmihnndaaDoor.ArgB
open Go Go.RowKit Kit Crc

theorem in8 {n : Int} (h : (Lit.int .u8 n).wf = true) : 0 ≤ n ∧ n < 256 := by
  simp only [Lit.wf, Bool.and_eq_true, decide_eq_true_eq] at h
  have h1 : IntKind.u8.min = 0 := by decide
  have h2 : IntKind.u8.max = 255 := by decide
  omega
theorem inI {n : Int} (h : (Lit.int .i64 n).wf = true) : n ≤ 9223372036854775807 := by
  simp only [Lit.wf, Bool.and_eq_true, decide_eq_true_eq] at h
  have h2 : IntKind.i64.max = 9223372036854775807 := by decide
  omega
theorem tabEq : ∀ i : Fin 16, (([0, 498536548, 997073096, 651767980, 1994146192, 1802195444, 1303535960, 1342533948, 3988292384, 4027552580, 3604390888, 3412177804, 2607071920, 2262029012, 2685067896, 3183342108] : List Int).getD i.1 0) = ((tabAt i.1 : Nat) : Int) := by decide
/-- the bytes of a slice that came in. -/
theorem row_cells {w : World} {a : Option Addr} {len cap : Nat} {zs : List Int} (h : IsRow .u8 w a len cap zs) (h1 : 1 ≤ len) :
    ∃ b o l, a = some ⟨b, o, none⟩ ∧ l.length = len ∧ (∀ c ∈ l, c < 256) ∧ Cells w b o l := by
  rcases h with ⟨_, h0, _⟩ | ⟨⟨b, o, sp⟩, rfl, hlc, _, hz, hcell, hwf⟩
  · omega
  have g0 := hcell 0 (by omega)
  have hspot : sp = none := by simpa [Addr.add] using World.cell?_spot g0
  subst hspot
  have hnn : ∀ n ∈ zs, 0 ≤ n ∧ n < 256 := by
    intro n hn
    exact in8 (hwf n hn)
  refine ⟨b, o, (zs.take len).map Int.toNat, rfl, by simp; omega, ?_, ?_⟩
  · intro c hc
    simp only [List.mem_map] at hc
    obtain ⟨n, hn, rfl⟩ := hc
    have := hnn n (List.mem_of_mem_take hn)
    omega
  · intro i hi
    simp only [List.length_map, List.length_take] at hi
    have hi' : i < zs.length := by omega
    have g := hcell i hi'
    have hadd : (⟨b, o, none⟩ : Addr).add i = ⟨b, o + i, none⟩ := by unfold Addr.add; split <;> simp_all
    rw [hadd] at g
    rw [g]
    have := hnn zs[i] (List.getElem_mem _)
    simp [List.getD_eq_getElem?_getD, hi']
    omega
theorem row_len {w : World} {a : Option Addr} {len cap : Nat} {zs : List Int} (h : IsRow .u8 w a len cap zs) : len ≤ 9223372036854775807 := by
  rcases h with ⟨_, h0, _⟩ | ⟨_, _, hlc, hm, _⟩
  · omega
  · unfold maxLen at hm; omega
theorem tab {W : World} (h : Lib.TabIs Tryd.prog W "tickertape/wire.crcSteps" .u32 [0, 498536548, 997073096, 651767980, 1994146192, 1802195444, 1303535960, 1342533948, 3988292384, 4027552580, 3604390888, 3412177804, 2607071920, 2262029012, 2685067896, 3183342108]) (hg : Tryd.prog.globalNamed "tickertape/wire.crcSteps" = some 0) : TabC W := by
  intro i hi
  rw [h.cell hg i (by simpa using hi), tabEq ⟨i, hi⟩]
end Go.Proofs.YtebfblpmihnndaaDoor.ArgB
