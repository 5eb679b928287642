/- WireSums: the walk, whatever the row's arguments. -/
import Derived.Test.YtlhapnnepcnfbaaDoorSumsIn
import Derived.Test.YtlhapnnepcnfbaaDoorSumsOut
import Derived.Lib.LaidTab
namespace Go.Proofs.YtlhapnnepcnfbaaDoor.Sums
open Go Go.RowKit Kit Crc Var CrcLin WireFirst Copy

theorem in8 {n : Int} (h : (Lit.int .u8 n).wf = true) : 0 ≤ n ∧ n < 256 := by
  simp only [Lit.wf, Bool.and_eq_true, decide_eq_true_eq] at h
  have h1 : IntKind.u8.min = 0 := by decide
  have h2 : IntKind.u8.max = 255 := by decide
  omega
theorem inI {n : Int} (h : (Lit.int .i64 n).wf = true) : n ≤ 9223372036854775807 := by
  simp only [Lit.wf, Bool.and_eq_true, decide_eq_true_eq] at h
  have h2 : IntKind.i64.max = 9223372036854775807 := by decide
  omega
theorem tabEq : ∀ i : Fin 16, (([0, 498536548, 997073096, 651767980, 1994146192, 1802195444, 1303535960, 1342533948, 3988292384, 4027552580, 3604390888, 3412177804, 2607071920, 2262029012, 2685067896, 3183342108] : List Int).getD i.1 0) = ((tabAt i.1 : Nat) : Int) := by decide
/-- the bytes of a slice that came in. -/
theorem row_cells {w : World} {a : Option Addr} {len cap : Nat} {zs : List Int} (h : IsRow .u8 w a len cap zs) (h1 : 1 ≤ len) :
    ∃ b o l, a = some ⟨b, o, none⟩ ∧ l.length = len ∧ (∀ c ∈ l, c < 256) ∧ Cells w b o l := by
  rcases h with ⟨_, h0, _⟩ | ⟨⟨b, o, sp⟩, rfl, hlc, _, hz, hcell, hwf⟩
  · omega
  have g0 := hcell 0 (by omega)
  have hspot : sp = none := by simpa [Addr.add] using World.cell?_spot g0
  subst hspot
  have hnn : ∀ n ∈ zs, 0 ≤ n ∧ n < 256 := by
    intro n hn
    exact in8 (hwf n hn)
  refine ⟨b, o, (zs.take len).map Int.toNat, rfl, by simp; omega, ?_, ?_⟩
  · intro c hc
    simp only [List.mem_map] at hc
    obtain ⟨n, hn, rfl⟩ := hc
    have := hnn n (List.mem_of_mem_take hn)
    omega
  · intro i hi
    simp only [List.length_map, List.length_take] at hi
    have hi' : i < zs.length := by omega
    have g := hcell i hi'
    have hadd : (⟨b, o, none⟩ : Addr).add i = ⟨b, o + i, none⟩ := by unfold Addr.add; split <;> simp_all
    rw [hadd] at g
    rw [g]
    have := hnn zs[i] (List.getElem_mem _)
    simp [List.getD_eq_getElem?_getD, hi']
    omega
theorem row_len {w : World} {a : Option Addr} {len cap : Nat} {zs : List Int} (h : IsRow .u8 w a len cap zs) : len ≤ 9223372036854775807 := by
  rcases h with ⟨_, h0, _⟩ | ⟨_, _, hlc, hm, _⟩
  · omega
  · unfold maxLen at hm; omega
theorem tab {W : World} (h : Lib.TabIs Tryd.prog W "tickertape/wire.crcSteps" .u32 [0, 498536548, 997073096, 651767980, 1994146192, 1802195444, 1303535960, 1342533948, 3988292384, 4027552580, 3604390888, 3412177804, 2607071920, 2262029012, 2685067896, 3183342108]) (hg : Tryd.prog.globalNamed "tickertape/wire.crcSteps" = some 0) : TabC W := by
  intro i hi
  rw [h.cell hg i (by simpa using hi), tabEq ⟨i, hi⟩]
theorem walk (a0 : Option Addr) (l0 c0 : Nat) (z0 : List Int) (a1 : Option Addr) (l1 c1 : Nat) (z1 : List Int) (a2 : Option Addr) (l2 c2 : Nat) (z2 : List Int) (p x : Int) (W : World)
    (w0 : IsRow .u8 W a0 l0 c0 z0) (w1 : IsRow .u8 W a1 l1 c1 z1) (w2 : IsRow .u8 W a2 l2 c2 z2) (w3 : (Lit.int .i64 p).wf = true) (w4 : (Lit.int .u8 x).wf = true)
    (hL : Lib.TabIs Tryd.prog W "tickertape/wire.crcSteps" .u32 [0, 498536548, 997073096, 651767980, 1994146192, 1802195444, 1303535960, 1342533948, 3988292384, 4027552580, 3604390888, 3412177804, 2607071920, 2262029012, 2685067896, 3183342108]) :
    Calls Tryd.prog 14 #[.slice a0 l0 c0, .slice a1 l1 c1, .slice a2 l2 c2, .int .i64 p, .int .u8 x] W fun e w' => e = .returned (.bool true) ∧ Below W.heap.size W w' := by
  have hT := tab hL (by kernel_rfl)
  have hp : p ≤ 9223372036854775807 := inI w3
  have hx : 0 ≤ x ∧ x < 256 := in8 w4
  by_cases h : l0 < 1 ∨ 2000 < l0 ∨ l1 ≠ l0 ∨ l2 ≠ l0 ∨ p < 0 ∨ x = 0
  · exact SumsOut.walkOut a0 a1 a2 l0 c0 l1 c1 l2 c2 p x W hT (row_len w0) (row_len w1) (row_len w2) h
  · obtain ⟨ba, oa, la, rfl, ea, ha, Ca⟩ := row_cells w0 (by omega)
    obtain ⟨bb, ob, lb, rfl, eb, hb, Cb⟩ := row_cells w1 (by omega)
    obtain ⟨bc, oc, lc, rfl, ec, hc, Cc⟩ := row_cells w2 (by omega)
    obtain ⟨p, rfl⟩ := Int.eq_ofNat_of_zero_le (a := p) (by omega)
    obtain ⟨x, rfl⟩ := Int.eq_ofNat_of_zero_le (a := x) (by omega)
    obtain rfl : l1 = l0 := by omega
    obtain rfl : l2 = l1 := by omega
    exact SumsIn.walkIn ba oa c0 bb ob c1 bc oc c2 la lb lc l2 p x W hT ea eb ec (by omega) (by omega) (by omega) (by omega) (by omega) ha hb hc Ca Cb Cc
end Go.Proofs.YtlhapnnepcnfbaaDoor.Sums
