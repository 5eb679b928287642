/- Arguments, and the tables that the card lays. -/
import Derived.Test.YtmfkfpgomglplaaDoorSu
set_option linter.unusedVariables false
namespace Go.Proofs.YtmfkfpgomglplaaDoor.Ar
open Go Go.RowKit Kit Mb Sha Ap Mc1 Sc Mx Sb Pd Su


def RL : List Int := [1116352408, 1899447441, 3049323471, 3921009573, 961987163, 1508970993, 2453635748, 2870763221, 3624381080, 310598401, 607225278, 1426881987, 1925078388, 2162078206, 2614888103, 3248222580, 3835390401, 4022224774, 264347078, 604807628, 770255983, 1249150122, 1555081692, 1996064986, 2554220882, 2821834349, 2952996808, 3210313671, 3336571891, 3584528711, 113926993, 338241895, 666307205, 773529912, 1294757372, 1396182291, 1695183700, 1986661051, 2177026350, 2456956037, 2730485921, 2820302411, 3259730800, 3345764771, 3516065817, 3600352804, 4094571909, 275423344, 430227734, 506948616, 659060556, 883997877, 958139571, 1322822218, 1537002063, 1747873779, 1955562222, 2024104815, 2227730452, 2361852424, 2428436474, 2756734187, 3204031479, 3329325298]
def BL : List Int := [1779033703, 3144134277, 1013904242, 2773480762, 1359893119, 2600822924, 528734635, 1541459225]
theorem tabR_of {W : World} (h : Lib.TabIs Tryd.prog W "tickertape/mac.rounds" .u32 [1116352408, 1899447441, 3049323471, 3921009573, 961987163, 1508970993, 2453635748, 2870763221, 3624381080, 310598401, 607225278, 1426881987, 1925078388, 2162078206, 2614888103, 3248222580, 3835390401, 4022224774, 264347078, 604807628, 770255983, 1249150122, 1555081692, 1996064986, 2554220882, 2821834349, 2952996808, 3210313671, 3336571891, 3584528711, 113926993, 338241895, 666307205, 773529912, 1294757372, 1396182291, 1695183700, 1986661051, 2177026350, 2456956037, 2730485921, 2820302411, 3259730800, 3345764771, 3516065817, 3600352804, 4094571909, 275423344, 430227734, 506948616, 659060556, 883997877, 958139571, 1322822218, 1537002063, 1747873779, 1955562222, 2024104815, 2227730452, 2361852424, 2428436474, 2756734187, 3204031479, 3329325298]) : TabR W := by
  intro i hi
  have := h.cell (show Tryd.prog.globalNamed "tickertape/mac.rounds" = some 1 by kernel_rfl) i hi
  rw [this]
  have e : ∀ i : Fin 64, RL.getD i.1 0 = kAt i.1 := by decide
  exact congrArg (fun x => some (Value.int .u32 x)) (e ⟨i, hi⟩)
theorem tabB_of {W : World} (h : Lib.TabIs Tryd.prog W "tickertape/mac.beginning" .u32 [1779033703, 3144134277, 1013904242, 2773480762, 1359893119, 2600822924, 528734635, 1541459225]) : TabB W := by
  have hg : Tryd.prog.globalNamed "tickertape/mac.beginning" = some 0 := by kernel_rfl
  unfold Lib.TabIs World.var? at h
  rw [hg] at h
  simp only [Option.bind_some] at h
  cases hb : W.heap[0]? with
  | none => rw [hb] at h; simp at h
  | some o =>
    rw [hb] at h
    cases o with
    | cells c t f =>
      simp at h
      exact ⟨t, f, by rw [hb, h]; rfl⟩
    | _ => simp at h
/-- the numbers of a slice that came in. -/
theorem row_ints {k : IntKind} {w : World} {a : Option Addr} {len cap : Nat} {zs : List Int} (h : IsRow k w a len cap zs) :
    ∃ l : List Int, l.length = len ∧ (∀ n ∈ l, (Lit.int k n).wf = true) ∧ (l = [] ∨ ∃ b off, a = some ⟨b, off, none⟩ ∧ ∀ i, (h : i < l.length) → w.cell? ⟨b, off + i, none⟩ = some (.int k l[i])) ∧ (a = none → cap = 0) ∧ len ≤ cap ∧ len ≤ 9223372036854775807 := by
  by_cases h1 : 1 ≤ len
  · rcases h with ⟨_, h0, _⟩ | ⟨⟨b, o, sp⟩, rfl, hlc, hmx, hz, hcell, hwf⟩
    · omega
    have g0 := hcell 0 (by omega)
    have hspot : sp = none := by simpa [Addr.add] using World.cell?_spot g0
    subst hspot
    refine ⟨zs.take len, by simp; omega, fun n hn => hwf n (List.mem_of_mem_take hn), .inr ⟨b, o, rfl, ?_⟩, (fun h => by cases h), hlc, by unfold maxLen at hmx; omega⟩
    intro i hi
    have hi' : i < zs.length := by simp at hi; omega
    have g := hcell i hi'
    have hadd : (⟨b, o, none⟩ : Addr).add i = ⟨b, o + i, none⟩ := by unfold Addr.add; split <;> simp_all
    rw [hadd] at g
    rw [g]
    simp [List.getD_eq_getElem?_getD, hi']
  · refine ⟨[], by simp; omega, fun n hn => by simp at hn, .inl rfl, ?_, by omega, by omega⟩
    intro ha
    rcases h with ⟨_, _, h0, _⟩ | ⟨x, hx, _⟩
    · exact h0
    · rw [ha] at hx; cases hx
theorem in8 {n : Int} (h : (Lit.int .u8 n).wf = true) : 0 ≤ n ∧ n < 256 := by
  simp only [Lit.wf, Bool.and_eq_true, decide_eq_true_eq] at h
  have h1 : IntKind.u8.min = 0 := by decide
  have h2 : IntKind.u8.max = 255 := by decide
  omega
theorem inU {n : Int} (h : (Lit.int .u64 n).wf = true) : 0 ≤ n ∧ n < 18446744073709551616 := by
  simp only [Lit.wf, Bool.and_eq_true, decide_eq_true_eq] at h
  have h1 : IntKind.u64.min = 0 := by decide
  have h2 : IntKind.u64.max = 18446744073709551615 := by decide
  omega
theorem inI {n : Int} (h : (Lit.int .i64 n).wf = true) : -9223372036854775808 ≤ n ∧ n < 9223372036854775808 := by
  simp only [Lit.wf, Bool.and_eq_true, decide_eq_true_eq] at h
  have h1 : IntKind.i64.min = -9223372036854775808 := by decide
  have h2 : IntKind.i64.max = 9223372036854775807 := by decide
  omega
theorem toNat_at {l : List Int} (hl : ∀ n ∈ l, 0 ≤ n) (i : Nat) (h : i < (l.map Int.toNat).length) : (((l.map Int.toNat)[i] : Nat) : Int) = l[i]'(by simpa using h) := by
  have h' : i < l.length := by simpa using h
  have := hl l[i] (List.getElem_mem _)
  simp; omega
/-- bytes that came in. -/
theorem row_bytes {w : World} {a : Option Addr} {len cap : Nat} {zs : List Int} (h : IsRow .u8 w a len cap zs) :
    ∃ l : List Nat, l.length = len ∧ (∀ c ∈ l, c < 256) ∧ Sl w a l ∧ (a = none → cap = 0) ∧ len ≤ cap ∧ len ≤ 9223372036854775807 := by
  obtain ⟨l, hl, hw, hc, h0, hcap, hmx⟩ := row_ints h
  refine ⟨l.map Int.toNat, by simpa using hl, ?_, ?_, h0, hcap, hmx⟩
  · intro c hc
    obtain ⟨n, hn, rfl⟩ := List.mem_map.1 hc
    have := in8 (hw n hn)
    omega
  · rcases hc with rfl | ⟨b, off, rfl, hc⟩
    · exact .inl rfl
    · refine .inr ⟨b, off, rfl, fun i hi => ?_⟩
      rw [toNat_at (fun n hn => (in8 (hw n hn)).1) i hi]
      exact hc i _
/-- numbers of 64 bits that came in. -/
theorem row_nums {w : World} {a : Option Addr} {len cap : Nat} {zs : List Int} (h : IsRow .u64 w a len cap zs) :
    ∃ l : List Nat, l.length = len ∧ (∀ c ∈ l, c < 18446744073709551616) ∧ (l = [] ∨ ∃ b off, a = some ⟨b, off, none⟩ ∧ ∀ i, (h : i < l.length) → w.cell? ⟨b, off + i, none⟩ = some (.int .u64 ((l[i] : Nat) : Int))) := by
  obtain ⟨l, hl, hw, hc, h0, hcap, hmx⟩ := row_ints h
  refine ⟨l.map Int.toNat, by simpa using hl, ?_, ?_⟩
  · intro c hc
    obtain ⟨n, hn, rfl⟩ := List.mem_map.1 hc
    have := inU (hw n hn)
    omega
  · rcases hc with rfl | ⟨b, off, rfl, hc⟩
    · exact .inl rfl
    · refine .inr ⟨b, off, rfl, fun i hi => ?_⟩
      rw [toNat_at (fun n hn => (inU (hw n hn)).1) i hi]
      exact hc i _

end Go.Proofs.YtmfkfpgomglplaaDoor.Ar
