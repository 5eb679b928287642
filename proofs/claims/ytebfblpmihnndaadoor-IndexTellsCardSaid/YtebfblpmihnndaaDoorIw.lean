/- Entries as they came in. -/
import Derived.Test.YtebfblpmihnndaaDoorIb
import Derived.Deep.SlicePairs
set_option linter.unusedVariables false
namespace Go.Proofs.YtebfblpmihnndaaDoor.Iw
open Go Go.RowKit Go.ChangeShapes Go.WideShapes Go.Deep Kit Ia Ib

/-- a slice of entries that came in. -/
def IsEnts (w : World) (a : Option Addr) (len cap : Nat) (L : List En) : Prop := len ≤ cap ∧ cap ≤ maxLen ∧ len = L.length ∧ Es w a L ∧ ∀ e ∈ L, EnOk e
section
variable {H : Type} {enc : TypeId × Value → H} {P : Program} {w : World} {base : Nat} {spare : Nat → Bool} {held : Bool}
theorem add_plain (b o i : Nat) : (⟨b, o, none⟩ : Addr).add i = ⟨b, o + i, none⟩ := by unfold Addr.add; split <;> simp_all
theorem nat_of {n : Int} (h : (Lit.int .u64 n).wf = true) : ∃ k : Nat, n = (k : Int) ∧ k < 18446744073709551616 := by
  have h2 := Bx.inU h
  exact ⟨n.toNat, by omega, by omega⟩
theorem open_ents {t e : TypeId} {f0 f1 f2 f3 : Field} {fuel : Nat} {a : Option Addr} {len cap : Nat} {x : DataW H × List MemPlace} (ht : P.underlying t = some (.slice e)) (he : P.underlying e = some (.struct #[f0, f1, f2, f3]))
    (ce : P.cellsOf e = 4) (o0 : f0.offset = 0) (o1 : f1.offset = 1) (o2 : f2.offset = 2) (o3 : f3.offset = 3) (c0 : P.cellsOf f0.type = 1) (c1 : P.cellsOf f1.type = 1) (c2 : P.cellsOf f2.type = 1) (c3 : P.cellsOf f3.type = 1)
    (t0 : P.underlying f0.type = some (.int .u64)) (t1 : P.underlying f1.type = some (.int .u64)) (t2 : P.underlying f2.type = some (.int .i64)) (t3 : P.underlying f3.type = some (.int .i64))
    (h : DataW.trod enc P w base spare held fuel t [.slice a len cap] = some x) : ∃ L, IsEnts w a len cap L := by
  rcases open_slice ht h with ⟨hc, _⟩ | ⟨a, len', cap', m, n, D, Pl, hc, hb, hl, hm, hmm, rfl, hx⟩
  · simp at hc
    obtain ⟨rfl, rfl, rfl⟩ := hc
    exact ⟨[], Nat.le_refl _, Nat.zero_le _, rfl, .inl rfl, fun e he => by cases he⟩
  simp at hc
  obtain ⟨rfl, rfl, rfl⟩ := hc
  have hlm : len ≤ m := by rw [hmm]; split <;> omega
  have each : ∀ i, i < len → ∃ q : En, EnOk q ∧ ∀ j, j < 4 → w.cell? (a.add (i * 4 + j)) = (ev q)[j]? := by
    intro i hi
    obtain ⟨cs', h1, h2⟩ := hx i (by omega)
    rw [ce] at h1
    obtain ⟨_, hlen, hcell⟩ := World.cells?_some h1
    obtain ⟨xs, k, hk, hxy, _, hxl, hf⟩ := DataW.trod_struct he h2
    match xs, hxl, cs', hlen with
    | [y0, y1, y2, y3], _, [v0, v1, v2, v3], _ =>
      have g0 := hf 0 f0 rfl
      have g1 := hf 1 f1 rfl
      have g2 := hf 2 f2 rfl
      have g3 := hf 3 f3 rfl
      simp [o0, o1, o2, o3, c0, c1, c2, c3] at g0 g1 g2 g3
      obtain ⟨z0, rfl, w0⟩ := int_of t0 g0
      obtain ⟨z1, rfl, w1⟩ := int_of t1 g1
      obtain ⟨z2, rfl, w2⟩ := int_of t2 g2
      obtain ⟨z3, rfl, w3⟩ := int_of t3 g3
      obtain ⟨k0, rfl, b0⟩ := nat_of w0
      obtain ⟨k1, rfl, b1⟩ := nat_of w1
      refine ⟨⟨k0, k1, z2, z3⟩, ⟨b0, b1⟩, fun j hj => ?_⟩
      have := hcell j (by omega)
      rw [add_add] at this
      exact this
  obtain ⟨q, hq⟩ := choose_lt each
  have hget : ∀ (i : Nat) (hi : i < ((List.range len).map q).length), ((List.range len).map q)[i] = q i := fun i hi => by simp
  refine ⟨(List.range len).map q, hl, hm, by simp, ?_, fun e he => ?_⟩
  · by_cases h0 : 0 < len
    · obtain ⟨b, off, sp⟩ := a
      have hsp : sp = none := by simpa [Addr.add] using World.cell?_spot (show w.cell? _ = some (.int .u64 ((q 0).s : Int)) from (hq 0 h0).2 0 (by omega))
      subst hsp
      refine .inr ⟨b, off, rfl, fun i hi j hj => ?_⟩
      have hi' : i < len := by simpa using hi
      have := (hq i hi').2 j hj
      rw [add_plain, ← Nat.add_assoc] at this
      rw [hget]; exact this
    · obtain rfl : len = 0 := by omega
      exact .inl rfl
  · obtain ⟨i, hi, rfl⟩ := List.mem_map.1 he
    exact (hq i (List.mem_range.1 hi)).1
end
end Go.Proofs.YtebfblpmihnndaaDoor.Iw
