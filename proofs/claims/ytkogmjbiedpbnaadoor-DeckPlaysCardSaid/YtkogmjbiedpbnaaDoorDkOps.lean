/- tiklaw23: an operation as a parameter, and a slice of them. -/
import Derived.Test.YtkogmjbiedpbnaaDoorDoes
import Derived.Test.YtkogmjbiedpbnaaDoorAirW
import Derived.Deep.SlicePairs
import Derived.Laws.Cover2
set_option linter.unusedVariables false
namespace Go.Proofs.YtkogmjbiedpbnaaDoor.DkOps
open Go Go.RowKit Go.ChangeShapes Go.WideShapes Go.Deep Kit Does AirW
section
variable {H : Type} {enc : TypeId × Value → H} {P : Program} {w : World} {base : Nat} {spare : Nat → Bool} {held : Bool}
theorem nat_of {n : Nat} {t : TypeId} {c : Value} {y : DataW H × List MemPlace} (ht : P.underlying t = some (.int .u64)) (h : DataW.trod enc P w base spare held n t [c] = some y) :
    ∃ a : Nat, c = .int .u64 (a : Int) ∧ a < 18446744073709551616 := by
  obtain ⟨z, rfl, hw⟩ := int_of ht h
  obtain ⟨h0, h1⟩ := AirW.in64 hw
  obtain ⟨a, rfl⟩ := Int.eq_ofNat_of_zero_le h0
  exact ⟨a, rfl, by omega⟩
theorem flt_of {n : Nat} {t : TypeId} {c : Value} {y : DataW H × List MemPlace} (ht : P.underlying t = some (.float .f64)) (h : DataW.trod enc P w base spare held n t [c] = some y) :
    ∃ a : Nat, c = .float .f64 a ∧ (Lit.float .f64 a).wf = true := by
  cases n with
  | zero => simp [DataW.trod] at h
  | succ n =>
    cases c <;> simp [DataW.trod, ht] at h
    obtain ⟨⟨rfl, hw⟩, _⟩ := h
    exact ⟨_, rfl, hw⟩
variable {f0 f1 f2 f3 f4 f5 : Field}
theorem opr_of {e : TypeId} {n : Nat} {cs : List Value} {x : DataW H × List MemPlace} (he : P.underlying e = some (.struct #[f0, f1, f2, f3, f4, f5])) (hl : cs.length = 6)
    (o0 : f0.offset = 0) (o1 : f1.offset = 1) (o2 : f2.offset = 2) (o3 : f3.offset = 3) (o4 : f4.offset = 4) (o5 : f5.offset = 5)
    (c0 : P.cellsOf f0.type = 1) (c1 : P.cellsOf f1.type = 1) (c2 : P.cellsOf f2.type = 1) (c3 : P.cellsOf f3.type = 1) (c4 : P.cellsOf f4.type = 1) (c5 : P.cellsOf f5.type = 1)
    (t0 : P.underlying f0.type = some (.int .i64)) (t1 : P.underlying f1.type = some (.int .u64)) (t2 : P.underlying f2.type = some (.int .u64)) (t3 : P.underlying f3.type = some (.int .u64)) (t4 : P.underlying f4.type = some (.int .u64)) (t5 : P.underlying f5.type = some (.float .f64))
    (h : DataW.trod enc P w base spare held n e cs = some x) : ∃ o : Opr, cs = (oprV o).toList ∧ o.ok := by
  obtain ⟨xs, k, hk, hxy, _, hxl, hf⟩ := DataW.trod_struct he h
  match xs, hxl, cs, hl with
  | [y0, y1, y2, y3, y4, y5], _, [v0, v1, v2, v3, v4, v5], _ =>
    have g0 := hf 0 f0 rfl
    have g1 := hf 1 f1 rfl
    have g2 := hf 2 f2 rfl
    have g3 := hf 3 f3 rfl
    have g4 := hf 4 f4 rfl
    have g5 := hf 5 f5 rfl
    simp [o0, o1, o2, o3, o4, o5, c0, c1, c2, c3, c4, c5] at g0 g1 g2 g3 g4 g5
    obtain ⟨b0, rfl, _⟩ := int_of t0 g0
    obtain ⟨b1, rfl, w1⟩ := nat_of t1 g1
    obtain ⟨b2, rfl, w2⟩ := nat_of t2 g2
    obtain ⟨b3, rfl, w3⟩ := nat_of t3 g3
    obtain ⟨b4, rfl, w4⟩ := nat_of t4 g4
    obtain ⟨b5, rfl, w5⟩ := flt_of t5 g5
    exact ⟨⟨b0, b1, b2, b3, b4, b5⟩, rfl, ⟨w1, w2, w3, w4, inF w5⟩⟩
theorem open_opr {r : Reach} {b0 : Nat} {e : TypeId} {v : Value} {d : DataW H} {ps : List MemPlace} (he : P.underlying e = some (.struct #[f0, f1, f2, f3, f4, f5])) (ce : P.cellsOf e = 6)
    (o0 : f0.offset = 0) (o1 : f1.offset = 1) (o2 : f2.offset = 2) (o3 : f3.offset = 3) (o4 : f4.offset = 4) (o5 : f5.offset = 5)
    (c0 : P.cellsOf f0.type = 1) (c1 : P.cellsOf f1.type = 1) (c2 : P.cellsOf f2.type = 1) (c3 : P.cellsOf f3.type = 1) (c4 : P.cellsOf f4.type = 1) (c5 : P.cellsOf f5.type = 1)
    (t0 : P.underlying f0.type = some (.int .i64)) (t1 : P.underlying f1.type = some (.int .u64)) (t2 : P.underlying f2.type = some (.int .u64)) (t3 : P.underlying f3.type = some (.int .u64)) (t4 : P.underlying f4.type = some (.int .u64)) (t5 : P.underlying f5.type = some (.float .f64))
    (hv : Value.okWide P w r b0 e v) (h : DataW.Trod enc P w base spare held e v d ps) : ∃ o : Opr, v = .agg (oprV o) ∧ o.ok := by
  obtain ⟨cs, rfl, hsz⟩ := okWide_struct he hv
  obtain ⟨fuel, hf⟩ := h
  obtain ⟨o, ho, hok⟩ := opr_of (cs := cs.toList) he (by simp [hsz, ce]) o0 o1 o2 o3 o4 o5 c0 c1 c2 c3 c4 c5 t0 t1 t2 t3 t4 t5 (by simpa [Value.cells] using hf)
  exact ⟨o, by rw [Array.toList_inj.1 ho], hok⟩
/-- a slice of operations. -/
def IsOprs (w : World) (a : Option Addr) (len cap : Nat) (F : Nat → Opr) : Prop :=
  len ≤ cap ∧ cap ≤ maxLen ∧ (len = 0 ∨ ∃ b off, a = some ⟨b, off, none⟩ ∧ ∀ i, i < len →
    w.cell? ⟨b, off + i * 6, none⟩ = some (.int .i64 (F i).kind) ∧ w.cell? ⟨b, off + i * 6 + 1, none⟩ = some (.int .u64 ((F i).now : Int)) ∧ w.cell? ⟨b, off + i * 6 + 2, none⟩ = some (.int .u64 ((F i).lo : Int)) ∧
    w.cell? ⟨b, off + i * 6 + 3, none⟩ = some (.int .u64 ((F i).hi : Int)) ∧ w.cell? ⟨b, off + i * 6 + 4, none⟩ = some (.int .u64 ((F i).time : Int)) ∧ w.cell? ⟨b, off + i * 6 + 5, none⟩ = some (.float .f64 (F i).x) ∧ (F i).ok)
instance : Inhabited Opr := ⟨⟨0, 0, 0, 0, 0, 0⟩⟩
theorem open_oprs {t e : TypeId} {fuel : Nat} {a : Option Addr} {len cap : Nat} {x : DataW H × List MemPlace} (ht : P.underlying t = some (.slice e)) (he : P.underlying e = some (.struct #[f0, f1, f2, f3, f4, f5])) (ce : P.cellsOf e = 6)
    (o0 : f0.offset = 0) (o1 : f1.offset = 1) (o2 : f2.offset = 2) (o3 : f3.offset = 3) (o4 : f4.offset = 4) (o5 : f5.offset = 5)
    (c0 : P.cellsOf f0.type = 1) (c1 : P.cellsOf f1.type = 1) (c2 : P.cellsOf f2.type = 1) (c3 : P.cellsOf f3.type = 1) (c4 : P.cellsOf f4.type = 1) (c5 : P.cellsOf f5.type = 1)
    (t0 : P.underlying f0.type = some (.int .i64)) (t1 : P.underlying f1.type = some (.int .u64)) (t2 : P.underlying f2.type = some (.int .u64)) (t3 : P.underlying f3.type = some (.int .u64)) (t4 : P.underlying f4.type = some (.int .u64)) (t5 : P.underlying f5.type = some (.float .f64))
    (h : DataW.trod enc P w base spare held fuel t [.slice a len cap] = some x) : ∃ F, IsOprs w a len cap F := by
  rcases open_slice ht h with ⟨hc, _⟩ | ⟨a, len', cap', m, n, D, Pl, hc, hb, hl, hm, hmm, rfl, hx⟩
  · simp at hc
    obtain ⟨rfl, rfl, rfl⟩ := hc
    exact ⟨fun _ => ⟨0, 0, 0, 0, 0, 0⟩, Nat.le_refl _, Nat.zero_le _, .inl rfl⟩
  simp at hc
  obtain ⟨rfl, rfl, rfl⟩ := hc
  have hlm : len ≤ m := by rw [hmm]; split <;> omega
  have each : ∀ i, i < len → ∃ q : Opr, w.cell? (a.add (i * 6)) = some (.int .i64 q.kind) ∧ w.cell? (a.add (i * 6 + 1)) = some (.int .u64 (q.now : Int)) ∧ w.cell? (a.add (i * 6 + 2)) = some (.int .u64 (q.lo : Int)) ∧
      w.cell? (a.add (i * 6 + 3)) = some (.int .u64 (q.hi : Int)) ∧ w.cell? (a.add (i * 6 + 4)) = some (.int .u64 (q.time : Int)) ∧ w.cell? (a.add (i * 6 + 5)) = some (.float .f64 q.x) ∧ q.ok := by
    intro i hi
    obtain ⟨cs', h1, h2⟩ := hx i (by omega)
    rw [ce] at h1
    obtain ⟨_, hlen, hcell⟩ := World.cells?_some h1
    obtain ⟨o, rfl, hok⟩ := opr_of he hlen o0 o1 o2 o3 o4 o5 c0 c1 c2 c3 c4 c5 t0 t1 t2 t3 t4 t5 h2
    have e0 := hcell 0 (by omega)
    have e1 := hcell 1 (by omega)
    have e2 := hcell 2 (by omega)
    have e3 := hcell 3 (by omega)
    have e4 := hcell 4 (by omega)
    have e5 := hcell 5 (by omega)
    rw [add_add] at e0 e1 e2 e3 e4 e5
    exact ⟨o, by simpa [oprV] using e0, by simpa [oprV] using e1, by simpa [oprV] using e2, by simpa [oprV] using e3, by simpa [oprV] using e4, by simpa [oprV] using e5, hok⟩
  obtain ⟨q, hq⟩ := choose_lt each
  by_cases h0 : 0 < len
  · obtain ⟨b, off, sp⟩ := a
    have hsp : sp = none := by simpa [Addr.add] using World.cell?_spot (hq 0 h0).1
    subst hsp
    refine ⟨q, hl, hm, .inr ⟨b, off, rfl, fun i hi => ?_⟩⟩
    have := hq i hi
    rw [add_plain, add_plain, add_plain, add_plain, add_plain, add_plain] at this
    exact this
  · exact ⟨q, hl, hm, .inl (by omega)⟩
end
end Go.Proofs.YtkogmjbiedpbnaaDoor.DkOps
