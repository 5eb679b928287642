/- A slice of records as a parameter. -/
import Derived.Test.YtabgelmmjpjejaaDoorSx
import Derived.Test.YtabgelmmjpjejaaDoorArgB
import Derived.Deep.SlicePairs
import Derived.Laws.Cover2
set_option linter.unusedVariables false
namespace Go.Proofs.YtabgelmmjpjejaaDoor.Sv
open Go Go.RowKit Kit Crc Var Get Ref3 Copy Bytes Bx Py Py2 Sx


section
variable {H : Type} {enc : TypeId × Value → H} {P : Program} {w : World} {base : Nat} {held : Bool}
/-- a record that came in. -/
structure RV where
  k : Int
  s : Nat
  t : Nat
  a : Option Addr
  m : Nat
  c : Nat
  z : List Int
def RV.ok (w : World) (r : RV) : Prop := r.s < 18446744073709551616 ∧ r.t < 18446744073709551616 ∧ IsRow .u8 w r.a r.m r.c r.z
def recV (r : RV) : List Value := [.int .i64 r.k, .int .u64 (r.s : Int), .int .u64 (r.t : Int), .slice r.a r.m r.c]
theorem nat_of {n : Nat} {t : TypeId} {c : Value} {spare : Nat → Bool} {y : DataW H × List MemPlace} (ht : P.underlying t = some (.int .u64)) (h : DataW.trod enc P w base spare held n t [c] = some y) :
    ∃ a : Nat, c = .int .u64 (a : Int) ∧ a < 18446744073709551616 := by
  obtain ⟨z, rfl, hw⟩ := Kit.int_of ht h
  obtain ⟨a, rfl⟩ := Int.eq_ofNat_of_zero_le (Bx.inU hw).1
  exact ⟨a, rfl, by have := (Bx.inU hw).2; omega⟩
variable {f0 f1 f2 f3 : Field} {te : TypeId}
theorem rec_of {e : TypeId} {n : Nat} {cs : List Value} {x : DataW H × List MemPlace} (hl : cs.length = 4) (he : P.underlying e = some (.struct #[f0, f1, f2, f3])) (o0 : f0.offset = 0) (o1 : f1.offset = 1) (o2 : f2.offset = 2) (o3 : f3.offset = 3)
    (c0 : P.cellsOf f0.type = 1) (c1 : P.cellsOf f1.type = 1) (c2 : P.cellsOf f2.type = 1) (c3 : P.cellsOf f3.type = 1) (ce : P.cellsOf te = 1)
    (t0 : P.underlying f0.type = some (.int .i64)) (t1 : P.underlying f1.type = some (.int .u64)) (t2 : P.underlying f2.type = some (.int .u64)) (t3 : P.underlying f3.type = some (.slice te)) (t4 : P.underlying te = some (.int .u8))
    (h : DataW.trod enc P w base (fun _ => true) held n e cs = some x) : ∃ r : RV, cs = recV r ∧ r.ok w := by
  obtain ⟨xs, k, hk, hxy, _, hxl, hf⟩ := DataW.trod_struct he h
  match xs, hxl, cs, hl with
  | [y0, y1, y2, y3], _, [v0, v1, v2, v3], _ =>
    have g0 := hf 0 f0 rfl
    have g1 := hf 1 f1 rfl
    have g2 := hf 2 f2 rfl
    have g3 := hf 3 f3 rfl
    simp [o0, o1, o2, o3, c0, c1, c2, c3] at g0 g1 g2 g3
    obtain ⟨b0, rfl, _⟩ := Kit.int_of t0 g0
    obtain ⟨b1, rfl, w1⟩ := nat_of t1 g1
    obtain ⟨b2, rfl, w2⟩ := nat_of t2 g2
    rcases Go.ChangeShapes.open_ints t3 t4 ce g3 with ⟨hcs, _⟩ | ⟨x, l, c, zs, hcs, _, hl, hm, hz, _, hcell, hwz⟩
    · simp at hcs; subst hcs; exact ⟨⟨b0, b1, b2, none, 0, 0, []⟩, rfl, w1, w2, .inl ⟨rfl, rfl, rfl, rfl⟩⟩
    · simp at hcs; subst hcs; exact ⟨⟨b0, b1, b2, some x, l, c, zs⟩, rfl, w1, w2, .inr ⟨_, rfl, hl, hm, by simpa using hz, hcell, hwz⟩⟩
/-- a slice of records. -/
def IsRecs (w : World) (a : Option Addr) (len cap : Nat) (F : Nat → RV) : Prop :=
  len ≤ cap ∧ cap ≤ maxLen ∧ (len = 0 ∨ ∃ b off, a = some ⟨b, off, none⟩ ∧ ∀ i, i < len →
    w.cell? ⟨b, off + i * 4, none⟩ = some (.int .i64 (F i).k) ∧ w.cell? ⟨b, off + i * 4 + 1, none⟩ = some (.int .u64 ((F i).s : Int)) ∧ w.cell? ⟨b, off + i * 4 + 2, none⟩ = some (.int .u64 ((F i).t : Int)) ∧
    w.cell? ⟨b, off + i * 4 + 3, none⟩ = some (.slice (F i).a (F i).m (F i).c) ∧ (F i).ok w)
instance : Inhabited RV := ⟨⟨0, 0, 0, none, 0, 0, []⟩⟩
theorem open_recs {t e : TypeId} {fuel : Nat} {a : Option Addr} {len cap : Nat} {x : DataW H × List MemPlace} (ht : P.underlying t = some (.slice e)) (c4 : P.cellsOf e = 4) (he : P.underlying e = some (.struct #[f0, f1, f2, f3])) (o0 : f0.offset = 0) (o1 : f1.offset = 1) (o2 : f2.offset = 2) (o3 : f3.offset = 3)
    (c0 : P.cellsOf f0.type = 1) (c1 : P.cellsOf f1.type = 1) (c2 : P.cellsOf f2.type = 1) (c3 : P.cellsOf f3.type = 1) (ce : P.cellsOf te = 1)
    (t0 : P.underlying f0.type = some (.int .i64)) (t1 : P.underlying f1.type = some (.int .u64)) (t2 : P.underlying f2.type = some (.int .u64)) (t3 : P.underlying f3.type = some (.slice te)) (t4 : P.underlying te = some (.int .u8))
    (h : DataW.trod enc P w base (fun _ => true) held fuel t [.slice a len cap] = some x) : ∃ F, IsRecs w a len cap F := by
  rcases Go.Deep.open_slice ht h with ⟨hc, _⟩ | ⟨a, len', cap', m, n, D, Pl, hc, hb, hl, hm, hmm, rfl, hx⟩
  · simp at hc
    obtain ⟨rfl, rfl, rfl⟩ := hc
    exact ⟨fun _ => default, Nat.le_refl _, Nat.zero_le _, .inl rfl⟩
  simp at hc
  obtain ⟨rfl, rfl, rfl⟩ := hc
  have hlm : len ≤ m := by rw [hmm]; split <;> omega
  have each : ∀ i, i < len → ∃ q : RV, w.cell? (a.add (i * 4)) = some (.int .i64 q.k) ∧ w.cell? (a.add (i * 4 + 1)) = some (.int .u64 (q.s : Int)) ∧ w.cell? (a.add (i * 4 + 2)) = some (.int .u64 (q.t : Int)) ∧
      w.cell? (a.add (i * 4 + 3)) = some (.slice q.a q.m q.c) ∧ q.ok w := by
    intro i hi
    obtain ⟨cs', h1, h2⟩ := hx i (by omega)
    rw [c4] at h1
    obtain ⟨_, hlen, hcell⟩ := World.cells?_some h1
    obtain ⟨o, rfl, hok⟩ := rec_of hlen he o0 o1 o2 o3 c0 c1 c2 c3 ce t0 t1 t2 t3 t4 h2
    have e0 := hcell 0 (by omega)
    have e1 := hcell 1 (by omega)
    have e2 := hcell 2 (by omega)
    have e3 := hcell 3 (by omega)
    rw [Go.Deep.add_add] at e0 e1 e2 e3
    exact ⟨o, by simpa [recV] using e0, by simpa [recV] using e1, by simpa [recV] using e2, by simpa [recV] using e3, hok⟩
  obtain ⟨q, hq⟩ := Go.Deep.choose_lt each
  by_cases h0 : 0 < len
  · obtain ⟨b, off, sp⟩ := a
    have hsp : sp = none := by simpa [Addr.add] using World.cell?_spot (hq 0 h0).1
    subst hsp
    refine ⟨q, hl, hm, .inr ⟨b, off, rfl, fun i hi => ?_⟩⟩
    have := hq i hi
    rw [Go.WideShapes.add_plain, Go.WideShapes.add_plain, Go.WideShapes.add_plain, Go.WideShapes.add_plain] at this
    exact this
  · exact ⟨q, hl, hm, .inl (by omega)⟩
/-- the argument of seg's statements. -/
theorem recs68 {fuel : Nat} {a : Option Addr} {len cap : Nat} {x : DataW H × List MemPlace} (h : DataW.trod enc Tryd.prog w base (fun _ => true) held fuel 68 [.slice a len cap] = some x) : ∃ F, IsRecs w a len cap F :=
  open_recs (te := 5) Tryd.underlying68 (by kernel_rfl) Tryd.underlying25 rfl rfl rfl rfl (by kernel_rfl) (by kernel_rfl) (by kernel_rfl) (by kernel_rfl) (by kernel_rfl) (by kernel_rfl) (by kernel_rfl) (by kernel_rfl) (by kernel_rfl) (by kernel_rfl) h
end

end Go.Proofs.YtabgelmmjpjejaaDoor.Sv
