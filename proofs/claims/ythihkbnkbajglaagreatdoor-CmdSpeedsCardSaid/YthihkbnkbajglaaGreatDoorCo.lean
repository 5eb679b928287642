/- A command as a parameter, and a slice of them. -/
import Derived.Test.YthihkbnkbajglaaGreatDoorDkOps
import Derived.Test.YthihkbnkbajglaaGreatDoorCm
set_option linter.unusedVariables false
namespace Go.Proofs.YthihkbnkbajglaaGreatDoor.Co
open Go Go.RowKit Go.ChangeShapes Go.WideShapes Go.Deep Kit Nums DkOps
structure Cmd where
  kind : Int
  time : Nat
  x : Nat
structure Cmd.ok (o : Cmd) : Prop where
  time : o.time < 18446744073709551616
  x : In64 o.x
def cmdV (o : Cmd) : Array Value := #[.int .i64 o.kind, .int .u64 (o.time : Int), .float .f64 o.x]
instance : Inhabited Cmd := ⟨⟨0, 0, 0⟩⟩
section
variable {H : Type} {enc : TypeId × Value → H} {P : Program} {w : World} {base : Nat} {spare : Nat → Bool} {held : Bool}
variable {f0 f1 f2 : Field}
theorem cmd_of {e : TypeId} {n : Nat} {cs : List Value} {x : DataW H × List MemPlace} (he : P.underlying e = some (.struct #[f0, f1, f2])) (hl : cs.length = 3)
    (o0 : f0.offset = 0) (o1 : f1.offset = 1) (o2 : f2.offset = 2)
    (c0 : P.cellsOf f0.type = 1) (c1 : P.cellsOf f1.type = 1) (c2 : P.cellsOf f2.type = 1)
    (t0 : P.underlying f0.type = some (.int .i64)) (t1 : P.underlying f1.type = some (.int .u64)) (t2 : P.underlying f2.type = some (.float .f64))
    (h : DataW.trod enc P w base spare held n e cs = some x) : ∃ o : Cmd, cs = (cmdV o).toList ∧ o.ok := by
  obtain ⟨xs, k, hk, hxy, _, hxl, hf⟩ := DataW.trod_struct he h
  match xs, hxl, cs, hl with
  | [y0, y1, y2], _, [v0, v1, v2], _ =>
    have g0 := hf 0 f0 rfl
    have g1 := hf 1 f1 rfl
    have g2 := hf 2 f2 rfl
    simp [o0, o1, o2, c0, c1, c2] at g0 g1 g2
    obtain ⟨b0, rfl, _⟩ := int_of t0 g0
    obtain ⟨b1, rfl, w1⟩ := nat_of t1 g1
    obtain ⟨b2, rfl, w2⟩ := flt_of t2 g2
    exact ⟨⟨b0, b1, b2⟩, rfl, ⟨w1, inF w2⟩⟩
theorem open_cmd {r : Reach} {b0 : Nat} {e : TypeId} {v : Value} {d : DataW H} {ps : List MemPlace} (he : P.underlying e = some (.struct #[f0, f1, f2])) (ce : P.cellsOf e = 3)
    (o0 : f0.offset = 0) (o1 : f1.offset = 1) (o2 : f2.offset = 2)
    (c0 : P.cellsOf f0.type = 1) (c1 : P.cellsOf f1.type = 1) (c2 : P.cellsOf f2.type = 1)
    (t0 : P.underlying f0.type = some (.int .i64)) (t1 : P.underlying f1.type = some (.int .u64)) (t2 : P.underlying f2.type = some (.float .f64))
    (hv : Value.okWide P w r b0 e v) (h : DataW.Trod enc P w base spare held e v d ps) : ∃ o : Cmd, v = .agg (cmdV o) ∧ o.ok := by
  obtain ⟨cs, rfl, hsz⟩ := okWide_struct he hv
  obtain ⟨fuel, hf⟩ := h
  obtain ⟨o, ho, hok⟩ := cmd_of (cs := cs.toList) he (by simp [hsz, ce]) o0 o1 o2 c0 c1 c2 t0 t1 t2 (by simpa [Value.cells] using hf)
  exact ⟨o, by rw [Array.toList_inj.1 ho], hok⟩
/-- a slice of commands. -/
def IsCmds (w : World) (a : Option Addr) (len cap : Nat) (F : Nat → Cmd) : Prop :=
  len ≤ cap ∧ cap ≤ maxLen ∧ (len = 0 ∨ ∃ b off, a = some ⟨b, off, none⟩ ∧ ∀ i, i < len →
    w.cell? ⟨b, off + i * 3, none⟩ = some (.int .i64 (F i).kind) ∧ w.cell? ⟨b, off + i * 3 + 1, none⟩ = some (.int .u64 ((F i).time : Int)) ∧ w.cell? ⟨b, off + i * 3 + 2, none⟩ = some (.float .f64 (F i).x) ∧ (F i).ok)
theorem open_cmds {t e : TypeId} {fuel : Nat} {a : Option Addr} {len cap : Nat} {x : DataW H × List MemPlace} (ht : P.underlying t = some (.slice e)) (he : P.underlying e = some (.struct #[f0, f1, f2])) (ce : P.cellsOf e = 3)
    (o0 : f0.offset = 0) (o1 : f1.offset = 1) (o2 : f2.offset = 2)
    (c0 : P.cellsOf f0.type = 1) (c1 : P.cellsOf f1.type = 1) (c2 : P.cellsOf f2.type = 1)
    (t0 : P.underlying f0.type = some (.int .i64)) (t1 : P.underlying f1.type = some (.int .u64)) (t2 : P.underlying f2.type = some (.float .f64))
    (h : DataW.trod enc P w base spare held fuel t [.slice a len cap] = some x) : ∃ F, IsCmds w a len cap F := by
  rcases open_slice ht h with ⟨hc, _⟩ | ⟨a, len', cap', m, n, D, Pl, hc, hb, hl, hm, hmm, rfl, hx⟩
  · simp at hc
    obtain ⟨rfl, rfl, rfl⟩ := hc
    exact ⟨fun _ => ⟨0, 0, 0⟩, Nat.le_refl _, Nat.zero_le _, .inl rfl⟩
  simp at hc
  obtain ⟨rfl, rfl, rfl⟩ := hc
  have hlm : len ≤ m := by rw [hmm]; split <;> omega
  have each : ∀ i, i < len → ∃ q : Cmd, w.cell? (a.add (i * 3)) = some (.int .i64 q.kind) ∧ w.cell? (a.add (i * 3 + 1)) = some (.int .u64 (q.time : Int)) ∧ w.cell? (a.add (i * 3 + 2)) = some (.float .f64 q.x) ∧ q.ok := by
    intro i hi
    obtain ⟨cs', h1, h2⟩ := hx i (by omega)
    rw [ce] at h1
    obtain ⟨_, hlen, hcell⟩ := World.cells?_some h1
    obtain ⟨o, rfl, hok⟩ := cmd_of he hlen o0 o1 o2 c0 c1 c2 t0 t1 t2 h2
    have e0 := hcell 0 (by omega)
    have e1 := hcell 1 (by omega)
    have e2 := hcell 2 (by omega)
    rw [add_add] at e0 e1 e2
    exact ⟨o, by simpa [cmdV] using e0, by simpa [cmdV] using e1, by simpa [cmdV] using e2, hok⟩
  obtain ⟨q, hq⟩ := choose_lt each
  by_cases h0 : 0 < len
  · obtain ⟨b, off, sp⟩ := a
    have hsp : sp = none := by simpa [Addr.add] using World.cell?_spot (hq 0 h0).1
    subst hsp
    refine ⟨q, hl, hm, .inr ⟨b, off, rfl, fun i hi => ?_⟩⟩
    have := hq i hi
    rw [add_plain, add_plain, add_plain] at this
    exact this
  · exact ⟨q, hl, hm, .inl (by omega)⟩
end
/-- the three cells of a command. -/
def Three (b k : Nat) (o : Cmd) (W : World) : Prop :=
  W.cell? ⟨b, k, none⟩ = some (.int .i64 o.kind) ∧ W.cell? ⟨b, k + 1, none⟩ = some (.int .u64 (o.time : Int)) ∧ W.cell? ⟨b, k + 2, none⟩ = some (.float .f64 o.x)
theorem Three.then_ {W0 W : World} {b k : Nat} {o : Cmd} (h : Three b k o W0) (hb : Below W0.heap.size W0 W) : Three b k o W :=
  ⟨cell_then hb (Nat.le_refl _) h.1, cell_then hb (Nat.le_refl _) h.2.1, cell_then hb (Nat.le_refl _) h.2.2⟩
end Go.Proofs.YthihkbnkbajglaaGreatDoor.Co
