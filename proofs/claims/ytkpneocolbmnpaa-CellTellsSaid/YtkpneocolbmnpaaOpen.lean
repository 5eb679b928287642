/- How a cell and its looks, as arguments by value, read: five and three integers. -/
import Derived.Test.YtkpneocolbmnpaaKit
namespace Go.Proofs.Ytkpneocolbmnpaa.Kit
open Go Go.RowKit Go.ChangeShapes Go.WideShapes Go.Joins
section
variable {H : Type} {enc : TypeId × Value → H} {w : World} {base : Nat} {spare : Nat → Bool} {held : Bool}
theorem cells25 : Try.prog.cellsOf 25 = 5 := by kernel_rfl
theorem cells23 : Try.prog.cellsOf 23 = 3 := by kernel_rfl
theorem cells3 : Try.prog.cellsOf 3 = 1 := by kernel_rfl
theorem cells21 : Try.prog.cellsOf 21 = 1 := by kernel_rfl
theorem open_cell {r : Reach} {b0 : Nat} {v : Value} {d : DataW H} {p : List MemPlace} (hv : Value.okWide Try.prog w r b0 25 v) (h : DataW.Trod enc Try.prog w base spare held 25 v d p) :
    ∃ a0 a1 a2 a3 a4 : Int, v = .agg #[.int .i32 a0, .int .i64 a1, .int .i64 a2, .int .i64 a3, .int .i64 a4] ∧ (Lit.int .i32 a0).wf = true ∧ (Lit.int .i64 a1).wf = true ∧ (Lit.int .i64 a2).wf = true ∧ (Lit.int .i64 a3).wf = true ∧ (Lit.int .i64 a4).wf = true := by
  obtain ⟨cs, rfl, hsz⟩ := okWide_struct Try.underlying25 hv
  obtain ⟨l⟩ := cs
  match l, hsz.trans cells25 with
  | [c0, c1, c2, c3, c4], _ =>
    obtain ⟨fuel, hf⟩ := h
    obtain ⟨xs, n, _, _, _, hlen, hg⟩ := DataW.trod_struct Try.underlying25 hf
    match xs, hlen with
    | [y0, y1, y2], _ =>
      have g0 := hg 0 _ rfl
      have g1 := hg 1 _ rfl
      have g2 := hg 2 _ rfl
      simp [Value.cells, cells21, cells23, cells3] at g0 g1 g2
      obtain ⟨x0, e0, _, h0⟩ := DataW.trod_int Try.underlying21 g0
      obtain ⟨x4, e4, _, h4⟩ := DataW.trod_int Try.underlying3 g2
      obtain ⟨ys, m, _, _, _, hlen', hg'⟩ := DataW.trod_struct Try.underlying23 g1
      match ys, hlen' with
      | [z0, z1, z2], _ =>
        have k0 := hg' 0 _ rfl
        have k1 := hg' 1 _ rfl
        have k2 := hg' 2 _ rfl
        simp [cells3] at k0 k1 k2
        obtain ⟨x1, e1, _, h1⟩ := DataW.trod_int Try.underlying3 k0
        obtain ⟨x2, e2, _, h2⟩ := DataW.trod_int Try.underlying3 k1
        obtain ⟨x3, e3, _, h3⟩ := DataW.trod_int Try.underlying3 k2
        simp at e0 e1 e2 e3 e4
        subst e0 e1 e2 e3 e4
        exact ⟨x0, x1, x2, x3, x4, rfl, h0, h1, h2, h3, h4⟩
end
end Go.Proofs.Ytkpneocolbmnpaa.Kit
