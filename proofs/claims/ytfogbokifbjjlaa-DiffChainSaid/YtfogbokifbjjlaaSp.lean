/- How a screen that came in reads; a witness over great tables. -/
import Derived.Test.YtfogbokifbjjlaaSb
import Derived.Deep.SlicePairs
import Derived.Laws.Tables
import Derived.Deep.DeepHandedRow
set_option linter.unusedVariables false
namespace Go.Proofs.Ytfogbokifbjjlaa.Sp
open Go Go.RowKit Go.ChangeShapes Go.WideShapes Go.Deep Go.Joins Kit Gm Gv Sa Sb

instance : Inhabited Ce := ⟨zeroC⟩
def CeOk (c : Ce) : Prop := (Lit.int .i32 c.r).wf = true ∧ (Lit.int .i64 c.fl).wf = true ∧ (Lit.int .i64 c.fg).wf = true ∧ (Lit.int .i64 c.bg).wf = true ∧ (Lit.int .i64 c.wd).wf = true
/-- cells that came in. -/
def IsCells (w : World) (a : Option Addr) (n cap : Nat) (L : List Ce) : Prop := n ≤ cap ∧ cap ≤ maxLen ∧ n = L.length ∧ (n = 0 ∨ ∃ b off, a = some ⟨b, off, none⟩ ∧ Sc w b off L) ∧ ∀ c ∈ L, CeOk c
section
variable {H : Type} {enc : TypeId × Value → H} {w : World} {base : Nat} {spare : Nat → Bool} {held : Bool}
theorem add_plain (b o i : Nat) : (⟨b, o, none⟩ : Addr).add i = ⟨b, o + i, none⟩ := by unfold Addr.add; split <;> simp_all
theorem cells52 : Try.prog.cellsOf 52 = 5 := by kernel_rfl
theorem cells50 : Try.prog.cellsOf 50 = 3 := by kernel_rfl
theorem cells24 : Try.prog.cellsOf 24 = 7 := by kernel_rfl
theorem cells22 : Try.prog.cellsOf 22 = 1 := by kernel_rfl
theorem cells21 : Try.prog.cellsOf 21 = 1 := by kernel_rfl
theorem cells9 : Try.prog.cellsOf 9 = 1 := by kernel_rfl
theorem cells4 : Try.prog.cellsOf 4 = 1 := by kernel_rfl
theorem cells3 : Try.prog.cellsOf 3 = 1 := by kernel_rfl
set_option maxRecDepth 100000 in
theorem open_ce {fuel : Nat} {cs : List Value} {x : DataW H × List MemPlace} (hl : cs.length = 5) (h : DataW.trod enc Try.prog w base spare held fuel 52 cs = some x) : ∃ c : Ce, cs = cv c ∧ CeOk c := by
  obtain ⟨xs, n, _, _, _, hlen, hg⟩ := DataW.trod_struct Try.underlying52 h
  match cs, hl, xs, hlen with
  | [c0, c1, c2, c3, c4], _, [y0, y1, y2], _ =>
    have g0 := hg 0 _ rfl
    have g1 := hg 1 _ rfl
    have g2 := hg 2 _ rfl
    simp [cells21, cells50, cells3] at g0 g1 g2
    obtain ⟨x0, e0, _, h0⟩ := DataW.trod_int Try.underlying21 g0
    obtain ⟨x4, e4, _, h4⟩ := DataW.trod_int Try.underlying3 g2
    obtain ⟨ys, m, _, _, _, hlen', hg'⟩ := DataW.trod_struct Try.underlying50 g1
    match ys, hlen' with
    | [z0, z1, z2], _ =>
      have k0 := hg' 0 _ rfl
      have k1 := hg' 1 _ rfl
      have k2 := hg' 2 _ rfl
      simp [cells3] at k0 k1 k2
      obtain ⟨x1, e1, _, h1⟩ := DataW.trod_int Try.underlying3 k0
      obtain ⟨x2, e2, _, h2⟩ := DataW.trod_int Try.underlying3 k1
      obtain ⟨x3, e3, _, h3⟩ := DataW.trod_int Try.underlying3 k2
      simp at e0 e1 e2 e3 e4
      subst e0 e1 e2 e3 e4
      exact ⟨⟨x0, x1, x2, x3, x4⟩, rfl, h0, h1, h2, h3, h4⟩
set_option maxRecDepth 100000 in
theorem open_cells {fuel : Nat} {c : Value} {x : DataW H × List MemPlace} (h : DataW.trod enc Try.prog w base spare held fuel 22 [c] = some x) : ∃ a n cap L, c = .slice a n cap ∧ IsCells w a n cap L := by
  rcases open_slice Try.underlying22 h with ⟨hc, _⟩ | ⟨a, len', cap', m, n, D, Pl, hc, hb, hl, hm, hmm, rfl, hx⟩
  · simp at hc
    subst hc
    exact ⟨none, 0, 0, [], rfl, Nat.le_refl _, Nat.zero_le _, rfl, .inl rfl, by simp⟩
  simp at hc
  subst hc
  have hlm : len' ≤ m := by rw [hmm]; split <;> omega
  have each : ∀ i, i < len' → ∃ q : Ce, (∀ j, j < 5 → w.cell? (a.add (i * 5 + j)) = (cv q)[j]?) ∧ CeOk q := by
    intro i hi
    obtain ⟨cs', h1, h2⟩ := hx i (by omega)
    rw [cells52] at h1
    obtain ⟨_, hlen, hcell⟩ := World.cells?_some h1
    obtain ⟨q, rfl, hq⟩ := open_ce hlen h2
    refine ⟨q, fun j hj => ?_, hq⟩
    have := hcell j (by omega)
    rw [add_add] at this
    exact this
  obtain ⟨q, hq⟩ := choose_lt each
  refine ⟨a, len', cap', (List.range len').map q, rfl, hl, hm, by simp, ?_, fun e he => ?_⟩
  · by_cases h0 : 0 < len'
    · obtain ⟨b, off, sp⟩ := a
      have hsp : sp = none := by simpa [Addr.add] using World.cell?_spot (show w.cell? _ = some (.int .i32 (q 0).r) from (hq 0 h0).1 0 (by omega))
      subst hsp
      refine .inr ⟨b, off, rfl, fun i hi j hj => ?_⟩
      have hi' : i < len' := by simpa using hi
      have := (hq i hi').1 j hj
      rw [add_plain, ← Nat.add_assoc] at this
      rw [this]; simp
    · exact .inl (by omega)
  · simp only [List.mem_map, List.mem_range] at he
    obtain ⟨i, hi, rfl⟩ := he
    exact (hq i hi).2
set_option maxRecDepth 100000 in
theorem open_screen {r : Reach} {b0 : Nat} {v : Value} {d : DataW H} {p : List MemPlace} (hv : Value.okWide Try.prog w r b0 24 v) (h : DataW.Trod enc Try.prog w base spare held 24 v d p) :
    ∃ (s : Scr) (a : Option Addr) (n cap : Nat) (L : List Ce), v = svA s a n cap ∧ IsCells w a n cap L ∧ (Lit.int .i64 s.R).wf = true ∧ (Lit.int .i64 s.C).wf = true ∧ (Lit.int .i64 s.row).wf = true ∧ (Lit.int .i64 s.col).wf = true := by
  obtain ⟨cs, rfl, hsz⟩ := okWide_struct Try.underlying24 hv
  obtain ⟨l⟩ := cs
  match l, hsz.trans cells24 with
  | [c0, c1, c2, c3, c4, c5, c6], _ =>
    obtain ⟨fuel, hf⟩ := h
    obtain ⟨xs, n, _, _, _, hlen, hg⟩ := DataW.trod_struct Try.underlying24 hf
    match xs, hlen with
    | [y0, y1, y2, y3, y4, y5, y6], _ =>
      have g0 := hg 0 _ rfl
      have g1 := hg 1 _ rfl
      have g2 := hg 2 _ rfl
      have g3 := hg 3 _ rfl
      have g4 := hg 4 _ rfl
      have g5 := hg 5 _ rfl
      have g6 := hg 6 _ rfl
      simp [Value.cells, cells22, cells9, cells4, cells3] at g0 g1 g2 g3 g4 g5 g6
      obtain ⟨x0, e0, _, h0⟩ := DataW.trod_int Try.underlying3 g0
      obtain ⟨x1, e1, _, h1⟩ := DataW.trod_int Try.underlying3 g1
      obtain ⟨a, m, cap, L, rfl, hL⟩ := open_cells g2
      obtain ⟨x3, e3, _, h3⟩ := DataW.trod_int Try.underlying3 g3
      obtain ⟨x4, e4, _, h4⟩ := DataW.trod_int Try.underlying3 g4
      obtain ⟨x5, e5, _⟩ := DataW.trod_bool Try.underlying4 g5
      obtain ⟨x6, e6, _⟩ := DataW.trod_string Try.underlying9 g6
      simp at e0 e1 e3 e4 e5 e6
      subst e0 e1 e3 e4 e5 e6
      exact ⟨⟨x0, x1, x3, x4, x5, x6⟩, a, m, cap, L, rfl, hL, h0, h1, h3, h4⟩
end
set_option maxRecDepth 100000 in
theorem open_cell {H : Type} {enc : TypeId × Value → H} {w : World} {base : Nat} {spare : Nat → Bool} {held : Bool} {r : Reach} {b0 : Nat} {v : Value} {d : DataW H} {p : List MemPlace} (hv : Value.okWide Try.prog w r b0 52 v) (h : DataW.Trod enc Try.prog w base spare held 52 v d p) :
    ∃ c : Ce, v = cvA c ∧ CeOk c := by
  obtain ⟨cs, rfl, hsz⟩ := okWide_struct Try.underlying52 hv
  obtain ⟨l⟩ := cs
  obtain ⟨fuel, hf⟩ := h
  obtain ⟨c, e, hc⟩ := open_ce (cs := l) (hsz.trans cells52) hf
  subst e
  exact ⟨c, rfl, hc⟩
end Go.Proofs.Ytfogbokifbjjlaa.Sp
