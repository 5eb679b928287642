/- How a screen that came in reads; a witness over great tables. -/
import Derived.Test.YtjfeejoplchmpaaDoorSb
import Derived.Deep.SlicePairs
import Derived.Laws.Tables
import Derived.Lay
import Derived.LaidLaws
import Derived.Deep.DeepHandedRow
set_option linter.unusedVariables false
namespace Go.Proofs.YtjfeejoplchmpaaDoor.Sp
open Go Go.RowKit Go.ChangeShapes Go.WideShapes Go.Deep Go.Joins Kit Gm Gv Sa Sb

instance : Inhabited Ce := ⟨zeroC⟩
def CeOk (c : Ce) : Prop := (Lit.int .i32 c.r).wf = true ∧ (Lit.int .i64 c.fl).wf = true ∧ (Lit.int .i64 c.fg).wf = true ∧ (Lit.int .i64 c.bg).wf = true ∧ (Lit.int .i64 c.wd).wf = true
/-- cells that came in. -/
def IsCells (w : World) (a : Option Addr) (n cap : Nat) (L : List Ce) : Prop := n ≤ cap ∧ cap ≤ maxLen ∧ n = L.length ∧ (n = 0 ∨ ∃ b off, a = some ⟨b, off, none⟩ ∧ Sc w b off L) ∧ ∀ c ∈ L, CeOk c
section
variable {H : Type} {enc : TypeId × Value → H} {w : World} {base : Nat} {spare : Nat → Bool} {held : Bool}
theorem add_plain (b o i : Nat) : (⟨b, o, none⟩ : Addr).add i = ⟨b, o + i, none⟩ := by unfold Addr.add; split <;> simp_all
theorem cells32 : Tryd.prog.cellsOf 32 = 5 := by kernel_rfl
theorem cells30 : Tryd.prog.cellsOf 30 = 3 := by kernel_rfl
theorem cells24 : Tryd.prog.cellsOf 24 = 7 := by kernel_rfl
theorem cells22 : Tryd.prog.cellsOf 22 = 1 := by kernel_rfl
theorem cells21 : Tryd.prog.cellsOf 21 = 1 := by kernel_rfl
theorem cells9 : Tryd.prog.cellsOf 9 = 1 := by kernel_rfl
theorem cells4 : Tryd.prog.cellsOf 4 = 1 := by kernel_rfl
theorem cells3 : Tryd.prog.cellsOf 3 = 1 := by kernel_rfl
theorem open_ce {fuel : Nat} {cs : List Value} {x : DataW H × List MemPlace} (hl : cs.length = 5) (h : DataW.trod enc Tryd.prog w base spare held fuel 32 cs = some x) : ∃ c : Ce, cs = cv c ∧ CeOk c := by
  obtain ⟨xs, n, _, _, _, hlen, hg⟩ := DataW.trod_struct Tryd.underlying32 h
  match cs, hl, xs, hlen with
  | [c0, c1, c2, c3, c4], _, [y0, y1, y2], _ =>
    have g0 := hg 0 _ rfl
    have g1 := hg 1 _ rfl
    have g2 := hg 2 _ rfl
    simp [cells21, cells30, cells3] at g0 g1 g2
    obtain ⟨x0, e0, _, h0⟩ := DataW.trod_int Tryd.underlying21 g0
    obtain ⟨x4, e4, _, h4⟩ := DataW.trod_int Tryd.underlying3 g2
    obtain ⟨ys, m, _, _, _, hlen', hg'⟩ := DataW.trod_struct Tryd.underlying30 g1
    match ys, hlen' with
    | [z0, z1, z2], _ =>
      have k0 := hg' 0 _ rfl
      have k1 := hg' 1 _ rfl
      have k2 := hg' 2 _ rfl
      simp [cells3] at k0 k1 k2
      obtain ⟨x1, e1, _, h1⟩ := DataW.trod_int Tryd.underlying3 k0
      obtain ⟨x2, e2, _, h2⟩ := DataW.trod_int Tryd.underlying3 k1
      obtain ⟨x3, e3, _, h3⟩ := DataW.trod_int Tryd.underlying3 k2
      simp at e0 e1 e2 e3 e4
      subst e0 e1 e2 e3 e4
      exact ⟨⟨x0, x1, x2, x3, x4⟩, rfl, h0, h1, h2, h3, h4⟩
theorem open_cells {fuel : Nat} {c : Value} {x : DataW H × List MemPlace} (h : DataW.trod enc Tryd.prog w base spare held fuel 22 [c] = some x) : ∃ a n cap L, c = .slice a n cap ∧ IsCells w a n cap L := by
  rcases open_slice Tryd.underlying22 h with ⟨hc, _⟩ | ⟨a, len', cap', m, n, D, Pl, hc, hb, hl, hm, hmm, rfl, hx⟩
  · simp at hc
    subst hc
    exact ⟨none, 0, 0, [], rfl, Nat.le_refl _, Nat.zero_le _, rfl, .inl rfl, by simp⟩
  simp at hc
  subst hc
  have hlm : len' ≤ m := by rw [hmm]; split <;> omega
  have each : ∀ i, i < len' → ∃ q : Ce, (∀ j, j < 5 → w.cell? (a.add (i * 5 + j)) = (cv q)[j]?) ∧ CeOk q := by
    intro i hi
    obtain ⟨cs', h1, h2⟩ := hx i (by omega)
    rw [cells32] at h1
    obtain ⟨_, hlen, hcell⟩ := World.cells?_some h1
    obtain ⟨q, rfl, hq⟩ := open_ce hlen h2
    refine ⟨q, fun j hj => ?_, hq⟩
    have := hcell j (by omega)
    rw [add_add] at this
    exact this
  obtain ⟨q, hq⟩ := choose_lt each
  refine ⟨a, len', cap', (List.range len').map q, rfl, hl, hm, by simp, ?_, fun e he => ?_⟩
  · by_cases h0 : 0 < len'
    · obtain ⟨b, off, sp⟩ := a
      have hsp : sp = none := by simpa [Addr.add] using World.cell?_spot (show w.cell? _ = some (.int .i32 (q 0).r) from (hq 0 h0).1 0 (by omega))
      subst hsp
      refine .inr ⟨b, off, rfl, fun i hi j hj => ?_⟩
      have hi' : i < len' := by simpa using hi
      have := (hq i hi').1 j hj
      rw [add_plain, ← Nat.add_assoc] at this
      rw [this]; simp
    · exact .inl (by omega)
  · simp only [List.mem_map, List.mem_range] at he
    obtain ⟨i, hi, rfl⟩ := he
    exact (hq i hi).2
theorem open_screen {r : Reach} {b0 : Nat} {v : Value} {d : DataW H} {p : List MemPlace} (hv : Value.okWide Tryd.prog w r b0 24 v) (h : DataW.Trod enc Tryd.prog w base spare held 24 v d p) :
    ∃ (s : Scr) (a : Option Addr) (n cap : Nat) (L : List Ce), v = svA s a n cap ∧ IsCells w a n cap L ∧ (Lit.int .i64 s.R).wf = true ∧ (Lit.int .i64 s.C).wf = true ∧ (Lit.int .i64 s.row).wf = true ∧ (Lit.int .i64 s.col).wf = true := by
  obtain ⟨cs, rfl, hsz⟩ := okWide_struct Tryd.underlying24 hv
  obtain ⟨l⟩ := cs
  match l, hsz.trans cells24 with
  | [c0, c1, c2, c3, c4, c5, c6], _ =>
    obtain ⟨fuel, hf⟩ := h
    obtain ⟨xs, n, _, _, _, hlen, hg⟩ := DataW.trod_struct Tryd.underlying24 hf
    match xs, hlen with
    | [y0, y1, y2, y3, y4, y5, y6], _ =>
      have g0 := hg 0 _ rfl
      have g1 := hg 1 _ rfl
      have g2 := hg 2 _ rfl
      have g3 := hg 3 _ rfl
      have g4 := hg 4 _ rfl
      have g5 := hg 5 _ rfl
      have g6 := hg 6 _ rfl
      simp [Value.cells, cells22, cells9, cells4, cells3] at g0 g1 g2 g3 g4 g5 g6
      obtain ⟨x0, e0, _, h0⟩ := DataW.trod_int Tryd.underlying3 g0
      obtain ⟨x1, e1, _, h1⟩ := DataW.trod_int Tryd.underlying3 g1
      obtain ⟨a, m, cap, L, rfl, hL⟩ := open_cells g2
      obtain ⟨x3, e3, _, h3⟩ := DataW.trod_int Tryd.underlying3 g3
      obtain ⟨x4, e4, _, h4⟩ := DataW.trod_int Tryd.underlying3 g4
      obtain ⟨x5, e5, _⟩ := DataW.trod_bool Tryd.underlying4 g5
      obtain ⟨x6, e6, _⟩ := DataW.trod_string Tryd.underlying9 g6
      simp at e0 e1 e3 e4 e5 e6
      subst e0 e1 e3 e4 e5 e6
      exact ⟨⟨x0, x1, x3, x4, x5, x6⟩, a, m, cap, L, rfl, hL, h0, h1, h3, h4⟩
end
/-- the witness over a world that was shaped by a law (great tables). -/
theorem witness_row_sh {H : Type} {enc : TypeId × Value → H} {C : Checked} {os : Os} {f : FuncId} {fn : Func} {s : OpenSpec} {conds : List PathCond} {apart : Bool} {laid : List (String × DataW Unit)} (modest : Bool) (w0 : World) (args : Array Value) (hos : w0.os = os)
    (hsh : (w0.forCall (fun _ _ => 0) ⟨#[], args, []⟩).Shaped C.prog)
    (hok : Input.okWideB C.prog (w0.forCall (fun _ _ => 0) ⟨#[], args, []⟩) f ⟨#[], args, []⟩ = true)
    (hrow : s.preRow enc C.prog fn conds apart laid (w0.forCall (fun _ _ => 0) ⟨#[], args, []⟩).memory args) :
    ∃ (w : World) (tape : Tape) (i : Input), w.os = os ∧ (w.forCall tape i).Shaped C.prog ∧ i.vars = [] ∧ Input.okWide C.prog (w.forCall tape i) .any w.heap.size f i ∧
      s.preRow enc C.prog fn conds apart laid (w.forCall tape i).memory i.args ∧ ({ modest := modest } : Assume).holds C.prog (lone (Frame.enter C.prog f i.args .normal) [] (w.forCall tape i)) :=
  ⟨w0, fun _ _ => 0, ⟨#[], args, []⟩, hos, hsh, (Input.okWide_of_okWideB (base := 0) hok).1, (Input.okWide_of_okWideB hok).2, hrow, by
    simp only [Assume.holds]
    exact ⟨by simp, by simp, fun _ => Modest.zero, by simp, by simp⟩⟩
end Go.Proofs.YtjfeejoplchmpaaDoor.Sp
