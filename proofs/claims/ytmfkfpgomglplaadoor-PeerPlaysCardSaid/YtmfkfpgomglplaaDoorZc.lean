/- PeerPlays: its steps. -/
import Derived.Test.YtmfkfpgomglplaaDoorZb
import Derived.Deep.SlicePairs
import Derived.Laws.Cover2
set_option linter.unusedVariables false
namespace Go.Proofs.YtmfkfpgomglplaaDoor.Zc
open Go Go.RowKit Kit Mb Sha Ap Mc1 Sc Mx Sb Pd Su Pa Hm Mm Tg Mf Pk Se Wn Op Pe Ps Pt Oq Pu Ar Of Pz Tl Za Zb


section
variable {H : Type} {enc : TypeId × Value → H} {P : Program} {w : World} {base : Nat} {held : Bool}
/-- a step that came in. -/
structure OV where
  k : Int
  j : Int
  fr : Int
  p : Part
def opV (r : OV) : List Value := [.int .i64 r.k, .int .i64 r.j, .int .i64 r.fr, r.p.v]
theorem part_of {a : Option Addr} {n c : Nat} {z : List Int} (h : IsRow .u8 w a n c z) : ∃ p : Part, Value.slice a n c = p.v ∧ Pt w p := by
  obtain ⟨l, r1, r2, r3, r4, r5, _⟩ := row_bytes h
  exact ⟨⟨a, c, l⟩, by unfold Part.v; rw [r1], r3, r4, (by show l.length ≤ c; omega), r2⟩
variable {f0 f1 f2 f3 : Field} {te : TypeId}
theorem op_of {e : TypeId} {n : Nat} {cs : List Value} {x : DataW H × List MemPlace} (hl : cs.length = 4) (he : P.underlying e = some (.struct #[f0, f1, f2, f3])) (o0 : f0.offset = 0) (o1 : f1.offset = 1) (o2 : f2.offset = 2) (o3 : f3.offset = 3)
    (c0 : P.cellsOf f0.type = 1) (c1 : P.cellsOf f1.type = 1) (c2 : P.cellsOf f2.type = 1) (c3 : P.cellsOf f3.type = 1) (ce : P.cellsOf te = 1)
    (t0 : P.underlying f0.type = some (.int .i64)) (t1 : P.underlying f1.type = some (.int .i64)) (t2 : P.underlying f2.type = some (.int .i64)) (t3 : P.underlying f3.type = some (.slice te)) (t4 : P.underlying te = some (.int .u8))
    (h : DataW.trod enc P w base (fun _ => true) held n e cs = some x) : ∃ r : OV, cs = opV r ∧ Pt w r.p := by
  obtain ⟨xs, k, hk, hxy, _, hxl, hf⟩ := DataW.trod_struct he h
  match xs, hxl, cs, hl with
  | [y0, y1, y2, y3], _, [v0, v1, v2, v3], _ =>
    have g0 := hf 0 f0 rfl
    have g1 := hf 1 f1 rfl
    have g2 := hf 2 f2 rfl
    have g3 := hf 3 f3 rfl
    simp [o0, o1, o2, o3, c0, c1, c2, c3] at g0 g1 g2 g3
    obtain ⟨b0, rfl, _⟩ := Kit.int_of t0 g0
    obtain ⟨b1, rfl, _⟩ := Kit.int_of t1 g1
    obtain ⟨b2, rfl, _⟩ := Kit.int_of t2 g2
    rcases Go.ChangeShapes.open_ints t3 t4 ce g3 with ⟨hcs, _⟩ | ⟨x, l, c, zs, hcs, _, hl, hm, hz, _, hcell, hwz⟩
    · simp at hcs; subst hcs
      obtain ⟨p, e1, hp⟩ := part_of (w := w) (a := none) (n := 0) (c := 0) (z := []) (.inl ⟨rfl, rfl, rfl, rfl⟩)
      exact ⟨⟨b0, b1, b2, p⟩, by unfold opV; rw [e1], hp⟩
    · simp at hcs; subst hcs
      obtain ⟨p, e1, hp⟩ := part_of (w := w) (a := some x) (n := l) (c := c) (z := zs) (.inr ⟨_, rfl, hl, hm, by simpa using hz, hcell, hwz⟩)
      exact ⟨⟨b0, b1, b2, p⟩, by unfold opV; rw [e1], hp⟩
/-- a slice of steps. -/
def IsOps (w : World) (a : Option Addr) (len : Nat) (F : Nat → OV) : Prop :=
  len = 0 ∨ ∃ b off, a = some ⟨b, off, none⟩ ∧ ∀ i, i < len →
    w.cell? ⟨b, off + i * 4, none⟩ = some (.int .i64 (F i).k) ∧ w.cell? ⟨b, off + i * 4 + 1, none⟩ = some (.int .i64 (F i).j) ∧ w.cell? ⟨b, off + i * 4 + 2, none⟩ = some (.int .i64 (F i).fr) ∧
    w.cell? ⟨b, off + i * 4 + 3, none⟩ = some (.slice (F i).p.a (F i).p.l.length (F i).p.cap) ∧ Pt w (F i).p
instance : Inhabited OV := ⟨⟨0, 0, 0, ⟨none, 0, []⟩⟩⟩
theorem open_opl {t e : TypeId} {fuel : Nat} {a : Option Addr} {len cap : Nat} {x : DataW H × List MemPlace} (ht : P.underlying t = some (.slice e)) (c4 : P.cellsOf e = 4) (he : P.underlying e = some (.struct #[f0, f1, f2, f3])) (o0 : f0.offset = 0) (o1 : f1.offset = 1) (o2 : f2.offset = 2) (o3 : f3.offset = 3)
    (c0 : P.cellsOf f0.type = 1) (c1 : P.cellsOf f1.type = 1) (c2 : P.cellsOf f2.type = 1) (c3 : P.cellsOf f3.type = 1) (ce : P.cellsOf te = 1)
    (t0 : P.underlying f0.type = some (.int .i64)) (t1 : P.underlying f1.type = some (.int .i64)) (t2 : P.underlying f2.type = some (.int .i64)) (t3 : P.underlying f3.type = some (.slice te)) (t4 : P.underlying te = some (.int .u8))
    (h : DataW.trod enc P w base (fun _ => true) held fuel t [.slice a len cap] = some x) : ∃ F, IsOps w a len F ∧ len ≤ maxLen := by
  rcases Go.Deep.open_slice ht h with ⟨hc, _⟩ | ⟨a, len', cap', m, n, D, Pl, hc, hb, hl, hm, hmm, rfl, hx⟩
  · simp at hc
    obtain ⟨rfl, rfl, rfl⟩ := hc
    exact ⟨fun _ => default, .inl rfl, Nat.zero_le _⟩
  simp at hc
  obtain ⟨rfl, rfl, rfl⟩ := hc
  have hlm : len ≤ m := by rw [hmm]; split <;> omega
  have each : ∀ i, i < len → ∃ q : OV, w.cell? (a.add (i * 4)) = some (.int .i64 q.k) ∧ w.cell? (a.add (i * 4 + 1)) = some (.int .i64 q.j) ∧ w.cell? (a.add (i * 4 + 2)) = some (.int .i64 q.fr) ∧
      w.cell? (a.add (i * 4 + 3)) = some q.p.v ∧ Pt w q.p := by
    intro i hi
    obtain ⟨cs', h1, h2⟩ := hx i (by omega)
    rw [c4] at h1
    obtain ⟨_, hlen, hcell⟩ := World.cells?_some h1
    obtain ⟨o, rfl, hok⟩ := op_of hlen he o0 o1 o2 o3 c0 c1 c2 c3 ce t0 t1 t2 t3 t4 h2
    have e0 := hcell 0 (by omega)
    have e1 := hcell 1 (by omega)
    have e2 := hcell 2 (by omega)
    have e3 := hcell 3 (by omega)
    rw [Go.Deep.add_add] at e0 e1 e2 e3
    exact ⟨o, by simpa [opV] using e0, by simpa [opV] using e1, by simpa [opV] using e2, by simpa [opV] using e3, hok⟩
  obtain ⟨q, hq⟩ := Go.Deep.choose_lt each
  refine ⟨q, ?_, Nat.le_trans hl hm⟩
  by_cases h0 : 0 < len
  · obtain ⟨b, off, sp⟩ := a
    have hsp : sp = none := by simpa [Addr.add] using World.cell?_spot (hq 0 h0).1
    subst hsp
    refine .inr ⟨b, off, rfl, fun i hi => ?_⟩
    have := hq i hi
    rw [Go.WideShapes.add_plain, Go.WideShapes.add_plain, Go.WideShapes.add_plain, Go.WideShapes.add_plain] at this
    exact this
  · exact .inl (by omega)
/-- the argument of the statement. -/
theorem ops61 {fuel : Nat} {a : Option Addr} {len cap : Nat} {x : DataW H × List MemPlace} (h : DataW.trod enc Tryd.prog w base (fun _ => true) held fuel 61 [.slice a len cap] = some x) : ∃ F, IsOps w a len F ∧ len ≤ maxLen :=
  open_opl (te := 5) Tryd.underlying61 (by kernel_rfl) Tryd.underlying70 rfl rfl rfl rfl (by kernel_rfl) (by kernel_rfl) (by kernel_rfl) (by kernel_rfl) (by kernel_rfl) (by kernel_rfl) (by kernel_rfl) (by kernel_rfl) (by kernel_rfl) (by kernel_rfl) h
end
/-- what few adds up. -/
def sumF (F : Nat → OV) : Nat → Nat
  | 0 => 0
  | i + 1 => sumF F i + min (F i).p.l.length 20001
theorem sumF_le (F : Nat → OV) (i : Nat) : sumF F i ≤ 20001 * i := by
  induction i with
  | zero => exact Nat.le_refl _
  | succ k ih => show sumF F k + min (F k).p.l.length 20001 ≤ _; omega
theorem sumF_at (F : Nat → OV) (n j : Nat) (h : j < n) : min (F j).p.l.length 20001 ≤ sumF F n := by
  induction n with
  | zero => omega
  | succ k ih =>
    show _ ≤ sumF F k + min (F k).p.l.length 20001
    by_cases hj : j < k
    · have := ih hj; omega
    · obtain rfl : j = k := by omega
      omega
def Few (n : Nat) (F : Nat → OV) : Prop := n ≤ 100 ∧ sumF F n ≤ 20000
theorem Few.each {n : Nat} {F : Nat → OV} (h : Few n F) (j : Nat) (hj : j < n) : (F j).p.l.length ≤ 20000 := by
  have := sumF_at F n j hj
  have := h.2
  omega
set_option maxRecDepth 100000 in
theorem fewC (a : Option Addr) (n cap : Nat) (F : Nat → OV) (r : Bool) (w : World) (h : IsOps w a n F) (hn : n ≤ 9223372036854775807) (hr : r = true ↔ Few n F) :
    Calls Tryd.prog 38 #[.slice a n cap] w fun e w' => e = .returned (.bool r) ∧ w = w' := by
  have HO := Lib.hid h
  have HN := Lib.hid hn
  have HR := Lib.hid hr
  clear h hn hr
  go_enter Tryd.func38, Tryd.ntmps38
  go_wp2_with fail
  go_loopw [3, 4] (fun s3 s4 wr => ∃ (i N : Nat), i ≤ n ∧ i ≤ 100 ∧ s4 = .int .i64 (i : Int) ∧ s3 = .int .i64 (N : Int) ∧ Hid (N = sumF F i) ∧ w = wr) (fun _ s4 _ => n - (intOf s4).toNat)
  case atStart => exact ⟨0, 0, Nat.zero_le _, Nat.zero_le _, rfl, rfl, Lib.hid rfl, rfl⟩
  case round =>
    obtain ⟨i, N, hi, hi2, rfl, rfl, HN1, rfl⟩ := hrel
    have hle := sumF_le F i
    rw [← HN1.out] at hle
    by_cases h1 : i < n
    · by_cases h2 : i < 100
      · rcases HO.out with h0 | ⟨b, off, rfl, hc⟩
        · rw [h0] at h1; exact absurd h1 (Nat.not_lt_zero _)
        obtain ⟨_, _, _, cx, _⟩ := hc i h1
        obtain ⟨p, hp⟩ : ∃ p, p = (F i).p := ⟨_, rfl⟩
        rw [← hp] at cx
        obtain ⟨M, hM⟩ : ∃ M : Nat, M = min p.l.length 20001 := ⟨_, rfl⟩
        have hm : min (p.l.length : Int) 20001 = (M : Int) := by omega
        have HX : Hid (N + M = sumF F (i + 1)) := Lib.hid (by
          show N + M = sumF F i + min (F i).p.l.length 20001
          rw [← hp, ← hM, ← HN1.out])
        have hNM : N + M ≤ 3000000 := by omega
        have e1 : (i : Int) < (n : Int) := by omega
        have e2 : (i : Int) < 100 := by omega
        clear hc hp hM hle
        go_wp2
        go_roundw
        case rel => exact ⟨i + 1, N + M, by omega, by omega, by go_num, by go_num, HX, by first | rfl | trivial⟩
        case measure => simp [intOf]; omega
      · have e1 : (i : Int) < (n : Int) := by omega
        have e2 : ¬ (i : Int) < 100 := by omega
        have e3 : ¬ (n : Int) ≤ 100 := by omega
        have HF : Hid (false = r) := Lib.hid (by
          cases r with
          | false => rfl
          | true => have := (HR.out.1 rfl).1; omega)
        go_wp2
        go_ret
        rw [HF.out]; exact ⟨rfl, rfl⟩
    · obtain rfl : i = n := Nat.le_antisymm hi (Nat.not_lt.1 h1)
      have e1 : ¬ (i : Int) < (i : Int) := by omega
      have e3 : (i : Int) ≤ 100 := by omega
      by_cases h4 : N ≤ 20000
      · have e4 : (N : Int) ≤ 20000 := by omega
        have HF : Hid (true = r) := Lib.hid (HR.out.2 ⟨hi2, by rw [← HN1.out]; exact h4⟩).symm
        clear hi2
        go_wp2
        go_ret
        rw [HF.out]; exact ⟨rfl, rfl⟩
      · have e4 : ¬ (N : Int) ≤ 20000 := by omega
        have HF : Hid (false = r) := Lib.hid (by
          cases r with
          | false => rfl
          | true => have := (HR.out.1 rfl).2; rw [← HN1.out] at this; exact absurd this h4)
        go_wp2
        go_ret
        rw [HF.out]; exact ⟨rfl, rfl⟩
theorem ops_then {w w' : World} {a : Option Addr} {n : Nat} {F : Nat → OV} (h : IsOps w a n F) (hb : Below w.heap.size w w') : IsOps w' a n F := by
  rcases h with h | ⟨b, off, e, h⟩
  · exact .inl h
  · refine .inr ⟨b, off, e, fun i hi => ?_⟩
    obtain ⟨h0, h1, h2, h3, h4⟩ := h i hi
    exact ⟨cell_then hb (Nat.le_refl _) h0, cell_then hb (Nat.le_refl _) h1, cell_then hb (Nat.le_refl _) h2, cell_then hb (Nat.le_refl _) h3, Ya.pt_then h4 hb⟩

end Go.Proofs.YtmfkfpgomglplaaDoor.Zc
