/- tiklaw2: a slice of steps; what both readers do alike. -/
import Derived.Test.YtlhapnnepcnfbaaDoorRqC
import Derived.Deep.SlicePairs
import Derived.Laws.Cover2
set_option linter.unusedVariables false
namespace Go.Proofs.YtlhapnnepcnfbaaDoor.StOps
open Go Go.RowKit Go.ChangeShapes Go.WideShapes Go.Deep Kit Var Get Bytes Ref3 Rd RdC RdE RdF
section
variable {H : Type} {enc : TypeId × Value → H} {P : Program} {w : World} {base : Nat} {spare : Nat → Bool} {held : Bool}
theorem inI64 {n : Int} (h : (Lit.int .i64 n).wf = true) : -9223372036854775808 ≤ n ∧ n < 9223372036854775808 := by
  simp only [Lit.wf, Bool.and_eq_true, decide_eq_true_eq] at h
  have h1 : IntKind.i64.min = -9223372036854775808 := by decide
  have h2 : IntKind.i64.max = 9223372036854775807 := by decide
  omega
variable {f0 f1 : Field}
/-- a slice of steps. -/
def IsSteps (w : World) (a : Option Addr) (len cap : Nat) (F : Nat → Int × Int) : Prop :=
  len ≤ cap ∧ cap ≤ maxLen ∧ (len = 0 ∨ ∃ b off, a = some ⟨b, off, none⟩ ∧ ∀ i, i < len →
    w.cell? ⟨b, off + i * 2, none⟩ = some (.int .i64 (F i).1) ∧ w.cell? ⟨b, off + i * 2 + 1, none⟩ = some (.int .i64 (F i).2) ∧ -9223372036854775808 ≤ (F i).2 ∧ (F i).2 < 9223372036854775808)
theorem open_steps {t e : TypeId} {fuel : Nat} {a : Option Addr} {len cap : Nat} {x : DataW H × List MemPlace} (ht : P.underlying t = some (.slice e)) (he : P.underlying e = some (.struct #[f0, f1])) (ce : P.cellsOf e = 2)
    (o0 : f0.offset = 0) (o1 : f1.offset = 1) (c0 : P.cellsOf f0.type = 1) (c1 : P.cellsOf f1.type = 1) (t0 : P.underlying f0.type = some (.int .i64)) (t1 : P.underlying f1.type = some (.int .i64))
    (h : DataW.trod enc P w base spare held fuel t [.slice a len cap] = some x) : ∃ F, IsSteps w a len cap F := by
  rcases open_slice ht h with ⟨hc, _⟩ | ⟨a, len', cap', m, n, D, Pl, hc, hb, hl, hm, hmm, rfl, hx⟩
  · simp at hc
    obtain ⟨rfl, rfl, rfl⟩ := hc
    exact ⟨fun _ => (0, 0), Nat.le_refl _, Nat.zero_le _, .inl rfl⟩
  simp at hc
  obtain ⟨rfl, rfl, rfl⟩ := hc
  have hlm : len ≤ m := by rw [hmm]; split <;> omega
  have each : ∀ i, i < len → ∃ q : Int × Int, w.cell? (a.add (i * 2)) = some (.int .i64 q.1) ∧ w.cell? (a.add (i * 2 + 1)) = some (.int .i64 q.2) ∧ -9223372036854775808 ≤ q.2 ∧ q.2 < 9223372036854775808 := by
    intro i hi
    obtain ⟨cs', h1, h2⟩ := hx i (by omega)
    rw [ce] at h1
    obtain ⟨_, hlen, hcell⟩ := World.cells?_some h1
    obtain ⟨xs, k, hk, hxy, _, hxl, hf⟩ := DataW.trod_struct he h2
    match xs, hxl, cs', hlen with
    | [y0, y1], _, [v0, v1], _ =>
      have g0 := hf 0 f0 rfl
      have g1 := hf 1 f1 rfl
      simp [o0, o1, c0, c1] at g0 g1
      obtain ⟨b0, rfl, w0⟩ := int_of t0 g0
      obtain ⟨b1, rfl, w1⟩ := int_of t1 g1
      have e0 := hcell 0 (by omega)
      have e1 := hcell 1 (by omega)
      rw [add_add] at e0 e1
      exact ⟨(b0, b1), by simpa using e0, by simpa using e1, inI64 w1⟩
  obtain ⟨q, hq⟩ := choose_lt each
  by_cases h0 : 0 < len
  · obtain ⟨b, off, sp⟩ := a
    have hsp : sp = none := by simpa [Addr.add] using World.cell?_spot (hq 0 h0).1
    subst hsp
    refine ⟨q, hl, hm, .inr ⟨b, off, rfl, fun i hi => ?_⟩⟩
    have := hq i hi
    rw [add_plain, add_plain] at this
    exact this
  · exact ⟨q, hl, hm, .inl (by omega)⟩
end
theorem num_eq (l : List Nat) (at_ : Nat) (err : Int) (most : Nat) : ∃ (V : Int) (at2 : Nat) (err2 : Int), (∀ a len cap, numN l ⟨a, len, cap, at_, err⟩ most = (V, ⟨a, len, cap, at2, err2⟩)) ∧ (at_ ≤ l.length → at2 ≤ l.length) := by
  unfold numN
  by_cases h1 : err = 0
  · by_cases h2 : (getA l at_).2.2 = 0
    · obtain ⟨n, y, hg, _, hy⟩ := getA_ok l at_ h2
      by_cases h3 : (most : Int) < (n : Int)
      · exact ⟨0, at_, 1, fun a len cap => by simp [h1, hg, h3], fun h => h⟩
      · exact ⟨(n : Int), y, err, fun a len cap => by simp only [hg]; rw [if_neg (by simpa using h1), if_neg (by simp), if_neg h3]; simp, fun _ => hy⟩
    · exact ⟨0, at_, (getA l at_).2.2, fun a len cap => by simp only; rw [if_neg (by simpa using h1), if_pos h2], fun h => h⟩
  · exact ⟨0, at_, err, fun a len cap => by simp only; rw [if_pos h1], fun h => h⟩
theorem raw_eq (l : List Nat) (at_ : Nat) (err : Int) (n : Int) : ∃ (m : List Nat) (at2 : Nat) (err2 : Int), (∀ a len cap, rawN l ⟨a, len, cap, at_, err⟩ n = (m, ⟨a, len, cap, at2, err2⟩)) ∧ (at_ ≤ l.length → at2 ≤ l.length) ∧ (∀ c ∈ m, c ∈ l) := by
  unfold rawN
  by_cases h1 : err = 0
  · by_cases h2 : n < 0
    · exact ⟨[], at_, 1, fun a len cap => by simp only; rw [if_neg (by simpa using h1), if_pos h2], fun h => h, by simp⟩
    · by_cases h3 : (l.length : Int) < (at_ : Int) + n
      · exact ⟨[], at_, 3, fun a len cap => by simp only; rw [if_neg (by simpa using h1), if_neg h2, if_pos h3], fun h => h, by simp⟩
      · exact ⟨(l.drop at_).take n.toNat, at_ + n.toNat, err, fun a len cap => by simp only; rw [if_neg (by simpa using h1), if_neg h2, if_neg h3], fun _ => by omega, fun c hc => List.mem_of_mem_drop (List.mem_of_mem_take hc)⟩
  · exact ⟨[], at_, err, fun a len cap => by simp only; rw [if_pos h1], fun h => h, by simp⟩
theorem text_eq (l : List Nat) (at_ : Nat) (err : Int) (most : Int) : ∃ (V : ByteArray) (at2 : Nat) (err2 : Int), (∀ a len cap, textN l ⟨a, len, cap, at_, err⟩ most = (V, ⟨a, len, cap, at2, err2⟩)) ∧ (at_ ≤ l.length → at2 ≤ l.length) := by
  unfold textN
  by_cases h1 : err = 0
  · by_cases h2 : (getA l at_).2.2 = 0
    · obtain ⟨n, y, hg, _, hy⟩ := getA_ok l at_ h2
      by_cases h3 : most < (n : Int)
      · exact ⟨strL [], at_, 1, fun a len cap => by simp [h1, hg, h3], fun h => h⟩
      · by_cases h4 : (l.length : Int) < (y : Int) + (n : Int)
        · exact ⟨strL [], at_, 3, fun a len cap => by simp only [hg]; rw [if_neg (by simpa using h1), if_neg (by simp), if_neg h3, if_pos h4], fun h => h⟩
        · exact ⟨strL ((l.drop y).take n), y + n, err, fun a len cap => by simp only [hg]; rw [if_neg (by simpa using h1), if_neg (by simp), if_neg h3, if_neg h4]; simp, fun _ => by omega⟩
    · exact ⟨strL [], at_, (getA l at_).2.2, fun a len cap => by simp only; rw [if_neg (by simpa using h1), if_pos h2], fun h => h⟩
  · exact ⟨strL [], at_, err, fun a len cap => by simp only; rw [if_pos h1], fun h => h⟩
end Go.Proofs.YtlhapnnepcnfbaaDoor.StOps
