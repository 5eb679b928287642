/- A part of a slice of bytes. -/
import Derived.Test.YtellhkcleicfbaaFa
import Derived.Laws.Slices
set_option linter.unusedVariables false
namespace Go.Proofs.Ytellhkcleicfbaa.Sb
open Go Go.RowKit Kit Crc Var Get Bytes WireFirst Ref3 Copy Ap Rd RdA Fr


theorem elem23 : Try.prog.underlying 23 = some (.slice (Try.prog.elem 23)) := by kernel_rfl
theorem sizeE23 (w : World) : ((sizeOf (Try.prog.elem 23)).run Try.prog w) = .ok 1 w := by kernel_rfl
/-- a part of a slice of bytes. -/
theorem sub_val {a : Option Addr} {l : List Nat} {cap : Nat} {w : World} (hs : Sl w a l) (h0 : a = none → cap = 0) (hcap : l.length ≤ cap) (i j : Nat) (hij : i ≤ j) (hj : j ≤ l.length) :
    ∃ a' c', sliced a i j cap 1 = .slice a' (j - i) c' ∧ Sl w a' ((l.drop i).take (j - i)) ∧ j - i ≤ c' ∧ (a' = none → c' = 0) ∧ (∀ x, a' = some x → ∃ y, a = some y ∧ x.block = y.block) := by
  unfold sliced
  by_cases hc : cap = i
  · have : j - i = 0 := by omega
    rw [if_pos hc, this]
    exact ⟨_, _, rfl, .inl (by simp), by omega, fun _ => by omega, fun x hx => ⟨x, hx, rfl⟩⟩
  · rw [if_neg hc]
    cases a with
    | none => exact absurd (h0 rfl) (by omega)
    | some x =>
      refine ⟨_, _, rfl, ?_, by omega, (fun h => by cases h), (fun z hz => ⟨x, rfl, ?_⟩)⟩
      · rcases hs with rfl | ⟨b, off, e, h⟩
        · exact .inl (by simp)
        · injection e with e; subst e
          refine .inr ⟨b, off + i, ?_, ?_⟩
          · show some ((⟨b, off, none⟩ : Addr).add (i * 1)) = _
            rw [Nat.mul_one]; unfold Addr.add; split <;> simp_all
          · intro k hk
            have hk2 : k < j - i ∧ k < l.length - i := by simp at hk; omega
            have := h (i + k) (by omega)
            rw [show off + i + k = off + (i + k) by omega, this]
            simp
      · injection hz with hz; rw [← hz]; unfold Addr.add; split <;> rfl
def LoIs (v : Option Value) (i : Nat) : Prop := (v = none ∧ i = 0) ∨ ∃ k, v = some (.int k (i : Int))
def HiIs (v : Option Value) (j n : Nat) : Prop := (v = none ∧ j = n) ∨ ∃ k, v = some (.int k (j : Int))
theorem lo_none : LoIs none 0 := .inl ⟨rfl, rfl⟩
theorem hi_none (n : Nat) : HiIs none n n := .inl ⟨rfl, rfl⟩
theorem lo_some {k : IntKind} {x : Int} {i : Nat} (h : x = (i : Int)) : LoIs (some (.int k x)) i := .inr ⟨k, by rw [h]⟩
theorem hi_some {k : IntKind} {x : Int} {j n : Nat} (h : x = (j : Int)) : HiIs (some (.int k x)) j n := .inr ⟨k, by rw [h]⟩
theorem run_sub (a : Option Addr) (n cap : Nat) (lo hi : Option Value) (i j : Nat) (w : World) (hl : LoIs lo i) (hh : HiIs hi j n) (hij : i ≤ j) (hj : j ≤ n) (hc : n ≤ cap) :
    (Instr.sliceAt 23 (.slice a n cap) lo hi none).run Try.prog w = .ok (sliced a i j cap 1) w := by
  rw [run_sliceAt_slice w 23 _ _ _ _ elem23]
  rcases hl with ⟨rfl, rfl⟩ | ⟨k, rfl⟩ <;> rcases hh with ⟨rfl, rfl⟩ | ⟨k2, rfl⟩
  · rw [run_slice_all w 23 a j cap elem23, sizeE23]; rfl
  · rw [run_slice_h w 23 a n cap elem23 k2 j (by omega) (by omega), sizeE23]; simp [Result.andThen]
  · rw [run_slice_l w 23 a j cap elem23 k i (by omega) (by omega), sizeE23]; simp [Result.andThen]
  · rw [run_slice_lh w 23 a n cap elem23 k k2 i j (by omega) (by omega) (by omega), sizeE23]; simp [Result.andThen]
/-- the operation itself. -/
theorem wp_sub {o : Oper} {c : Act} {w : World} {K : Act → World → Prop} {Q : Exit → Act → World → Prop} (x : Operand) (lo hi : Option Operand) (ho : o.op = .slice 23 x lo hi none)
    (a : Option Addr) (cap : Nat) (l : List Nat) (hx : c.eval x = .slice a l.length cap) (hs : Sl w a l) (h0 : a = none → cap = 0) (hcap : l.length ≤ cap) (i j : Nat)
    (hl : LoIs (lo.map c.eval) i) (hh : HiIs (hi.map c.eval) j l.length) (hij : i ≤ j) (hj : j ≤ l.length)
    (h : ∀ a' c' n', n' = j - i → Sl w a' ((l.drop i).take (j - i)) → n' ≤ c' → (a' = none → c' = 0) → (∀ x, a' = some x → ∃ y, a = some y ∧ x.block = y.block) → K (c.put o.dst (.slice a' n' c')) w) : o.wp Try.prog c w K Q := by
  obtain ⟨a', c', e, h1, h2, h3, h4⟩ := sub_val hs h0 hcap i j hij hj
  have hrun := run_sub a l.length cap (lo.map c.eval) (hi.map c.eval) i j w hl hh hij hj hcap
  unfold Oper.wp execOp
  simp only [ho, hx, Option.map_none, Sem.run_bind, Sem.run_pure, hrun, Result.andThen_ok, e]
  exact h a' c' _ rfl h1 h2 h3 h4
theorem wpList_sub {ops : Array Oper} {rest : List Oper} {o : Oper} {c : Act} {w : World} {Q : Exit → Act → World → Prop} (hgd : o.guard = none) (x : Operand) (lo hi : Option Operand) (ho : o.op = .slice 23 x lo hi none)
    (a : Option Addr) (cap : Nat) (l : List Nat) (hx : c.eval x = .slice a l.length cap) (hs : Sl w a l) (h0 : a = none → cap = 0) (hcap : l.length ≤ cap) (i j : Nat)
    (hl : LoIs (lo.map c.eval) i) (hh : HiIs (hi.map c.eval) j l.length) (hij : i ≤ j) (hj : j ≤ l.length)
    (h : ∀ a' c' n', n' = j - i → Sl w a' ((l.drop i).take (j - i)) → n' ≤ c' → (a' = none → c' = 0) → (∀ x, a' = some x → ∃ y, a = some y ∧ x.block = y.block) → wpList Try.prog ops Q rest (c.put o.dst (.slice a' n' c')) w) : wpList Try.prog ops Q (o :: rest) c w :=
  wpList_plain hgd fun _ hK => wp_sub x lo hi ho a cap l hx hs h0 hcap i j hl hh hij hj (fun a' c' n' e h1 h2 h3 h4 => hK _ _ (h a' c' n' e h1 h2 h3 h4))

end Go.Proofs.Ytellhkcleicfbaa.Sb
