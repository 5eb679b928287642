/- copy of cells. -/
import Derived.Test.YtfdjmlncdbpkgaaMe
import Derived.Deep.RegionHeld3
import Derived.RegionTactic
import Derived.Deep.RegionWith
import Derived.Deep.QuietTactic
import Derived.BigQuiet
import Derived.StillTailTactics
set_option linter.unusedVariables false
namespace Go.Proofs.Ytfdjmlncdbpkgaa.Cp
open Go Go.RowKit Kit Gm Gv Fl Me

theorem flat_mid (A M X Z : List Ce) (hX : X.length = M.length) : (flat (A ++ M ++ Z)).take (A.length * 5) ++ flat X ++ (flat (A ++ M ++ Z)).drop (A.length * 5 + (flat X).length) = flat (A ++ X ++ Z) := by
  rw [flat_app, flat_app, flat_app, flat_app]
  have h1 : (flat A).length = A.length * 5 := flat_len A
  have h2 : (flat M).length = M.length * 5 := flat_len M
  have h3 : (flat X).length = M.length * 5 := by rw [flat_len, hX]
  rw [List.append_assoc, List.append_assoc, List.take_append_of_le_length (by omega), List.take_of_length_le (by omega), List.drop_append, List.drop_eq_nil_of_le (by omega), h3, show A.length * 5 + M.length * 5 - (flat A).length = (flat M).length by omega, List.drop_append_of_le_length (Nat.le_refl _), List.drop_of_length_le (Nat.le_refl _)]
  simp
theorem under41 : Try.prog.underlying 41 = some (.slice 37) := Try.underlying41
theorem run_copy_cells {w : World} {b : Nat} {A M Z : List Ce} (h : RB w b (A ++ M ++ Z)) (X : List Ce) (hX : X.length = M.length) (ty : TypeId) (q n1 c1 n2 c2 : Nat) (hq : q = A.length * 5) (a2 : Addr) (hn : X.length = Nat.min n2 n1)
    (hsrc : ∀ j v, (flat X)[j]? = some v → w.cell? (a2.add j) = some v) :
    (Builtin.copy_ #[41, 41] ty #[.slice (some ⟨b, q, none⟩) n1 c1, .slice (some a2) n2 c2]).run Try.prog w = .ok (goInt X.length) (putR w b (A ++ X ++ Z)) := by
  subst hq
  have hl := run_loadCells_list (P := Try.prog) w a2 (flat X) hsrc
  have hst := run_storeCells_at Try.prog b (A.length * 5) 37 (flat X) 0 (flat (A ++ M ++ Z)).toArray w h (by simp [flat_len, hX]; omega) (flat_one X)
  have e : ((flat (A ++ M ++ Z)).toArray.toList.take (A.length * 5 + 0) ++ flat X ++ (flat (A ++ M ++ Z)).toArray.toList.drop (A.length * 5 + 0 + (flat X).length)) = flat (A ++ X ++ Z) := by
    simpa using flat_mid A M X Z hX
  rw [e] at hst
  have hi : (Try.prog.info? 37).map (·.size) = some 5 := by kernel_rfl
  rw [flat_len] at hl
  cases hq : Try.prog.info? 37 with
  | none => simp [hq] at hi
  | some i =>
    have hs : i.size = 5 := by simpa [hq] using hi
    simp [Builtin.copy_, run_underlying under41, Builtin.lenOf, Builtin.firstCells, sizeOf, typeInfo, hq, hs, ← hn, hl, hst]
    rfl
theorem run_copy_no {w : World} (ty : TypeId) (dp sp : Option Addr) (n1 c1 n2 c2 : Nat) (hn : Nat.min n2 n1 = 0) :
    (Builtin.copy_ #[41, 41] ty #[.slice dp n1 c1, .slice sp n2 c2]).run Try.prog w = .ok (goInt 0) w := by
  have hi : (Try.prog.info? 37).map (·.size) = some 5 := by kernel_rfl
  cases hq : Try.prog.info? 37 with
  | none => simp [hq] at hi
  | some i =>
    cases dp <;> cases sp <;> simp [Builtin.copy_, run_underlying under41, Builtin.lenOf, Builtin.firstCells, sizeOf, typeInfo, hq, hn, storeCells, loadCells, loadCellsFrom]
/-- copy, wherever the two lie, if anything goes over. -/
theorem wpList_copy_cells {w : World} {ops : Array Oper} {rest : List Oper} {o : Oper} {a : Act} {Q : Exit → Act → World → Prop} (hgd : o.guard = none) (d s : Operand)
    (ho : o.op = .call { callee := .builtin .copy, args := #[d, s], argTypes := #[41, 41] })
    (dp sp : Option Addr) (n1 c1 n2 c2 : Nat) (hd : a.eval d = .slice dp n1 c1) (hs : a.eval s = .slice sp n2 c2)
    (b : Nat) (A M Z X : List Ce) (h : RB w b (A ++ M ++ Z)) (hX : X.length = M.length) (hn : X.length = Nat.min n2 n1)
    (hpos : 0 < X.length → dp = some ⟨b, A.length * 5, none⟩ ∧ ∃ ad, sp = some ad ∧ ∀ j v, (flat X)[j]? = some v → w.cell? (ad.add j) = some v)
    (hK : ∀ w', RB w' b (A ++ X ++ Z) → Kp b b w w' → wpList Try.prog ops Q rest (a.put o.dst (goInt X.length)) w') : wpList Try.prog ops Q (o :: rest) a w := by
  refine wpList_plain hgd fun K hk => ?_
  by_cases h0 : X.length = 0
  · obtain rfl : X = [] := List.eq_nil_of_length_eq_zero h0
    obtain rfl : M = [] := List.eq_nil_of_length_eq_zero (by simpa using hX.symm)
    have hrun := run_copy_no (w := w) o.type dp sp n1 c1 n2 c2 (by simpa using hn.symm)
    unfold Oper.wp
    simp [execOp, ho, resolve, invoke, builtin, hd, hs, hrun, Result.andThen]
    exact hk _ _ (hK w h (Kp.refl _ _ _))
  · obtain ⟨rfl, ad, rfl, hsrc⟩ := hpos (by omega)
    have hrun := run_copy_cells h X hX o.type _ n1 c1 n2 c2 rfl ad hn hsrc
    unfold Oper.wp
    simp [execOp, ho, resolve, invoke, builtin, hd, hs, hrun, Result.andThen]
    rw [← List.append_assoc]
    exact hk _ _ (hK _ (h.put _) ((Kp.refl _ _ _).put _))
/-- the cells of a part of a row. -/
theorem part_src {w : World} {b : Nat} {A X Z : List Ce} (h : RB w b (A ++ X ++ Z)) (q : Nat) (hq : q = A.length * 5) : ∀ j v, (flat X)[j]? = some v → w.cell? ((⟨b, q, none⟩ : Addr).add j) = some v := by
  intro j v hv
  subst hq
  have hadd : (⟨b, A.length * 5, none⟩ : Addr).add j = ⟨b, A.length * 5 + j, none⟩ := by unfold Addr.add; split <;> simp_all
  rw [hadd]
  have hj : j < (flat X).length := (List.getElem?_eq_some_iff.1 hv).1
  unfold RB at h
  have : (flat (A ++ X ++ Z))[A.length * 5 + j]? = some v := by
    rw [flat_app, flat_app, List.append_assoc, List.getElem?_append_right (by rw [flat_len]; omega), flat_len, show A.length * 5 + j - A.length * 5 = j by omega, List.getElem?_append_left hj]
    exact hv
  simpa [World.cell?, h] using this
end Go.Proofs.Ytfdjmlncdbpkgaa.Cp
