/- tikref2: the document's own decoder: CopyBytes, Flush, Write. -/
import Derived.Test.YtlhapnnepcnfbabURef3
import Derived.Test.YtlhapnnepcnfbabUEnc
set_option linter.unusedVariables false
namespace Go.Proofs.Ytlhapnnepcnfbab.URef2
open Go Go.RowKit Words UMath UDec

theorem cells_any {k : IntKind} {w : World} {x : Addr} {l : List Int} (h : Row k w (some x) l) : ∀ j u, (cellsK k l)[j]? = some u → w.cell? (x.add j) = some u := by
  intro j u hu
  rcases h with rfl | ⟨b, off, e, h⟩
  · simp [cellsK] at hu
  · injection e with e; subst e
    exact Row.cells (.inr ⟨b, off, rfl, h⟩) j u hu
/-- what CopyBytes answers. -/
def CpP (l : List Int) (w : World) (e : Ending) (w' : World) : Prop :=
  ∃ v, e = .returned v ∧ w'.ownsRow w.heap.size 5 1 v l.length (cellsK .u8 l) ∧ Below w.heap.size w w'
set_option maxRecDepth 100000 in
theorem copyRC (a : Option Addr) (l : List Int) (cap : Nat) (w : World) (hr : Row .u8 w a l) (h0 : a = none → cap = 0) (hcap : l.length ≤ cap) (hm : l.length ≤ 100000) :
    Calls Try.prog 22 #[.slice a l.length cap] w (CpP l w) := by
  obtain ⟨i0, hi, hz0, hz1, hz2⟩ := info_parts info5
  have hown : (w.alloc (.cells #[] 5)).ownsRow w.heap.size 5 1 (.slice (some ⟨w.heap.size, 0, none⟩) 0 0) 0 [] := World.ownsRow_made w #[] 0 (Nat.le_refl _) (by simp) rfl
  cases a with
  | none =>
    obtain rfl : cap = 0 := h0 rfl
    obtain rfl : l = [] := List.eq_nil_of_length_eq_zero (by omega)
    go_enter Try.func22, Try.ntmps22
    go_wp2_with (at_builtin; refine wpList_append_own_none rfl _ _ 22 rfl w.heap.size 5 i0 1 Try.underlying22 hi _ _ _ rfl hown rfl ?_)
    go_ret
    exact ⟨_, rfl, by simpa [cellsK] using hown, (Below.refl _ _).alloc (Nat.le_refl _) _⟩
  | some x =>
    have hcs := cells_any (hr.alloc (.cells #[] 5))
    have hlen : (cellsK .u8 l).length = l.length * 1 := by simp [cellsK]
    clear h0 hcap
    go_enter Try.func22, Try.ntmps22
    go_wp2_with (at_builtin; refine wpList_append_own _ rfl _ _ 22 rfl w.heap.size 5 i0 (.int .u8 0) 1 1 Try.underlying22 hi hz0 hz1 hz2 rfl (by decide) _ _ _ rfl hown x l.length cap (cellsK .u8 l) rfl hlen hcs cellsK_one (by unfold maxLen; omega) (by omega) (by simp) ?_; intro v' w3 hown' hgrow3 hnil3)
    go_ret
    refine ⟨v', rfl, by simpa using hown', ?_⟩
    exact ((Below.refl _ _).alloc (Nat.le_refl _) _).grown hgrow3 (by simp) (fun j hj => by cases hj; exact Nat.le_refl _)
/-- the document's decoder at p. -/
def RdW (w : World) (p base : Nat) (d : Dec) : Prop :=
  ∃ v B, Blk w p 29 #[v] ∧ w.ownsRow base 5 1 v B.length (cellsK .u8 B) ∧ (∀ x ∈ B, 0 ≤ x ∧ x ≤ 255) ∧ writeD d0 B = ([], d) ∧ d.h = (B.length : Nat)
/-- what Flush leaves. -/
def FlR (w : World) (p base : Nat) (d : Dec) (e : Ending) (w' : World) : Prop :=
  ∃ v, e = .returned v ∧ RdW w' p base d0 ∧ w.grownBy w' (some p) ∧ w'.ownsRow w.heap.size 21 1 v (flushL d).length (cellsK .i32 (flushL d))
theorem rd0 {w : World} {p base : Nat} (h : Blk w p 29 #[.slice none 0 0]) : RdW w p base d0 :=
  ⟨_, [], h, World.ownsRow_nil _ _ _ _, (by simp), rfl, rfl⟩
set_option maxRecDepth 100000 in
theorem flushRC (p base : Nat) (d : Dec) (w : World) (h : RdW w p base d) : Calls Try.prog 16 #[.pointer (some ⟨p, 0, none⟩)] w (FlR w p base d) := by
  obtain ⟨v, B, hB, hown, hby, hw, hh⟩ := h
  obtain ⟨a, cap, rfl, hcap, hr, _, _⟩ := row_own hown
  have c0 : w.cell? ⟨p, 0, none⟩ = some (.slice a B.length cap) := Blk.cell hB 0
  have f0 := Blk.frozen hB 0
  by_cases hn : B.length = 0
  · have HF := Lib.hid (show flushL d = [] by rw [flushL, if_pos (by omega)])
    have HD : Hid (d = d0) := by
      obtain rfl : B = [] := List.eq_nil_of_length_eq_zero hn
      rw [writeD] at hw
      injection hw with _ hw
      exact Lib.hid hw.symm
    have HR : Hid (RdW w p base d0) := Lib.hid (by rw [← HD.out]; exact ⟨_, B, hB, hown, hby, hw, hh⟩)
    clear hown hr hby hw hh hB
    rw [hn] at c0
    go_enter Try.func16, Try.ntmps16
    go_wp2
    go_ret
    exact ⟨_, rfl, HR.out, grownBy_refl _ _, by rw [HF.out]; exact World.ownsRow_nil _ _ _ _⟩
  · have HF := Lib.hid (show flushL d = [65533] by rw [flushL, if_neg (by omega)])
    have hlb : ((B.length : Int) == 0) = false := by rw [beq_eq_false_iff_ne]; omega
    have hpos : 0 < B.length := by omega
    have HB := Lib.hid hB
    clear hown hr hby hw hh hB hn
    generalize B.length = n at *
    go_enter Try.func16, Try.ntmps16
    go_wp2
    go_ret
    refine ⟨_, rfl, rd0 ((Blk.set_ HB.out 0 (.slice none 0 0)).alloc _), grownBy_trans (grownBy_set _ p 0 _) (grown_of_below (below_one _ _) _), ?_⟩
    rw [HF.out]
    exact own_made _ [65533] _ (by simp [World.setCell]) 1 rfl (by simp [World.setCell]) (by decide)
/-- what is left of the bytes. -/
def Left (w : World) (s : Value) (l : List Int) : Prop :=
  ∃ a cap, s = .slice a l.length cap ∧ l.length ≤ cap ∧ cap ≤ 9223372036854775807 ∧ Row .u8 w a l ∧ (a = none → cap = 0)
theorem left_cut {w : World} {ar : Option Addr} {M : List Int} {len capr n : Nat} (hM : len = M.length) (hr : Row .u8 w ar M) (hc1 : M.length ≤ capr) (hc2 : capr ≤ 9223372036854775807) (hn : n ≤ M.length) (h0 : ar = none → capr = 0) :
    Left w (.slice (if capr = n then ar else Option.map (fun x => x.add n) ar) (len - n) (capr - n)) (M.drop n) := by
  subst hM
  refine ⟨_, capr - n, by rw [List.length_drop], by rw [List.length_drop]; omega, by omega, ?_, ?_⟩
  · by_cases e : M.drop n = []
    · exact .inl e
    · have hlt : n < M.length := by
        rcases Nat.lt_or_ge n M.length with h | h
        · exact h
        · exact absurd (List.drop_eq_nil_of_le h) e
      obtain ⟨b, off, rfl⟩ := hr.addr (by omega)
      rw [if_neg (by omega)]
      show Row .u8 w (some ((⟨b, off, none⟩ : Addr).add n)) (M.drop n)
      rw [add_at]
      exact Row.cut (n := 0) hr hn
  · intro e
    split at e
    · rw [h0 e]; omega
    · cases ar with
      | none => rw [h0 rfl]; omega
      | some x => cases e
end Go.Proofs.Ytlhapnnepcnfbab.URef2
