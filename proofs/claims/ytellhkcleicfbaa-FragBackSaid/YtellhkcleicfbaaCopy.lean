/- tikref.CopyBytes: the contract of the code: a row of its own with the same bytes. -/
import Derived.Test.YtellhkcleicfbaaVar
import Derived.Laws.AppendOwnNone
namespace Go.Proofs.Ytellhkcleicfbaa.Copy
open Go Go.RowKit Kit Crc Var

/-- what CopyBytes answers. -/
def Cp (l : List Nat) (w : World) (e : Ending) (w' : World) : Prop :=
  ∃ v, e = .returned v ∧ w'.ownsRow w.heap.size 5 1 v l.length (cellsOf l) ∧ Below w.heap.size w w'
theorem cellsOf_at {w : World} {b off : Nat} {l : List Nat} (h : Cells w b off l) : ∀ j u, (cellsOf l)[j]? = some u → w.cell? ((⟨b, off, none⟩ : Addr).add j) = some u := by
  intro j u hu
  have hadd : (⟨b, off, none⟩ : Addr).add j = ⟨b, off + j, none⟩ := by unfold Addr.add; split <;> simp_all
  rw [hadd]
  have hj : j < l.length := by
    rcases Nat.lt_or_ge j l.length with hlt | hge
    · exact hlt
    · rw [List.getElem?_eq_none (by simpa [cellsOf] using hge)] at hu; cases hu
  rw [h j hj]
  simp [cellsOf, hj] at hu
  rw [← hu]
theorem cellsOf_one {l : List Nat} : ∀ u ∈ cellsOf l, u.oneCell' = true := by
  intro u hu
  simp [cellsOf] at hu
  obtain ⟨x, _, rfl⟩ := hu
  rfl
set_option maxRecDepth 100000 in
theorem copyRow (b off cap : Nat) (l : List Nat) (w : World) (hm : l.length ≤ 1000000) (hc : Cells w b off l) :
    Calls Try.prog 35 #[.slice (some ⟨b, off, none⟩) l.length cap] w (Cp l w) := by
  obtain ⟨i0, hi, hz0, hz1, hz2⟩ := info_parts info5
  have hown : (w.alloc (.cells #[] 5)).ownsRow w.heap.size 5 1 (.slice (some ⟨w.heap.size, 0, none⟩) 0 0) 0 [] := World.ownsRow_made w #[] 0 (Nat.le_refl _) (by simp) rfl
  have hcs := cellsOf_at (fun i hi => past_alloc (o := .cells #[] 5) (hc i hi))
  have hlen : (cellsOf l).length = l.length * 1 := by simp [cellsOf]
  go_enter Try.func35, Try.ntmps35
  go_wp2_with (at_builtin; refine wpList_append_own _ rfl _ _ 23 rfl w.heap.size 5 i0 (.int .u8 0) 1 1 Try.underlying23 hi hz0 hz1 hz2 rfl (by decide) _ _ _ rfl hown ⟨b, off, none⟩ l.length cap (cellsOf l) rfl hlen hcs cellsOf_one (by unfold maxLen; omega) (by omega) (by simp) ?_; intro v' w3 hown' hgrow3 hnil3)
  go_ret
  refine ⟨v', rfl, by simpa using hown', ?_⟩
  exact ((Below.refl _ _).alloc (Nat.le_refl _) _).grown hgrow3 (by simp) (fun j hj => by cases hj; exact Nat.le_refl _)
set_option maxRecDepth 100000 in
theorem copyEmpty (x : Addr) (cap : Nat) (w : World) : Calls Try.prog 35 #[.slice (some x) 0 cap] w (Cp [] w) := by
  obtain ⟨i0, hi, hz0, hz1, hz2⟩ := info_parts info5
  have hown : (w.alloc (.cells #[] 5)).ownsRow w.heap.size 5 1 (.slice (some ⟨w.heap.size, 0, none⟩) 0 0) 0 [] := World.ownsRow_made w #[] 0 (Nat.le_refl _) (by simp) rfl
  go_enter Try.func35, Try.ntmps35
  go_wp2_with (at_builtin; refine wpList_append_own _ rfl _ _ 23 rfl w.heap.size 5 i0 (.int .u8 0) 1 1 Try.underlying23 hi hz0 hz1 hz2 rfl (by decide) _ _ _ rfl hown x 0 cap [] rfl rfl (fun j u hu => by simp at hu) (fun u hu => by simp at hu) (by unfold maxLen; omega) (by omega) (by simp) ?_; intro v' w3 hown' hgrow3 hnil3)
  go_ret
  refine ⟨v', rfl, by rw [cellsOf_nil]; simpa using hown', ?_⟩
  exact ((Below.refl _ _).alloc (Nat.le_refl _) _).grown hgrow3 (by simp) (fun j hj => by cases hj; exact Nat.le_refl _)
set_option maxRecDepth 100000 in
theorem copyNil (w : World) : Calls Try.prog 35 #[.slice none 0 0] w (Cp [] w) := by
  obtain ⟨i0, hi, hz0, hz1, hz2⟩ := info_parts info5
  have hown : (w.alloc (.cells #[] 5)).ownsRow w.heap.size 5 1 (.slice (some ⟨w.heap.size, 0, none⟩) 0 0) 0 [] := World.ownsRow_made w #[] 0 (Nat.le_refl _) (by simp) rfl
  go_enter Try.func35, Try.ntmps35
  go_wp2_with (at_builtin; refine wpList_append_own_none rfl _ _ 23 rfl w.heap.size 5 i0 1 Try.underlying23 hi _ _ _ rfl hown rfl ?_)
  go_ret
  exact ⟨_, rfl, by rw [cellsOf_nil]; simpa using hown, (Below.refl _ _).alloc (Nat.le_refl _) _⟩
end Go.Proofs.Ytellhkcleicfbaa.Copy
