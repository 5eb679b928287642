/- tiklaw23.DeckForward: what the deck does, as numbers. -/
import Derived.Test.YtkogmjbiedpbnaaDoorRm
set_option linter.unusedVariables false
namespace Go.Proofs.YtkogmjbiedpbnaaDoor.Fm
open Go Go.RowKit Kit Nums Rate0 Scale Scale2 CkMath CkC CkD CkE CkN OfA OfB Dk Dk2 Dk3 Dk4 AirW Rm

theorem start {now lo hi x y : Nat} (h1 : lo ≤ hi) (h2 : hi ≤ mx) (h3 : now ≤ mx) (h4 : lo ≤ x) :
    ∃ D1 D2 n d, speedE now y = (ofN y).2.2 ∧ speedD d0 now y = D1 ∧ seekE now lo hi x = 0 ∧ seekD D1 now lo hi x = D2 ∧ D2.mode = 1 ∧ D2.place = min x hi ∧ playE D2 now lo hi = 0 ∧ playBD D2 now lo hi = ⟨2, min x hi, ⟨now, min x hi, 0, n, d⟩⟩ ∧ Dkk D1 ∧ Dkk D2 ∧
      Dkk ⟨2, min x hi, ⟨now, min x hi, 0, n, d⟩⟩ ∧ (((ofN y).2.2 = 0 ∧ (ofN y).1 = n ∧ (ofN y).2.1 = d) ∨ ((ofN y).2.2 ≠ 0 ∧ n = 1 ∧ d = 1)) := by
  have he : ends now lo hi = true := ends_true h1 h3 h2
  have e3 : speedE now y = (ofN y).2.2 := by
    unfold speedE
    by_cases h : (ofN y).2.2 = 0
    · rw [if_neg (by simp [h]), if_pos h3, h]
    · rw [if_pos h]
  have k1 := speedD_dkk d0_ok (now := now) (b := y)
  by_cases hy : (ofN y).2.2 = 0
  · have e1 : speedD d0 now y = ⟨0, 0, turn d0.c now (ofN y).1 (ofN y).2.1⟩ := by unfold speedD; rw [if_neg (by simp [hy]), if_pos h3]; rfl
    obtain ⟨a1, a2, a3, a4, a5⟩ := started (c := turn d0.c now (ofN y).1 (ofN y).2.1) he h4 h1
    rw [e1] at k1
    have k2 := seekD_dkk k1 (now := now) (lo := lo) (hi := hi) (time := x)
    have k3 := playBD_dkk k2 (now := now) (lo := lo) (hi := hi)
    have e2 : stood (turn d0.c now (ofN y).1 (ofN y).2.1) now (min x hi) = ⟨now, min x hi, 0, (ofN y).1, (ofN y).2.1⟩ := rfl
    rw [e2] at a5
    rw [a5] at k3
    exact ⟨_, _, _, _, e3, e1, a1, rfl, a2, a3, a4, a5, k1, k2, k3, .inl ⟨hy, rfl, rfl⟩⟩
  · have e1 : speedD d0 now y = ⟨0, 0, ⟨0, 0, 0, 1, 1⟩⟩ := by unfold speedD; rw [if_pos hy]; rfl
    obtain ⟨a1, a2, a3, a4, a5⟩ := started (c := ⟨0, 0, 0, 1, 1⟩) he h4 h1
    rw [e1] at k1
    have k2 := seekD_dkk k1 (now := now) (lo := lo) (hi := hi) (time := x)
    have k3 := playBD_dkk k2 (now := now) (lo := lo) (hi := hi)
    have e2 : stood ⟨0, 0, 0, 1, 1⟩ now (min x hi) = ⟨now, min x hi, 0, 1, 1⟩ := rfl
    rw [e2] at a5
    rw [a5] at k3
    exact ⟨_, _, _, _, e3, e1, a1, rfl, a2, a3, a4, a5, k1, k2, k3, .inr ⟨hy, rfl, rfl⟩⟩
theorem tickF {t X r n d T lo hi : Nat} (hk : Dkk ⟨2, X, ⟨t, X, r, n, d⟩⟩) (h1 : t ≤ T) (h2 : T ≤ mx) (h3 : lo ≤ X) (h4 : lo ≤ hi) (h5 : hi ≤ mx) :
    (∃ Y s, Y < hi ∧ X ≤ Y ∧ tickD ⟨2, X, ⟨t, X, r, n, d⟩⟩ T lo hi = ⟨2, Y, ⟨T, Y, s, n, d⟩⟩) ∨ ((tickD ⟨2, X, ⟨t, X, r, n, d⟩⟩ T lo hi).mode = 0 ∧ (tickD ⟨2, X, ⟨t, X, r, n, d⟩⟩ T lo hi).place = hi) := by
  have he : ends T lo hi = true := ends_true h4 h2 h5
  have hp := pos_le hk.c.ok T
  have e1 : go ⟨t, X, r, n, d⟩ T = ⟨T, (reach ⟨t, X, r, n, d⟩ T).1, (reach ⟨t, X, r, n, d⟩ T).2, n, d⟩ := by unfold go; rw [if_pos h1]
  have hp' : X ≤ (reach ⟨t, X, r, n, d⟩ T).1 := hp
  have hg := ticked (c := ⟨t, X, r, n, d⟩) (x := X) he (by rw [e1]; show lo ≤ (reach ⟨t, X, r, n, d⟩ T).1; omega)
  rw [e1] at hg
  rcases hg with ⟨g1, g2⟩ | ⟨g1, g2⟩
  · exact .inl ⟨_, _, g1, hp', g2⟩
  · exact .inr g2
theorem lastF {t X r n d T lo hi : Nat} (hk : Dkk ⟨2, X, ⟨t, X, r, n, d⟩⟩) (hT : T = t + (hi - X + 1) * 1048576) (h2 : T ≤ mx) (h3 : lo ≤ X) (h4 : X ≤ hi) (h5 : hi ≤ mx) (hn : n ≠ 0) :
    (tickD ⟨2, X, ⟨t, X, r, n, d⟩⟩ T lo hi).mode = 0 ∧ (tickD ⟨2, X, ⟨t, X, r, n, d⟩⟩ T lo hi).place = hi := by
  have he : ends T lo hi = true := ends_true (by omega) h2 h5
  have ht : t ≤ T := by omega
  have ho := hk.c.ok
  have hd : d ≤ 1048576 := hk.c.den
  have hd0 : 0 < d := ho.den
  have e1 : go ⟨t, X, r, n, d⟩ T = ⟨T, (reach ⟨t, X, r, n, d⟩ T).1, (reach ⟨t, X, r, n, d⟩ T).2, n, d⟩ := by unfold go; rw [if_pos ht]
  have hr := reach_by ho T
  have hq : hi - X + 1 ≤ ((T - t) * n + r) / d := by
    rw [Nat.le_div_iff_mul_le hd0, hT, Nat.add_sub_cancel_left]
    have a1 : (hi - X + 1) * d ≤ (hi - X + 1) * 1048576 := Nat.mul_le_mul_left _ hd
    have a2 : (hi - X + 1) * 1048576 * 1 ≤ (hi - X + 1) * 1048576 * n := Nat.mul_le_mul_left _ (by omega)
    omega
  have hp : hi ≤ (reach ⟨t, X, r, n, d⟩ T).1 := by
    rw [hr]
    split
    · exact h5
    · show hi ≤ X + ((T - t) * n + r) / d
      omega
  have hg := ticked (c := ⟨t, X, r, n, d⟩) (x := X) he (by rw [e1]; show lo ≤ (reach ⟨t, X, r, n, d⟩ T).1; omega)
  rw [e1] at hg
  rcases hg with ⟨g1, g2⟩ | ⟨g1, g2⟩
  · exact absurd g1 (by show ¬ (reach ⟨t, X, r, n, d⟩ T).1 < hi; omega)
  · exact g2
variable {W W' : World} {B n d p q : Nat} {D : Dck}
theorem Bx.lt (h : Bx W B n d) : B < W.heap.size := lt_of_block h
theorem Bx.fz (h : Bx W B n d) (i : Nat) : W.frozen? ⟨B, i, none⟩ = false := by have h' : W.heap[B]? = _ := h; simp [World.frozen?, h']
/-- the variable set to one. -/
def ones (W : World) (B : Nat) : World := (W.setCell ⟨B, 0, none⟩ (.int .u64 1)).setCell ⟨B, 1, none⟩ (.int .u64 1)
theorem ones_bx (h : Bx W B n d) : Bx (ones W B) B 1 1 := by
  have h' : W.heap[B]? = _ := h
  show (ones W B).heap[B]? = _
  simp [ones, World.setCell, Array.getElem?_modify, h']
theorem ones_block {k : Nat} (hk : k ≠ B) : (ones W B).heap[k]? = W.heap[k]? := by
  unfold ones
  rw [Below.heap_setCell _ ⟨B, 1, none⟩ _ k hk, Below.heap_setCell _ ⟨B, 0, none⟩ _ k hk]
theorem ones_below {w : World} (hb : Below w.heap.size w W) (hB : w.heap.size ≤ B) : Below w.heap.size w (ones W B) :=
  hb.trans ⟨rfl, rfl, rfl, by simp [ones, World.setCell], fun k hk => ones_block (by omega)⟩
theorem ones_dl (h : Dl W p q D) (hx : Bx W B n d) : Dl (ones W B) p q D := by
  have h' : W.heap[B]? = _ := hx
  have hp : p ≠ B := by
    rintro rfl
    rw [h.1] at h'
    injection h' with h'
    injection h' with h1 h2 h3
    cases h2
  have hq : q ≠ B := by
    rintro rfl
    have h2 : W.heap[q]? = _ := h.2
    rw [h2] at h'
    injection h' with h'
    injection h' with h1 h2 h3
    cases h2
  exact ⟨(ones_block hp).trans h.1, (ones_block hq).trans h.2⟩
end Go.Proofs.YtkogmjbiedpbnaaDoor.Fm
