/- The first param. -/
import Derived.Test.YtnaiefjbfpejbaaEs
set_option linter.unusedVariables false
namespace Go.Proofs.Ytnaiefjbfpejbaa.Et
open Go Go.RowKit Kit Ep Eb Er Ea Es


def firstM (p : Ps) : Ps := if p.pa = [] then { p with pa := [-1] } else p
theorem new_lit {w : World} {g : Nat} {v x : Value} {p : Ps} (h : PrV w g v x p) (hv : v = .slice none 0 0) : StP g v x w { p with pa := [-1] } (.slice (some ⟨w.heap.size, 0, none⟩) 1 1) x ((w.alloc (.cells #[.int .i64 (-1)] 3)).setCell ⟨g, 4, none⟩ (.slice (some ⟨w.heap.size, 0, none⟩) 1 1)) := by
  subst hv
  exact StP.param (l := [-1]) (stP_refl h) (World.ownsRow_lit w #[.int .i64 (-1)] 1 (Nat.zero_le _) (by decide) rfl) (World.grownBy_alloc _ _ _) (fun k hk => .inr (by
    have : w.heap.size = k := by injection hk
    omega)) h.lt (by decide) rfl

set_option maxRecDepth 100000 in
theorem firstC (g : Nat) (v x : Value) (p : Ps) (w : World) (h : PrV w g v x p) (P : Ps) (hP : P = firstM p) : Calls Try.prog 39 #[.pointer (some ⟨g, 0, none⟩)] w fun e w' => e = .returned (.tuple #[]) ∧ ∃ v' x', StP g v x w P v' x' w' := by
  have HP := Lib.hid h
  unfold firstM at hP
  by_cases h0 : p.pa = []
  · rw [if_pos h0] at hP
    subst hP
    obtain rfl := h.nil h0
    have HN := Lib.hid (new_lit h rfl)
    obtain ⟨k0, k1, k2, k3, k4, k5, k6⟩ := seven HP.out.row
    obtain ⟨l0, l1, l2, l3, l4, l5, l6⟩ := thawed HP.out.row
    obtain ⟨m0, m1, m2, m3, m4, m5, m6⟩ := seven (alloc_at HP.out.row (.cells #[.int .i64 (-1)] 3))
    obtain ⟨n0, n1, n2, n3, n4, n5, n6⟩ := thawed (alloc_at HP.out.row (.cells #[.int .i64 (-1)] 3))
    clear h h0
    go_enter Try.func39, Try.ntmps39
    go_wp2
    go_end0
    exact ⟨rfl, _, _, HN.out⟩
  · rw [if_neg h0] at hP
    subst hP
    obtain ⟨va, vc, rfl⟩ := own_slice h.pa
    have hl := List.length_pos_iff.2 h0
    have j0 : ((P.pa.length : Int) == 0) = false := by rw [beq_eq_false_iff_ne]; omega
    have j1 : ¬ (P.pa.length : Int) = 0 := by omega
    obtain ⟨k0, k1, k2, k3, k4, k5, k6⟩ := seven HP.out.row
    clear h h0
    go_enter Try.func39, Try.ntmps39
    go_wp2
    go_end0
    exact ⟨rfl, _, _, stP_refl HP.out⟩

/-- what a parser's params may be. -/
def PaOk (p : Ps) : Prop := (p.pa = [] ∧ p.se = 0 ∨ p.pa.length = min (p.se + 1) 16) ∧ ∀ x ∈ p.pa, -1 ≤ x ∧ x ≤ 9999
def digitM (p : Ps) (n : Int) : Ps := if 16 ≤ (firstM p).se then firstM p else { firstM p with pa := (firstM p).pa.set (firstM p).se (min (max ((firstM p).pa.getD (firstM p).se 0) 0 * 10 + n) 9999) }
def sepM (p : Ps) : Ps := if (firstM p).se + 1 < 16 then { firstM p with se := (firstM p).se + 1, pa := (firstM p).pa ++ [-1] } else { firstM p with se := (firstM p).se + 1 }
theorem first_ok {p : Ps} (h : PaOk p) : (firstM p).pa.length = min ((firstM p).se + 1) 16 ∧ (∀ x ∈ (firstM p).pa, -1 ≤ x ∧ x ≤ 9999) ∧ (firstM p).se = p.se := by
  unfold firstM
  by_cases h0 : p.pa = []
  · rw [if_pos h0]
    rcases h.1 with ⟨_, h1⟩ | h1
    · refine ⟨?_, ?_, rfl⟩
      · show 1 = min (p.se + 1) 16
        rw [h1]; rfl
      · intro x hx
        have : x = -1 := by simpa using hx
        subst this; decide
    · rw [h0] at h1
      simp at h1
      omega
  · rw [if_neg h0]
    rcases h.1 with ⟨h1, _⟩ | h1
    · exact absurd h1 h0
    · exact ⟨h1, h.2, rfl⟩
theorem digit_ok {p : Ps} (h : PaOk p) (n : Int) (hn : 0 ≤ n) : PaOk (digitM p n) := by
  obtain ⟨h1, h2, h3⟩ := first_ok h
  unfold digitM
  split
  · exact ⟨.inr h1, h2⟩
  · refine ⟨.inr (by simpa using h1), fun x hx => ?_⟩
    rcases List.mem_or_eq_of_mem_set hx with h | h
    · exact h2 x h
    · subst h; omega
theorem sep_ok {p : Ps} (h : PaOk p) : PaOk (sepM p) := by
  obtain ⟨h1, h2, h3⟩ := first_ok h
  unfold sepM
  split
  · refine ⟨.inr ?_, fun x hx => ?_⟩
    · show ((firstM p).pa ++ [-1]).length = min ((firstM p).se + 1 + 1) 16
      simp; omega
    · rcases List.mem_append.1 hx with h | h
      · exact h2 x h
      · have : x = -1 := by simpa using h
        subst this; decide
  · refine ⟨.inr ?_, h2⟩
    show (firstM p).pa.length = min ((firstM p).se + 1 + 1) 16
    omega
/-- a param is set, and its row stands where it stood. -/
theorem StP.setp {w w1 : World} {g gp cap j : Nat} {v x x1 : Value} {p : Ps} {y : Int} (h : StP g v x w p (.slice (some ⟨gp, 0, none⟩) p.pa.length cap) x1 w1) (hw : gp < w.heap.size → v.ownBlock = some gp) : StP g v x w { p with pa := p.pa.set j y } (.slice (some ⟨gp, 0, none⟩) p.pa.length cap) x1 (w1.setCell ⟨gp, j, none⟩ (.int .i64 y)) := by
  have hs := h.1.pa.stored j (.int .i64 y)
  have hg : gp ≠ g := fun e => h.1.other.1 (by rw [e]; rfl)
  have hx : x1.ownBlock ≠ some gp := fun e => by
    rcases h.1.tx.2 with ⟨rfl, _⟩ | ⟨g1, c1, u1, rfl, _, h1, _⟩
    · cases e
    · have e1 : g1 = gp := by injection e
      rcases h.1.pa.2 with ⟨e2, _⟩ | ⟨g2, c2, u2, e2, _, h2, _⟩
      · cases e2
      · injection e2 with e2; injection e2 with e2; injection e2 with e2
        rw [e1, e2, h2] at h1
        injection h1 with h1; injection h1 with _ h1; exact absurd h1 (by decide)
  refine ⟨⟨?_, ?_, ownsRow_setCell_other h.1.tx hx _, fun e => ?_⟩, ?_, h.2.2.1, h.2.2.2⟩
  · rw [Below.heap_setCell _ _ _ _ (fun e => hg e.symm)]; exact h.1.row
  · have e : (p.pa.set j y).length = p.pa.length := by simp
    show World.ownsRow _ 0 3 1 _ (p.pa.set j y).length (iv (p.pa.set j y))
    rw [e, show iv (p.pa.set j y) = (iv p.pa).set j (.int .i64 y) by simp [iv]]
    exact hs.1
  · have e' : p.pa.set j y = [] := e
    have e3 : p.pa = [] := by simpa using e'
    have := h.1.nil e3
    exact this
  · exact Fr.grown (v1 := v) (x1 := x1) (u := .slice (some ⟨gp, 0, none⟩) p.pa.length cap) h.2.1 hs.2 (fun k hk hkw => .inl (by
      have : gp = k := by injection hk
      subst this; exact hw hkw))

end Go.Proofs.Ytnaiefjbfpejbaa.Et
