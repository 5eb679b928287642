/- The document's reading of entries: plain facts. -/
import Derived.Test.YtebfblpmihnndaaDoorJe
import Derived.Test.YtebfblpmihnndaaDoorJb
import Derived.Test.YtebfblpmihnndaaDoorPy
set_option linter.unusedVariables false
namespace Go.Proofs.YtebfblpmihnndaaDoor.Jf
open Go Go.RowKit Kit Crc Var Get Ref2 Ref3 Copy Bytes Bx Py Ia Ib Ic Ir Ie Jc Jd Ja Jb

theorem getF_lt : ∀ (l : List Nat) (i acc n k : Nat), i ≤ 9 → acc < 2 ^ (7 * i) → (∀ c ∈ l, c < 256) → getF l i acc = (n, k, 0) → n < 18446744073709551616
  | [], i, acc, n, k, _, _, _, h => by simp [getF] at h
  | c :: l, i, acc, n, k, hi, ha, hl, h => by
    rw [getF] at h
    split at h
    · simp at h
    · rename_i h1
      split at h
      · have i8 : i ≤ 8 := by omega
        exact getF_lt l (i + 1) _ n k (by omega) (pow_step i8 ha).1 (fun x hx => hl x (List.mem_cons_of_mem _ hx)) h
      · split at h
        · simp at h
        · simp only [Prod.mk.injEq, and_true] at h
          obtain ⟨h, _⟩ := h
          by_cases h9 : i = 9
          · subst h9
            have e : (2 : Nat) ^ (7 * 9) = 9223372036854775808 := by decide
            rw [e] at ha h
            have : c ≤ 1 := by omega
            omega
          · have i8 : i ≤ 8 := by omega
            have := (pow_step (c := c) i8 ha).2
            rw [Nat.mod_eq_of_lt (by omega)] at this
            omega
/-- what a number that was read is. -/
theorem g1_is {l : List Nat} (hl : ∀ c ∈ l, c < 256) {p v q : Nat} (h : g1 l p = some (v, q)) : v < 18446744073709551616 ∧ (l.take q).drop p = varL v := by
  have hin := g1_in h
  unfold g1 at h
  by_cases c1 : l.length < p
  · rw [if_pos c1] at h; cases h
  · rw [if_neg c1] at h
    by_cases c2 : (getF (l.drop p) 0 0).2.2 = 0
    · rw [if_pos c2] at h
      injection h with h; injection h with h3 h4
      have hd : ∀ c ∈ l.drop p, c < 256 := fun c hc => hl c (List.mem_of_mem_drop hc)
      have e : getF (l.drop p) 0 0 = (v, q - p, 0) := Prod.ext h3 (Prod.ext (by show (getF (l.drop p) 0 0).2.1 = q - p; omega) c2)
      refine ⟨getF_lt _ 0 0 v (q - p) (by omega) (by decide) hd e, ?_⟩
      have := (getF_eat hd e).2.2
      rw [← this, List.drop_take]
    · rw [if_neg c2] at h; cases h
theorem cut_two {l : List Nat} {p q r : Nat} (h1 : p ≤ q) (h2 : q ≤ r) : (l.take r).drop p = (l.take q).drop p ++ (l.take r).drop q := by
  have e : (l.take q).drop p = ((l.take r).take q).drop p := by rw [List.take_take, Nat.min_eq_left h2]
  rw [e]
  generalize l.take r = m
  conv => lhs; rw [← List.take_append_drop q m]
  by_cases hq : q ≤ m.length
  · rw [List.drop_append_of_le_length (by rw [List.length_take]; omega)]
  · rw [List.take_of_length_le (by omega), List.drop_of_length_le (show m.length ≤ q by omega), List.append_nil, List.append_nil]
/-- what Num does: it fails, or it reads. -/
theorem num_or (l : List Nat) (r : Rdr) (most : Nat) (he : r.err = 0) : (g1 l r.at_ = none ∧ (numN l r most).2.err ≠ 0) ∨ (∃ v q, g1 l r.at_ = some (v, q) ∧ most < v ∧ (numN l r most).2.err ≠ 0) ∨ (∃ v q : Nat, g1 l r.at_ = some (v, q) ∧ v ≤ most ∧ numN l r most = ((v : Int), { r with at_ := q })) := by
  have hN : numN l r most = if (getA l r.at_).2.2 ≠ 0 then (0, { r with err := (getA l r.at_).2.2 }) else if (most : Int) < (getA l r.at_).1 then (0, { r with err := 1 }) else ((getA l r.at_).1, { r with at_ := (getA l r.at_).2.1.toNat }) := by
    unfold numN; rw [if_neg (by simpa using he)]
  by_cases c1 : l.length < r.at_
  · have ga : getA l r.at_ = (0, 0, 1) := by unfold getA; rw [if_pos (.inr (by omega))]
    left
    refine ⟨by unfold g1; rw [if_pos c1], ?_⟩
    rw [hN, ga, if_pos (by decide)]; simp
  · have ga : getA l r.at_ = (((getF (l.drop r.at_) 0 0).1 : Int), end_ (getF (l.drop r.at_) 0 0) r.at_, ((getF (l.drop r.at_) 0 0).2.2 : Int)) := by
      unfold getA; rw [if_neg (by omega), Int.toNat_natCast]
    have gg : g1 l r.at_ = if (getF (l.drop r.at_) 0 0).2.2 = 0 then some ((getF (l.drop r.at_) 0 0).1, r.at_ + (getF (l.drop r.at_) 0 0).2.1) else none := by
      unfold g1; rw [if_neg c1]
    rw [ga] at hN
    by_cases c2 : (getF (l.drop r.at_) 0 0).2.2 = 0
    · right
      rw [if_pos c2] at gg
      dsimp only at hN
      rw [if_neg (by rw [c2]; decide)] at hN
      by_cases c3 : most < (getF (l.drop r.at_) 0 0).1
      · left
        exact ⟨_, _, gg, c3, by rw [hN, if_pos (by omega)]; simp⟩
      · right
        refine ⟨_, _, gg, by omega, ?_⟩
        rw [hN, if_neg (by omega)]
        unfold end_
        rw [if_pos c2]
        simp only [Prod.mk.injEq, true_and]
        congr 1
    · left
      rw [if_neg c2] at gg
      refine ⟨gg, ?_⟩
      dsimp only at hN
      rw [if_pos (by simpa using c2)] at hN
      rw [hN]
      simpa using c2
theorem num_bad (l : List Nat) (r : Rdr) (most : Nat) (he : r.err ≠ 0) : numN l r most = (0, r) := by unfold numN; rw [if_pos he]
def M64 : Nat := 18446744073709551615
def M31 : Nat := 2147483647
/-- the reader behind the sum. -/
def raw4 (l : List Nat) (r : Rdr) : Rdr := if r.at_ + 4 ≤ l.length then { r with at_ := r.at_ + 4 } else { r with err := 3 }
def nm (l : List Nat) (r : Rdr) (i : Nat) : Int × Rdr := numN l r (if i < 2 then M64 else M31)
/-- an entry as the document reads it. -/
theorem rd_or {l : List Nat} (hl : ∀ c ∈ l, c < 256) {r r1 : Rdr} {x0 x1 x2 x3 : Int × Rdr} (he : r.err = 0) (h1 : r1 = raw4 l r) (y0 : numN l r1 M64 = x0) (y1 : numN l x0.2 M64 = x1) (y2 : numN l x1.2 M31 = x2) (y3 : numN l x2.2 M31 = x3) :
    (x3.2.err ≠ 0 ∧ rdE l r.at_ = none) ∨ (∃ n0 n1 n2 n3 q : Nat, x3.2 = { r with at_ := q } ∧ r.at_ + 4 ≤ l.length ∧ x0.1 = (n0 : Int) ∧ x1.1 = (n1 : Int) ∧ x2.1 = (n2 : Int) ∧ x3.1 = (n3 : Int) ∧ n0 < 18446744073709551616 ∧ n1 < 18446744073709551616 ∧ n2 ≤ 2147483647 ∧ n3 ≤ 2147483647 ∧ r.at_ < q ∧ q ≤ l.length ∧
      rdE l r.at_ = if (l.take (r.at_ + 4)).drop r.at_ = fourL ((crc (numL ⟨n0, n1, (n2 : Int), (n3 : Int)⟩) : Nat) : Int) then some (⟨n0, n1, (n2 : Int), (n3 : Int)⟩, q) else none) := by
  have bad : ∀ x : Rdr, x.err ≠ 0 → (numN l x M31).2.err ≠ 0 := fun x hx => by rw [num_bad l x _ hx]; exact hx
  have bad6 : ∀ x : Rdr, x.err ≠ 0 → (numN l x M64).2.err ≠ 0 := fun x hx => by rw [num_bad l x _ hx]; exact hx
  unfold rdE
  by_cases hlen : r.at_ + 4 ≤ l.length
  · have e1 : r1 = { r with at_ := r.at_ + 4 } := by rw [h1]; unfold raw4; rw [if_pos hlen]
    have ea : r1.at_ = r.at_ + 4 := by rw [e1]
    have ee : r1.err = 0 := by rw [e1]; exact he
    rcases num_or l r1 M64 ee with ⟨g, b⟩ | ⟨v, q, g, m, b⟩ | ⟨n0, q1, g0, m0, b0⟩
    · left
      rw [ea] at g
      rw [y0] at b
      exact ⟨by rw [← y3]; apply bad; rw [← y2]; apply bad; rw [← y1]; exact bad6 _ b, by rw [g]⟩
    · have := (g1_is hl g).1; unfold M64 at m; omega
    rw [ea] at g0
    rw [y0] at b0
    have z0 : x0.1 = (n0 : Int) := by rw [b0]
    have w0 : x0.2.at_ = q1 := by rw [b0]
    have w0e : x0.2.err = 0 := by rw [b0]; exact ee
    rcases num_or l x0.2 M64 w0e with ⟨g, b⟩ | ⟨v, q, g, m, b⟩ | ⟨n1, q2, g1', m1, b1⟩
    · left
      rw [w0] at g
      rw [y1] at b
      exact ⟨by rw [← y3]; apply bad; rw [← y2]; exact bad _ b, by simp only [g0, g]⟩
    · have := (g1_is hl g).1; unfold M64 at m; omega
    rw [w0] at g1'
    rw [y1] at b1
    have z1 : x1.1 = (n1 : Int) := by rw [b1]
    have w1 : x1.2.at_ = q2 := by rw [b1]
    have w1e : x1.2.err = 0 := by rw [b1]; exact w0e
    rcases num_or l x1.2 M31 w1e with ⟨g, b⟩ | ⟨v, q, g, m, b⟩ | ⟨n2, q3, g2, m2, b2⟩
    · left
      rw [w1] at g
      rw [y2] at b
      exact ⟨by rw [← y3]; exact bad _ b, by simp only [g0, g1', g]⟩
    · left
      rw [w1] at g
      rw [y2] at b
      refine ⟨by rw [← y3]; exact bad _ b, ?_⟩
      simp only [g0, g1', g]
      split
      · rfl
      · rw [if_pos (.inl m)]
    rw [w1] at g2
    rw [y2] at b2
    have z2 : x2.1 = (n2 : Int) := by rw [b2]
    have w2 : x2.2.at_ = q3 := by rw [b2]
    have w2e : x2.2.err = 0 := by rw [b2]; exact w1e
    rcases num_or l x2.2 M31 w2e with ⟨g, b⟩ | ⟨v, q, g, m, b⟩ | ⟨n3, q4, g3, m3, b3⟩
    · left
      rw [w2] at g
      rw [y3] at b
      exact ⟨b, by simp only [g0, g1', g2, g]⟩
    · left
      rw [w2] at g
      rw [y3] at b
      refine ⟨b, ?_⟩
      simp only [g0, g1', g2, g]
      rw [if_pos (.inr (.inl m))]
    rw [w2] at g3
    rw [y3] at b3
    have z3 : x3.1 = (n3 : Int) := by rw [b3]
    right
    have i0 := g1_in g0
    have i1 := g1_in g1'
    have i2 := g1_in g2
    have i3 := g1_in g3
    have k0 := g1_is hl g0
    have k1 := g1_is hl g1'
    have k2 := g1_is hl g2
    have k3 := g1_is hl g3
    unfold M31 at m2 m3
    have hn : (l.take q4).drop (r.at_ + 4) = numL ⟨n0, n1, (n2 : Int), (n3 : Int)⟩ := by
      rw [cut_two (q := q1) (by omega) (by omega), cut_two (q := q2) (r := q4) (p := q1) (by omega) (by omega), cut_two (q := q3) (r := q4) (p := q2) (by omega) (by omega), k0.2, k1.2, k2.2, k3.2]
      unfold numL
      have u : ∀ n : Nat, n ≤ 2147483647 → uZ (n : Int) = n := fun n h => by unfold uZ; omega
      rw [u n2 m2, u n3 m3]; simp
    refine ⟨n0, n1, n2, n3, q4, by rw [b3, b2, b1, b0, e1], hlen, z0, z1, z2, z3, k0.1, k1.1, m2, m3, by omega, by omega, ?_⟩
    simp only [g0, g1', g2, g3, hn]
    by_cases hs : (l.take (r.at_ + 4)).drop r.at_ = fourL ((crc (numL ⟨n0, n1, (n2 : Int), (n3 : Int)⟩) : Nat) : Int)
    · rw [if_pos hs, if_neg]
      simp only [hs, not_true_eq_false, or_false]
      omega
    · rw [if_neg hs, if_pos (.inr (.inr hs))]
  · left
    have e1 : r1.err ≠ 0 := by rw [h1]; unfold raw4; rw [if_neg hlen]; simp
    refine ⟨by rw [← y3]; apply bad; rw [← y2]; apply bad; rw [← y1]; apply bad6; rw [← y0]; exact bad6 _ e1, ?_⟩
    have : g1 l (r.at_ + 4) = none := by unfold g1; rw [if_pos (by omega)]
    rw [this]
end Go.Proofs.YtebfblpmihnndaaDoor.Jf
