/- Two clocks side by side. -/
import Derived.Test.YtilblkccophnnaaCkF
set_option linter.unusedVariables false
namespace Go.Proofs.Ytilblkccophnnaa.CkTwo
open Go Go.RowKit Kit Nums Scale Scale2 Scales CkMath CkC CkD CkE CkN CkF

theorem go_go {c : Ck} (h : Okk c) {s t : Nat} (h1 : c.now ≤ s) (h2 : s ≤ t) : go (go c s) t = go c t := by
  have hr := reach_go h.den h1 h2
  rw [go_eq (c := go c s) (by rw [go_now h1]; exact h2), hr, go_num, go_den, go_eq (c := c) (t := t) (by omega)]
theorem turn_self {c : Ck} (h : Okk c) (t : Nat) : turn c t c.num c.den = go c t := by
  unfold turn
  rw [go_den, Nat.mul_div_cancel _ h.den]
  have h1 := go_num c t
  have h2 := go_den c t
  cases hg : go c t with
  | mk a b r n d => rw [hg] at h1 h2; simp only at h1 h2; rw [h1, h2]
theorem go_self {c : Ck} (h : Okk c) : (go c c.now).pos = c.pos := by rw [go_pos (Nat.le_refl _), reach_now h]
/-- turned to stand. -/
theorem turn_stop {c : Ck} (h : Okk c) : turn c c.now 0 1 = ⟨c.now, c.pos, 0, 0, 1⟩ := by
  have hg := go_ok h c.now
  have h1 := hg.rest
  have h2 := go_self h
  have h3 := go_now (Nat.le_refl c.now)
  have e : turn c c.now 0 1 = ⟨(go c c.now).now, (go c c.now).pos, (go c c.now).rest * 1 / (go c c.now).den, 0, 1⟩ := rfl
  rw [e, Nat.mul_one, Nat.div_eq_of_lt h1, h2, h3]
theorem go_stop {a x t : Nat} (hx : x ≤ mx) (h : a ≤ t) : go ⟨a, x, 0, 0, 1⟩ t = ⟨t, x, 0, 0, 1⟩ := by
  unfold go
  rw [if_pos h]
  unfold reach tot
  simp only [Nat.mul_one, Nat.mul_zero, Nat.add_zero, Nat.div_one, Nat.mod_one]
  split
  · rename_i hm
    have : x = mx := by omega
    rw [this]
  · rfl
theorem turn_wall {a x : Nat} (hx : x ≤ mx) : turn ⟨a, x, 0, 0, 1⟩ a 1 1 = ⟨a, x, 0, 1, 1⟩ := by
  have e : turn ⟨a, x, 0, 0, 1⟩ a 1 1 = ⟨(go ⟨a, x, 0, 0, 1⟩ a).now, (go ⟨a, x, 0, 0, 1⟩ a).pos, (go ⟨a, x, 0, 0, 1⟩ a).rest * 1 / (go ⟨a, x, 0, 0, 1⟩ a).den, 1, 1⟩ := rfl
  rw [e, go_stop hx (Nat.le_refl a)]
  simp
theorem reach_wall {a x t : Nat} (h : a ≤ t) : (reach ⟨a, x, 0, 1, 1⟩ t).1 = min (x + (t - a)) mx := by
  unfold reach tot
  simp only [Nat.mul_one, Nat.add_zero, Nat.div_one, Nat.mod_one]
  split <;> simp only <;> omega
/-- two clocks above w. -/
structure Two (w : World) (p q : Nat) (c d : Ck) (W : World) : Prop where
  cp : Cl 55 W p c
  cq : Cl 55 W q d
  ne : p ≠ q
  wp : w.heap.size ≤ p
  wq : w.heap.size ≤ q
  bel : Below w.heap.size w W
variable {w W W' : World} {p q : Nat} {c d : Ck}
theorem Two.swap (h : Two w p q c d W) : Two w q p d c W := ⟨h.cq, h.cp, Ne.symm h.ne, h.wq, h.wp, h.bel⟩
theorem Two.then_ (h : Two w p q c d W) (hb : Below W.heap.size W W') : Two w p q c d W' := ⟨h.cp.then_ hb, h.cq.then_ hb, h.ne, h.wp, h.wq, below_next h.bel hb⟩
theorem Two.grown {g : Ck} (h : Two w p q c d W) (hg : W.grownBy W' (some p)) (hc : Cl 55 W' p g) : Two w p q g d W' := ⟨hc, h.cq.grown hg (Ne.symm h.ne), h.ne, h.wp, h.wq, below_of_grown h.bel hg h.wp⟩
theorem Two.cell {a o : Nat} {v : Value} (h : Two w p q c d W) (hv : w.cell? ⟨a, o, none⟩ = some v) : W.cell? ⟨a, o, none⟩ = some v := cell_then h.bel (Nat.le_refl _) hv
theorem go2 {g : Ck} (t : Nat) (h : Two w p q c d W) (hk : Ckk c) (ht : t < 18446744073709551616) (hg : go c t = g) :
    Calls Try.prog 11 #[.pointer (some ⟨p, 0, none⟩), .int .u64 (t : Int)] W fun e W' => e = .returned (.int .u64 (g.pos : Int)) ∧ Two w p q g d W' := by
  refine (goC p c t W h.cp hk ht).mono ?_
  rintro e W' ⟨rfl, hc, hgr⟩
  rw [hg] at hc ⊢
  exact ⟨rfl, h.grown hgr hc⟩
theorem turn2 {g : Ck} (t n x : Nat) (h : Two w p q c d W) (hk : Ckk c) (ht : t ≤ mx) (hm : mayN n x = true) (hn : n < 18446744073709551616) (hx : x < 18446744073709551616) (hg : turn c t n x = g) :
    Calls Try.prog 15 #[.pointer (some ⟨p, 0, none⟩), .int .u64 (t : Int), .agg #[.int .u64 (n : Int), .int .u64 (x : Int)]] W fun e W' => e = .returned (.int .i64 0) ∧ Two w p q g d W' := by
  refine (turnC p c t n x W h.cp hk (by rw [mx_eq] at ht; omega) hn hx).mono ?_
  rintro e W' (⟨_, _, rfl, hc, hgr⟩ | ⟨hno, _, _⟩)
  · rw [hg] at hc
    exact ⟨rfl, h.grown hgr hc⟩
  · exact absurd ⟨ht, hm⟩ hno
theorem turn2No (t n x : Nat) (h : Two w p q c d W) (hk : Ckk c) (ht : t < 18446744073709551616) (hn : n < 18446744073709551616) (hx : x < 18446744073709551616) (hno : ¬ (t ≤ mx ∧ mayN n x = true)) :
    Calls Try.prog 15 #[.pointer (some ⟨p, 0, none⟩), .int .u64 (t : Int), .agg #[.int .u64 (n : Int), .int .u64 (x : Int)]] W fun e W' => e = .returned (.int .i64 1) ∧ Two w p q c d W' := by
  refine (turnC p c t n x W h.cp hk ht hn hx).mono ?_
  rintro e W' (⟨h1, h2, _⟩ | ⟨_, rfl, hb⟩)
  · exact absurd ⟨h1, h2⟩ hno
  · exact ⟨rfl, h.then_ hb⟩
theorem at2 (t : Nat) (h : Two w p q c d W) (hk : Ckk c) (ht : t < 18446744073709551616) :
    Calls Try.prog 17 #[.pointer (some ⟨p, 0, none⟩), .int .u64 (t : Int)] W fun e W' => e = .returned (.int .u64 ((reach c t).1 : Int)) ∧ Two w p q c d W' := by
  refine (atCC p c t W h.cp hk ht).mono ?_
  rintro e W' ⟨rfl, hb⟩
  exact ⟨rfl, h.then_ hb⟩
theorem set2 (t x : Nat) (h : Two w p q c d W) (ht : t ≤ mx) (hx : x ≤ mx) :
    Calls Try.prog 13 #[.pointer (some ⟨p, 0, none⟩), .int .u64 (t : Int), .int .u64 (x : Int)] W fun e W' => e = .returned (.int .i64 0) ∧ Two w p q (stood c t x) d W' := by
  refine (setC p c t x W h.cp).mono ?_
  rintro e W' (⟨_, _, rfl, hc, hgr⟩ | ⟨hno, _, _⟩)
  · exact ⟨rfl, h.grown hgr hc⟩
  · exact absurd ⟨ht, hx⟩ hno
/-- the first and the second of two new clocks. -/
theorem new1 (t x n y : Nat) (w : World) (hn : n < 18446744073709551616) (hy : y < 18446744073709551616) (hm : mayN n y = true) (ht : t ≤ mx) (hx : x ≤ mx) :
    Calls Try.prog 8 #[.int .u64 (t : Int), .int .u64 (x : Int), .agg #[.int .u64 (n : Int), .int .u64 (y : Int)]] w fun e w' => ∃ p, w.heap.size ≤ p ∧ e = .returned (.tuple #[.pointer (some ⟨p, 0, none⟩), .int .i64 0]) ∧ Cl 55 w' p ⟨t, x, 0, n, y⟩ ∧ Below w.heap.size w w' := by
  refine (newC t x n y w hn hy).mono ?_
  rintro e w' (⟨_, _, _, ⟨p, hp, rfl, hc⟩, hb⟩ | ⟨hno, _, _⟩)
  · exact ⟨p, hp, rfl, hc, hb⟩
  · exact absurd ⟨hm, ht, hx⟩ hno
theorem newNo (t x n y : Nat) (w : World) (hn : n < 18446744073709551616) (hy : y < 18446744073709551616) (hno : ¬ (mayN n y = true ∧ t ≤ mx ∧ x ≤ mx)) :
    Calls Try.prog 8 #[.int .u64 (t : Int), .int .u64 (x : Int), .agg #[.int .u64 (n : Int), .int .u64 (y : Int)]] w fun e w' => e = .returned (.tuple #[.pointer none, .int .i64 1]) ∧ Below w.heap.size w w' := by
  refine (newC t x n y w hn hy).mono ?_
  rintro e w' (⟨h1, h2, h3, _⟩ | ⟨_, rfl, hb⟩)
  · exact absurd ⟨h1, h2, h3⟩ hno
  · exact ⟨rfl, hb⟩
theorem two_of {w1 w2 : World} (hb : Below w.heap.size w W) (hp : W.heap.size ≤ p) (h1 : Cl 55 w1 p c) (hb1 : Below W.heap.size W w1) (hq : w1.heap.size ≤ q) (h2 : Cl 55 w2 q d) (hb2 : Below w1.heap.size w1 w2) : Two w p q c d w2 := by
  have e1 := hb.size
  have e2 := h1.lt
  have e3 := hb1.size
  exact ⟨h1.then_ hb2, h2, by omega, by omega, by omega, below_next (below_next hb hb1) hb2⟩
theorem new_ckk {t x n y : Nat} (ht : t < 18446744073709551616) (hx : x ≤ mx) (hm : mayN n y = true) : Ckk ⟨t, x, 0, n, y⟩ := by
  obtain ⟨k, _, hk, _⟩ := may_pow hm
  have h0 : 0 < y := by rw [hk]; exact Nat.two_pow_pos k
  exact ⟨⟨h0, h0, hx⟩, hm, ht⟩
end Go.Proofs.Ytilblkccophnnaa.CkTwo
