/- Clocks as numbers: what they have gone, in parts. Plain facts, no program. -/
namespace Go.Proofs.YthihkbnkbajglaaGreatDoor.CkMath

def mx : Nat := 4611686018427387904
theorem mx_eq : mx = 4611686018427387904 := rfl
structure Ck where
  now : Nat
  pos : Nat
  rest : Nat
  num : Nat
  den : Nat
/-- all that it has gone at t, in parts of den. -/
def tot (c : Ck) (t : Nat) : Nat := c.pos * c.den + c.rest + (t - c.now) * c.num
def reach (c : Ck) (t : Nat) : Nat × Nat := if mx * c.den ≤ tot c t then (mx, 0) else (tot c t / c.den, tot c t % c.den)
def go (c : Ck) (t : Nat) : Ck := if c.now ≤ t then { c with now := t, pos := (reach c t).1, rest := (reach c t).2 } else c
def turn (c : Ck) (t n d : Nat) : Ck := { go c t with rest := (go c t).rest * d / (go c t).den, num := n, den := d }
/-- what a clock is at all times. -/
structure Okk (c : Ck) : Prop where
  den : 0 < c.den
  rest : c.rest < c.den
  pos : c.pos ≤ mx
theorem lt_of_not {a b d : Nat} (hd : 0 < d) (h : ¬ b * d ≤ a) : a / d < b := by
  rw [Nat.div_lt_iff_lt_mul hd]; omega
theorem reach_pos {c : Ck} (h : Okk c) (t : Nat) : (reach c t).1 ≤ mx := by
  unfold reach
  split
  · exact Nat.le_refl _
  · rename_i hn; exact Nat.le_of_lt (lt_of_not h.den hn)
theorem reach_rest {c : Ck} (h : Okk c) (t : Nat) : (reach c t).2 < c.den := by
  unfold reach
  split
  · exact h.den
  · exact Nat.mod_lt _ h.den
theorem go_ok {c : Ck} (h : Okk c) (t : Nat) : Okk (go c t) := by
  unfold go
  split
  · exact ⟨h.den, reach_rest h t, reach_pos h t⟩
  · exact h
theorem go_den (c : Ck) (t : Nat) : (go c t).den = c.den := by unfold go; split <;> rfl
theorem go_num (c : Ck) (t : Nat) : (go c t).num = c.num := by unfold go; split <;> rfl
theorem go_now {c : Ck} {t : Nat} (h : c.now ≤ t) : (go c t).now = t := by unfold go; rw [if_pos h]
theorem go_pos {c : Ck} {t : Nat} (h : c.now ≤ t) : (go c t).pos = (reach c t).1 := by unfold go; rw [if_pos h]
theorem go_rest {c : Ck} {t : Nat} (h : c.now ≤ t) : (go c t).rest = (reach c t).2 := by unfold go; rw [if_pos h]
theorem scale_lt {r d e : Nat} (hd : 0 < d) (he : 0 < e) (h : r < d) : r * e / d < e := by
  rw [Nat.div_lt_iff_lt_mul hd, Nat.mul_comm e d]
  exact Nat.mul_lt_mul_of_pos_right h he
theorem turn_ok {c : Ck} (h : Okk c) (t n d : Nat) (hd : 0 < d) : Okk (turn c t n d) := by
  have hg := go_ok h t
  exact ⟨hd, scale_lt hg.den hd hg.rest, hg.pos⟩
theorem tot_mono (c : Ck) {s t : Nat} (h : s ≤ t) : tot c s ≤ tot c t := by
  unfold tot
  exact Nat.add_le_add_left (Nat.mul_le_mul_right _ (by omega)) _
/-- gone in two parts is gone at once. -/
theorem reach_go {c : Ck} (_hd : 0 < c.den) {s t : Nat} (h1 : c.now ≤ s) (h2 : s ≤ t) : reach (go c s) t = reach c t := by
  have hm := tot_mono c h2
  have e0 : tot (go c s) t = (reach c s).1 * c.den + (reach c s).2 + (t - s) * c.num := by
    unfold tot; rw [go_pos h1, go_den, go_rest h1, go_now h1, go_num]
  unfold reach at e0 ⊢
  rw [go_den]
  split at e0
  · rename_i hs
    simp only [Nat.add_zero] at e0
    rw [if_pos (by omega), if_pos (by omega)]
  · simp only at e0
    have e1 : tot c s / c.den * c.den + tot c s % c.den = tot c s := by rw [Nat.mul_comm]; exact Nat.div_add_mod _ _
    have e2 : tot (go c s) t = tot c t := by
      rw [e0, e1]
      unfold tot
      rw [Nat.add_assoc, ← Nat.add_mul]
      congr 2
      omega
    rw [e2]
theorem reach_mono {c : Ck} (h : Okk c) {s t : Nat} (hst : s ≤ t) : (reach c s).1 ≤ (reach c t).1 := by
  have hm := tot_mono c hst
  unfold reach
  split
  · rw [if_pos (by omega)]
    exact Nat.le_refl _
  · split
    · rename_i hn _; exact Nat.le_of_lt (lt_of_not h.den hn)
    · exact Nat.div_le_div_right hm
theorem pos_le {c : Ck} (h : Okk c) (t : Nat) : c.pos ≤ (reach c t).1 := by
  unfold reach
  split
  · exact h.pos
  · show c.pos ≤ tot c t / c.den
    rw [Nat.le_div_iff_mul_le h.den]
    unfold tot; omega
/-- where it stands it is. -/
theorem reach_now {c : Ck} (h : Okk c) : (reach c c.now).1 = c.pos := by
  unfold reach
  have e : tot c c.now = c.pos * c.den + c.rest := by unfold tot; simp
  have hr := h.rest
  split
  · rename_i hs
    have h1 := h.pos
    show mx = c.pos
    rw [e] at hs
    have : mx * c.den < (c.pos + 1) * c.den := by rw [Nat.add_mul]; omega
    have := Nat.lt_of_mul_lt_mul_right this
    omega
  · show tot c c.now / c.den = c.pos
    rw [e, Nat.mul_comm, Nat.mul_add_div h.den, Nat.div_eq_of_lt hr]; rfl
/-- the program's way, by its scale. -/
theorem reach_by {c : Ck} (h : Okk c) (t : Nat) :
    reach c t = if mx < ((t - c.now) * c.num + c.rest) / c.den ∨ mx ≤ c.pos + ((t - c.now) * c.num + c.rest) / c.den then (mx, 0) else (c.pos + ((t - c.now) * c.num + c.rest) / c.den, ((t - c.now) * c.num + c.rest) % c.den) := by
  have e : tot c t = c.den * c.pos + ((t - c.now) * c.num + c.rest) := by unfold tot; rw [Nat.mul_comm c.pos]; omega
  have q : tot c t / c.den = c.pos + ((t - c.now) * c.num + c.rest) / c.den := by rw [e, Nat.mul_add_div h.den]
  have r : tot c t % c.den = ((t - c.now) * c.num + c.rest) % c.den := by rw [e, Nat.mul_add_mod]
  unfold reach
  rw [← r, ← q]
  by_cases hc : mx * c.den ≤ tot c t
  · rw [if_pos hc, if_pos]
    right
    rwa [Nat.le_div_iff_mul_le h.den]
  · rw [if_neg hc, if_neg]
    have h1 := lt_of_not h.den hc
    omega
end Go.Proofs.YthihkbnkbajglaaGreatDoor.CkMath
