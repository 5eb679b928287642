/- tiklaw23.DeckRates, DeckForward: what the deck does, as numbers. -/
import Derived.Test.YtkogmjbiedpbnaaDoorAirW
set_option linter.unusedVariables false
namespace Go.Proofs.YtkogmjbiedpbnaaDoor.Rm
open Go Go.RowKit Kit Nums Rate0 Scale Scale2 CkMath CkC CkD CkE CkN OfA OfB Dk Dk2 Dk3 Dk4 AirW

theorem go_small {c : Ck} (h : Okk c) {T : Nat} (ht : c.now ≤ T) (hq : c.pos + ((T - c.now) * c.num + c.rest) / c.den < mx) :
    go c T = ⟨T, c.pos + ((T - c.now) * c.num + c.rest) / c.den, ((T - c.now) * c.num + c.rest) % c.den, c.num, c.den⟩ := by
  have hr := reach_by h T
  rw [if_neg (by omega)] at hr
  unfold go
  rw [if_pos ht, hr]
theorem part_le {m n d r : Nat} (hd : 0 < d) (hn : n ≤ 1024 * d) (hr : r < d) : (m * n + r) / d ≤ m * 1024 := by
  have h1 : m * n ≤ m * (1024 * d) := Nat.mul_le_mul_left m hn
  have h2 : m * (1024 * d) = (m * 1024) * d := by rw [Nat.mul_assoc]
  have h3 : (m * n + r) / d < m * 1024 + 1 := by
    rw [Nat.div_lt_iff_lt_mul hd, Nat.add_mul]
    omega
  omega
/-- told where to stand, then to play. -/
theorem started {now lo hi x : Nat} {c : Ck} (he : ends now lo hi = true) (h1 : lo ≤ x) (h2 : lo ≤ hi) :
    seekE now lo hi x = 0 ∧ (seekD ⟨0, 0, c⟩ now lo hi x).mode = 1 ∧ (seekD ⟨0, 0, c⟩ now lo hi x).place = min x hi ∧ playE (seekD ⟨0, 0, c⟩ now lo hi x) now lo hi = 0 ∧
    playBD (seekD ⟨0, 0, c⟩ now lo hi x) now lo hi = ⟨2, min x hi, stood c now (min x hi)⟩ := by
  have e1 : seekD ⟨0, 0, c⟩ now lo hi x = ⟨1, min x hi, stood c now (min x hi)⟩ := by
    unfold seekD; rw [he, if_neg (by decide), if_neg (by omega)]; rfl
  have e2 : Dk.held (min x hi) lo hi = min x hi := by unfold Dk.held; omega
  rw [e1]
  refine ⟨by unfold seekE; rw [he, if_neg (by decide), if_neg (by omega)], rfl, rfl, by unfold playE; rw [he, if_neg (by decide), if_neg (show ¬ (1 : Nat) = 0 by decide)], ?_⟩
  unfold playBD
  rw [he, if_neg (by decide), if_pos rfl, e2]
  rfl
/-- a tick of one that plays. -/
theorem ticked {now lo hi x : Nat} {c : Ck} (he : ends now lo hi = true) (hl : lo ≤ (go c now).pos) :
    ((go c now).pos < hi ∧ tickD ⟨2, x, c⟩ now lo hi = ⟨2, (go c now).pos, go c now⟩) ∨ (hi ≤ (go c now).pos ∧ (tickD ⟨2, x, c⟩ now lo hi).mode = 0 ∧ (tickD ⟨2, x, c⟩ now lo hi).place = hi) := by
  have e : tickD ⟨2, x, c⟩ now lo hi = playD ⟨2, x, c⟩ now lo hi := by unfold tickD; rw [he, if_neg (by decide), if_neg (show ¬ (2 : Nat) = 1 by decide), if_pos rfl]
  obtain ⟨h1, _, _⟩ := ends_parts he
  rw [e]
  by_cases h : (go c now).pos < hi
  · left
    have h3 : Dk.held (go c now).pos lo hi = (go c now).pos := by unfold Dk.held; omega
    refine ⟨h, ?_⟩
    unfold playD
    simp only
    rw [h3, if_neg (by omega), if_pos rfl]
  · right
    have h3 : Dk.held (go c now).pos lo hi = hi := by unfold Dk.held; omega
    refine ⟨by omega, ?_, ?_⟩
    · unfold playD; simp only; rw [h3, if_pos rfl]
    · unfold playD; simp only; rw [h3]
/-- two variables that hold a speed. -/
def Bx (W : World) (B : Nat) (n d : Nat) : Prop := W.heap[B]? = some (.cells #[.int .u64 (n : Int), .int .u64 (d : Int)] 30 (0, 0))
variable {W W' : World} {B C p q n d m k : Nat} {D : Dck}
theorem Bx.c0 (h : Bx W B n d) : W.cell? ⟨B, 0, none⟩ = some (.int .u64 (n : Int)) := by have h' : W.heap[B]? = _ := h; simp [World.cell?, h']
theorem Bx.c1 (h : Bx W B n d) : W.cell? ⟨B, 1, none⟩ = some (.int .u64 (d : Int)) := by have h' : W.heap[B]? = _ := h; simp [World.cell?, h']
theorem Bx.then_ (h : Bx W B n d) (hb : Below W.heap.size W W') : Bx W' B n d := (hb.block B (lt_of_block h)).trans h
theorem Bx.fr (h : Bx W B n d) (hD : Dl W p q D) (hf : Fr2 p q W W') : Bx W' B n d := by
  have h' : W.heap[B]? = _ := h
  refine (hf.block B (lt_of_block h) ?_ ?_).trans h
  · rintro rfl
    rw [hD.1] at h'
    injection h' with h'
    injection h' with h1 h2 h3
    cases h2
  · rintro rfl
    have h2 : W.heap[B]? = _ := hD.2
    rw [h2] at h'
    injection h' with h'
    injection h' with h1 h2 h3
    cases h2
structure Two (W : World) (B C n d m k : Nat) : Prop where
  a : Bx W B n d
  b : Bx W C m k
theorem Two.then_ (h : Two W B C n d m k) (hb : Below W.heap.size W W') : Two W' B C n d m k := ⟨h.a.then_ hb, h.b.then_ hb⟩
theorem Two.fr (h : Two W B C n d m k) (hD : Dl W p q D) (hf : Fr2 p q W W') : Two W' B C n d m k := ⟨h.a.fr hD hf, h.b.fr hD hf⟩
theorem Two.drew_ (h : Two W B C n d m k) : Two W.drew B C n d m k := h.then_ (Below.refl _ _).drew
theorem Bx.new (w : World) (n d : Nat) : Bx (w.alloc (.cells #[.int .u64 (n : Int), .int .u64 (d : Int)] 30)) w.heap.size n d := heap_alloc_new w _
theorem rates1 {now hi x more y n d : Nat} (hy : (ofN y).2.2 = 0) (hn : (ofN y).1 = n) (hd : (ofN y).2.1 = d) (h1 : hi ≤ 1099511627776) (h2 : now ≤ 1099511627776) (h3 : more ≤ 1073741824) (h4 : x ≤ hi) :
    ∃ D1 D2 Q R, speedE now y = 0 ∧ speedD d0 now y = D1 ∧ seekE now 0 hi x = 0 ∧ seekD D1 now 0 hi x = D2 ∧ playE D2 now 0 hi = 0 ∧ playBD D2 now 0 hi = ⟨2, x, ⟨now, x, 0, n, d⟩⟩ ∧ Dkk D1 ∧ Dkk D2 ∧ Dkk ⟨2, x, ⟨now, x, 0, n, d⟩⟩ ∧
      scaleN more 0 n d = ((Q : Nat), (R : Nat), (0 : Nat)) ∧ Q ≤ 1099511627776 ∧ R < d ∧ 0 < d ∧ d ≤ 1048576 ∧ n ≤ 1024 * d ∧ mayN n d = true ∧
      ((x + Q < hi ∧ tickD ⟨2, x, ⟨now, x, 0, n, d⟩⟩ (now + more) 0 hi = ⟨2, x + Q, ⟨now + more, x + Q, R, n, d⟩⟩) ∨ (hi ≤ x + Q ∧ (tickD ⟨2, x, ⟨now, x, 0, n, d⟩⟩ (now + more) 0 hi).mode = 0 ∧ (tickD ⟨2, x, ⟨now, x, 0, n, d⟩⟩ (now + more) 0 hi).place = hi)) := by
  have hmay := of_may hy
  rw [hn, hd] at hmay
  obtain ⟨l1, l2, l3⟩ := mayLe hmay
  have he : ends now 0 hi = true := ends_true (Nat.zero_le _) (by rw [mx_eq]; omega) (by rw [mx_eq]; omega)
  have he' : ends (now + more) 0 hi = true := ends_true (Nat.zero_le _) (by rw [mx_eq]; omega) (by rw [mx_eq]; omega)
  have hnm : now ≤ mx := by rw [mx_eq]; omega
  have e1 : speedD d0 now y = ⟨0, 0, turn d0.c now n d⟩ := by unfold speedD; rw [if_neg (by simp [hy]), if_pos hnm, hn, hd]; rfl
  have k1 := speedD_dkk d0_ok (now := now) (b := y)
  have hm : min x hi = x := by omega
  obtain ⟨a1, a2, a3, a4, a5⟩ := started (c := turn d0.c now n d) he (Nat.zero_le x) (Nat.zero_le hi)
  have e2 : stood (turn d0.c now n d) now (min x hi) = ⟨now, x, 0, n, d⟩ := by rw [hm]; rfl
  rw [e2, hm] at a5
  rw [e1] at k1
  have k2 := seekD_dkk k1 (now := now) (lo := 0) (hi := hi) (time := x)
  have k3 := playBD_dkk k2 (now := now) (lo := 0) (hi := hi)
  rw [a5] at k3
  have hp := part_le (m := more) l1 l3 l1
  have hlt := Nat.mod_lt (more * n + 0) l1
  have g := go_small (c := ⟨now, x, 0, n, d⟩) (T := now + more) k3.c.ok (by show now ≤ now + more; omega) (by
    show x + ((now + more - now) * n + 0) / d < mx
    rw [Nat.add_sub_cancel_left, mx_eq]; omega)
  simp only [Nat.add_sub_cancel_left] at g
  have t := ticked (c := ⟨now, x, 0, n, d⟩) (x := x) he' (Nat.zero_le _)
  rw [g] at t
  refine ⟨_, _, _, _, ?_, e1, a1, rfl, a4, a5, k1, k2, k3, sc_ok (t := more) (r := 0) hmay l1 (by omega), by omega, hlt, l1, l2, l3, hmay, t⟩
  unfold speedE; rw [if_neg (by simp [hy]), if_pos hnm]
theorem rates2 {T hi F R n d more y m k : Nat} (hk : Dkk ⟨2, F, ⟨T, F, R, n, d⟩⟩) (hy : (ofN y).2.2 = 0) (hm : (ofN y).1 = m) (hd : (ofN y).2.1 = k) (h1 : hi ≤ 1099511627776) (h2 : T ≤ 1100585369600) (h3 : more ≤ 1073741824) (h4 : F < hi) :
    ∃ S M V, speedE T y = 0 ∧ speedD ⟨2, F, ⟨T, F, R, n, d⟩⟩ T y = ⟨2, F, ⟨T, F, S, m, k⟩⟩ ∧ S = R * k / d ∧ S < k ∧ Dkk ⟨2, F, ⟨T, F, S, m, k⟩⟩ ∧ scaleN more S m k = ((M : Nat), (V : Nat), (0 : Nat)) ∧ M ≤ 1099511627776 ∧ k ≤ 1048576 ∧
      (tickD ⟨2, F, ⟨T, F, S, m, k⟩⟩ (T + more) 0 hi).place = min (F + M) hi := by
  have hmay := of_may hy
  rw [hm, hd] at hmay
  obtain ⟨l1, l2, l3⟩ := mayLe hmay
  have ho := hk.c.ok
  have hRd : R < d := ho.rest
  have hdd : 0 < d := ho.den
  have hnm : T ≤ mx := by rw [mx_eq]; omega
  have he' : ends (T + more) 0 hi = true := ends_true (Nat.zero_le _) (by rw [mx_eq]; omega) (by rw [mx_eq]; omega)
  have g0 := go_small (c := ⟨T, F, R, n, d⟩) (T := T) ho (Nat.le_refl _) (by
    show F + ((T - T) * n + R) / d < mx
    rw [Nat.sub_self, Nat.zero_mul, Nat.zero_add, Nat.div_eq_of_lt hRd, mx_eq]; omega)
  simp only [Nat.sub_self, Nat.zero_mul, Nat.zero_add, Nat.div_eq_of_lt hRd, Nat.mod_eq_of_lt hRd, Nat.add_zero] at g0
  have e1 : speedD ⟨2, F, ⟨T, F, R, n, d⟩⟩ T y = ⟨2, F, ⟨T, F, R * k / d, m, k⟩⟩ := by
    unfold speedD; rw [if_neg (by simp [hy]), if_pos hnm, hm, hd]
    show Dck.mk 2 F (turn ⟨T, F, R, n, d⟩ T m k) = _
    unfold turn; rw [g0]
  have k1 := speedD_dkk hk (now := T) (b := y)
  rw [e1] at k1
  have hS : R * k / d < k := scale_lt hdd l1 hRd
  have hp := part_le (m := more) l1 l3 hS
  have g := go_small (c := ⟨T, F, R * k / d, m, k⟩) (T := T + more) k1.c.ok (by show T ≤ T + more; omega) (by
    show F + ((T + more - T) * m + R * k / d) / k < mx
    rw [Nat.add_sub_cancel_left, mx_eq]; omega)
  simp only [Nat.add_sub_cancel_left] at g
  have t := ticked (c := ⟨T, F, R * k / d, m, k⟩) (x := F) he' (Nat.zero_le _)
  rw [g] at t
  refine ⟨_, _, _, by unfold speedE; rw [if_neg (by simp [hy]), if_pos hnm], e1, rfl, hS, k1, sc_ok (t := more) hmay hS (by omega), by omega, l2, ?_⟩
  simp only at t
  rcases t with ⟨t1, t2⟩ | ⟨t1, _, t2⟩
  · rw [t2]
    show F + _ = _
    omega
  · rw [t2]; omega
end Go.Proofs.YtkogmjbiedpbnaaDoor.Rm
