/- Package sgr: a colour out of params. -/
import Derived.Test.YtkpneocolbmnpaaKit
import Derived.Deep.RegionHeld3
import Derived.RegionTactic
import Derived.Deep.RegionWith
import Derived.Deep.QuietTactic
import Derived.BigQuiet
import Derived.IntWalk
import Derived.Handy
import Derived.Outline
set_option linter.unusedVariables false
namespace Go.Proofs.Ytkpneocolbmnpaa.Col
open Go Go.RowKit Kit
/-- a slice of integers. -/
def Ints (w : World) (a : Option Addr) (l : List Int) : Prop := l = [] ∨ ∃ b off, a = some ⟨b, off, none⟩ ∧ ∀ i, (h : i < l.length) → w.cell? ⟨b, off + i, none⟩ = some (.int .i64 l[i])
def okB (v : Int) : Bool := decide (-1 ≤ v ∧ v ≤ 255)
/-- the colour that a list begins with, and what is behind it. -/
def colZ (was : Int) : List Int → Int × List Int
  | [] => (was, [])
  | c :: r => if c = 5 then (match r with
      | [] => (was, [])
      | v :: r => if okB v then (1 + max v 0, r) else (was, r))
    else if c = 2 then (match r with
      | x :: y :: z :: r => if okB x && okB y && okB z then (16777216 + ((max x 0 * 256 + max y 0) * 256 + max z 0), r) else (was, r)
      | _ => (was, []))
    else (was, [])
def ColA (w : World) (A : Option Addr) (r : Int × List Int) (e : Ending) (w' : World) : Prop :=
  ∃ a cap, e = .returned (.tuple #[.int .i64 r.1, .slice a r.2.length cap]) ∧ (r.2.length ≤ cap ∧ cap ≤ 9223372036854775807) ∧ Ints w a r.2 ∧ (∃ n, w.drewN n = w') ∧ (a = none ∨ ∃ b off off', A = some ⟨b, off, none⟩ ∧ a = some ⟨b, off', none⟩)
set_option maxRecDepth 100000 in
theorem colNone (was : Int) (a A : Option Addr) (cap : Nat) (w : World) : Calls Try.prog 51 #[.int .i64 was, .slice a 0 cap] w (ColA w A (was, [])) := by
  go_enter Try.func51, Try.ntmps51
  go_wp2
  go_ret2
  exact ⟨none, 0, rfl, ⟨Nat.le_refl _, by decide⟩, .inl rfl, ⟨0, rfl⟩, .inl rfl⟩
set_option maxRecDepth 100000 in
theorem colOther (was c : Int) (A : Option Addr) (b off n cap : Nat) (w : World) (hn : n < 9223372036854775807) (hc : w.cell? ⟨b, off, none⟩ = some (.int .i64 c)) (h5 : c ≠ 5 ∨ n < 1) (h2 : c ≠ 2 ∨ n < 3) : Calls Try.prog 51 #[.int .i64 was, .slice (some ⟨b, off, none⟩) (n + 1 : Nat) cap] w (ColA w A (was, [])) := by
  go_enter Try.func51, Try.ntmps51
  go_wp2
  all_goals first
    | (go_ret2; exact ⟨none, 0, rfl, ⟨Nat.le_refl _, by decide⟩, .inl rfl, ⟨0, rfl⟩, .inl rfl⟩)
    | (exfalso; simp only [beq_iff_eq] at *; omega)
theorem ret2 {x y : Int} {s : Value} (h : x = y) : Ending.returned (.tuple #[.int .i64 x, s]) = .returned (.tuple #[.int .i64 y, s]) := by rw [h]
/-- what is behind the k numbers of a row. -/
theorem tail_ints {w : World} {b off k : Nat} {l m : List Int} (hl : l.length = k) (h : Ints w (some ⟨b, off, none⟩) (l ++ m)) : Ints w (some ⟨b, off + k, none⟩) m := by
  rcases h with h | ⟨b', off', e, h⟩
  · exact .inl (List.append_eq_nil_iff.1 h).2
  · obtain ⟨rfl, rfl⟩ : b = b' ∧ off = off' := by simpa using e
    refine .inr ⟨b, off + k, rfl, fun i hi => ?_⟩
    have := h (k + i) (by simp; omega)
    rw [List.getElem_append_right (by omega)] at this
    rw [Nat.add_assoc, this]; simp [hl]
set_option maxRecDepth 100000 in
set_option maxHeartbeats 1000000 in
theorem colPalB (was v : Int) (b off cap : Nat) (r : List Int) (w : World) (hn : r.length < 9223372036854775000) (hcap : r.length + 2 ≤ cap) (hcm : cap ≤ 9223372036854775807) (c0 : w.cell? ⟨b, off, none⟩ = some (.int .i64 5)) (c1 : w.cell? ⟨b, off + 1, none⟩ = some (.int .i64 v))
    (hr : Ints w (some ⟨b, off + 2, none⟩) r) (hv : v < -1 ∨ 255 < v) : Calls Try.prog 51 #[.int .i64 was, .slice (some ⟨b, off, none⟩) (r.length + 1 + 1 : Nat) cap] w (ColA w (some ⟨b, off, none⟩) (was, r)) := by
  have HR := Lib.hid hr
  clear hr
  by_cases hc2 : cap = 2
  · subst hc2
    obtain rfl : r = [] := List.eq_nil_of_length_eq_zero (by omega)
    go_enter Try.func51, Try.ntmps51
    go_wp2
    go_quiet (fail)
    go_wp2
    refine wp_loop_rounds 2 ?_
    rw [rounds_succ]
    go_wp2
    all_goals go_ret2
    all_goals exact ⟨some ⟨b, off, none⟩, 0, rfl, ⟨Nat.le_refl _, by decide⟩, .inl rfl, ⟨_, rfl⟩, .inr ⟨_, _, _, rfl, rfl⟩⟩
  · have hlt : 2 < cap := by omega
    go_enter Try.func51, Try.ntmps51
    go_wp2
    go_quiet (fail)
    go_wp2
    refine wp_loop_rounds 2 ?_
    rw [rounds_succ]
    go_wp2
    all_goals go_ret2
    all_goals exact ⟨some ⟨b, off + 2, none⟩, cap - 2, rfl, ⟨by simp; omega, by omega⟩, HR.out, ⟨_, rfl⟩, .inr ⟨_, _, _, rfl, rfl⟩⟩
set_option maxRecDepth 100000 in
set_option maxHeartbeats 1000000 in
theorem colPalG (was v : Int) (b off cap : Nat) (r : List Int) (w : World) (hn : r.length < 9223372036854775000) (hcap : r.length + 2 ≤ cap) (hcm : cap ≤ 9223372036854775807) (c0 : w.cell? ⟨b, off, none⟩ = some (.int .i64 5)) (c1 : w.cell? ⟨b, off + 1, none⟩ = some (.int .i64 v))
    (hr : Ints w (some ⟨b, off + 2, none⟩) r) (hv1 : -1 ≤ v) (hv2 : v ≤ 255) : Calls Try.prog 51 #[.int .i64 was, .slice (some ⟨b, off, none⟩) (r.length + 1 + 1 : Nat) cap] w (ColA w (some ⟨b, off, none⟩) (1 + max v 0, r)) := by
  have HR := Lib.hid hr
  clear hr
  by_cases hc2 : cap = 2
  · subst hc2
    obtain rfl : r = [] := List.eq_nil_of_length_eq_zero (by omega)
    go_enter Try.func51, Try.ntmps51
    go_wp2
    go_quiet (fail)
    go_wp2
    refine wp_loop_rounds 2 ?_
    rw [rounds_succ]
    go_wp2
    all_goals (rw [rounds_succ]; go_wp2)
    all_goals go_ret2
    all_goals exact ⟨some ⟨b, off, none⟩, 0, ret2 (by simp only; omega), ⟨Nat.le_refl _, by decide⟩, .inl rfl, ⟨_, rfl⟩, .inr ⟨_, _, _, rfl, rfl⟩⟩
  · have hlt : 2 < cap := by omega
    go_enter Try.func51, Try.ntmps51
    go_wp2
    go_quiet (fail)
    go_wp2
    refine wp_loop_rounds 2 ?_
    rw [rounds_succ]
    go_wp2
    all_goals (rw [rounds_succ]; go_wp2)
    all_goals go_ret2
    all_goals exact ⟨some ⟨b, off + 2, none⟩, cap - 2, ret2 (by simp only; omega), ⟨by simp; omega, by omega⟩, HR.out, ⟨_, rfl⟩, .inr ⟨_, _, _, rfl, rfl⟩⟩
set_option maxRecDepth 100000 in
set_option maxHeartbeats 1000000 in
theorem colTrueB1 (was x y z : Int) (b off cap : Nat) (r : List Int) (w : World) (hn : r.length < 9223372036854775000) (hcap : r.length + 4 ≤ cap) (hcm : cap ≤ 9223372036854775807) (c0 : w.cell? ⟨b, off, none⟩ = some (.int .i64 2)) (c1 : w.cell? ⟨b, off + 1, none⟩ = some (.int .i64 x)) (c2 : w.cell? ⟨b, off + 2, none⟩ = some (.int .i64 y)) (c3 : w.cell? ⟨b, off + 3, none⟩ = some (.int .i64 z))
    (hr : Ints w (some ⟨b, off + 4, none⟩) r) (hv : x < -1 ∨ 255 < x) : Calls Try.prog 51 #[.int .i64 was, .slice (some ⟨b, off, none⟩) (r.length + 1 + 1 + 1 + 1 : Nat) cap] w (ColA w (some ⟨b, off, none⟩) (was, r)) := by
  have HR := Lib.hid hr
  clear hr
  by_cases hc2 : cap = 4
  · subst hc2
    obtain rfl : r = [] := List.eq_nil_of_length_eq_zero (by omega)
    go_enter Try.func51, Try.ntmps51
    go_wp2
    go_quiet (fail)
    go_wp2
    refine wp_loop_rounds 4 ?_
    rw [rounds_succ]
    go_wp2
    all_goals go_ret2
    all_goals exact ⟨some ⟨b, off, none⟩, 0, rfl, ⟨Nat.le_refl _, by decide⟩, .inl rfl, ⟨_, rfl⟩, .inr ⟨_, _, _, rfl, rfl⟩⟩
  · have hlt : 4 < cap := by omega
    go_enter Try.func51, Try.ntmps51
    go_wp2
    go_quiet (fail)
    go_wp2
    refine wp_loop_rounds 4 ?_
    rw [rounds_succ]
    go_wp2
    all_goals go_ret2
    all_goals exact ⟨some ⟨b, off + 4, none⟩, cap - 4, rfl, ⟨by simp; omega, by omega⟩, HR.out, ⟨_, rfl⟩, .inr ⟨_, _, _, rfl, rfl⟩⟩
set_option maxRecDepth 100000 in
set_option maxHeartbeats 1000000 in
theorem colTrueB2 (was x y z : Int) (b off cap : Nat) (r : List Int) (w : World) (hn : r.length < 9223372036854775000) (hcap : r.length + 4 ≤ cap) (hcm : cap ≤ 9223372036854775807) (c0 : w.cell? ⟨b, off, none⟩ = some (.int .i64 2)) (c1 : w.cell? ⟨b, off + 1, none⟩ = some (.int .i64 x)) (c2 : w.cell? ⟨b, off + 2, none⟩ = some (.int .i64 y)) (c3 : w.cell? ⟨b, off + 3, none⟩ = some (.int .i64 z))
    (hr : Ints w (some ⟨b, off + 4, none⟩) r) (hx1 : -1 ≤ x) (hx2 : x ≤ 255) (hv : y < -1 ∨ 255 < y) : Calls Try.prog 51 #[.int .i64 was, .slice (some ⟨b, off, none⟩) (r.length + 1 + 1 + 1 + 1 : Nat) cap] w (ColA w (some ⟨b, off, none⟩) (was, r)) := by
  have HR := Lib.hid hr
  clear hr
  by_cases hc2 : cap = 4
  · subst hc2
    obtain rfl : r = [] := List.eq_nil_of_length_eq_zero (by omega)
    go_enter Try.func51, Try.ntmps51
    go_wp2
    go_quiet (fail)
    go_wp2
    refine wp_loop_rounds 4 ?_
    rw [rounds_succ]
    go_wp2
    all_goals (rw [rounds_succ]; go_wp2)
    all_goals go_ret2
    all_goals exact ⟨some ⟨b, off, none⟩, 0, rfl, ⟨Nat.le_refl _, by decide⟩, .inl rfl, ⟨_, rfl⟩, .inr ⟨_, _, _, rfl, rfl⟩⟩
  · have hlt : 4 < cap := by omega
    go_enter Try.func51, Try.ntmps51
    go_wp2
    go_quiet (fail)
    go_wp2
    refine wp_loop_rounds 4 ?_
    rw [rounds_succ]
    go_wp2
    all_goals (rw [rounds_succ]; go_wp2)
    all_goals go_ret2
    all_goals exact ⟨some ⟨b, off + 4, none⟩, cap - 4, rfl, ⟨by simp; omega, by omega⟩, HR.out, ⟨_, rfl⟩, .inr ⟨_, _, _, rfl, rfl⟩⟩
set_option maxRecDepth 100000 in
set_option maxHeartbeats 1000000 in
theorem colTrueB3 (was x y z : Int) (b off cap : Nat) (r : List Int) (w : World) (hn : r.length < 9223372036854775000) (hcap : r.length + 4 ≤ cap) (hcm : cap ≤ 9223372036854775807) (c0 : w.cell? ⟨b, off, none⟩ = some (.int .i64 2)) (c1 : w.cell? ⟨b, off + 1, none⟩ = some (.int .i64 x)) (c2 : w.cell? ⟨b, off + 2, none⟩ = some (.int .i64 y)) (c3 : w.cell? ⟨b, off + 3, none⟩ = some (.int .i64 z))
    (hr : Ints w (some ⟨b, off + 4, none⟩) r) (hx1 : -1 ≤ x) (hx2 : x ≤ 255) (hy1 : -1 ≤ y) (hy2 : y ≤ 255) (hv : z < -1 ∨ 255 < z) : Calls Try.prog 51 #[.int .i64 was, .slice (some ⟨b, off, none⟩) (r.length + 1 + 1 + 1 + 1 : Nat) cap] w (ColA w (some ⟨b, off, none⟩) (was, r)) := by
  have HR := Lib.hid hr
  clear hr
  by_cases hc2 : cap = 4
  · subst hc2
    obtain rfl : r = [] := List.eq_nil_of_length_eq_zero (by omega)
    go_enter Try.func51, Try.ntmps51
    go_wp2
    go_quiet (fail)
    go_wp2
    refine wp_loop_rounds 4 ?_
    rw [rounds_succ]
    go_wp2
    all_goals (rw [rounds_succ]; go_wp2)
    all_goals (rw [rounds_succ]; go_wp2)
    all_goals go_ret2
    all_goals exact ⟨some ⟨b, off, none⟩, 0, rfl, ⟨Nat.le_refl _, by decide⟩, .inl rfl, ⟨_, rfl⟩, .inr ⟨_, _, _, rfl, rfl⟩⟩
  · have hlt : 4 < cap := by omega
    go_enter Try.func51, Try.ntmps51
    go_wp2
    go_quiet (fail)
    go_wp2
    refine wp_loop_rounds 4 ?_
    rw [rounds_succ]
    go_wp2
    all_goals (rw [rounds_succ]; go_wp2)
    all_goals (rw [rounds_succ]; go_wp2)
    all_goals go_ret2
    all_goals exact ⟨some ⟨b, off + 4, none⟩, cap - 4, rfl, ⟨by simp; omega, by omega⟩, HR.out, ⟨_, rfl⟩, .inr ⟨_, _, _, rfl, rfl⟩⟩
set_option maxRecDepth 100000 in
set_option maxHeartbeats 1000000 in
theorem colTrueG (was x y z : Int) (b off cap : Nat) (r : List Int) (w : World) (hn : r.length < 9223372036854775000) (hcap : r.length + 4 ≤ cap) (hcm : cap ≤ 9223372036854775807) (c0 : w.cell? ⟨b, off, none⟩ = some (.int .i64 2)) (c1 : w.cell? ⟨b, off + 1, none⟩ = some (.int .i64 x)) (c2 : w.cell? ⟨b, off + 2, none⟩ = some (.int .i64 y)) (c3 : w.cell? ⟨b, off + 3, none⟩ = some (.int .i64 z))
    (hr : Ints w (some ⟨b, off + 4, none⟩) r) (hx1 : -1 ≤ x) (hx2 : x ≤ 255) (hy1 : -1 ≤ y) (hy2 : y ≤ 255) (hz1 : -1 ≤ z) (hz2 : z ≤ 255) : Calls Try.prog 51 #[.int .i64 was, .slice (some ⟨b, off, none⟩) (r.length + 1 + 1 + 1 + 1 : Nat) cap] w (ColA w (some ⟨b, off, none⟩) (16777216 + ((max x 0 * 256 + max y 0) * 256 + max z 0), r)) := by
  have HR := Lib.hid hr
  clear hr
  by_cases hc2 : cap = 4
  · subst hc2
    obtain rfl : r = [] := List.eq_nil_of_length_eq_zero (by omega)
    go_enter Try.func51, Try.ntmps51
    go_wp2
    go_quiet (fail)
    go_wp2
    refine wp_loop_rounds 4 ?_
    rw [rounds_succ]
    go_wp2
    all_goals (rw [rounds_succ]; go_wp2)
    all_goals (rw [rounds_succ]; go_wp2)
    all_goals (rw [rounds_succ]; go_wp2)
    all_goals go_ret2
    all_goals exact ⟨some ⟨b, off, none⟩, 0, ret2 (by simp only; omega), ⟨Nat.le_refl _, by decide⟩, .inl rfl, ⟨_, rfl⟩, .inr ⟨_, _, _, rfl, rfl⟩⟩
  · have hlt : 4 < cap := by omega
    go_enter Try.func51, Try.ntmps51
    go_wp2
    go_quiet (fail)
    go_wp2
    refine wp_loop_rounds 4 ?_
    rw [rounds_succ]
    go_wp2
    all_goals (rw [rounds_succ]; go_wp2)
    all_goals (rw [rounds_succ]; go_wp2)
    all_goals (rw [rounds_succ]; go_wp2)
    all_goals go_ret2
    all_goals exact ⟨some ⟨b, off + 4, none⟩, cap - 4, ret2 (by simp only; omega), ⟨by simp; omega, by omega⟩, HR.out, ⟨_, rfl⟩, .inr ⟨_, _, _, rfl, rfl⟩⟩

theorem okB_ok {v : Int} (h : okB v = true) : -1 ≤ v ∧ v ≤ 255 := by simpa [okB] using h
theorem okB_no {v : Int} (h : okB v = false) : v < -1 ∨ 255 < v := by simp [okB] at h; omega
theorem ints_at {w : World} {b off : Nat} {l : List Int} (h : Ints w (some ⟨b, off, none⟩) l) (i : Nat) (hi : i < l.length) : w.cell? ⟨b, off + i, none⟩ = some (.int .i64 l[i]) := by
  rcases h with rfl | ⟨b', off', e, h⟩
  · simp at hi
  · obtain ⟨rfl, rfl⟩ : b = b' ∧ off = off' := by simpa using e
    exact h i hi
/-- a colour out of whatever list. -/
theorem colC (was : Int) (a : Option Addr) (l : List Int) (cap : Nat) (w : World) (hn : l.length < 9223372036854775000) (hcap : l.length ≤ cap) (hcm : cap ≤ 9223372036854775807) (h : Ints w a l) :
    Calls Try.prog 51 #[.int .i64 was, .slice a l.length cap] w (ColA w a (colZ was l)) := by
  match l, hn, hcap, h with
  | [], _, _, _ => exact colNone was a a cap w
  | c :: r, hn, hcap, h =>
    obtain ⟨b, off, rfl⟩ : ∃ b off, a = some ⟨b, off, none⟩ := by
      rcases h with h | ⟨b, off, e, _⟩
      · cases h
      · exact ⟨b, off, e⟩
    have c0 := ints_at h 0 (by simp)
    simp only [List.length_cons] at hn hcap
    by_cases h5 : c = 5
    · subst h5
      match r, hn, hcap, h with
      | [], _, _, _ => exact colOther was 5 _ b off 0 cap w (by decide) c0 (.inr (by decide)) (.inl (by decide))
      | v :: r, hn, hcap, h =>
        simp only [List.length_cons] at hn hcap
        have c1 := ints_at h 1 (by simp)
        have ht := tail_ints (l := [5, v]) (m := r) rfl h
        cases hv : okB v
        · have := colPalB was v b off cap r w (by omega) (by omega) hcm c0 c1 ht (okB_no hv)
          simpa [colZ, hv] using this
        · have := colPalG was v b off cap r w (by omega) (by omega) hcm c0 c1 ht (okB_ok hv).1 (okB_ok hv).2
          simpa [colZ, hv] using this
    · by_cases h2 : c = 2
      · subst h2
        match r, hn, hcap, h with
        | [], _, _, _ => exact colOther was 2 _ b off 0 cap w (by decide) c0 (.inl (by decide)) (.inr (by decide))
        | [x], _, _, _ => exact colOther was 2 _ b off 1 cap w (by decide) c0 (.inl (by decide)) (.inr (by decide))
        | [x, y], _, _, _ => exact colOther was 2 _ b off 2 cap w (by decide) c0 (.inl (by decide)) (.inr (by decide))
        | x :: y :: z :: r, hn, hcap, h =>
          simp only [List.length_cons] at hn hcap
          have c1 := ints_at h 1 (by simp)
          have c2 := ints_at h 2 (by simp)
          have c3 := ints_at h 3 (by simp)
          have ht := tail_ints (l := [2, x, y, z]) (m := r) rfl h
          cases hx : okB x
          · have := colTrueB1 was x y z b off cap r w (by omega) (by omega) hcm c0 c1 c2 c3 ht (okB_no hx)
            simpa [colZ, hx] using this
          · cases hy : okB y
            · have := colTrueB2 was x y z b off cap r w (by omega) (by omega) hcm c0 c1 c2 c3 ht (okB_ok hx).1 (okB_ok hx).2 (okB_no hy)
              simpa [colZ, hx, hy] using this
            · cases hz : okB z
              · have := colTrueB3 was x y z b off cap r w (by omega) (by omega) hcm c0 c1 c2 c3 ht (okB_ok hx).1 (okB_ok hx).2 (okB_ok hy).1 (okB_ok hy).2 (okB_no hz)
                simpa [colZ, hx, hy, hz] using this
              · have := colTrueG was x y z b off cap r w (by omega) (by omega) hcm c0 c1 c2 c3 ht (okB_ok hx).1 (okB_ok hx).2 (okB_ok hy).1 (okB_ok hy).2 (okB_ok hz).1 (okB_ok hz).2
                simpa [colZ, hx, hy, hz] using this
      · have := colOther was c (some ⟨b, off, none⟩) b off r.length cap w (by omega) c0 (.inl h5) (.inl h2)
        simpa [colZ, h5, h2] using this
end Go.Proofs.Ytkpneocolbmnpaa.Col
