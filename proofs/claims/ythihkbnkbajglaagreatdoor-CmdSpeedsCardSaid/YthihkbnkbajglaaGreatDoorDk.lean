/- Decks: what they are; contracts of the small ones. -/
import Derived.Test.YthihkbnkbajglaaGreatDoorCkE
import Derived.Test.YthihkbnkbajglaaGreatDoorCkN
import Derived.Test.YthihkbnkbajglaaGreatDoorOfB
set_option linter.unusedVariables false
namespace Go.Proofs.YthihkbnkbajglaaGreatDoor.Dk
open Go Go.RowKit Kit Nums Scale Scale2 CkMath CkC CkD CkE CkN OfA OfB

theorem go_go {c : Ck} (h : Okk c) {s t : Nat} (h1 : c.now ≤ s) (h2 : s ≤ t) : go (go c s) t = go c t := by
  have hr := reach_go h.den h1 h2
  rw [go_eq (c := go c s) (by rw [go_now h1]; exact h2), hr, go_num, go_den, go_eq (c := c) (t := t) (by omega)]
theorem turn_self {c : Ck} (h : Okk c) (t : Nat) : turn c t c.num c.den = go c t := by
  unfold turn
  rw [go_den, Nat.mul_div_cancel _ h.den]
  have h1 := go_num c t
  have h2 := go_den c t
  cases hg : go c t with
  | mk a b r n d => rw [hg] at h1 h2; simp only at h1 h2; rw [h1, h2]
theorem go_self {c : Ck} (h : Okk c) : (go c c.now).pos = c.pos := by rw [go_pos (Nat.le_refl _), reach_now h]
theorem new_ckk {t x n y : Nat} (ht : t < 18446744073709551616) (hx : x ≤ mx) (hm : mayN n y = true) : Ckk ⟨t, x, 0, n, y⟩ := by
  obtain ⟨k, _, hk, _⟩ := may_pow hm
  have h0 : 0 < y := by rw [hk]; exact Nat.two_pow_pos k
  exact ⟨⟨h0, h0, hx⟩, hm, ht⟩
theorem go_init {t x n d : Nat} (hd : 0 < d) (hx : x ≤ mx) : go ⟨t, x, 0, n, d⟩ t = ⟨t, x, 0, n, d⟩ := by
  unfold go
  rw [if_pos (Nat.le_refl _)]
  unfold reach tot
  simp only [Nat.sub_self, Nat.zero_mul, Nat.add_zero]
  split
  · rename_i h
    have : mx ≤ x := Nat.le_of_mul_le_mul_right h hd
    have : x = mx := by omega
    rw [this]
  · simp only [Nat.mul_div_cancel _ hd, Nat.mul_mod_left]
structure Dck where
  mode : Nat
  place : Nat
  c : Ck
/-- a deck at p, its clock at q. -/
def Dl (w : World) (p q : Nat) (d : Dck) : Prop := w.heap[p]? = some (.cells #[.int .i64 (d.mode : Int), .int .u64 (d.place : Int), .pointer (some ⟨q, 0, none⟩)] 67 (0, 0)) ∧ Cl 90 w q d.c
/-- what a deck is at all times. -/
structure Dkk (d : Dck) : Prop where
  c : Ckk d.c
  place : d.place ≤ mx
  mode : d.mode ≤ 2
/-- but for two blocks all is as it was. -/
structure Fr2 (p q : Nat) (w w' : World) : Prop where
  os : w'.os = w.os
  tape : w'.tape = w.tape
  output : w'.output = w.output
  size : w.heap.size ≤ w'.heap.size
  block : ∀ k, k < w.heap.size → k ≠ p → k ≠ q → w'.heap[k]? = w.heap[k]?
variable {w w' w2 : World} {p q : Nat} {d : Dck}
theorem Fr2.refl (p q : Nat) (w : World) : Fr2 p q w w := ⟨rfl, rfl, rfl, Nat.le_refl _, fun _ _ _ _ => rfl⟩
theorem Fr2.trans (h : Fr2 p q w w') (k : Fr2 p q w' w2) : Fr2 p q w w2 :=
  ⟨k.os.trans h.os, k.tape.trans h.tape, k.output.trans h.output, Nat.le_trans h.size k.size, fun b hb h1 h2 => (k.block b (Nat.lt_of_lt_of_le hb h.size) h1 h2).trans (h.block b hb h1 h2)⟩
theorem Fr2.of_p (h : w.grownBy w' (some p)) : Fr2 p q w w' := ⟨h.os, h.tape, h.output, h.size, fun b hb h1 _ => h.block b hb (fun e => h1 (by injection e))⟩
theorem Fr2.of_q (h : w.grownBy w' (some q)) : Fr2 p q w w' := ⟨h.os, h.tape, h.output, h.size, fun b hb _ h2 => h.block b hb (fun e => h2 (by injection e))⟩
theorem Fr2.of_below (h : Below w.heap.size w w') : Fr2 p q w w' := ⟨h.os, h.tape, h.output, h.size, fun b hb _ _ => h.block b hb⟩
theorem Fr2.set {i : Nat} {u : Value} : Fr2 p q w (w.setCell ⟨p, i, none⟩ u) := Fr2.of_p ⟨rfl, rfl, rfl, by simp [World.setCell], fun k _ hk => Below.heap_setCell w ⟨p, i, none⟩ u k (fun e => hk (by rw [e]))⟩
theorem Fr2.below {w0 : World} (h : Fr2 p q w w') (hb : Below w0.heap.size w0 w) (hp : w0.heap.size ≤ p) (hq : w0.heap.size ≤ q) : Below w0.heap.size w0 w' :=
  hb.trans ⟨h.os, h.tape, h.output, h.size, fun k hk => h.block k (Nat.lt_of_lt_of_le hk hb.size) (by omega) (by omega)⟩
theorem Dl.lt (h : Dl w p q d) : p < w.heap.size := lt_of_block h.1
theorem Dl.ne_ (h : Dl w p q d) : p ≠ q := by
  rintro rfl
  have h2 : w.heap[p]? = _ := h.2
  rw [h.1] at h2
  injection h2 with h2
  injection h2 with h3 h4 h5
  cases h4
theorem Dl.c0 (h : Dl w p q d) : w.cell? ⟨p, 0, none⟩ = some (.int .i64 (d.mode : Int)) := by simp [World.cell?, h.1]
theorem Dl.c1 (h : Dl w p q d) : w.cell? ⟨p, 1, none⟩ = some (.int .u64 (d.place : Int)) := by simp [World.cell?, h.1]
theorem Dl.c2 (h : Dl w p q d) : w.cell? ⟨p, 2, none⟩ = some (.pointer (some ⟨q, 0, none⟩)) := by simp [World.cell?, h.1]
theorem Dl.fz (h : Dl w p q d) (i : Nat) : w.frozen? ⟨p, i, none⟩ = false := by simp [World.frozen?, h.1]
theorem Dl.then_ (h : Dl w p q d) (hb : Below w.heap.size w w') : Dl w' p q d := ⟨(hb.block p h.lt).trans h.1, h.2.then_ hb⟩
theorem Dl.set0 (h : Dl w p q d) (v : Nat) : Dl (w.setCell ⟨p, 0, none⟩ (.int .i64 (v : Int))) p q { d with mode := v } :=
  ⟨by simp [World.setCell, Array.getElem?_modify, h.1], (Below.heap_setCell w ⟨p, 0, none⟩ _ q (Ne.symm h.ne_)).trans h.2⟩
theorem Dl.set1 (h : Dl w p q d) (v : Nat) : Dl (w.setCell ⟨p, 1, none⟩ (.int .u64 (v : Int))) p q { d with place := v } :=
  ⟨by simp [World.setCell, Array.getElem?_modify, h.1], (Below.heap_setCell w ⟨p, 1, none⟩ _ q (Ne.symm h.ne_)).trans h.2⟩
theorem Dl.clock {c : Ck} (h : Dl w p q d) (hg : w.grownBy w' (some q)) (hc : Cl 90 w' q c) : Dl w' p q { d with c := c } := ⟨(hg.block p h.lt (fun e => h.ne_ (by injection e))).trans h.1, hc⟩
theorem Dl.other {p' q' : Nat} (h : Dl w p q d) (hf : Fr2 p' q' w w') (h1 : p ≠ p') (h2 : p ≠ q') (h3 : q ≠ p') (h4 : q ≠ q') : Dl w' p q d := ⟨(hf.block p h.lt h1 h2).trans h.1, (hf.block q h.2.lt h3 h4).trans h.2⟩
/-- may the ends and the time be? -/
def ends (now lo hi : Nat) : Bool := decide (lo ≤ hi ∧ now ≤ mx ∧ hi ≤ mx)
def held (x lo hi : Nat) : Nat := min (max x lo) hi
set_option maxRecDepth 100000 in
theorem heldC (x lo hi : Nat) (w : World) : Calls Tryz.prog 58 #[.int .u64 (x : Int), .int .u64 (lo : Int), .int .u64 (hi : Int)] w fun e w' => e = .returned (.int .u64 (held x lo hi : Int)) ∧ w = w' := by
  have HH : Hid (∀ v : Int, v = (held x lo hi : Nat) → Ending.returned (.int .u64 v) = .returned (.int .u64 (held x lo hi : Int))) := Lib.hid (fun v h => by rw [h])
  have HD := Lib.hid (show held x lo hi = min (max x lo) hi from rfl)
  generalize held x lo hi = R at *
  by_cases h1 : (x : Int) < (lo : Int)
  · by_cases h2 : (hi : Int) < (lo : Int)
    all_goals
      go_enter Tryz.func58, Tryz.ntmps58
      go_wp2
      go_ret
      exact ⟨HH.out _ (by have := HD.out; omega), rfl⟩
  · by_cases h2 : (hi : Int) < (x : Int)
    all_goals
      go_enter Tryz.func58, Tryz.ntmps58
      go_wp2
      go_ret
      exact ⟨HH.out _ (by have := HD.out; omega), rfl⟩
set_option maxRecDepth 100000 in
theorem endsC (now lo hi : Nat) (w : World) : Calls Tryz.prog 37 #[.int .u64 (now : Int), .int .u64 (lo : Int), .int .u64 (hi : Int)] w fun e w' => e = .returned (.bool (ends now lo hi)) ∧ w = w' := by
  have HH : Hid (∀ v : Bool, v = ends now lo hi → Ending.returned (.bool v) = .returned (.bool (ends now lo hi))) := Lib.hid (fun v h => by rw [h])
  have HD := Lib.hid (show ends now lo hi = decide (lo ≤ hi ∧ now ≤ mx ∧ hi ≤ mx) from rfl)
  generalize ends now lo hi = R at *
  go_enter Tryz.func37, Tryz.ntmps37
  go_wp2
  all_goals go_ret
  all_goals refine ⟨HH.out _ ?_, rfl⟩
  all_goals rw [HD.out, mx_eq]
  all_goals first
    | (rw [decide_eq_decide]; omega)
    | (symm; exact decide_eq_false (by omega))
theorem modeC (h : Dl w p q d) : Calls Tryz.prog 12 #[.pointer (some ⟨p, 0, none⟩)] w fun e w' => e = .returned (.int .i64 (d.mode : Int)) ∧ w = w' := by
  have c0 := h.c0
  clear h
  go_enter Tryz.func12, Tryz.ntmps12
  go_wp2
  go_ret
  exact ⟨rfl, rfl⟩
theorem posC (h : Dl w p q d) : Calls Tryz.prog 13 #[.pointer (some ⟨p, 0, none⟩)] w fun e w' => e = .returned (.int .u64 (d.place : Int)) ∧ w = w' := by
  have c1 := h.c1
  clear h
  go_enter Tryz.func13, Tryz.ntmps13
  go_wp2
  go_ret
  exact ⟨rfl, rfl⟩
end Go.Proofs.YthihkbnkbajglaaGreatDoor.Dk
