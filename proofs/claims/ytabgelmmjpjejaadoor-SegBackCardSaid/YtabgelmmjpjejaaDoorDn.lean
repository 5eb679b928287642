/- Reading: what must hold, a number. -/
import Derived.Test.YtabgelmmjpjejaaDoorRy
set_option linter.unusedVariables false
namespace Go.Proofs.YtabgelmmjpjejaaDoor.Dn
open Go Go.RowKit Kit Crc Var Get Ref3 Copy Bytes Bx Py Py2 Ry

set_option maxRecDepth 100000 in
theorem cloneC (x : Addr) (n cap : Nat) (l : List Nat) (w : World) (hn : n = l.length) (hm : l.length ≤ 1000000) (hc : Sl w (some x) l) :
    Calls Tryd.prog 56 #[.slice (some x) n cap] w fun e w' => ∃ v, e = .returned v ∧ Rb w' w.heap.size v l ∧ Below w.heap.size w w' := by
  subst hn
  have HS := Lib.hid (show Sl (w.alloc (.cells #[] 5)) (some x) l from sl_alloc hc _)
  have HR := Lib.hid (show Rb (w.alloc (.cells #[] 5)) w.heap.size (.slice (some ⟨w.heap.size, 0, none⟩) 0 0) [] from World.ownsRow_made w #[] 0 (Nat.le_refl _) (by simp) rfl)
  have HB := Lib.hid ((Below.refl w.heap.size w).alloc (Nat.le_refl _) (.cells #[] 5))
  have HM := Lib.hid (show ([] : List Nat).length + l.length ≤ 1000000 by simpa using hm)
  have ke := fun (w1 : World) => Lib.run_eql_slice_nil (P := Tryd.prog) w1 23 5 (some x) l.length cap 0 0 Tryd.underlying23
  clear hc hm
  go_enter Tryd.func56, Tryd.ntmps56
  go_wp2_with (at_builtin; refine app_sl rfl _ _ rfl w.heap.size _ [] rfl HR.out (some x) l.length cap l rfl rfl (fun h => by cases h) HS.out HM.out HB.out.size ?_; intro v2 w2 o2 b2; have q2 := b2 _ _ (Nat.le_refl _) HB.out)
  go_ret
  exact ⟨v2, rfl, o2, q2⟩

theorem equalK (a1 a2 : Option Addr) (c1 c2 n1 n2 : Nat) (l1 l2 : List Nat) (w : World) (r : Bool) (e1 : n1 = l1.length) (e2 : n2 = l2.length) (h1 : Sl w a1 l1) (h2 : Sl w a2 l2) (m1 : ∀ c ∈ l1, c < 256) (m2 : ∀ c ∈ l2, c < 256) (hr : r = decide (l1 = l2)) :
    Calls Tryd.prog 44 #[.slice a1 n1 c1, .slice a2 n2 c2] w fun e w' => e = .returned (.bool r) ∧ w = w' := by
  subst e1 e2 hr
  have k1 := conv_sl a1 c1 l1 w h1
  have k2 := conv_sl a2 c2 l2 w h2
  have E := Lib.hid (strL_inj m1 m2)
  clear h1 h2 m1 m2
  go_enter Tryd.func44, Tryd.ntmps44
  go_wp2
  go_ret
  exact ⟨ret_bool E.out, rfl⟩

/-- the fault that a reading panics with. -/
def fault (x : Int) : Value := .iface 81 (.agg #[.int .i64 x])
def PnQ (x : Int) (w : World) (e : Ending) (w' : World) : Prop := e = .panicked [{ v := fault x, recovered := false }] ∧ w = w'
theorem needT (x : Int) (r : Bool) (w : World) (hr : r = true) : Calls Tryd.prog 54 #[.bool r, .int .i64 x] w fun e w' => e = .returned (.tuple #[]) ∧ w = w' := by
  subst hr
  go_enter Tryd.func54, Tryd.ntmps54
  go_wp2
  go_end0
  exact ⟨rfl, rfl⟩
theorem needF (x : Int) (r : Bool) (w : World) (hr : r = false) : Calls Tryd.prog 54 #[.bool r, .int .i64 x] w (PnQ x w) := by
  subst hr
  go_enter Tryd.func54, Tryd.ntmps54
  go_wp2
  exact ⟨rfl, rfl, rfl⟩
theorem getA_in {l : List Nat} {p : Nat} (hp : p ≤ l.length) : getA l (p : Int) = (((getF (l.drop p) 0 0).1 : Int), end_ (getF (l.drop p) 0 0) p, ((getF (l.drop p) 0 0).2.2 : Int)) := by
  rw [getA, if_neg (by omega)]; rfl
/-- a number at a place: why not. -/
theorem numX (a : Option Addr) (m cap : Nat) (l : List Nat) (p : Nat) (most x : Nat) (w : World) (mI : Int) (hmI : mI = (most : Int)) (hm : m = l.length) (hl : ∀ c ∈ l, c < 256) (hn : l.length ≤ 9223372036854775000) (hc : Sl w a l) (hp : p ≤ l.length)
    (hx : (getF (l.drop p) 0 0).2.2 = x) (h : x ≠ 0) : Calls Tryd.prog 55 #[.slice a m cap, .int .i64 (p : Int), .int .u64 mI] w (PnQ x w) := by
  subst hm hmI
  have K := Lib.hid (get36 a cap l (p : Int) w hl hn hc)
  unfold GetP at K
  rw [getA_in hp, hx] at K
  generalize ((getF (l.drop p) 0 0).1 : Int) = A at *
  generalize end_ (getF (l.drop p) 0 0) p = B at *
  have h0 : ((x : Int) == 0) = false := by rw [beq_eq_false_iff_ne]; omega
  have h1 : decide ((x : Int) = 0) = false := decide_eq_false (by omega)
  clear hl hn hc hp hx h
  go_enter Tryd.func55, Tryd.ntmps55
  go_wp2_with (first
    | (go_at_call 68; (with_reducible refine (K.out).mono ?_); rintro e w' ⟨rfl, rfl⟩)
    | (go_at_call 54; (with_reducible refine (needF (x : Int) _ _ rfl).mono ?_); rintro e w' ⟨rfl, rfl⟩))
  exact ⟨rfl, rfl, rfl⟩
theorem numBig (a : Option Addr) (m cap : Nat) (l : List Nat) (p : Nat) (most n k : Nat) (w : World) (mI : Int) (hmI : mI = (most : Int)) (hm : m = l.length) (hl : ∀ c ∈ l, c < 256) (hn : l.length ≤ 9223372036854775000) (hc : Sl w a l) (hp : p ≤ l.length)
    (hx : getF (l.drop p) 0 0 = (n, k, 0)) (h : most < n) : Calls Tryd.prog 55 #[.slice a m cap, .int .i64 (p : Int), .int .u64 mI] w (PnQ 2 w) := by
  subst hm hmI
  have K := Lib.hid (get36 a cap l (p : Int) w hl hn hc)
  unfold GetP at K
  rw [getA_in hp, hx] at K
  dsimp only at K
  generalize end_ (n, k, 0) p = B at *
  have h1 : decide ((n : Int) ≤ (most : Int)) = false := decide_eq_false (by omega)
  have h2 : decide (n ≤ most) = false := decide_eq_false (by omega)
  clear hl hn hc hp hx h
  go_enter Tryd.func55, Tryd.ntmps55
  go_wp2_with (first
    | (go_at_call 68; (with_reducible refine (K.out).mono ?_); rintro e w' ⟨rfl, rfl⟩)
    | (go_at_call 54; (with_reducible refine (needT 0 _ _ rfl).mono ?_); rintro e w' ⟨rfl, rfl⟩)
    | (go_at_call 54; (with_reducible refine (needF 2 _ _ rfl).mono ?_); rintro e w' ⟨rfl, rfl⟩))
  exact ⟨rfl, rfl, rfl⟩
theorem numOk (a : Option Addr) (m cap : Nat) (l : List Nat) (p : Nat) (most n k : Nat) (w : World) (mI : Int) (hmI : mI = (most : Int)) (hm : m = l.length) (hl : ∀ c ∈ l, c < 256) (hn : l.length ≤ 9223372036854775000) (hc : Sl w a l) (hp : p ≤ l.length)
    (hx : getF (l.drop p) 0 0 = (n, k, 0)) (h : n ≤ most) (q : Nat) (hq : q = p + k) : Calls Tryd.prog 55 #[.slice a m cap, .int .i64 (p : Int), .int .u64 mI] w fun e w' => e = .returned (.tuple #[.int .u64 (n : Int), .int .i64 (q : Int)]) ∧ w = w' := by
  subst hm hmI
  have K := Lib.hid (get36 a cap l (p : Int) w hl hn hc)
  unfold GetP at K
  rw [getA_in hp, hx] at K
  dsimp only at K
  have e : end_ (n, k, 0) p = (q : Int) := by rw [end_, if_pos rfl, hq]; simp
  rw [e] at K
  have h1 : decide ((n : Int) ≤ (most : Int)) = true := decide_eq_true (by omega)
  have h2 : decide (n ≤ most) = true := decide_eq_true (by omega)
  clear hl hn hc hp hx h e hq
  go_enter Tryd.func55, Tryd.ntmps55
  go_wp2_with (first
    | (go_at_call 68; (with_reducible refine (K.out).mono ?_); rintro e w' ⟨rfl, rfl⟩)
    | (go_at_call 54; (with_reducible refine (needT 0 _ _ rfl).mono ?_); rintro e w' ⟨rfl, rfl⟩)
    | (go_at_call 54; (with_reducible refine (needT 2 _ _ rfl).mono ?_); rintro e w' ⟨rfl, rfl⟩))
  go_ret2
  exact ⟨rfl, rfl⟩

theorem getF_lt : ∀ (l : List Nat) (i acc n k : Nat), i ≤ 9 → acc < 2 ^ (7 * i) → (∀ c ∈ l, c < 256) → getF l i acc = (n, k, 0) → n < 18446744073709551616
  | [], i, acc, n, k, _, _, _, h => by simp [getF] at h
  | c :: l, i, acc, n, k, hi, ha, hl, h => by
    rw [getF] at h
    split at h
    · simp at h
    · rename_i h1
      split at h
      · have i8 : i ≤ 8 := by omega
        exact getF_lt l (i + 1) _ n k (by omega) (pow_step i8 ha).1 (fun x hx => hl x (List.mem_cons_of_mem _ hx)) h
      · split at h
        · simp at h
        · simp only [Prod.mk.injEq, and_true] at h
          obtain ⟨h, _⟩ := h
          by_cases h9 : i = 9
          · subst h9
            have e : (2 : Nat) ^ (7 * 9) = 9223372036854775808 := by decide
            rw [e] at ha h
            have : c ≤ 1 := by omega
            omega
          · have i8 : i ≤ 8 := by omega
            have := (pow_step (c := c) i8 ha).2
            rw [Nat.mod_eq_of_lt (by omega)] at this
            omega
theorem cell_q {w : World} {b off : Nat} {l : List Nat} (h : Cells w b off l) {i c : Nat} (hi : l[i]? = some c) : w.cell? ⟨b, off + i, none⟩ = some (.int .u8 (c : Int)) := by
  obtain ⟨hlt, rfl⟩ := List.getElem?_eq_some_iff.1 hi
  exact h i hlt
theorem sub_some {x : Addr} {l : List Nat} {cap : Nat} {w : World} (hs : Sl w (some x) l) (hcap : l.length ≤ cap) (i j : Nat) (hij : i ≤ j) (hj : j ≤ l.length) (m : List Nat) (hm : m = (l.drop i).take (j - i)) :
    ∃ y c', (∀ w1, (Instr.sliceAt 23 (.slice (some x) l.length cap) (some (.int .i64 (i : Int))) (some (.int .i64 (j : Int))) none).run Tryd.prog w1 = .ok (.slice (some y) m.length c') w1) ∧ Sl w (some y) m ∧ m.length ≤ c' := by
  have hl : m.length = j - i := by rw [hm]; simp; omega
  obtain ⟨a', c', e, h1, h2, h3, h4⟩ := sub_val hs (fun h => by cases h) hcap i j hij hj
  rw [← hm] at h1
  cases a' with
  | some y => exact ⟨y, c', fun w1 => by rw [run_sub (some x) l.length cap _ _ i j w1 (lo_some rfl) (hi_some rfl) hij hj hcap, e, hl], h1, by omega⟩
  | none =>
    exfalso
    unfold sliced at e
    split at e <;> (injection e with e _ _; cases e)
theorem rb_setCell {w : World} {base : Nat} {v : Value} {l : List Nat} (h : Rb w base v l) {p : Addr} (hp : p.block < base) (u : Value) : Rb (w.setCell p u) base v l := by
  refine ⟨h.1, ?_⟩
  rcases h.2 with h | ⟨g, cap, cur, hv, hg, hc, rest⟩
  · exact .inl h
  · exact .inr ⟨g, cap, cur, hv, hg, by rw [heap_setCell_other w p g u (by omega)]; exact hc, rest⟩
theorem pk_store {w : World} {g : Nat} {x0 x1 x2 x3 : Value} (h : w.heap[g]? = some (.cells #[x0, x1, x2, x3] 25 (0, 0))) (y0 y1 y2 y3 : Value) :
    ((((w.setCell ⟨g, 0, none⟩ y0).setCell ⟨g, 1, none⟩ y1).setCell ⟨g, 2, none⟩ y2).setCell ⟨g, 3, none⟩ y3).heap[g]? = some (.cells #[y0, y1, y2, y3] 25 (0, 0)) := by
  have a0 := heap_setCell_same w g 0 _ 25 y0 h
  have a1 := heap_setCell_same _ g 1 _ 25 y1 a0
  have a2 := heap_setCell_same _ g 2 _ 25 y2 a1
  have a3 := heap_setCell_same _ g 3 _ 25 y3 a2
  rw [a3]; rfl
def BadP (x : Nat) (w : World) (e : Ending) (w' : World) : Prop := e = .panicked [{ v := fault (x : Int), recovered := false }] ∧ Below w.heap.size w w'
def OkP (K s t : Nat) (l : List Nat) (E : Nat) (w : World) (e : Ending) (w' : World) : Prop := ∃ a c, e = .returned (.tuple #[.agg #[.int .i64 (K : Int), .int .u64 (s : Int), .int .u64 (t : Int), .slice a l.length c], .int .i64 (E : Int)]) ∧ Sl w' a l ∧ (a = none → c = 0) ∧ l.length ≤ c ∧ (∀ x, a = some x → w.heap.size ≤ x.block) ∧ Below w.heap.size w w'

end Go.Proofs.YtabgelmmjpjejaaDoor.Dn
