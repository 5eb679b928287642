/- Clocks: contracts of Go, Set, At, Rest, Speed, part (the code's and the document's). -/
import Derived.Test.YthihkbnkbajglaaGreatDoorCkC
set_option linter.unusedVariables false
namespace Go.Proofs.YthihkbnkbajglaaGreatDoor.CkD
open Go Go.RowKit Kit Nums Scale Scale2 CkMath CkC

theorem go_eq {c : Ck} {t : Nat} (h : c.now ≤ t) : go c t = { c with now := t, pos := (reach c t).1, rest := (reach c t).2 } := by unfold go; rw [if_pos h]
theorem go_no {c : Ck} {t : Nat} (h : ¬ c.now ≤ t) : go c t = c := by unfold go; rw [if_neg h]
theorem grown_refl (w : World) (r : Option Nat) : w.grownBy w r := ⟨rfl, rfl, rfl, Nat.le_refl _, fun _ _ _ => rfl⟩
/-- where it is let stand. -/
def stood (c : Ck) (t x : Nat) : Ck := { c with now := t, pos := x, rest := 0 }
/-- what Set leaves. -/
def SetP (T : TypeId) (w : World) (p : Nat) (c : Ck) (t x : Nat) (e : Ending) (w' : World) : Prop :=
  (t ≤ mx ∧ x ≤ mx ∧ e = .returned (.int .i64 0) ∧ Cl T w' p (stood c t x) ∧ w.grownBy w' (some p)) ∨ (¬ (t ≤ mx ∧ x ≤ mx) ∧ e = .returned (.int .i64 1) ∧ w = w')
set_option maxRecDepth 100000 in
set_option maxHeartbeats 1000000 in
theorem goC (p : Nat) (c : Ck) (t : Nat) (w : World) (h : Cl 90 w p c) (hk : Ckk c) (ht : t < 18446744073709551616) :
    Calls Tryz.prog 63 #[.pointer (some ⟨p, 0, none⟩), .int .u64 (t : Int)] w (GoP 90 w p c t) := by
  by_cases hle : c.now ≤ t
  · have HR := Lib.hid (reachedC p c t w h hk ht)
    have HE := Lib.hid (go_eq hle)
    have H := Lib.hid h
    have c0 := h.c0
    have hle' : (c.now : Int) ≤ (t : Int) := by omega
    clear h hk ht hle
    unfold GoP
    generalize go c t = G at *
    go_enter Tryz.func63, Tryz.ntmps63
    go_wp2_with fail
    refine HR.out.mono ?_
    rintro e w1 ⟨rfl, hb⟩
    generalize reach c t = RR at *
    have h1 := H.out.then_ hb
    have h2 := h1.set1 RR.1
    have h3 := h2.set2 RR.2
    have h4 := h3.set0 t
    have HG := Lib.hid (grown_set (i := 0) (u := .int .u64 (t : Int)) (grown_set (i := 2) (u := .int .u64 (RR.2 : Int)) (grown_set (i := 1) (u := .int .u64 (RR.1 : Int)) (grown_below hb (some p)))))
    have H4 := Lib.hid h4
    have f1 := h1.fz 1
    have f2 := h2.fz 2
    have f3 := h3.fz 0
    have d1 := h1.c1
    have d2 := h2.c2
    have d3 := h3.c0
    have d4 := h4.c1
    clear h1 h2 h3 h4 c0
    go_wp2
    go_ret
    rw [HE.out]
    exact ⟨rfl, H4.out, HG.out⟩
  · have HE := Lib.hid (go_no hle)
    have H := Lib.hid h
    have c0 := h.c0
    have c1 := h.c1
    have hle' : ¬ (c.now : Int) ≤ (t : Int) := by omega
    clear h hk ht hle
    unfold GoP
    generalize go c t = G at *
    go_enter Tryz.func63, Tryz.ntmps63
    go_wp2
    go_ret
    rw [HE.out]
    exact ⟨rfl, H.out, grown_refl _ _⟩
set_option maxRecDepth 100000 in
set_option maxHeartbeats 1000000 in
theorem setC (p : Nat) (c : Ck) (t x : Nat) (w : World) (h : Cl 90 w p c) :
    Calls Tryz.prog 57 #[.pointer (some ⟨p, 0, none⟩), .int .u64 (t : Int), .int .u64 (x : Int)] w (SetP 90 w p c t x) := by
  by_cases ht : t ≤ mx
  · by_cases hx : x ≤ mx
    · have h2 := h.set0 t
      have h3 := h2.set1 x
      have h4 := h3.set2 0
      have f1 := h.fz 0
      have f2 := h2.fz 1
      have f3 := h3.fz 2
      have d1 := h.c0
      have d2 := h2.c1
      have d3 := h3.c2
      have HG := Lib.hid (grown_set (i := 2) (u := .int .u64 ((0 : Nat) : Int)) (grown_set (i := 1) (u := .int .u64 (x : Int)) (grown_set (i := 0) (u := .int .u64 (t : Int)) (grown_refl w (some p)))))
      have H4 := Lib.hid h4
      have HT := Lib.hid (And.intro ht hx)
      rw [mx_eq] at ht hx
      have ht' : decide ((4611686018427387904 : Int) < (t : Int)) = false := decide_eq_false (by omega)
      have hx' : decide ((4611686018427387904 : Int) < (x : Int)) = false := decide_eq_false (by omega)
      clear h h2 h3 h4 ht hx
      go_enter Tryz.func57, Tryz.ntmps57
      go_wp2
      go_ret
      exact .inl ⟨HT.out.1, HT.out.2, rfl, H4.out, HG.out⟩
    · have HN := Lib.hid (fun h : t ≤ mx ∧ x ≤ mx => hx h.2)
      rw [mx_eq] at ht hx
      have ht' : decide ((4611686018427387904 : Int) < (t : Int)) = false := decide_eq_false (by omega)
      have hx' : decide ((4611686018427387904 : Int) < (x : Int)) = true := decide_eq_true (by omega)
      clear h ht hx
      go_enter Tryz.func57, Tryz.ntmps57
      go_wp2
      go_ret
      exact .inr ⟨HN.out, rfl, rfl⟩
  · have HN := Lib.hid (fun h : t ≤ mx ∧ x ≤ mx => ht h.1)
    rw [mx_eq] at ht
    have ht' : decide ((4611686018427387904 : Int) < (t : Int)) = true := decide_eq_true (by omega)
    clear h ht
    go_enter Tryz.func57, Tryz.ntmps57
    go_wp2
    go_ret
    exact .inr ⟨HN.out, rfl, rfl⟩
theorem speedC (p : Nat) (c : Ck) (w : World) (h : Cl 90 w p c) : Calls Tryz.prog 52 #[.pointer (some ⟨p, 0, none⟩)] w fun e w' => e = .returned (.agg #[.int .u64 (c.num : Int), .int .u64 (c.den : Int)]) ∧ Below w.heap.size w w' := by
  have h' := h.alloc (.cells #[.int .u64 0, .int .u64 0] 51)
  have c3 := h'.c3
  have c4 := h'.c4
  clear h h'
  go_enter Tryz.func52, Tryz.ntmps52
  go_wp2
  go_returns
  exact ⟨rfl, (Below.refl _ _).alloc (Nat.le_refl _) _⟩
set_option maxRecDepth 100000 in
theorem partC (n d x : Nat) (w : World) (hn : n < d) (hd : d ≤ 1048576) (hx : x ≤ 1048576) (k : Nat) (hk : k ≤ 20) (hdk : d = 2 ^ k) :
    Calls Tryz.prog 83 #[.int .u64 (n : Int), .int .u64 (d : Int), .int .u64 (x : Int)] w fun e w' => e = .returned (.int .u64 ((n * x / d : Nat) : Int)) ∧ ∃ m, w.drewN m = w' := by
  have hlt : n * x ≤ 1048576 * 1048576 := Nat.mul_le_mul (by omega) hx
  have HM : Hid (∀ w, Calls Tryz.prog 100 #[.int .u64 (n : Int), .int .u64 (x : Int)] w fun e w' => e = .returned (.tuple #[.int .u64 0, .int .u64 ((n * x : Nat) : Int)]) ∧ w = w') := Lib.hid (fun w => by
    have := mulC n x w (by omega) (by omega)
    rw [show n * x / 18446744073709551616 = 0 by omega, show n * x % 18446744073709551616 = n * x by omega] at this
    exact this)
  have HD : Hid (∀ w, Calls Tryz.prog 103 #[.int .u64 0, .int .u64 ((n * x : Nat) : Int), .int .u64 (d : Int)] w fun e w' => e = .returned (.tuple #[.int .u64 ((n * x / d : Nat) : Int), .int .u64 ((n * x % d : Nat) : Int)]) ∧ ∃ m, w.drewN m = w') := Lib.hid (fun w => by
    have := divAny 0 (n * x) k w hk (Nat.two_pow_pos k) (by omega)
    rw [Nat.zero_mul, Nat.zero_add, ← hdk] at this
    exact this)
  generalize n * x / d = Q at *
  generalize n * x % d = R at *
  generalize n * x = P at *
  clear hlt hdk hn hd hx
  go_enter Tryz.func83, Tryz.ntmps83
  go_wp2_with fail
  refine (HM.out _).mono ?_
  rintro e w1 ⟨rfl, rfl⟩
  go_wp2_with fail
  refine (HD.out _).mono ?_
  rintro e w1 ⟨rfl, m, rfl⟩
  go_wp2
  go_ret
  exact ⟨rfl, m, rfl⟩
end Go.Proofs.YthihkbnkbajglaaGreatDoor.CkD
