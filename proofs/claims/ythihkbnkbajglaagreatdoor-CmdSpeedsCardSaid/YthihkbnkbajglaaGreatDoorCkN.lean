/- Clocks: contracts of New (the code's and the document's). -/
import Derived.Test.YthihkbnkbajglaaGreatDoorCkD
set_option linter.unusedVariables false
namespace Go.Proofs.YthihkbnkbajglaaGreatDoor.CkN
open Go Go.RowKit Kit Nums Scale Scale2 CkMath CkC CkD

/-- what New answers. -/
def NewP (T : TypeId) (w : World) (t x n d : Nat) (e : Ending) (w' : World) : Prop :=
  (mayN n d = true ∧ t ≤ mx ∧ x ≤ mx ∧ (∃ q, w.heap.size ≤ q ∧ e = .returned (.tuple #[.pointer (some ⟨q, 0, none⟩), .int .i64 0]) ∧ Cl T w' q ⟨t, x, 0, n, d⟩) ∧ Below w.heap.size w w') ∨
    (¬ (mayN n d = true ∧ t ≤ mx ∧ x ≤ mx) ∧ e = .returned (.tuple #[.pointer none, .int .i64 1]) ∧ Below w.heap.size w w')
set_option maxRecDepth 100000 in
set_option maxHeartbeats 2000000 in
theorem newC (t x n d : Nat) (w : World) (hn : n < 18446744073709551616) (hd : d < 18446744073709551616) :
    Calls Tryz.prog 25 #[.int .u64 (t : Int), .int .u64 (x : Int), .agg #[.int .u64 (n : Int), .int .u64 (d : Int)]] w (NewP 90 w t x n d) := by
  have hM := fun w => mayC n d w hn hd
  cases hB : mayN n d
  · rw [hB] at hM
    have HM := Lib.hid hM
    have HN := Lib.hid (show ¬ (mayN n d = true ∧ t ≤ mx ∧ x ≤ mx) from fun h => by rw [hB] at h; exact absurd h.1 (by decide))
    clear hn hd hM hB
    go_enter Tryz.func25, Tryz.ntmps25
    go_wp2_with fail
    refine (HM.out _).mono ?_
    rintro e w1 ⟨rfl, rfl⟩
    go_wp2
    go_ret2
    exact .inr ⟨HN.out, rfl, (((Below.refl _ _).alloc (Nat.le_refl _) _).alloc (by simp) _).alloc (by simp only [World.size_alloc]; omega) _⟩
  · rw [hB] at hM
    have HM := Lib.hid hM
    have HB := Lib.hid hB
    have h0 : Cl 90 ((w.alloc (.cells #[.int .u64 (n : Int), .int .u64 (d : Int)] 51)).alloc (.cells #[.int .u64 0, .int .u64 0, .int .u64 0, .int .u64 (n : Int), .int .u64 (d : Int)] 90)) (w.heap.size + 1) ⟨0, 0, 0, n, d⟩ := by
      have := heap_alloc_new (w.alloc (.cells #[.int .u64 (n : Int), .int .u64 (d : Int)] 51)) (.cells #[.int .u64 0, .int .u64 0, .int .u64 0, .int .u64 (n : Int), .int .u64 (d : Int)] 90)
      rw [World.size_alloc] at this
      exact this
    have h1 := h0.alloc (.cells #[.int .u64 (n : Int), .int .u64 (d : Int)] 51)
    have hb1 : Below w.heap.size w (((w.alloc (.cells #[.int .u64 (n : Int), .int .u64 (d : Int)] 51)).alloc (.cells #[.int .u64 0, .int .u64 0, .int .u64 0, .int .u64 (n : Int), .int .u64 (d : Int)] 90)).alloc (.cells #[.int .u64 (n : Int), .int .u64 (d : Int)] 51)) := (((Below.refl _ _).alloc (Nat.le_refl _) _).alloc (by simp) _).alloc (by simp only [World.size_alloc]; omega) _
    have HB1 := Lib.hid hb1
    have HS := Lib.hid (setC (w.heap.size + 1) _ t x _ h1)
    clear hn hd hM hB h0 h1 hb1
    go_enter Tryz.func25, Tryz.ntmps25
    go_wp2_with fail
    refine (HM.out _).mono ?_
    rintro e w1 ⟨rfl, rfl⟩
    go_wp2_with fail
    refine HS.out.mono ?_
    rintro e w1 (⟨ht, hx, rfl, hc, hg⟩ | ⟨hno, rfl, rfl⟩)
    · have HT := Lib.hid ht
      have HX := Lib.hid hx
      clear ht hx
      go_wp2
      go_ret2
      exact .inl ⟨HB.out, HT.out, HX.out, ⟨w.heap.size + 1, by omega, rfl, hc⟩, below_of_grown HB1.out hg (by omega)⟩
    · have HNo := Lib.hid hno
      clear hno
      go_wp2
      go_ret2
      exact .inr ⟨fun h => HNo.out h.2, rfl, HB1.out⟩
end Go.Proofs.YthihkbnkbajglaaGreatDoor.CkN
