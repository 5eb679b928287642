/- Events that are alike. -/
import Derived.Test.YtnaiefjbfpejbaaFe
set_option linter.unusedVariables false
namespace Go.Proofs.Ytnaiefjbfpejbaa.Ga
open Go Go.RowKit Kit Ep Eb Er Ea Es Et Eu Ev Ek Ew Ex Ey Ez Fa Fb Fc Fd


theorem equalEmpty (a1 a2 : Option Addr) (c1 c2 : Nat) (w : World) : Calls Try.prog 33 #[.slice a1 0 c1, .slice a2 0 c2] w fun e w' => e = .returned (.bool true) ∧ ∃ n, w.drewN n = w' := by
  go_enter Try.func33, Try.ntmps33
  go_wp2
  refine wp_loop_rounds 1 ?_
  rw [rounds_succ]
  go_wp2
  go_ret
  exact ⟨rfl, 0, rfl⟩
set_option maxRecDepth 100000 in
theorem equalRow (b1 o1 b2 o2 c1 c2 : Nat) (l : List Int) (w : World) (h1 : ∀ i, (h : i < l.length) → w.cell? ⟨b1, o1 + i, none⟩ = some (.int .i64 l[i])) (h2 : ∀ i, (h : i < l.length) → w.cell? ⟨b2, o2 + i, none⟩ = some (.int .i64 l[i])) (hm : l.length ≤ 100000) :
    Calls Try.prog 33 #[.slice (some ⟨b1, o1, none⟩) l.length c1, .slice (some ⟨b2, o2, none⟩) l.length c2] w fun e w' => e = .returned (.bool true) ∧ ∃ n, w.drewN n = w' := by
  have H1 := Lib.hid h1
  have H2 := Lib.hid h2
  clear h1 h2
  go_enter Try.func33, Try.ntmps33
  go_wp2
  go_loopw [13] (fun s13 wr => ∃ k m : Nat, k ≤ l.length ∧ s13 = .int .i64 (k : Int) ∧ wr = w.drewN m) (fun s13 _ => l.length - (intOf s13).toNat)
  case atStart => exact ⟨0, 0, Nat.zero_le _, rfl, rfl⟩
  case round =>
    obtain ⟨k, m, hk, rfl, rfl⟩ := hrel
    by_cases hlt : k < l.length
    · have x1 : (w.drewN m).cell? ⟨b1, o1 + k, none⟩ = some (.int .i64 l[k]) := H1.out k hlt
      have x2 : (w.drewN m).cell? ⟨b2, o2 + k, none⟩ = some (.int .i64 l[k]) := H2.out k hlt
      generalize l[k] = v at x1 x2
      have nv : (v != v) = false := by simp
      have hlI : (k : Int) < (l.length : Int) := by omega
      go_wp2
      generalize hwq : w.drewN m = wq at *
      go_quiet (fail)
      go_wp2
      exact ⟨⟨k + 1, _, hlt, rfl, by rw [← hwq]; exact World.drewN_drewN _ _ _⟩, by show l.length - ((k : Int) + 1).toNat < l.length - (k : Int).toNat; omega⟩
    · obtain rfl : k = l.length := by omega
      go_wp2
      go_ret
      exact ⟨rfl, _, rfl⟩
theorem equalC (a1 a2 : Option Addr) (c1 c2 : Nat) (l : List Int) (w : World) (h1 : Ints.Ints w a1 l) (h2 : Ints.Ints w a2 l) (hm : l.length ≤ 100000) : Calls Try.prog 33 #[.slice a1 l.length c1, .slice a2 l.length c2] w fun e w' => e = .returned (.bool true) ∧ ∃ n, w.drewN n = w' := by
  rcases h1 with rfl | ⟨b1, o1, rfl, h1⟩
  · exact equalEmpty a1 a2 c1 c2 w
  · rcases h2 with rfl | ⟨b2, o2, rfl, h2⟩
    · exact equalEmpty _ a2 c1 c2 w
    · exact equalRow b1 o1 b2 o2 c1 c2 l w h1 h2 hm
set_option maxRecDepth 100000 in
set_option maxHeartbeats 2000000 in
/-- an event and its like. -/
theorem sameC (E : Ev) (a1 a2 : Option Addr) (c1 c2 : Nat) (w : World) (h1 : Ints.Ints w a1 E.pa) (h2 : Ints.Ints w a2 E.pa) (hm : E.pa.length ≤ 100000) :
    Calls Try.prog 20 #[.agg #[.int .i64 (E.kind : Int), .int .i32 E.rune, .slice a1 E.pa.length c1, .int .i32 E.pv, .int .i32 E.it, .int .i32 E.fi, .string E.tx], .agg #[.int .i64 (E.kind : Int), .int .i32 E.rune, .slice a2 E.pa.length c2, .int .i32 E.pv, .int .i32 E.it, .int .i32 E.fi, .string E.tx]] w fun e w' => e = .returned (.bool true) ∧ Below w.heap.size w w' := by
  obtain ⟨k0, k1, k2, k3, k4, k5, k6⟩ := seven (alloc_at (heap_alloc_last w (.cells #[.int .i64 (E.kind : Int), .int .i32 E.rune, .slice a1 E.pa.length c1, .int .i32 E.pv, .int .i32 E.it, .int .i32 E.fi, .string E.tx] 40)) (.cells #[.int .i64 (E.kind : Int), .int .i32 E.rune, .slice a2 E.pa.length c2, .int .i32 E.pv, .int .i32 E.it, .int .i32 E.fi, .string E.tx] 40))
  have e1 : (w.alloc (.cells #[.int .i64 (E.kind : Int), .int .i32 E.rune, .slice a1 E.pa.length c1, .int .i32 E.pv, .int .i32 E.it, .int .i32 E.fi, .string E.tx] 40)).heap.size = w.heap.size + 1 := by simp
  have hr := heap_alloc_last (w.alloc (.cells #[.int .i64 (E.kind : Int), .int .i32 E.rune, .slice a1 E.pa.length c1, .int .i32 E.pv, .int .i32 E.it, .int .i32 E.fi, .string E.tx] 40)) (.cells #[.int .i64 (E.kind : Int), .int .i32 E.rune, .slice a2 E.pa.length c2, .int .i32 E.pv, .int .i32 E.it, .int .i32 E.fi, .string E.tx] 40)
  rw [e1] at hr
  obtain ⟨m0, m1, m2, m3, m4, m5, m6⟩ := seven hr
  have HB := Lib.hid (past_two w (.cells #[.int .i64 (E.kind : Int), .int .i32 E.rune, .slice a1 E.pa.length c1, .int .i32 E.pv, .int .i32 E.it, .int .i32 E.fi, .string E.tx] 40) (.cells #[.int .i64 (E.kind : Int), .int .i32 E.rune, .slice a2 E.pa.length c2, .int .i32 E.pv, .int .i32 E.it, .int .i32 E.fi, .string E.tx] 40))
  have H1 := Lib.hid (Ints.ints_alloc (o := (.cells #[.int .i64 (E.kind : Int), .int .i32 E.rune, .slice a2 E.pa.length c2, .int .i32 E.pv, .int .i32 E.it, .int .i32 E.fi, .string E.tx] 40)) (Ints.ints_alloc (o := (.cells #[.int .i64 (E.kind : Int), .int .i32 E.rune, .slice a1 E.pa.length c1, .int .i32 E.pv, .int .i32 E.it, .int .i32 E.fi, .string E.tx] 40)) h1))
  have H2 := Lib.hid (Ints.ints_alloc (o := (.cells #[.int .i64 (E.kind : Int), .int .i32 E.rune, .slice a2 E.pa.length c2, .int .i32 E.pv, .int .i32 E.it, .int .i32 E.fi, .string E.tx] 40)) (Ints.ints_alloc (o := (.cells #[.int .i64 (E.kind : Int), .int .i32 E.rune, .slice a1 E.pa.length c1, .int .i32 E.pv, .int .i32 E.it, .int .i32 E.fi, .string E.tx] 40)) h2))
  have HM := Lib.hid hm
  clear h1 h2 hm e1 hr
  go_enter Try.func20, Try.ntmps20
  go_wp2_with (go_at_call 33; (with_reducible refine (equalC a1 a2 c1 c2 E.pa _ H1.out H2.out HM.out).mono ?_); rintro e w3 ⟨rfl, n3, rfl⟩; have HB3 := Lib.hid (Kit.below_drewN HB.out n3))
  go_ret
  exact ⟨rfl, HB3.out⟩

end Go.Proofs.Ytnaiefjbfpejbaa.Ga
