/- Package grid: fill. -/
import Derived.Test.YtfdjmlncdbpkgaaGv
set_option linter.unusedVariables false
namespace Go.Proofs.Ytfdjmlncdbpkgaa.Fl
open Go Go.RowKit Kit Gm Gv

theorem five {w : World} {g : Nat} {t : TypeId} {x0 x1 x2 x3 x4 : Value} (h : w.heap[g]? = some (.cells #[x0, x1, x2, x3, x4] t (0, 0))) : w.cell? ⟨g, 0, none⟩ = some x0 ∧ w.cell? ⟨g, 1, none⟩ = some x1 ∧ w.cell? ⟨g, 2, none⟩ = some x2 ∧ w.cell? ⟨g, 3, none⟩ = some x3 ∧ w.cell? ⟨g, 4, none⟩ = some x4 := by
  refine ⟨?_, ?_, ?_, ?_, ?_⟩ <;> simp [World.cell?, h]
abbrev cvO (c : Ce) (t : TypeId) : Obj := .cells #[.int .i32 c.r, .int .i64 c.fl, .int .i64 c.fg, .int .i64 c.bg, .int .i64 c.wd] t
theorem heap_last (w : World) (cs : Array Value) (t : TypeId) : (w.alloc (.cells cs t)).heap[w.heap.size]? = some (.cells cs t (0, 0)) := heap_alloc_last w _
/-- what is left when a part of the row was written. -/
def RowP (b : Nat) (L : List Ce) (w : World) (e : Ending) (w' : World) : Prop := e = .returned (.tuple #[]) ∧ RB w' b L ∧ Kp b b w w'
theorem fill_step {A M Z : List Ce} {c : Ce} {k : Nat} (hk : k < M.length) : A ++ List.replicate k c ++ M.drop k ++ Z = (A ++ List.replicate k c) ++ M[k] :: (M.drop (k + 1) ++ Z) := by
  simp only [List.append_assoc, List.append_cancel_left_eq]
  rw [List.drop_eq_getElem_cons hk, List.cons_append]
theorem fill_next {A M Z : List Ce} {c : Ce} {k : Nat} : (A ++ List.replicate k c) ++ c :: (M.drop (k + 1) ++ Z) = A ++ List.replicate (k + 1) c ++ M.drop (k + 1) ++ Z := by
  rw [List.replicate_succ']; simp
theorem fill_end {A M Z : List Ce} {c : Ce} : A ++ List.replicate M.length c ++ M.drop M.length ++ Z = A ++ List.replicate M.length c ++ Z := by simp
set_option maxRecDepth 100000 in
theorem fillC (b : Nat) (A M Z : List Ce) (cap : Nat) (c : Ce) (w : World) (h : RB w b (A ++ M ++ Z)) (hn : M.length ≤ 1000000) :
    Calls Try.prog 47 #[.slice (some ⟨b, A.length * 5, none⟩) M.length cap, cvA c] w (RowP b (A ++ List.replicate M.length c ++ Z) w) := by
  have hlt := h.lt
  have HR0 := Lib.hid (h.alloc (cvO c 37))
  have HK0 := Lib.hid (Kp.of (p := b) (b := b) ((Below.refl w.heap.size w).alloc (Nat.le_refl _) (cvO c 37)))
  have HB0 := Lib.hid (heap_last w #[.int .i32 c.r, .int .i64 c.fl, .int .i64 c.fg, .int .i64 c.bg, .int .i64 c.wd] 37)
  have HN := Lib.hid (show w.heap.size ≠ b by omega)
  clear h hlt

  go_enter Try.func47, Try.ntmps47
  go_wp2
  go_loopw [7] (fun s7 wr => ∃ k : Nat, k ≤ M.length ∧ s7 = .int .i64 k ∧ Hid (RB wr b (A ++ List.replicate k c ++ M.drop k ++ Z)) ∧ Hid (Kp b b w wr) ∧ Hid (wr.heap[w.heap.size]? = some (.cells #[.int .i32 c.r, .int .i64 c.fl, .int .i64 c.fg, .int .i64 c.bg, .int .i64 c.wd] 37 (0, 0)))) (fun s7 _ => M.length - (intOf s7).toNat)
  case atStart => exact ⟨0, Nat.zero_le _, rfl, Lib.hid (by simpa using HR0.out), HK0, HB0⟩
  case round =>
    obtain ⟨k, hk, rfl, HR, HK, HB⟩ := hrel
    obtain ⟨c0, c1, c2, c3, c4⟩ := five HB.out
    by_cases hlt : k < M.length
    · have HR2 := Lib.hid (show RB wr b ((A ++ List.replicate k c) ++ M[k] :: (M.drop (k + 1) ++ Z)) by rw [← fill_step hlt]; exact HR.out)
      have HQ := Lib.hid (show A.length * 5 + k * 5 = (A ++ List.replicate k c).length * 5 by simp; omega)
      go_wp2_with (with_reducible refine wpList_store_cell rfl _ _ rfl b (A.length * 5 + k * 5) c rfl rfl HR2.out HQ.out ?_; intro w2 hw2)
      have HR3 := Lib.hid (show RB w2 b (A ++ List.replicate (k + 1) c ++ M.drop (k + 1) ++ Z) by rw [← fill_next, ← hw2]; exact HR2.out.put _)
      have HK3 := Lib.hid (show Kp b b w w2 by rw [← hw2]; exact HK.out.put _)
      have HB3 := Lib.hid (show w2.heap[w.heap.size]? = some (.cells #[.int .i32 c.r, .int .i64 c.fl, .int .i64 c.fg, .int .i64 c.bg, .int .i64 c.wd] 37 (0, 0)) by rw [← hw2]; exact (setRow_other _ _ _ _ HN.out).trans HB.out)
      clear hw2
      exact ⟨⟨k + 1, by omega, by go_num, HR3, HK3, HB3⟩, by simp only [intOf]; omega⟩
    · obtain rfl : k = M.length := by omega
      go_wp2
      go_end0
      exact ⟨rfl, by rw [← fill_end]; exact HR.out, HK.out⟩
set_option maxRecDepth 100000 in
theorem fillNo (b : Nat) (L : List Ce) (a : Option Addr) (cap : Nat) (c : Ce) (w : World) (h : RB w b L) :
    Calls Try.prog 47 #[.slice a 0 cap, cvA c] w (RowP b L w) := by
  have HR0 := Lib.hid (h.alloc (cvO c 37))
  have HK0 := Lib.hid (Kp.of (p := b) (b := b) ((Below.refl w.heap.size w).alloc (Nat.le_refl _) (cvO c 37)))
  clear h

  go_enter Try.func47, Try.ntmps47
  go_wp2
  refine wp_loop_rounds 1 ?_
  rw [rounds_succ]
  go_wp2
  go_end0
  exact ⟨rfl, HR0.out, HK0.out⟩
/-- fill, of any part of the row. -/
theorem fillK (b : Nat) (A M Z : List Ce) (a : Option Addr) (n cap : Nat) (c : Ce) (w : World) (h : RB w b (A ++ M ++ Z)) (hm : n = M.length) (ha : 0 < n → a = some ⟨b, A.length * 5, none⟩) (hn : n ≤ 1000000) :
    Calls Try.prog 47 #[.slice a n cap, cvA c] w (RowP b (A ++ List.replicate n c ++ Z) w) := by
  subst hm
  by_cases h0 : M.length = 0
  · obtain rfl : M = [] := List.eq_nil_of_length_eq_zero h0
    have := fillNo b (A ++ [] ++ Z) a cap c w h
    simpa using this
  · rw [ha (by omega)]
    exact fillC b A M Z cap c w h hn
end Go.Proofs.Ytfdjmlncdbpkgaa.Fl
