/- The end of a control, and what it leaves alone. -/
import Derived.Test.YtnaiefjbfpejbaaEv
set_option linter.unusedVariables false
namespace Go.Proofs.Ytnaiefjbfpejbaa.Ek
open Go Go.RowKit Kit Ep Eb Er Ea Es Et Eu Ev


/-- a step that leaves all but the parser's own block alone. -/
def Keep (g : Nat) (w w' : World) : Prop := ∀ k, k < w.heap.size → k ≠ g → w'.heap[k]? = w.heap[k]?
theorem keep_set {w w1 : World} {g k i : Nat} (h : Keep g w w1) (hk : w.heap.size ≤ k) (u : Value) : Keep g w (w1.setCell ⟨k, i, none⟩ u) := fun j hj h1 => by
  rw [Below.heap_setCell _ _ _ _ (by show j ≠ k; omega)]; exact h j hj h1
theorem keep_set7 {w w1 : World} {g k : Nat} (h : Keep g w w1) (hk : w.heap.size ≤ k) (a b c d e f z : Value) : Keep g w (set7 w1 k a b c d e f z) :=
  keep_set (keep_set (keep_set (keep_set (keep_set (keep_set (keep_set h hk a) hk b) hk c) hk d) hk e) hk f) hk z
theorem keep_own {w1 : World} {g k : Nat} (w0 : World) (i : Nat) (u : Value) (h : k ≠ g) (he : w0.heap[k]? = w1.heap[k]?) : (w0.setCell ⟨g, i, none⟩ u).heap[k]? = w1.heap[k]? := by
  rw [Below.heap_setCell _ _ _ _ h]; exact he
set_option maxRecDepth 100000 in
theorem beginS (n : Int) (st g : Nat) (v x : Value) (p : Ps) (w : World) (hn : n = (st : Int)) (h : PrV w g v x p) : Calls Try.prog 21 #[.pointer (some ⟨g, 0, none⟩), .int .i64 n] w fun e w' => e = .returned (.tuple #[]) ∧ StP g v x w (bg st) (.slice none 0 0) (.slice none 0 0) w' ∧ Keep g w w' := by
  subst hn
  have HN := Lib.hid (bg_new h st)
  have HKK : Hid (Keep g w (set7 w g (.int .i64 (st : Int)) (.bool false) (.int .i32 0) (.int .i32 0) (.slice none 0 0) (.int .i64 0) (.slice none 0 0))) := Lib.hid (fun k hk h1 => keep_own _ _ _ h1 (keep_own _ _ _ h1 (keep_own _ _ _ h1 (keep_own _ _ _ h1 (keep_own _ _ _ h1 (keep_own _ _ _ h1 (keep_own _ _ _ h1 rfl)))))))
  obtain ⟨c0, c1, c2, c3, c4, c5, c6⟩ := seven h.row
  obtain ⟨f0, f1, f2, f3, f4, f5, f6⟩ := thawed h.row
  clear h
  go_enter Try.func21, Try.ntmps21
  go_wp2
  go_end0
  exact ⟨rfl, HN.out, HKK.out⟩
theorem keep_past {w w0 w' : World} {g : Nat} (hb : Below w.heap.size w w0) (h : Keep g w0 w') : Keep g w w' := fun k hk h1 => (h k (Nat.lt_of_lt_of_le hk hb.size) h1).trans (hb.block k hk)
set_option maxRecDepth 100000 in
/-- the end of a control that is not spoilt. -/
theorem endS (k r : Int) (ea : Option Addr) (el ec : Nat) (a b c : Int) (s : ByteArray) (g : Nat) (v x : Value) (p : Ps) (w : World) (h : PrV w g v x p) (hq : p.sp = false) :
    Calls Try.prog 34 #[.pointer (some ⟨g, 0, none⟩), .agg #[.int .i64 k, .int .i32 r, .slice ea el ec, .int .i32 a, .int .i32 b, .int .i32 c, .string s]] w fun e w' => e = .returned (.agg #[.int .i64 k, .int .i32 r, .slice ea el ec, .int .i32 a, .int .i32 b, .int .i32 c, .string s]) ∧ ∃ v' x', StP g v x w (bg 0) v' x' w' ∧ Keep g w w' := by
  have HB := Lib.hid (past_two w (.cells #[.int .i64 k, .int .i32 r, .slice ea el ec, .int .i32 a, .int .i32 b, .int .i32 c, .string s] 40) (.cells #[.int .i64 0, .int .i32 0, .slice none 0 0, .int .i32 0, .int .i32 0, .int .i32 0, .string ⟨#[]⟩] 40))
  have e1 : (w.alloc (.cells #[.int .i64 k, .int .i32 r, .slice ea el ec, .int .i32 a, .int .i32 b, .int .i32 c, .string s] 40)).heap.size = w.heap.size + 1 := by simp
  have HR0 := Lib.hid (show ((w.alloc (.cells #[.int .i64 k, .int .i32 r, .slice ea el ec, .int .i32 a, .int .i32 b, .int .i32 c, .string s] 40)).alloc (.cells #[.int .i64 0, .int .i32 0, .slice none 0 0, .int .i32 0, .int .i32 0, .int .i32 0, .string ⟨#[]⟩] 40)).heap[w.heap.size]? = some (.cells #[.int .i64 k, .int .i32 r, .slice ea el ec, .int .i32 a, .int .i32 b, .int .i32 c, .string s] 40 (0, 0)) from (Below.heap_alloc _ (.cells #[.int .i64 0, .int .i32 0, .slice none 0 0, .int .i32 0, .int .i32 0, .int .i32 0, .string ⟨#[]⟩] 40) w.heap.size (by omega)).trans (heap_alloc_last w _))
  have HR1 := Lib.hid (show ((w.alloc (.cells #[.int .i64 k, .int .i32 r, .slice ea el ec, .int .i32 a, .int .i32 b, .int .i32 c, .string s] 40)).alloc (.cells #[.int .i64 0, .int .i32 0, .slice none 0 0, .int .i32 0, .int .i32 0, .int .i32 0, .string ⟨#[]⟩] 40)).heap[w.heap.size + 1]? = some (.cells #[.int .i64 0, .int .i32 0, .slice none 0 0, .int .i32 0, .int .i32 0, .int .i32 0, .string ⟨#[]⟩] 40 (0, 0)) from by rw [← e1]; exact heap_alloc_last _ (.cells #[.int .i64 0, .int .i32 0, .slice none 0 0, .int .i32 0, .int .i32 0, .int .i32 0, .string ⟨#[]⟩] 40))
  have HP := Lib.hid (h.then_ HB.out (Nat.le_refl _))
  have HK := Lib.hid (Nat.le_succ w.heap.size)
  have cs := (seven HP.out.row).2.1
  rw [hq] at cs
  clear e1 h hq
  go_enter Try.func34, Try.ntmps34
  go_wp2_with fail
  generalize ((w.alloc (.cells #[.int .i64 k, .int .i32 r, .slice ea el ec, .int .i32 a, .int .i32 b, .int .i32 c, .string s] 40)).alloc (.cells #[.int .i64 0, .int .i32 0, .slice none 0 0, .int .i32 0, .int .i32 0, .int .i32 0, .string ⟨#[]⟩] 40)) = w0 at *
  go_wp2_with (go_at_call 21; (with_reducible refine (beginS 0 0 g v x _ w0 rfl HP.out).mono ?_); rintro e w1 ⟨rfl, hs, hkp⟩; have HS2 := Lib.hid (StP.past HB.out hs); have HKP := Lib.hid (keep_past HB.out hkp); have HR3 := Lib.hid (res_at HP.out HR1.out hs); have HR4 := Lib.hid (res_at HP.out HR0.out hs); clear cs; obtain ⟨d0, d1, d2, d3, d4, d5, d6⟩ := seven HR3.out; obtain ⟨f0, f1, f2, f3, f4, f5, f6⟩ := thawed HR3.out; obtain ⟨y0, y1, y2, y3, y4, y5, y6⟩ := seven HR4.out; clear hs hkp)
  have HS3 := Lib.hid (seven (seven_set HR3.out (.int .i64 k) (.int .i32 r) (.slice ea el ec) (.int .i32 a) (.int .i32 b) (.int .i32 c) (.string s)))
  clear y0 y1 y2 y3 y4 y5 y6 d0 d1 d2 d3 d4 d5 d6
  obtain ⟨d0, d1, d2, d3, d4, d5, d6⟩ := HS3.out
  exact bodyPost_ret (v := .agg #[.int .i64 k, .int .i32 r, .slice ea el ec, .int .i32 a, .int .i32 b, .int .i32 c, .string s]) (by simp [results, Try.results34, go_sem, d0, d1, d2, d3, d4, d5, d6]) rfl ⟨rfl, _, _, HS2.out.fin HK.out HR3.out _ _ _ _ _ _ _, keep_set7 HKP.out HK.out _ _ _ _ _ _ _⟩
/-- what a step answers, and the event's params stand. -/
def EvK (g : Nat) (v x : Value) (w : World) (P : Ps) (E : Ev) (e : Ending) (w' : World) : Prop := EvP g v x w P E e w' ∧ w'.ownsRow 0 3 1 (pvOf E v) E.pa.length (iv E.pa)
theorem evK_of {g : Nat} {v x : Value} {w w' : World} {P : Ps} {E : Ev} {e : Ending} (h : EvP g v x w P E e w') (hk : E.kind ≠ 4) (hp : E.pa = []) : EvK g v x w P E e w' := by
  refine ⟨h, ?_⟩
  unfold pvOf
  rw [if_neg hk, hp]
  exact World.ownsRow_nil _ _ _ _
/-- a row that a step leaves alone. -/
theorem keep_row {w w' : World} {g k n : Nat} {v : Value} {xs : List Value} {cs cs2 : Array Value} (h : w.ownsRow 0 3 1 v n xs) (hk : Keep g w w') (hg : w.heap[g]? = some (.cells cs 49 (0, 0))) (hr : w'.heap[k]? = some (.cells cs2 40 (0, 0))) (a b c d e f z : Value) : (set7 w' k a b c d e f z).ownsRow 0 3 1 v n xs := by
  have h2 : w'.ownsRow 0 3 1 v n xs := by
    refine ⟨h.1, ?_⟩
    rcases h.2 with h1 | ⟨g1, cap, cur, hv, h0, h1, rest⟩
    · exact .inl h1
    · refine .inr ⟨g1, cap, cur, hv, h0, ?_, rest⟩
      rw [hk g1 (lt_of h1) (fun e => by
        subst e
        rw [hg] at h1
        injection h1 with h1; injection h1 with _ h1; exact absurd h1 (by decide))]
      exact h1
  have ho := own_kind h2 hr (by decide)
  exact ownsRow_setCell_other (ownsRow_setCell_other (ownsRow_setCell_other (ownsRow_setCell_other (ownsRow_setCell_other (ownsRow_setCell_other (ownsRow_setCell_other h2 ho _) ho _) ho _) ho _) ho _) ho _) ho _

end Go.Proofs.Ytnaiefjbfpejbaa.Ek
