/- The document's parser: a sign. -/
import Derived.Test.YtnaiefjbfpejbaaJt
import Derived.Test.YtnaiefjbfpejbaaJz
set_option linter.unusedVariables false
namespace Go.Proofs.Ytnaiefjbfpejbaa.Jo
open Go Go.RowKit Kit Ep Eb Er Ea Es Et Eu Ev Ek Ew Ex Ey Ia Ib Ic Iq Jc Jt Jz


/-- what the document's parser may be. -/
structure QOk (q : Qs) (m : Nat) : Prop where
  pa : q.st = 3 → q.pa ≠ []
  vals : ∀ y ∈ q.pa, -1 ≤ y ∧ y ≤ 9999
  len : q.pa.length ≤ m + 1
  tx : q.tx.length ≤ 128
theorem qb_ok (n m : Nat) : QOk (qb n) m := ⟨fun _ => by simp [qb], fun y hy => by
  have : y = -1 := by simpa [qb] using hy
  subst this; decide, by simp [qb], by simp [qb]⟩
theorem QOk.up {q : Qs} {m : Nat} (h : QOk q m) : QOk q (m + 1) := ⟨h.pa, h.vals, Nat.le_succ_of_le h.len, h.tx⟩
theorem QOk.of {q q' : Qs} {m : Nat} (h : QOk q m) (h1 : q'.st ≠ 3) (h2 : q'.pa = q.pa) (h3 : q'.tx = q.tx) : QOk q' (m + 1) :=
  ⟨fun e => absurd e h1, by rw [h2]; exact h.vals, by rw [h2]; exact Nat.le_succ_of_le h.len, by rw [h3]; exact h.tx⟩
theorem QOk.of3 {q q' : Qs} {m : Nat} (h : QOk q m) (h0 : q.st = 3) (h2 : q'.pa = q.pa) (h3 : q'.tx = q.tx) : QOk q' (m + 1) :=
  ⟨fun _ => by rw [h2]; exact h.pa h0, by rw [h2]; exact h.vals, by rw [h2]; exact Nat.le_succ_of_le h.len, by rw [h3]; exact h.tx⟩
theorem escape_ok {q : Qs} {m : Nat} (h : QOk q m) (r : Int) : QOk (escapeQ q r).1 (m + 1) := by
  unfold escapeQ
  repeat' split
  all_goals first
    | exact qb_ok _ _
    | exact h.of (show (0 : Nat) ≠ 3 by decide) rfl rfl
    | exact h.of (show (1 : Nat) ≠ 3 by decide) rfl rfl
    | exact (qb_ok 2 m).up.of (show (2 : Nat) ≠ 3 by decide) rfl rfl
    | exact ⟨(fun e => absurd (show (2 : Nat) = 3 from e) (by decide)), (qb_ok 2 m).vals, Nat.le_add_left _ _, Nat.zero_le _⟩
theorem between_ok {q : Qs} {m : Nat} (h : QOk q m) (h2 : q.st = 2) (r : Int) : QOk (betweenQ q r).1 (m + 1) := by
  unfold betweenQ
  repeat' split
  all_goals first
    | exact h.of (show (0 : Nat) ≠ 3 by decide) rfl rfl
    | exact h.of (show q.st ≠ 3 by omega) rfl rfl
theorem control_ok {q : Qs} {m : Nat} (h : QOk q m) (h3 : q.st = 3) (r : Int) : QOk (controlQ q r).1 (m + 1) := by
  unfold controlQ
  split
  · exact h.up
  split
  · exact h.of3 h3 rfl rfl
  split
  · have hd : ∀ y ∈ digQ q (r - 48), -1 ≤ y ∧ y ≤ 9999 := by
      intro y hy
      unfold digQ at hy
      rcases List.mem_or_eq_of_mem_set hy with e | e
      · exact h.vals y e
      · subst e; omega
    refine ⟨fun _ e => ?_, hd, ?_, h.tx⟩
    · have e1 : (digQ q (r - 48)).length = 0 := by rw [show digQ q (r - 48) = [] from e]; rfl
      unfold digQ at e1
      rw [List.length_set] at e1
      exact h.pa h3 (List.eq_nil_of_length_eq_zero e1)
    · show (digQ q (r - 48)).length ≤ m + 1 + 1
      unfold digQ
      rw [List.length_set]
      exact Nat.le_succ_of_le h.len
  split
  · refine ⟨fun _ e => ?_, fun y hy => ?_, ?_, h.tx⟩
    · have e1 : (q.pa ++ [-1]).length = 0 := by rw [show q.pa ++ [-1] = [] from e]; rfl
      simp at e1
    · rcases List.mem_append.1 hy with e | e
      · exact h.vals y e
      · have : y = -1 := by simpa using e
        subst this; decide
    · show (q.pa ++ [-1]).length ≤ m + 1 + 1
      have := h.len
      simp; omega
  split
  · exact h.of3 h3 rfl rfl
  split
  · exact h.of (show (0 : Nat) ≠ 3 by decide) rfl rfl
  split
  · exact h.up
  · exact h.of (show (0 : Nat) ≠ 3 by decide) rfl rfl
theorem one_ok {q : Qs} {m : Nat} (h : QOk q m) (r : Int) : QOk (oneQ q r).1 (m + 1) := by
  unfold oneQ
  split
  · exact h.of (show (0 : Nat) ≠ 3 by decide) rfl rfl
  split
  · refine h.of (show (if q.st = 4 then 6 else if q.st = 5 then 7 else 1 : Nat) ≠ 3 from ?_) rfl rfl
    split
    · decide
    split <;> decide
  split
  · exact h.up
  split
  · exact escape_ok h r
  split
  · exact between_ok h ‹_› r
  split
  · exact control_ok h ‹_› r
  split
  · have h4 : q.st = 4 := ‹_›
    unfold commandQ
    split
    · exact h.of (show (0 : Nat) ≠ 3 by decide) rfl rfl
    split
    · exact h.up
    split
    · exact ⟨fun e => absurd (show q.st = 3 from e) (by omega), h.vals, Nat.le_succ_of_le h.len, by show (q.tx ++ [r]).length ≤ 128; simp; omega⟩
    · exact h.up
  split
  · split
    · exact h.of (show (0 : Nat) ≠ 3 by decide) rfl rfl
    · exact escape_ok h r
  split
  · split
    · exact h.of (show (0 : Nat) ≠ 3 by decide) rfl rfl
    · exact escape_ok h r
  · exact h.up
theorem put6 {w w1 w2 : World} {g : Nat} {v x v1 x1 x2 : Value} {q q' : Qs} {r : Int} (h : StQ g v x w q v1 x1 w1) (h2 : w2.ownsRow 0 21 1 x2 (q.tx.length + 1) (rv q.tx ++ [.int .i32 r])) (h3 : w1.grownBy w2 x1.ownBlock) (h4 : New w1 x1 x2) (hg : g < w.heap.size) (hp : q' = { q with tx := q.tx ++ [r] }) : StQ g v x w q' v1 x2 (w2.setCell ⟨g, 6, none⟩ x2) := by
  subst hp
  have hx : x2.ownBlock ≠ some g := fun e => by
    rcases h4 g e with h5 | h5
    · exact h.1.other.2 h5
    · have := h.1.lt; omega
  have hrow : w2.heap[g]? = some (.cells (qC v1 x1 q) 29 (0, 0)) := (h3.block g h.1.lt (fun e => h.1.other.2 e.symm)).trans h.1.row
  have hl : (q.tx ++ [r]).length = q.tx.length + 1 := by simp
  refine ⟨⟨?_, ownsRow_setCell_other (own_grown h.1.pa h.1.tx (by decide) h3) h.1.other.1 _, ?_⟩, ?_, h.2.2.1, ?_⟩
  · rw [heap_setCell_same _ g 6 _ 29 _ hrow]; rfl
  · show (w2.setCell ⟨g, 6, none⟩ x2).ownsRow 0 21 1 x2 (q.tx ++ [r]).length (rv (q.tx ++ [r]))
    rw [hl, show rv (q.tx ++ [r]) = rv q.tx ++ [.int .i32 r] by simp [rv]]
    exact ownsRow_setCell_other h2 hx _
  · refine (Fr.grown (v1 := v1) (x1 := x1) h.2.1 h3 (fun k hk hw => ?_)).set hg 6 x2
    rcases h.2.2.2 k hk with h5 | h5
    · exact .inr h5
    · omega
  · intro k hk
    rcases h4 k hk with h5 | h5
    · exact h.2.2.2 k h5
    · exact .inr (Nat.le_trans h.2.1.size h5)
set_option maxRecDepth 100000 in
set_option maxHeartbeats 8000000 in
theorem oneCan (r : Int) (g : Nat) (v x : Value) (q : Qs) (w : World) (m : Nat) (h : PrQ w g v x q) (hok : QOk q m) (hm : m ≤ 40000) (n1 : r = 24 ∨ r = 26) : Calls Try.prog 18 #[.pointer (some ⟨g, 0, none⟩), .int .i32 r] w (EvQ g v x w (oneQ q r).1 (oneQ q r).2) := by
  have HP := Lib.hid h
  have HG := Lib.hid h.lt
  have HOK := Lib.hid hok
  have HM := Lib.hid hm
  obtain ⟨k0, k1, k2, k3, k4, k5, k6⟩ := seven HP.out.row
  obtain ⟨l0, l1, l2, l3, l4, l5, l6⟩ := thawed HP.out.row
  clear h hok hm
  unfold oneQ
  rw [if_pos n1]
  rcases n1 with rfl | rfl
  · go_enter Try.func18, Try.ntmps18
    go_wp2
    go_ret
    exact evq0 (put0 HP.out 0)
  · go_enter Try.func18, Try.ntmps18
    go_wp2
    go_ret
    exact evq0 (put0 HP.out 0)
set_option maxRecDepth 100000 in
set_option maxHeartbeats 8000000 in
theorem oneEsc (r : Int) (g : Nat) (v x : Value) (q : Qs) (w : World) (m : Nat) (h : PrQ w g v x q) (hok : QOk q m) (hm : m ≤ 40000) (n2 : r = 27) : Calls Try.prog 18 #[.pointer (some ⟨g, 0, none⟩), .int .i32 r] w (EvQ g v x w (oneQ q r).1 (oneQ q r).2) := by
  have HP := Lib.hid h
  have HG := Lib.hid h.lt
  have HOK := Lib.hid hok
  have HM := Lib.hid hm
  obtain ⟨k0, k1, k2, k3, k4, k5, k6⟩ := seven HP.out.row
  obtain ⟨l0, l1, l2, l3, l4, l5, l6⟩ := thawed HP.out.row
  clear h hok hm
  subst n2
  unfold oneQ
  rw [if_neg (show ¬ ((27 : Int) = 24 ∨ (27 : Int) = 26) by decide), if_pos rfl]
  by_cases h4 : q.st = 4
  · rw [if_pos h4]
    rw [h4] at k0
    go_enter Try.func18, Try.ntmps18
    go_wp2
    go_ret
    exact evq0 (put0 HP.out 6)
  rw [if_neg h4]
  by_cases h5 : q.st = 5
  · rw [if_pos h5]
    rw [h5] at k0
    go_enter Try.func18, Try.ntmps18
    go_wp2
    go_ret
    exact evq0 (put0 HP.out 7)
  rw [if_neg h5]
  have i4 : ((q.st : Int) == 4) = false := by rw [beq_eq_false_iff_ne]; omega
  have i5 : ((q.st : Int) == 5) = false := by rw [beq_eq_false_iff_ne]; omega
  have j4 : ¬ (q.st : Int) = 4 := by omega
  have j5 : ¬ (q.st : Int) = 5 := by omega
  go_enter Try.func18, Try.ntmps18
  go_wp2
  go_ret
  exact evq0 (put0 HP.out 1)
set_option maxRecDepth 100000 in
set_option maxHeartbeats 8000000 in
theorem one0 (r : Int) (g : Nat) (v x : Value) (q : Qs) (w : World) (m : Nat) (h : PrQ w g v x q) (hok : QOk q m) (hm : m ≤ 40000) (n1 : ¬ (r = 24 ∨ r = 26)) (n2 : ¬ r = 27) (hst : q.st = 0) : Calls Try.prog 18 #[.pointer (some ⟨g, 0, none⟩), .int .i32 r] w (EvQ g v x w (oneQ q r).1 (oneQ q r).2) := by
  have HP := Lib.hid h
  have HG := Lib.hid h.lt
  have HOK := Lib.hid hok
  have HM := Lib.hid hm
  obtain ⟨k0, k1, k2, k3, k4, k5, k6⟩ := seven HP.out.row
  obtain ⟨l0, l1, l2, l3, l4, l5, l6⟩ := thawed HP.out.row
  clear h hok hm
  unfold oneQ
  rw [if_neg (show ¬ (r = 24 ∨ r = 26) from n1)]
  have n24 : ¬ r = 24 := fun e => n1 (.inl e)
  have n26 : ¬ r = 26 := fun e => n1 (.inr e)
  have b24 : (r == 24) = false := by rw [beq_eq_false_iff_ne]; exact n24
  have b26 : (r == 26) = false := by rw [beq_eq_false_iff_ne]; exact n26
  have b27 : (r == 27) = false := by rw [beq_eq_false_iff_ne]; exact n2
  rw [if_neg (show ¬ r = 27 from n2)]
  rw [hst] at k0
  rw [if_pos (show q.st = 0 from hst)]
  have HST := Lib.hid hst
  clear hst
  unfold groundQ
  by_cases h0 : r < 32
  · rw [if_pos h0]
    go_enter Try.func18, Try.ntmps18
    go_wp2
    go_ret
    exact evq1 (execE r) rfl rfl (Nat.le_refl _) (stQ_refl HP.out)
  rw [if_neg h0]
  by_cases h1 : 127 ≤ r
  · by_cases h2 : r ≤ 159
    · rw [if_pos ⟨h1, h2⟩]
      go_enter Try.func18, Try.ntmps18
      go_wp2
      go_ret
      exact evq0 (stQ_refl HP.out)
    · rw [if_neg (fun e => h2 e.2)]
      go_enter Try.func18, Try.ntmps18
      go_wp2
      go_ret
      exact evq1 (printE r) rfl rfl (Nat.le_refl _) (stQ_refl HP.out)
  · rw [if_neg (fun e => h1 e.1)]
    go_enter Try.func18, Try.ntmps18
    go_wp2
    go_ret
    exact evq1 (printE r) rfl rfl (Nat.le_refl _) (stQ_refl HP.out)
set_option maxRecDepth 100000 in
set_option maxHeartbeats 8000000 in
theorem one1 (r : Int) (g : Nat) (v x : Value) (q : Qs) (w : World) (m : Nat) (h : PrQ w g v x q) (hok : QOk q m) (hm : m ≤ 40000) (n1 : ¬ (r = 24 ∨ r = 26)) (n2 : ¬ r = 27) (hst : q.st = 1) : Calls Try.prog 18 #[.pointer (some ⟨g, 0, none⟩), .int .i32 r] w (EvQ g v x w (oneQ q r).1 (oneQ q r).2) := by
  have HP := Lib.hid h
  have HG := Lib.hid h.lt
  have HOK := Lib.hid hok
  have HM := Lib.hid hm
  obtain ⟨k0, k1, k2, k3, k4, k5, k6⟩ := seven HP.out.row
  obtain ⟨l0, l1, l2, l3, l4, l5, l6⟩ := thawed HP.out.row
  clear h hok hm
  unfold oneQ
  rw [if_neg (show ¬ (r = 24 ∨ r = 26) from n1)]
  have n24 : ¬ r = 24 := fun e => n1 (.inl e)
  have n26 : ¬ r = 26 := fun e => n1 (.inr e)
  have b24 : (r == 24) = false := by rw [beq_eq_false_iff_ne]; exact n24
  have b26 : (r == 26) = false := by rw [beq_eq_false_iff_ne]; exact n26
  have b27 : (r == 27) = false := by rw [beq_eq_false_iff_ne]; exact n2
  rw [if_neg (show ¬ r = 27 from n2)]
  rw [hst] at k0
  rw [if_neg (show ¬ q.st = 0 by rw [hst]; decide)]
  rw [if_pos (show q.st = 1 from hst)]
  have HST := Lib.hid hst
  clear hst
  have HX := Lib.hid (escapeC r g v x q w HP.out)
  go_enter Try.func18, Try.ntmps18
  go_wp2_with (go_at_call 29; (with_reducible refine HX.out.mono ?_); intro e w1 hx; obtain ⟨V, rfl, hx⟩ := hx; have HY := Lib.hid hx; clear hx)
  go_ret
  exact ⟨_, rfl, HY.out⟩
set_option maxRecDepth 100000 in
set_option maxHeartbeats 8000000 in
theorem one2 (r : Int) (g : Nat) (v x : Value) (q : Qs) (w : World) (m : Nat) (h : PrQ w g v x q) (hok : QOk q m) (hm : m ≤ 40000) (n1 : ¬ (r = 24 ∨ r = 26)) (n2 : ¬ r = 27) (hst : q.st = 2) : Calls Try.prog 18 #[.pointer (some ⟨g, 0, none⟩), .int .i32 r] w (EvQ g v x w (oneQ q r).1 (oneQ q r).2) := by
  have HP := Lib.hid h
  have HG := Lib.hid h.lt
  have HOK := Lib.hid hok
  have HM := Lib.hid hm
  obtain ⟨k0, k1, k2, k3, k4, k5, k6⟩ := seven HP.out.row
  obtain ⟨l0, l1, l2, l3, l4, l5, l6⟩ := thawed HP.out.row
  clear h hok hm
  unfold oneQ
  rw [if_neg (show ¬ (r = 24 ∨ r = 26) from n1)]
  have n24 : ¬ r = 24 := fun e => n1 (.inl e)
  have n26 : ¬ r = 26 := fun e => n1 (.inr e)
  have b24 : (r == 24) = false := by rw [beq_eq_false_iff_ne]; exact n24
  have b26 : (r == 26) = false := by rw [beq_eq_false_iff_ne]; exact n26
  have b27 : (r == 27) = false := by rw [beq_eq_false_iff_ne]; exact n2
  rw [if_neg (show ¬ r = 27 from n2)]
  rw [hst] at k0
  rw [if_neg (show ¬ q.st = 0 by rw [hst]; decide)]
  rw [if_neg (show ¬ q.st = 1 by rw [hst]; decide)]
  rw [if_pos (show q.st = 2 from hst)]
  have HST := Lib.hid hst
  clear hst
  have HX := Lib.hid (betweenC r g v x q w HP.out)
  go_enter Try.func18, Try.ntmps18
  go_wp2_with (go_at_call 30; (with_reducible refine HX.out.mono ?_); intro e w1 hx; obtain ⟨V, rfl, hx⟩ := hx; have HY := Lib.hid hx; clear hx)
  go_ret
  exact ⟨_, rfl, HY.out⟩
set_option maxRecDepth 100000 in
set_option maxHeartbeats 8000000 in
theorem one3 (r : Int) (g : Nat) (v x : Value) (q : Qs) (w : World) (m : Nat) (h : PrQ w g v x q) (hok : QOk q m) (hm : m ≤ 40000) (n1 : ¬ (r = 24 ∨ r = 26)) (n2 : ¬ r = 27) (hst : q.st = 3) : Calls Try.prog 18 #[.pointer (some ⟨g, 0, none⟩), .int .i32 r] w (EvQ g v x w (oneQ q r).1 (oneQ q r).2) := by
  have HP := Lib.hid h
  have HG := Lib.hid h.lt
  have HOK := Lib.hid hok
  have HM := Lib.hid hm
  obtain ⟨k0, k1, k2, k3, k4, k5, k6⟩ := seven HP.out.row
  obtain ⟨l0, l1, l2, l3, l4, l5, l6⟩ := thawed HP.out.row
  clear h hok hm
  unfold oneQ
  rw [if_neg (show ¬ (r = 24 ∨ r = 26) from n1)]
  have n24 : ¬ r = 24 := fun e => n1 (.inl e)
  have n26 : ¬ r = 26 := fun e => n1 (.inr e)
  have b24 : (r == 24) = false := by rw [beq_eq_false_iff_ne]; exact n24
  have b26 : (r == 26) = false := by rw [beq_eq_false_iff_ne]; exact n26
  have b27 : (r == 27) = false := by rw [beq_eq_false_iff_ne]; exact n2
  rw [if_neg (show ¬ r = 27 from n2)]
  rw [hst] at k0
  rw [if_neg (show ¬ q.st = 0 by rw [hst]; decide)]
  rw [if_neg (show ¬ q.st = 1 by rw [hst]; decide)]
  rw [if_neg (show ¬ q.st = 2 by rw [hst]; decide)]
  rw [if_pos (show q.st = 3 from hst)]
  have HST := Lib.hid hst
  clear hst
  have HX := Lib.hid (controlC r g v x q w HP.out (HOK.out.pa HST.out) (by have := HOK.out.len; have := HM.out; omega) HOK.out.vals)
  go_enter Try.func18, Try.ntmps18
  go_wp2_with (go_at_call 31; (with_reducible refine HX.out.mono ?_); intro e w1 hx; obtain ⟨V, rfl, hx⟩ := hx; have HY := Lib.hid hx; clear hx)
  go_ret
  exact ⟨_, rfl, HY.out⟩
set_option maxRecDepth 100000 in
set_option maxHeartbeats 8000000 in
theorem one4 (r : Int) (g : Nat) (v x : Value) (q : Qs) (w : World) (m : Nat) (h : PrQ w g v x q) (hok : QOk q m) (hm : m ≤ 40000) (n1 : ¬ (r = 24 ∨ r = 26)) (n2 : ¬ r = 27) (hst : q.st = 4) : Calls Try.prog 18 #[.pointer (some ⟨g, 0, none⟩), .int .i32 r] w (EvQ g v x w (oneQ q r).1 (oneQ q r).2) := by
  have HP := Lib.hid h
  have HG := Lib.hid h.lt
  have HOK := Lib.hid hok
  have HM := Lib.hid hm
  obtain ⟨k0, k1, k2, k3, k4, k5, k6⟩ := seven HP.out.row
  obtain ⟨l0, l1, l2, l3, l4, l5, l6⟩ := thawed HP.out.row
  clear h hok hm
  unfold oneQ
  rw [if_neg (show ¬ (r = 24 ∨ r = 26) from n1)]
  have n24 : ¬ r = 24 := fun e => n1 (.inl e)
  have n26 : ¬ r = 26 := fun e => n1 (.inr e)
  have b24 : (r == 24) = false := by rw [beq_eq_false_iff_ne]; exact n24
  have b26 : (r == 26) = false := by rw [beq_eq_false_iff_ne]; exact n26
  have b27 : (r == 27) = false := by rw [beq_eq_false_iff_ne]; exact n2
  rw [if_neg (show ¬ r = 27 from n2)]
  rw [hst] at k0
  rw [if_neg (show ¬ q.st = 0 by rw [hst]; decide)]
  rw [if_neg (show ¬ q.st = 1 by rw [hst]; decide)]
  rw [if_neg (show ¬ q.st = 2 by rw [hst]; decide)]
  rw [if_neg (show ¬ q.st = 3 by rw [hst]; decide)]
  rw [if_pos (show q.st = 4 from hst)]
  have HST := Lib.hid hst
  clear hst
  unfold commandQ
  by_cases h7 : r = 7
  · rw [if_pos h7]
    subst h7
    have HX := Lib.hid (toldC g v x q w HP.out (Nat.le_trans HOK.out.tx (by decide)))
    go_enter Try.func18, Try.ntmps18
    go_wp2_with (go_at_call 32; (with_reducible refine HX.out.mono ?_); intro e w1 hx; obtain ⟨V, rfl, hx⟩ := hx; have HY := Lib.hid hx; clear hx)
    go_ret
    exact ⟨_, rfl, HY.out⟩
  rw [if_neg h7]
  by_cases h8 : r < 32
  · rw [if_pos (.inl h8)]
    go_enter Try.func18, Try.ntmps18
    go_wp2
    go_ret
    exact evq0 (stQ_refl HP.out)
  by_cases h9 : r = 127
  · rw [if_pos (.inr h9)]
    subst h9
    go_enter Try.func18, Try.ntmps18
    go_wp2
    go_ret
    exact evq0 (stQ_refl HP.out)
  rw [if_neg (show ¬ (r < 32 ∨ r = 127) by omega)]
  have b127 : (r == 127) = false := by rw [beq_eq_false_iff_ne]; exact h9
  have b7 : (r == 7) = false := by rw [beq_eq_false_iff_ne]; exact h7
  obtain ⟨xa, xc, hx⟩ := slice_own HP.out.tx
  subst hx
  by_cases hl : q.tx.length < 128
  · rw [if_pos hl]
    have HS1 := Lib.hid (stQ_alloc HP.out (.cells #[.int .i32 r] 21))
    have HKL := Lib.hid (show (w.alloc (.cells #[.int .i32 r] 21)).cell? ⟨w.heap.size, 0, none⟩ = some (.int .i32 r) by rw [cell_of_row _ _ 0 _ 21 (0, 0) (heap_alloc_last w (.cells #[.int .i32 r] 21))]; rfl)
    have HN := Lib.hid (show q.tx.length + 1 ≤ 100000 by omega)
    go_enter Try.func18, Try.ntmps18
    go_wp2_with (at_builtin; (refine app_one rfl _ _ rfl info21 Try.underlying22 rfl (by decide) (.slice xa q.tx.length xc) q.tx.length (rv q.tx) rfl (StQ.pr HS1.out).tx w.heap.size rfl HKL.out rfl HN.out ?_; intro v4 w4 o4 b4 n4; obtain ⟨na, nc, rfl⟩ := own_slice o4; have HS4 := Lib.hid (put6 (q' := { q with tx := q.tx ++ [r] }) HS1.out o4 b4 n4 HG.out rfl); have HG4 := Lib.hid ((b4.block _ (StQ.pr HS1.out).lt (fun e => (StQ.pr HS1.out).other.2 e.symm)).trans (StQ.pr HS1.out).row); clear k0 k1 k2 k3 k4 k5 k6 l0 l1 l2 l3 l4 l5 l6; obtain ⟨k0, k1, k2, k3, k4, k5, k6⟩ := seven HG4.out; obtain ⟨l0, l1, l2, l3, l4, l5, l6⟩ := thawed HG4.out; clear o4 b4 n4))
    go_ret
    exact evq0 HS4.out
  · rw [if_neg hl]
    have hli : ¬ (q.tx.length : Int) < 128 := by omega
    go_enter Try.func18, Try.ntmps18
    go_wp2
    go_ret
    exact evq0 (stQ_refl HP.out)
set_option maxRecDepth 100000 in
set_option maxHeartbeats 8000000 in
theorem one6 (r : Int) (g : Nat) (v x : Value) (q : Qs) (w : World) (m : Nat) (h : PrQ w g v x q) (hok : QOk q m) (hm : m ≤ 40000) (n1 : ¬ (r = 24 ∨ r = 26)) (n2 : ¬ r = 27) (hst : q.st = 6) : Calls Try.prog 18 #[.pointer (some ⟨g, 0, none⟩), .int .i32 r] w (EvQ g v x w (oneQ q r).1 (oneQ q r).2) := by
  have HP := Lib.hid h
  have HG := Lib.hid h.lt
  have HOK := Lib.hid hok
  have HM := Lib.hid hm
  obtain ⟨k0, k1, k2, k3, k4, k5, k6⟩ := seven HP.out.row
  obtain ⟨l0, l1, l2, l3, l4, l5, l6⟩ := thawed HP.out.row
  clear h hok hm
  unfold oneQ
  rw [if_neg (show ¬ (r = 24 ∨ r = 26) from n1)]
  have n24 : ¬ r = 24 := fun e => n1 (.inl e)
  have n26 : ¬ r = 26 := fun e => n1 (.inr e)
  have b24 : (r == 24) = false := by rw [beq_eq_false_iff_ne]; exact n24
  have b26 : (r == 26) = false := by rw [beq_eq_false_iff_ne]; exact n26
  have b27 : (r == 27) = false := by rw [beq_eq_false_iff_ne]; exact n2
  rw [if_neg (show ¬ r = 27 from n2)]
  rw [hst] at k0
  rw [if_neg (show ¬ q.st = 0 by rw [hst]; decide)]
  rw [if_neg (show ¬ q.st = 1 by rw [hst]; decide)]
  rw [if_neg (show ¬ q.st = 2 by rw [hst]; decide)]
  rw [if_neg (show ¬ q.st = 3 by rw [hst]; decide)]
  rw [if_neg (show ¬ q.st = 4 by rw [hst]; decide)]
  rw [if_pos (show q.st = 6 from hst)]
  have HST := Lib.hid hst
  clear hst
  by_cases h9 : r = 92
  · rw [if_pos h9]
    subst h9
    have HX := Lib.hid (toldC g v x q w HP.out (Nat.le_trans HOK.out.tx (by decide)))
    go_enter Try.func18, Try.ntmps18
    go_wp2_with (go_at_call 32; (with_reducible refine HX.out.mono ?_); intro e w1 hx; obtain ⟨V, rfl, hx⟩ := hx; have HY := Lib.hid hx; clear hx)
    go_ret
    exact ⟨_, rfl, HY.out⟩
  · rw [if_neg h9]
    have HX := Lib.hid (escapeC r g v x q w HP.out)
    go_enter Try.func18, Try.ntmps18
    go_wp2_with (go_at_call 29; (with_reducible refine HX.out.mono ?_); intro e w1 hx; obtain ⟨V, rfl, hx⟩ := hx; have HY := Lib.hid hx; clear hx)
    go_ret
    exact ⟨_, rfl, HY.out⟩
set_option maxRecDepth 100000 in
set_option maxHeartbeats 8000000 in
theorem one7 (r : Int) (g : Nat) (v x : Value) (q : Qs) (w : World) (m : Nat) (h : PrQ w g v x q) (hok : QOk q m) (hm : m ≤ 40000) (n1 : ¬ (r = 24 ∨ r = 26)) (n2 : ¬ r = 27) (hst : q.st = 7) : Calls Try.prog 18 #[.pointer (some ⟨g, 0, none⟩), .int .i32 r] w (EvQ g v x w (oneQ q r).1 (oneQ q r).2) := by
  have HP := Lib.hid h
  have HG := Lib.hid h.lt
  have HOK := Lib.hid hok
  have HM := Lib.hid hm
  obtain ⟨k0, k1, k2, k3, k4, k5, k6⟩ := seven HP.out.row
  obtain ⟨l0, l1, l2, l3, l4, l5, l6⟩ := thawed HP.out.row
  clear h hok hm
  unfold oneQ
  rw [if_neg (show ¬ (r = 24 ∨ r = 26) from n1)]
  have n24 : ¬ r = 24 := fun e => n1 (.inl e)
  have n26 : ¬ r = 26 := fun e => n1 (.inr e)
  have b24 : (r == 24) = false := by rw [beq_eq_false_iff_ne]; exact n24
  have b26 : (r == 26) = false := by rw [beq_eq_false_iff_ne]; exact n26
  have b27 : (r == 27) = false := by rw [beq_eq_false_iff_ne]; exact n2
  rw [if_neg (show ¬ r = 27 from n2)]
  rw [hst] at k0
  rw [if_neg (show ¬ q.st = 0 by rw [hst]; decide)]
  rw [if_neg (show ¬ q.st = 1 by rw [hst]; decide)]
  rw [if_neg (show ¬ q.st = 2 by rw [hst]; decide)]
  rw [if_neg (show ¬ q.st = 3 by rw [hst]; decide)]
  rw [if_neg (show ¬ q.st = 4 by rw [hst]; decide)]
  rw [if_neg (show ¬ q.st = 6 by rw [hst]; decide)]
  rw [if_pos (show q.st = 7 from hst)]
  have HST := Lib.hid hst
  clear hst
  by_cases h9 : r = 92
  · rw [if_pos h9]
    subst h9
    go_enter Try.func18, Try.ntmps18
    go_wp2
    go_ret
    exact evq0 (put0 HP.out 0)
  · rw [if_neg h9]
    have HX := Lib.hid (escapeC r g v x q w HP.out)
    go_enter Try.func18, Try.ntmps18
    go_wp2_with (go_at_call 29; (with_reducible refine HX.out.mono ?_); intro e w1 hx; obtain ⟨V, rfl, hx⟩ := hx; have HY := Lib.hid hx; clear hx)
    go_ret
    exact ⟨_, rfl, HY.out⟩
set_option maxRecDepth 100000 in
set_option maxHeartbeats 8000000 in
theorem one5 (r : Int) (g : Nat) (v x : Value) (q : Qs) (w : World) (m : Nat) (h : PrQ w g v x q) (hok : QOk q m) (hm : m ≤ 40000) (n1 : ¬ (r = 24 ∨ r = 26)) (n2 : ¬ r = 27) (hst : q.st = 5) : Calls Try.prog 18 #[.pointer (some ⟨g, 0, none⟩), .int .i32 r] w (EvQ g v x w (oneQ q r).1 (oneQ q r).2) := by
  have HP := Lib.hid h
  have HG := Lib.hid h.lt
  have HOK := Lib.hid hok
  have HM := Lib.hid hm
  obtain ⟨k0, k1, k2, k3, k4, k5, k6⟩ := seven HP.out.row
  obtain ⟨l0, l1, l2, l3, l4, l5, l6⟩ := thawed HP.out.row
  clear h hok hm
  unfold oneQ
  rw [if_neg (show ¬ (r = 24 ∨ r = 26) from n1)]
  have n24 : ¬ r = 24 := fun e => n1 (.inl e)
  have n26 : ¬ r = 26 := fun e => n1 (.inr e)
  have b24 : (r == 24) = false := by rw [beq_eq_false_iff_ne]; exact n24
  have b26 : (r == 26) = false := by rw [beq_eq_false_iff_ne]; exact n26
  have b27 : (r == 27) = false := by rw [beq_eq_false_iff_ne]; exact n2
  rw [if_neg (show ¬ r = 27 from n2)]
  rw [hst] at k0
  rw [if_neg (show ¬ q.st = 0 by rw [hst]; decide)]
  rw [if_neg (show ¬ q.st = 1 by rw [hst]; decide)]
  rw [if_neg (show ¬ q.st = 2 by rw [hst]; decide)]
  rw [if_neg (show ¬ q.st = 3 by rw [hst]; decide)]
  rw [if_neg (show ¬ q.st = 4 by rw [hst]; decide)]
  rw [if_neg (show ¬ q.st = 6 by rw [hst]; decide)]
  rw [if_neg (show ¬ q.st = 7 by rw [hst]; decide)]
  go_enter Try.func18, Try.ntmps18
  go_wp2
  go_ret
  exact evq0 (stQ_refl HP.out)
theorem oneC (r : Int) (g : Nat) (v x : Value) (q : Qs) (w : World) (m : Nat) (h : PrQ w g v x q) (hok : QOk q m) (hm : m ≤ 40000) (hle : q.st ≤ 7) : Calls Try.prog 18 #[.pointer (some ⟨g, 0, none⟩), .int .i32 r] w (EvQ g v x w (oneQ q r).1 (oneQ q r).2) := by
  by_cases n1 : r = 24 ∨ r = 26
  · exact oneCan r g v x q w m h hok hm n1
  by_cases n2 : r = 27
  · exact oneEsc r g v x q w m h hok hm n2
  rcases (show q.st = 0 ∨ q.st = 1 ∨ q.st = 2 ∨ q.st = 3 ∨ q.st = 4 ∨ q.st = 5 ∨ q.st = 6 ∨ q.st = 7 by omega) with s | s | s | s | s | s | s | s
  · exact one0 r g v x q w m h hok hm n1 n2 s
  · exact one1 r g v x q w m h hok hm n1 n2 s
  · exact one2 r g v x q w m h hok hm n1 n2 s
  · exact one3 r g v x q w m h hok hm n1 n2 s
  · exact one4 r g v x q w m h hok hm n1 n2 s
  · exact one5 r g v x q w m h hok hm n1 n2 s
  · exact one6 r g v x q w m h hok hm n1 n2 s
  · exact one7 r g v x q w m h hok hm n1 n2 s

end Go.Proofs.Ytnaiefjbfpejbaa.Jo
