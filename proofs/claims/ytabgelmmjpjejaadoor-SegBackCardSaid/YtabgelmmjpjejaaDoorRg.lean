/- Records: the contracts that laws use. -/
import Derived.Test.YtabgelmmjpjejaaDoorRf
import Derived.Test.YtabgelmmjpjejaaDoorArgB
set_option linter.unusedVariables false
namespace Go.Proofs.YtabgelmmjpjejaaDoor.Rg
open Go Go.RowKit Kit Crc Var Get Ref3 Copy Bytes Bx Py Py2 Ry Rz Dn Df Dd Da Dc Rs Rf


/-- what Encode answers, where it may be. -/
def SlP (X : List Nat) (w : World) (e : Ending) (w' : World) : Prop := ∃ xb xo xc, e = .returned (.tuple #[.slice (some ⟨xb, xo, none⟩) X.length xc, .int .i64 0]) ∧ Sl w' (some ⟨xb, xo, none⟩) X ∧ X.length ≤ xc ∧ w.heap.size ≤ xb ∧ Below w.heap.size w w'
theorem encY (K s t : Nat) (a : Option Addr) (m cap : Nat) (l X : List Nat) (w : World) (hX : X = recL K s t l) (e : m = l.length) (hm : mayR (K : Int) s t l.length = true) (hs : Sl w a l) (h0 : a = none → cap = 0) (hcap : l.length ≤ cap) (hl : ∀ c ∈ l, c < 256) (hn : l.length ≤ 900000) (hT : TabC w) :
    Calls Tryd.prog 11 #[.agg #[.int .i64 (K : Int), .int .u64 (s : Int), .int .u64 (t : Int), .slice a m cap]] w (SlP X w) := by
  subst e hX
  refine (encYes K s t a cap l w hm hs h0 hcap hl hn hT).mono ?_
  rintro e w' ⟨xa, xc, rfl, h1, _, h3, h4, b⟩
  obtain ⟨xb, xo, rfl, _⟩ := sl_at h1 (by rw [recL_len]; omega)
  exact ⟨xb, xo, xc, rfl, h1, h3, h4 _ rfl, b⟩
theorem encN (k : Int) (s t : Nat) (a : Option Addr) (m cap : Nat) (l : List Nat) (w : World) (e : m = l.length) (hm : mayR k s t l.length = false) :
    Calls Tryd.prog 11 #[.agg #[.int .i64 k, .int .u64 (s : Int), .int .u64 (t : Int), .slice a m cap]] w fun e w' => ∃ xa xc, e = .returned (.tuple #[.slice xa 0 xc, .int .i64 1]) ∧ Below w.heap.size w w' := by
  subst e
  refine (encNo k s t a cap l w hm).mono ?_
  rintro e w' ⟨xa, xc, rfl, _, _, _, _, b⟩
  exact ⟨xa, xc, rfl, b⟩
theorem decK (a : Option Addr) (n cap : Nat) (l : List Nat) (p : Int) (K s t : Nat) (b : List Nat) (nn E : Nat) (w : World) (hn : n = l.length) (hD : decA l p = ⟨0, K, s, t, b, nn⟩) (hE : (E : Int) = p + nn) (hs : Sl w a l) (hcap : l.length ≤ cap) (hl : ∀ c ∈ l, c < 256) (hlen : l.length ≤ 90000) (hT : TabC w) :
    Calls Tryd.prog 14 #[.slice a n cap, .int .i64 p] w fun e w' => ∃ ya yc, e = .returned (.tuple #[.agg #[.int .i64 (K : Int), .int .u64 (s : Int), .int .u64 (t : Int), .slice ya b.length yc], .int .i64 (E : Int), .int .i64 0]) ∧ Sl w' ya b ∧ Below w.heap.size w w' := by
  refine (decAll a n cap l p _ (E : Int) w hn hD.symm (by rw [endA, if_pos rfl]; exact hE) hs hcap hl hlen hT).mono ?_
  rintro e w' ⟨ya, yc, rfl, h1, _, _, _, b⟩
  exact ⟨ya, yc, rfl, h1, b⟩
theorem decE (a : Option Addr) (n cap : Nat) (l : List Nat) (p : Int) (x : Nat) (w : World) (hn : n = l.length) (hD : decA l p = bad x) (hx : x ≠ 0) (hs : Sl w a l) (hcap : l.length ≤ cap) (hl : ∀ c ∈ l, c < 256) (hlen : l.length ≤ 90000) (hT : TabC w) :
    Calls Tryd.prog 14 #[.slice a n cap, .int .i64 p] w fun e w' => ∃ ya yc, e = .returned (.tuple #[.agg #[.int .i64 0, .int .u64 0, .int .u64 0, .slice ya 0 yc], .int .i64 0, .int .i64 (x : Int)]) ∧ Below w.heap.size w w' := by
  refine (decAll a n cap l p _ 0 w hn hD.symm (by rw [endA, if_neg (show ¬ (bad x).e = 0 from hx)]) hs hcap hl hlen hT).mono ?_
  rintro e w' ⟨ya, yc, rfl, h1, _, _, _, b⟩
  exact ⟨ya, yc, rfl, b⟩
theorem dec_at {K s t : Nat} {l A : List Nat} (z : List Nat) (h : mayR (K : Int) s t l.length = true) : decA (A ++ recL K s t l ++ z) (A.length : Int) = ⟨0, K, s, t, l, (recL K s t l).length⟩ := by
  rw [decA, if_neg (by simp; omega), show ((A.length : Int)).toNat = A.length by omega, List.append_assoc, drop_at rfl]
  exact dec_on K s t l z h
theorem sub_front {b o n m cap : Nat} (hm : m ≤ n) (h0 : 0 < n) (hc : n ≤ cap) (w1 : World) : (Instr.sliceAt 23 (.slice (some ⟨b, o, none⟩) n cap) none (some (.int .i64 (m : Int))) none).run Tryd.prog w1 = .ok (.slice (some ⟨b, o, none⟩) m cap) w1 := by
  rw [run_sub (some ⟨b, o, none⟩) n cap none (some (.int .i64 (m : Int))) 0 m w1 lo_none (hi_some rfl) (Nat.zero_le _) hm hc]
  unfold sliced; rw [if_neg (by omega)]; rfl
theorem rec_same {K1 s1 t1 K2 s2 t2 : Nat} {l1 l2 : List Nat} (h1 : mayR (K1 : Int) s1 t1 l1.length = true) (h2 : mayR (K2 : Int) s2 t2 l2.length = true) : decide (recL K1 s1 t1 l1 = recL K2 s2 t2 l2) = sameR (K1 : Int) s1 t1 l1 (K2 : Int) s2 t2 l2 := by
  by_cases h : recL K1 s1 t1 l1 = recL K2 s2 t2 l2
  · obtain ⟨rfl, rfl, rfl, rfl⟩ := rec_inj h1 h2 h
    simp [sameR]
  · rw [decide_eq_false h]
    symm
    simp only [sameR, Bool.and_eq_false_iff, decide_eq_false_iff_not]
    by_cases a1 : K1 = K2
    · by_cases a2 : s1 = s2
      · by_cases a3 : t1 = t2
        · right; intro a4; exact h (by rw [a1, a2, a3, a4])
        · left; right; exact a3
      · left; left; right; exact a2
    · left; left; left; omega
theorem may_nat {k : Int} {s t n : Nat} (h : mayR k s t n = true) : ∃ K : Nat, k = (K : Int) ∧ K < 256 := ⟨k.toNat, by have := (mayR_of h).1; omega, by have := (mayR_of h).1; omega⟩

end Go.Proofs.YtabgelmmjpjejaaDoor.Rg
