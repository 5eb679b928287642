/- A control that is written: what the walk asks. -/
import Derived.Test.YtnaiefjbfpejbaaGd
import Derived.Test.YtnaiefjbfpejbaaHc
set_option linter.unusedVariables false
namespace Go.Proofs.Ytnaiefjbfpejbaa.Hd
open Go Go.RowKit Kit Ep Eb Er Ea Es Et Eu Ev Ek Ew Ex Ey Ez Fa Fb Fc Fd Ga Gb Gc Gd Ha Hb Hc


theorem own_ints {w : World} {a : Option Addr} {n c : Nat} {l : List Int} (h : w.ownsRow 0 3 1 (.slice a n c) l.length (iv l)) (hn : n = l.length) : Ints.Ints w a l := by
  rcases h.2 with ⟨e, h0⟩ | ⟨g1, cap, cur, e, _, _⟩
  · exact .inl (List.eq_nil_of_length_eq_zero h0)
  · injection e with e1 e2 e3
    refine .inr ⟨g1, 0, e1, fun i hi => ?_⟩
    subst e1 hn
    rw [Nat.zero_add, h.cellAt i (by omega)]
    simp [iv, hi]
theorem fc00 (ps : List Int) (fi : Int) (hn : ps.length ≤ 16) (hfi : 64 ≤ fi ∧ fi ≤ 126) : feedM (bg 0) ([27, 91] ++ bodyN ps ps.length ++ [fi]) = (bg 0, [⟨4, 0, paN ps ps.length, 0, 0, fi, ⟨#[]⟩⟩]) := by
  have h := feed_control ps 0 0 fi hn (.inl rfl) (.inl rfl) hfi
  rw [if_pos rfl, List.append_nil, List.append_nil] at h
  exact h
theorem fc01 (ps : List Int) (it fi : Int) (hn : ps.length ≤ 16) (hit : it = 0 ∨ 32 ≤ it ∧ it ≤ 47) (h0 : ¬ it = 0) (hfi : 64 ≤ fi ∧ fi ≤ 126) : feedM (bg 0) ([27, 91] ++ bodyN ps ps.length ++ [it] ++ [fi]) = (bg 0, [⟨4, 0, paN ps ps.length, 0, it, fi, ⟨#[]⟩⟩]) := by
  have h := feed_control ps 0 it fi hn (.inl rfl) hit hfi
  rw [if_neg h0, if_pos rfl, List.append_nil] at h
  exact h
theorem fc10 (ps : List Int) (pv fi : Int) (hn : ps.length ≤ 16) (hpv : pv = 0 ∨ 60 ≤ pv ∧ pv ≤ 63) (h0 : ¬ pv = 0) (hfi : 64 ≤ fi ∧ fi ≤ 126) : feedM (bg 0) ([27, 91] ++ [pv] ++ bodyN ps ps.length ++ [fi]) = (bg 0, [⟨4, 0, paN ps ps.length, pv, 0, fi, ⟨#[]⟩⟩]) := by
  have h := feed_control ps pv 0 fi hn hpv (.inl rfl) hfi
  rw [if_neg h0, if_pos rfl, List.append_nil] at h
  exact h
theorem fc11 (ps : List Int) (pv it fi : Int) (hn : ps.length ≤ 16) (hpv : pv = 0 ∨ 60 ≤ pv ∧ pv ≤ 63) (hit : it = 0 ∨ 32 ≤ it ∧ it ≤ 47) (h0 : ¬ pv = 0) (h1 : ¬ it = 0) (hfi : 64 ≤ fi ∧ fi ≤ 126) : feedM (bg 0) ([27, 91] ++ [pv] ++ bodyN ps ps.length ++ [it] ++ [fi]) = (bg 0, [⟨4, 0, paN ps ps.length, pv, it, fi, ⟨#[]⟩⟩]) := by
  have h := feed_control ps pv it fi hn hpv hit hfi
  rw [if_neg h0, if_neg h1] at h
  exact h
theorem decK (m : Int) (n : Nat) (hm : m = (n : Int)) (hn : n < 18446744073709551616) (w : World) : Calls Try.prog 15 #[.int .u64 m] w fun e w' => e = .returned (.string (strOfNums (decL n))) ∧ Below w.heap.size w w' := by
  subst hm; exact decC n hn w

end Go.Proofs.Ytnaiefjbfpejbaa.Hd
