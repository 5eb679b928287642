/- Clocks: the examples of chapter 22. -/
import Derived.Test.YtilblkccophnnaaCkE
import Derived.Test.YtilblkccophnnaaCkN
set_option linter.unusedVariables false
namespace Go.Proofs.Ytilblkccophnnaa.CkF
open Go Go.RowKit Kit Nums Scale Scale2 Scales CkMath CkC CkD CkE CkN

def k0 : Ck := ⟨0, 10, 0, 3, 2⟩
def k1 : Ck := ⟨3, 14, 1, 3, 2⟩
def k2 : Ck := ⟨4, 16, 0, 3, 2⟩
theorem may0 : mayN 3 2 = true := by decide
theorem ok0 : Ckk k0 := ⟨⟨by decide, by decide, by decide⟩, may0, by decide⟩
theorem ok1 : Ckk k1 := ⟨⟨by decide, by decide, by decide⟩, may0, by decide⟩
theorem r0 : (reach k0 3).1 = 14 := by decide
theorem g0 : go k0 3 = k1 := by rfl
theorem g1 : go k1 1 = k1 := by rfl
theorem g2 : go k1 4 = k2 := by rfl
theorem new0 (w : World) : Calls Try.prog 8 #[.int .u64 0, .int .u64 10, .agg #[.int .u64 3, .int .u64 2]] w fun e w' => ∃ q, w.heap.size ≤ q ∧ e = .returned (.tuple #[.pointer (some ⟨q, 0, none⟩), .int .i64 0]) ∧ Cl 55 w' q k0 ∧ Below w.heap.size w w' := by
  refine (newC 0 10 3 2 w (by decide) (by decide)).mono ?_
  rintro e w' (⟨_, _, _, ⟨q, hq, rfl, hc⟩, hb⟩ | ⟨hno, _, _⟩)
  · exact ⟨q, hq, rfl, hc, hb⟩
  · exact absurd ⟨may0, by decide, by decide⟩ hno
/-- Go, within what lies above w. -/
theorem goF {w W : World} {p : Nat} {c g : Ck} (t : Nat) (h : Cl 55 W p c) (hk : Ckk c) (ht : t < 18446744073709551616) (hg : go c t = g) (hb : Below w.heap.size w W) (hp : w.heap.size ≤ p) :
    Calls Try.prog 11 #[.pointer (some ⟨p, 0, none⟩), .int .u64 (t : Int)] W fun e W' => e = .returned (.int .u64 (g.pos : Int)) ∧ Cl 55 W' p g ∧ Below w.heap.size w W' := by
  refine (goC p c t W h hk ht).mono ?_
  rintro e W' ⟨rfl, hc, hgr⟩
  rw [hg] at hc ⊢
  exact ⟨rfl, hc, below_of_grown hb hgr hp⟩
set_option maxRecDepth 100000 in
set_option maxHeartbeats 1000000 in
theorem first (w : World) : Calls Try.prog 7 #[] w fun e w' => e = .returned (.bool true) ∧ Below w.heap.size w w' := by
  go_enter Try.func7, Try.ntmps7
  go_wp2_with fail
  refine (new0 w).mono ?_
  rintro e w1 ⟨p, hp, rfl, hc, hb⟩
  go_wp2_with fail
  refine (atCC p k0 3 w1 hc ok0 (by decide)).mono ?_
  rw [r0]
  rintro e w2 ⟨rfl, hb2⟩
  replace hc := hc.then_ hb2
  replace hb := below_next hb hb2
  clear hb2
  go_wp2_with fail
  refine (goF 3 hc ok0 (by decide) g0 hb hp).mono ?_
  clear hc hb
  rintro e w3 ⟨rfl, hc, hb⟩
  go_wp2_with fail
  refine (restC p k1 w3 hc).mono ?_
  rintro e w4 ⟨rfl, rfl⟩
  go_wp2_with fail
  refine (goF 1 hc ok1 (by decide) g1 hb hp).mono ?_
  clear hc hb
  rintro e w4 ⟨rfl, hc, hb⟩
  go_wp2_with fail
  refine (goF 4 hc ok1 (by decide) g2 hb hp).mono ?_
  clear hc hb
  rintro e w5 ⟨rfl, hc, hb⟩
  go_wp2
  go_ret
  exact ⟨rfl, hb⟩
end Go.Proofs.Ytilblkccophnnaa.CkF
