/- Reading as the document does: numbers, and what stands in four bytes. -/
import Derived.Test.YtabgelmmjpjejaaDoorBg
import Derived.Test.YtabgelmmjpjejaaDoorRt
import Derived.Test.YtabgelmmjpjejaaDoorDc
set_option linter.unusedVariables false
namespace Go.Proofs.YtabgelmmjpjejaaDoor.Rw
open Go Go.RowKit Kit Crc Var Get Ref3 Copy Bytes Bx Py Py2 Ry Dn Df Dd Da Dc Rs Rf Rg Bg Rt


theorem dgetOk (a : Option Addr) (m cap : Nat) (l : List Nat) (p n k : Nat) (w : World) (hm : m = l.length) (hl : ∀ c ∈ l, c < 256) (hn : l.length ≤ 9223372036854775000) (hc : Sl w a l) (hp : p ≤ l.length)
    (hx : getF (l.drop p) 0 0 = (n, k, 0)) (q : Nat) (hq : q = p + k) : Calls Tryd.prog 43 #[.slice a m cap, .int .i64 (p : Int)] w fun e w' => e = .returned (.tuple #[.int .u64 (n : Int), .int .i64 (q : Int), .int .i64 0]) ∧ w = w' := by
  subst hm
  have K := get37 a cap l (p : Int) w hl hn hc
  unfold GetP at K
  rw [getA_in hp, hx] at K
  dsimp only at K
  have e : end_ (n, k, 0) p = (q : Int) := by rw [end_, if_pos rfl, hq]; simp
  rw [e] at K
  exact K
theorem dgetX (a : Option Addr) (m cap : Nat) (l : List Nat) (p x : Nat) (w : World) (hm : m = l.length) (hl : ∀ c ∈ l, c < 256) (hn : l.length ≤ 9223372036854775000) (hc : Sl w a l) (hp : p ≤ l.length)
    (hx : (getF (l.drop p) 0 0).2.2 = x) : Calls Tryd.prog 43 #[.slice a m cap, .int .i64 (p : Int)] w fun e w' => ∃ A B, e = .returned (.tuple #[.int .u64 A, .int .i64 B, .int .i64 (x : Int)]) ∧ w = w' := by
  subst hm
  have K := get37 a cap l (p : Int) w hl hn hc
  unfold GetP at K
  rw [getA_in hp, hx] at K
  exact K.mono fun e w' h => ⟨_, _, h.1, h.2⟩
theorem four_back {l : List Nat} (h4 : l.length = 4) (hl : ∀ c ∈ l, c < 256) : fourL ((numL l : Nat) : Int) = l := by
  match l, h4 with
  | [a, b, c, d], _ =>
    have ha := hl a (by simp)
    have hb := hl b (by simp)
    have hc := hl c (by simp)
    have hd := hl d (by simp)
    simp only [numL, fourL, List.foldl]
    congr 1
    · omega
    · congr 1
      · omega
      · congr 1
        · omega
        · congr 1
          omega
theorem num_ne {l : List Nat} {C : Nat} (h4 : l.length = 4) (hl : ∀ c ∈ l, c < 256) (h : ¬ l = fourL (C : Int)) : ((C : Int) != ((numL l : Nat) : Int)) = true := by
  rw [bne_iff_ne]
  intro e
  apply h
  have := four_back h4 hl
  rw [e]; exact this.symm
theorem num_eq {l : List Nat} {C : Nat} (hC : C < 4294967296) (h : l = fourL (C : Int)) : numL l = C := by rw [h]; exact four_num C hC
theorem num_lt {l : List Nat} (h4 : l.length = 4) (hl : ∀ c ∈ l, c < 256) : numL l < 4294967296 := by
  have := numL_lt l hl
  rw [h4] at this; exact this
theorem pk31 {w : World} {g : Nat} {x0 x1 x2 x3 : Value} (h : w.heap[g]? = some (.cells #[x0, x1, x2, x3] 31 (0, 0))) (y0 y1 y2 y3 : Value) :
    ((((w.setCell ⟨g, 0, none⟩ y0).setCell ⟨g, 1, none⟩ y1).setCell ⟨g, 2, none⟩ y2).setCell ⟨g, 3, none⟩ y3).heap[g]? = some (.cells #[y0, y1, y2, y3] 31 (0, 0)) := by
  have a0 := heap_setCell_same w g 0 _ 31 y0 h
  have a1 := heap_setCell_same _ g 1 _ 31 y1 a0
  have a2 := heap_setCell_same _ g 2 _ 31 y2 a1
  have a3 := heap_setCell_same _ g 3 _ 31 y3 a2
  rw [a3]; rfl
theorem bigN (a : Option Addr) (n cap : Nat) (l : List Nat) (V : Nat) (w : World) (hn : n = l.length) (h4 : l.length = 4) (hl : ∀ c ∈ l, c < 256) (hV : V = numL l) (hs : Sl w a l) :
    Calls Tryd.prog 23 #[.slice a n cap] w fun e w' => e = .returned (.int .u64 (V : Int)) ∧ w = w' := by
  subst hV
  exact bigC a n cap l w hn (by omega) hl hs
theorem sl_drewN {w : World} {a : Option Addr} {l : List Nat} (h : Sl w a l) (n : Nat) : Sl (w.drewN n) a l := h
theorem copyQ (y : Addr) (n cap : Nat) (l : List Nat) (w : World) (hn : n = l.length) (hm : l.length ≤ 1000000) (hc : Sl w (some y) l) : Calls Tryd.prog 21 #[.slice (some y) n cap] w (SlQ l w) := by
  subst hn
  refine (copyC (some y) cap l w hm hc (fun h => by cases h)).mono ?_
  rintro e w' ⟨v, rfl, o, b⟩
  exact slQ_of o b

end Go.Proofs.YtabgelmmjpjejaaDoor.Rw
