/- tiklaw10.TabsPlay: both stops side by side. No statement of its own. -/
import Derived.Test.YtkpneocolbmnpaaTabsR4
set_option linter.unusedVariables false
namespace Go.Proofs.Ytkpneocolbmnpaa.TabsPl
open Go Go.RowKit Kit Ints TabsMath Tabs TabsR

/-- the stops at p (columns in block b) and the document's at q (columns from base on). -/
structure Mid (w : World) (p q b base : Nat) (l1 l2 : List Bool) (W : World) : Prop where
  st : St W p b l1
  sr : Sr W q base l2
  hp : p < base
  hq : q < base
  wp : w.heap.size ≤ p
  wb : w.heap.size ≤ b
  wq : w.heap.size ≤ q
  bel : Below w.heap.size w W
def Both (w : World) (p q b base : Nat) (l1 l2 : List Bool) (W : World) : Prop := Mid w p q b base l1 l2 W ∧ b < base
/-- a play in a block of its own. -/
def Pl (W : World) (o : Nat) (k c n : Int) : Prop := W.heap[o]? = some (.cells #[.int .i64 k, .int .i64 c, .int .i64 n] 51 (0, 0))
theorem Pl.c0 {W : World} {o : Nat} {k c n : Int} (h : Pl W o k c n) : W.cell? ⟨o, 0, none⟩ = some (.int .i64 k) := by have h' : W.heap[o]? = _ := h; simp [World.cell?, h']
theorem Pl.c1 {W : World} {o : Nat} {k c n : Int} (h : Pl W o k c n) : W.cell? ⟨o, 1, none⟩ = some (.int .i64 c) := by have h' : W.heap[o]? = _ := h; simp [World.cell?, h']
theorem Pl.c2 {W : World} {o : Nat} {k c n : Int} (h : Pl W o k c n) : W.cell? ⟨o, 2, none⟩ = some (.int .i64 n) := by have h' : W.heap[o]? = _ := h; simp [World.cell?, h']
theorem Pl.then_ {W W' : World} {o : Nat} {k c n : Int} (h : Pl W o k c n) (hb : Below W.heap.size W W') : Pl W' o k c n := (hb.block o (lt_of_block h)).trans h
theorem Pl.grown {W W' : World} {o r : Nat} {k c n : Int} {cs : Array Value} {t : TypeId} {z : Nat × Nat} (h : Pl W o k c n) (hg : W.grownBy W' (some r)) (hr : W.heap[r]? = some (.cells cs t z)) (ht : t ≠ 51) : Pl W' o k c n := by
  refine (hg.block o (lt_of_block h) (fun e => ?_)).trans h
  injection e with e
  subst e
  have h' : W.heap[o]? = _ := h
  rw [h'] at hr
  injection hr with hr
  injection hr with h1 h2 h3
  exact ht h2.symm
theorem st_heap {W : World} {p b : Nat} {l : List Bool} (h : St W p b l) : ∃ cs, W.heap[b]? = some (.cells cs 4 (0, 0)) := by
  obtain ⟨_, cs, h2, _⟩ := h
  exact ⟨cs, h2⟩
theorem ne_type {W : World} {x y : Nat} {cs ds : Array Value} {s t : TypeId} {z z' : Nat × Nat} (hx : W.heap[x]? = some (.cells cs s z)) (hy : W.heap[y]? = some (.cells ds t z')) (h : s ≠ t) : x ≠ y := by
  rintro rfl
  rw [hx] at hy
  injection hy with hy
  injection hy with h1 h2 h3
  exact h h2
theorem sr_grown {W W' : World} {q base r : Nat} {l : List Bool} (h : Sr W q base l) (hg : W.grownBy W' (some r)) (hq : q ≠ r) (hr : r < base) : Sr W' q base l := by
  obtain ⟨v, hp, ho⟩ := h
  refine ⟨v, (hg.block q (lt_of_block hp) (fun e => hq (by injection e))).trans hp, ho.kept hg ?_⟩
  by_cases h : v.ownBlock = none
  · exact .inl h
  · exact .inr (fun e => by have := (ho.lt r e).1; omega)
theorem st_below {W W' : World} {B p b : Nat} {l : List Bool} (h : St W p b l) (hb : Below B W W') (h1 : p < B) (h2 : b < B) : St W' p b l := ⟨(hb.block p h1).trans h.1, h.2.of_block (hb.block b h2)⟩
theorem Mid.then_ {w W W' : World} {p q b base : Nat} {l1 l2 : List Bool} (h : Mid w p q b base l1 l2 W) (hb : Below W.heap.size W W') : Mid w p q b base l1 l2 W' :=
  ⟨h.st.then_ hb (Nat.le_refl _), h.sr.then_ hb, h.hp, h.hq, h.wp, h.wb, h.wq, below_next h.bel hb⟩
theorem Both.then_ {w W W' : World} {p q b base : Nat} {l1 l2 : List Bool} (h : Both w p q b base l1 l2 W) (hb : Below W.heap.size W W') : Both w p q b base l1 l2 W' := ⟨h.1.then_ hb, h.2⟩
theorem Both.drew {w W : World} {p q b base : Nat} {l1 l2 : List Bool} (h : Both w p q b base l1 l2 W) : Both w p q b base l1 l2 W.drew := h.then_ (Below.refl _ _).drew
theorem Both.alloc {w W : World} {p q b base : Nat} {l1 l2 : List Bool} (h : Both w p q b base l1 l2 W) (o : Obj) : Both w p q b base l1 l2 (W.alloc o) := h.then_ ((Below.refl _ _).alloc (Nat.le_refl _) _)
theorem Both.q_ne_b {w W : World} {p q b base : Nat} {l1 l2 : List Bool} (h : Mid w p q b base l1 l2 W) : q ≠ b := by
  obtain ⟨v, hq, _⟩ := h.sr
  obtain ⟨cs, hb⟩ := st_heap h.st
  exact ne_type hq hb (by decide)
theorem Both.q_ne_p {w W : World} {p q b base : Nat} {l1 l2 : List Bool} (h : Mid w p q b base l1 l2 W) : q ≠ p := by
  obtain ⟨v, hq, _⟩ := h.sr
  exact ne_type hq h.st.1 (by decide)
/-- one column turned. -/
def upd (l : List Bool) (col : Int) (v : Bool) : List Bool := if inB l col then l.set col.toNat v else l
theorem upd_len (l : List Bool) (col : Int) (v : Bool) : (upd l col v).length = l.length := by unfold upd; split <;> simp
variable {w W : World} {p q b base o : Nat} {l1 l2 : List Bool} {k c n : Int}
theorem putB {e : Ending} {W' : World} {col : Int} {v : Bool} (h : Both w p q b base l1 l2 W) (hpl : Pl W o k c n) (hp : PutP W p b l1 col v e W') :
    e = .returned (.bool (inB l1 col)) ∧ Both w p q b base (upd l1 col v) l2 W' ∧ Pl W' o k c n := by
  obtain ⟨rfl, hs, hg⟩ := hp
  obtain ⟨cs, hb⟩ := st_heap h.1.st
  exact ⟨rfl, ⟨⟨hs, sr_grown h.1.sr hg (Both.q_ne_b h.1) h.2, h.1.hp, h.1.hq, h.1.wp, h.1.wb, h.1.wq, h.1.bel.trans (below_of_grown hg h.1.wb h.1.bel.size)⟩, h.2⟩, hpl.grown hg hb (by decide)⟩
theorem setB (col : Int) (h : Both w p q b base l1 l2 W) (hpl : Pl W o k c n) (hl : l1.length ≤ 200) :
    Calls Try.prog 29 #[.pointer (some ⟨p, 0, none⟩), .int .i64 col] W fun e W' => e = .returned (.bool (inB l1 col)) ∧ Both w p q b base (upd l1 col true) l2 W' ∧ Pl W' o k c n :=
  (setC p b l1 col W h.1.st hl).mono fun _ _ hp => putB h hpl hp
theorem clearB (col : Int) (h : Both w p q b base l1 l2 W) (hpl : Pl W o k c n) (hl : l1.length ≤ 200) :
    Calls Try.prog 31 #[.pointer (some ⟨p, 0, none⟩), .int .i64 col] W fun e W' => e = .returned (.bool (inB l1 col)) ∧ Both w p q b base (upd l1 col false) l2 W' ∧ Pl W' o k c n :=
  (clearC p b l1 col W h.1.st hl).mono fun _ _ hp => putB h hpl hp
theorem turnB (col : Int) (v : Bool) (h : Both w p q b base l1 l2 W) (hpl : Pl W o k c n) (h0 : 0 < l2.length) (hl : l2.length ≤ 200) :
    Calls Try.prog 30 #[.pointer (some ⟨q, 0, none⟩), .int .i64 col, .bool v] W fun e W' => e = .returned (.bool (inB l2 col)) ∧ Both w p q b base l1 (upd l2 col v) W' ∧ Pl W' o k c n := by
  refine (turnR q base l2 col v W h.1.sr h0 hl).mono ?_
  rintro e W' ⟨rfl, hs, hB, g, cur, hbg, hgg, hg⟩
  refine ⟨rfl, ⟨⟨st_below h.1.st (hB base (Nat.le_refl _)) h.1.hp h.2, hs, h.1.hp, h.1.hq, h.1.wp, h.1.wb, h.1.wq, h.1.bel.trans (hB _ ?_)⟩, h.2⟩, hpl.grown hg hgg (by decide)⟩
  have := h.1.wq; have := h.1.hq; omega
theorem clearAllB (h : Both w p q b base l1 l2 W) (hpl : Pl W o k c n) (h0 : 0 < l1.length) (hl : l1.length ≤ 200) :
    Calls Try.prog 32 #[.pointer (some ⟨p, 0, none⟩)] W fun e W' => e = .returned (.tuple #[]) ∧ Both w p q b base (List.replicate l1.length false) l2 W' ∧ Pl W' o k c n := by
  refine (clearAllC p b l1 W h.1.st h0 hl).mono ?_
  rintro e W' ⟨rfl, hs, hg⟩
  obtain ⟨cs, hb⟩ := st_heap h.1.st
  exact ⟨rfl, ⟨⟨hs, sr_grown h.1.sr hg (Both.q_ne_b h.1) h.2, h.1.hp, h.1.hq, h.1.wp, h.1.wb, h.1.wq, h.1.bel.trans (below_of_grown hg h.1.wb h.1.bel.size)⟩, h.2⟩, hpl.grown hg hb (by decide)⟩
theorem resB1 (N : Nat) (h : Both w p q b base l1 l2 W) (hpl : Pl W o k c n) (hl : l1.length ≤ 200) (h1 : 1 ≤ N) (h2 : N ≤ 200) :
    Calls Try.prog 33 #[.pointer (some ⟨p, 0, none⟩), .int .i64 (N : Int)] W fun e W' => e = .returned (.int .i64 0) ∧ Mid w p q W.heap.size base (resL l1 N) l2 W' ∧ Pl W' o k c n := by
  refine (resizeC p (some ⟨b, 0, none⟩) l1 N W ⟨h.1.st.1, .inr ⟨b, rfl, h.1.st.2⟩⟩ hl h1 h2).mono ?_
  rintro e W' ⟨rfl, hs, hg⟩
  rw [Int.toNat_natCast] at hs
  exact ⟨rfl, ⟨hs, sr_grown h.1.sr hg (Both.q_ne_p h.1) h.1.hp, h.1.hp, h.1.hq, h.1.wp, h.1.bel.size, h.1.wq, h.1.bel.trans (below_of_grown hg h.1.wp h.1.bel.size)⟩, hpl.grown hg h.1.st.1 (by decide)⟩
theorem resB2 (N : Nat) (h : Mid w p q b base l1 l2 W) (hpl : Pl W o k c n) (h0 : 0 < l2.length) (hl : l2.length ≤ 200) (h1 : 1 ≤ N) (h2 : N ≤ 200) :
    Calls Try.prog 34 #[.pointer (some ⟨q, 0, none⟩), .int .i64 (N : Int)] W fun e W' => e = .returned (.int .i64 0) ∧ Both w p q b W.heap.size l1 (resL l2 N) W' ∧ Pl W' o k c n := by
  refine (resizeR q base l2 N W h.sr h0 hl h1 h2).mono ?_
  rintro e W' ⟨rfl, hs, hf⟩
  have hpl' := lt_of_block hpl
  obtain ⟨v, hqq, _⟩ := h.sr
  have hne : o ≠ q := ne_type hpl hqq (by decide)
  have hqs := lt_of_block hqq
  refine ⟨rfl, ⟨⟨⟨(hf.block p h.st.p_lt (Ne.symm (Both.q_ne_p h))).trans h.st.1, h.st.2.of_block (hf.block b h.st.b_lt (Ne.symm (Both.q_ne_b h)))⟩, hs, h.st.p_lt, hqs, h.wp, h.wb, h.wq, h.bel.trans (hf.below h.bel.size h.wq)⟩, h.st.b_lt⟩, (hf.block o hpl' hne).trans hpl⟩
/-- what both answer of them. -/
theorem list1 (h : Both w p q b base l1 l2 W) (hpl : Pl W o k c n) (hl : l1.length ≤ 200) :
    Calls Try.prog 36 #[.pointer (some ⟨p, 0, none⟩)] W fun e W' => ∃ a cap, e = .returned (.slice a (stops l1).length cap) ∧ ((stops l1).length ≤ cap ∧ cap ≤ 9223372036854775807) ∧ Ints W' a (stops l1) ∧ Both w p q b base l1 l2 W' ∧ Pl W' o k c n := by
  refine (listC p b l1 W h.1.st hl).mono ?_
  rintro e W' ⟨a, cap, rfl, hcap, hi, hb⟩
  exact ⟨a, cap, rfl, hcap, hi, h.then_ hb, hpl.then_ hb⟩
theorem list2 {a1 : Option Addr} {m : List Int} (h : Both w p q b base l1 l2 W) (hpl : Pl W o k c n) (hm : Ints W a1 m) (h0 : 0 < l2.length) (hl : l2.length ≤ 200) :
    Calls Try.prog 37 #[.pointer (some ⟨q, 0, none⟩)] W fun e W' => ∃ a cap, e = .returned (.slice a (stops l2).length cap) ∧ ((stops l2).length ≤ cap ∧ cap ≤ 9223372036854775807) ∧ Ints W' a1 m ∧ Ints W' a (stops l2) ∧ Both w p q b base l1 l2 W' ∧ Pl W' o k c n := by
  refine (listR q base l2 W h.1.sr h0 hl).mono ?_
  rintro e W' ⟨a, cap, rfl, hcap, hi, hb⟩
  exact ⟨a, cap, rfl, hcap, ints_then hb (Nat.le_refl _) hm, hi, h.then_ hb, hpl.then_ hb⟩
theorem Both.drewN (h : Both w p q b base l1 l2 W) (m : Nat) : Both w p q b base l1 l2 (W.drewN m) := h.then_ (below_drewN (Below.refl _ _) m)
theorem Pl.drewN (h : Pl W o k c n) (m : Nat) : Pl (W.drewN m) o k c n := h
/-- behind so many rounds of clearing. -/
def clr (l : List Bool) (i : Nat) : List Bool := List.replicate i false ++ l.drop i
theorem clr_len (l : List Bool) (i : Nat) (h : i ≤ l.length) : (clr l i).length = l.length := by simp [clr]; omega
theorem clr_zero (l : List Bool) : clr l 0 = l := by simp [clr]
theorem clr_all (l : List Bool) : clr l l.length = List.replicate l.length false := by simp [clr]
theorem clr_step (l : List Bool) (i : Nat) (h : i < l.length) : upd (clr l i) (i : Int) false = clr l (i + 1) := by
  unfold upd
  rw [if_pos (by unfold inB; rw [clr_len l i (by omega)]; simp; omega), Int.toNat_natCast]
  unfold clr
  rw [List.replicate_succ', List.append_assoc, List.set_append_right _ _ (by simp), List.length_replicate, Nat.sub_self, List.drop_eq_getElem_cons h]
  rfl
end Go.Proofs.Ytkpneocolbmnpaa.TabsPl
