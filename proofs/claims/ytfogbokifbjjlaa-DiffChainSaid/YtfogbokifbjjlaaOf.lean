/- key.decode. -/
import Derived.Test.YtfogbokifbjjlaaOd
import Derived.Test.YtfogbokifbjjlaaNb
set_option linter.unusedVariables false
namespace Go.Proofs.Ytfogbokifbjjlaa.Oe
open Go Go.RowKit Kit Gm Gv Crc Var Get Bytes WireFirst Ref3 Copy Ap Sa Sb Sd Rd RdA RdB RdF La Ma Mb Oa Ob Od Na Nb Tk
open RdC (numC endC EndQ endN numN)

/-- what decode answers. -/
def DecQ (l : List Nat) (r : Rdr) (p : Nat) (w : World) (e : Ending) (w' : World) : Prop :=
  (∃ (r' : Rdr) (L : List Ce) (g : Nat), dF l r = some (r', L) ∧ r'.at_ = l.length ∧ MayS (scrF l r) L ∧ e = .returned (svA (scrF l r) (some ⟨g, 0, none⟩) L.length L.length) ∧ w.heap.size ≤ g ∧ RB w' g L ∧ w.grownBy w' (some p)) ∨
  ((¬ ∃ r' L, dF l r = some (r', L) ∧ r'.at_ = l.length ∧ MayS (scrF l r) L) ∧ KP p w e w')
theorem rd_yes {l : List Nat} {r r' : Rdr} {L : List Ce} {c p : Nat} {w w' : World} {e : Ending} (h : Od.RdQ l r (c : Int) p w e w') (hc : c ≤ 12000) (he : r.err = 0) (hr : runsF l c (c + 1) r [] = some (r', L)) :
    ∃ g, e = .returned (.tuple #[.slice (some ⟨g, 0, none⟩) c c, .bool true]) ∧ w.heap.size ≤ g ∧ RB w' g L ∧ Rc w' p r' ∧ w.grownBy w' (some p) := by
  rcases h with ⟨m, r2, L2, g, h1, h2, h3, h4, h5, h6, h7, h8, h9, h10⟩ | ⟨h1, _⟩
  · obtain rfl : m = c := by omega
    rw [hr] at h4; injection h4 with h4; injection h4 with h4 h4'; subst h4 h4'
    refine ⟨g, by rw [h5, h10], h6, ?_, h8, h9⟩
    rw [h10, Nat.sub_self, List.replicate_zero, List.append_nil] at h7; exact h7
  · rw [h1 c rfl hc he] at hr; cases hr
theorem rd_no {l : List Nat} {r : Rdr} {c p : Nat} {w w' : World} {e : Ending} (h : Od.RdQ l r (c : Int) p w e w') (hn : ¬ ∃ r' L, r.err = 0 ∧ runsF l c (c + 1) r [] = some (r', L)) :
    e = .returned (.tuple #[.slice none 0 0, .bool false]) ∧ (∃ r', Rc w' p r') ∧ w.grownBy w' (some p) := by
  rcases h with ⟨m, r2, L2, g, h1, h2, h3, h4, _⟩ | ⟨_, h⟩
  · obtain rfl : m = c := by omega
    exact absurd ⟨_, _, h3, h4⟩ hn
  · exact h
theorem may_yes {s : Scr} {L : List Ce} {w w' : World} {e : Ending} (h : MayQ s L w e w') (hm : MayS s L) : e = .returned (.bool true) ∧ Below w.heap.size w w' := by
  obtain ⟨⟨m, h1, h2⟩, h3⟩ := h
  rw [h1.2 hm] at h2; exact ⟨h2, h3⟩
theorem may_not {s : Scr} {L : List Ce} {w w' : World} {e : Ending} (h : MayQ s L w e w') (hm : ¬ MayS s L) : e = .returned (.bool false) ∧ Below w.heap.size w w' := by
  obtain ⟨⟨m, h1, h2⟩, h3⟩ := h
  cases m
  · exact ⟨h2, h3⟩
  · exact absurd (h1.1 rfl) hm
theorem endX {w : World} {p : Nat} {r : Rdr} {l : List Nat} (h : Rc w p r) (he : r.err = 0) (hle : r.at_ ≤ l.length) (hlen : r.len = l.length ∧ l.length ≤ 9223372036854775000) :
    Calls Try.prog 76 #[.pointer (some ⟨p, 0, none⟩)] w fun e w' => e = .returned (.int .i64 (if decide (r.at_ = l.length) then 0 else 4)) ∧ Below w.heap.size w w' :=
  (endC h (by omega) (by omega)).mono fun e w' hq => by
    have h1 : e = .returned (.int .i64 (endN r)) ∧ Below w.heap.size w w' := hq
    have : endN r = if decide (r.at_ = l.length) then 0 else 4 := by
      unfold endN
      by_cases h : r.at_ = l.length
      · rw [if_neg (by omega), decide_eq_true h, he]; rfl
      · rw [if_pos ⟨he, by omega⟩, decide_eq_false h]; rfl
    rw [this] at h1; exact h1
theorem rb_sc {w : World} {g : Nat} {L : List Ce} (h : RB w g L) : Sc w g 0 L := by
  intro j hj i hi
  rw [Nat.zero_add]; exact h.cell j hj i hi
theorem blk {w w' : World} {p k : Nat} {o : Obj} (hg : w.grownBy w' (some p)) (hk : k ≠ p) (h : w.heap[k]? = some o) : w'.heap[k]? = some o :=
  (hg.block k (Array.getElem?_eq_some_iff.1 h).1 (fun e => hk (by injection e))).trans h
theorem grown_store {w w1 w2 : World} {p : Nat} (hg : w.grownBy w1 (some p)) (hb : Below w.heap.size w1 w2) : w.grownBy w2 (some p) :=
  ⟨hb.os.trans hg.os, hb.tape.trans hg.tape, hb.output.trans hg.output, Nat.le_trans hg.size hb.size, fun b h1 h2 => (hb.block b h1).trans (hg.block b h1 h2)⟩
theorem wpList_store_co {w : World} {ops : Array Oper} {rest : List Oper} {o : Oper} {a : Act} {Q : Exit → Act → World → Prop} (hgd : o.guard = none) (x y : Operand) (ho : o.op = .store 3 x y)
    (k : Nat) (s : Scr) (p : Option Addr) (n cap : Nat) (r : Int) (hx : a.eval x = .pointer (some ⟨k, 4, none⟩)) (hy : a.eval y = .int .i64 r) (h : w.heap[k]? = some (svO s p n cap))
    (hK : ∀ w', w'.heap[k]? = some (svO ⟨s.R, s.C, s.row, r, s.hid, s.ti⟩ p n cap) → (∀ B W, B ≤ k → Below B W w → Below B W w') → (∀ j, j ≠ k → w'.heap[j]? = w.heap[j]?) → w.heap.size ≤ w'.heap.size → wpList Try.prog ops Q rest (a.put o.dst undef) w') : wpList Try.prog ops Q (o :: rest) a w :=
  wpList_store_at hgd 3 x y ho (by kernel_rfl) k 4 24 _ _ (.int .i64 r) hx hy rfl rfl h (Nat.lt_of_lt_of_le (by decide) (Nat.le_refl 7)) rfl hK
theorem wpList_store_hi {w : World} {ops : Array Oper} {rest : List Oper} {o : Oper} {a : Act} {Q : Exit → Act → World → Prop} (hgd : o.guard = none) (x y : Operand) (ho : o.op = .store 4 x y)
    (k : Nat) (s : Scr) (p : Option Addr) (n cap : Nat) (b : Bool) (hx : a.eval x = .pointer (some ⟨k, 5, none⟩)) (hy : a.eval y = .bool b) (h : w.heap[k]? = some (svO s p n cap))
    (hK : ∀ w', w'.heap[k]? = some (svO ⟨s.R, s.C, s.row, s.col, b, s.ti⟩ p n cap) → (∀ B W, B ≤ k → Below B W w → Below B W w') → (∀ j, j ≠ k → w'.heap[j]? = w.heap[j]?) → w.heap.size ≤ w'.heap.size → wpList Try.prog ops Q rest (a.put o.dst undef) w') : wpList Try.prog ops Q (o :: rest) a w :=
  wpList_store_at hgd 4 x y ho (by kernel_rfl) k 5 24 _ _ (.bool b) hx hy rfl rfl h (Nat.lt_of_lt_of_le (by decide) (Nat.le_refl 7)) rfl hK
theorem text_a (l : List Nat) (r : Rdr) (m : Int) : (textN l r m).2.a = r.a ∧ (textN l r m).2.len = r.len ∧ (textN l r m).2.cap = r.cap := by
  unfold textN
  repeat' split
  all_goals exact ⟨rfl, rfl, rfl⟩
theorem same_on {r r1 r2 : Rdr} (h : r1.a = r.a ∧ r1.len = r.len ∧ r1.cap = r.cap) (k : r2.a = r1.a ∧ r2.len = r1.len ∧ r2.cap = r1.cap) : r2.a = r.a ∧ r2.len = r.len ∧ r2.cap = r.cap := ⟨k.1.trans h.1, k.2.1.trans h.2.1, k.2.2.trans h.2.2⟩
abbrev SameR (r r1 : Rdr) : Prop := r1.a = r.a ∧ r1.len = r.len ∧ r1.cap = r.cap
theorem q_same (l : List Nat) (r : Rdr) : SameR r (q1 l r).2 ∧ SameR r (q2 l r).2 ∧ SameR r (q3 l r).2 ∧ SameR r (q4 l r).2 ∧ SameR r (q5 l r).2 ∧ SameR r (q6 l r).2 := by
  have h1 : SameR r (q1 l r).2 := num_a l r 60
  have h2 : SameR r (q2 l r).2 := same_on h1 (num_a l _ 200)
  have h3 : SameR r (q3 l r).2 := same_on h2 (num_a l _ 60)
  have h4 : SameR r (q4 l r).2 := same_on h3 (num_a l _ 200)
  have h5 : SameR r (q5 l r).2 := same_on h4 (num_a l _ 1)
  exact ⟨h1, h2, h3, h4, h5, same_on h5 (text_a l _ 256)⟩
theorem num_le (l : List Nat) (r : Rdr) (m : Nat) (h : r.at_ ≤ l.length) : (numN l r m).2.at_ ≤ l.length := by
  unfold numN
  split
  · exact h
  · split
    · exact h
    · split
      · exact h
      · rename_i h2 _
        obtain ⟨n, y, e, _, hy⟩ := RdC.getA_ok l r.at_ (by simpa using h2)
        rw [e]; simpa using hy
theorem text_le (l : List Nat) (r : Rdr) (m : Int) (h : r.at_ ≤ l.length) : (textN l r m).2.at_ ≤ l.length := by
  unfold textN
  split
  · exact h
  · split
    · exact h
    · split
      · exact h
      · split
        · exact h
        · rename_i h2 _ h4
          obtain ⟨n, y, e, _, hy⟩ := RdC.getA_ok l r.at_ (by simpa using h2)
          rw [e] at h4 ⊢
          dsimp only at h4 ⊢
          omega
theorem q_le (l : List Nat) (r : Rdr) (h : r.at_ ≤ l.length) : (q1 l r).2.at_ ≤ l.length ∧ (q2 l r).2.at_ ≤ l.length ∧ (q3 l r).2.at_ ≤ l.length ∧ (q4 l r).2.at_ ≤ l.length ∧ (q5 l r).2.at_ ≤ l.length ∧ (q6 l r).2.at_ ≤ l.length := by
  have h1 := num_le l r 60 h
  have h2 := num_le l (q1 l r).2 200 h1
  have h3 := num_le l (q2 l r).2 60 h2
  have h4 := num_le l (q3 l r).2 200 h3
  have h5 := num_le l (q4 l r).2 1 h4
  exact ⟨h1, h2, h3, h4, h5, text_le l (q5 l r).2 256 h5⟩
theorem text_small (l : List Nat) (hl : ∀ c ∈ l, c < 256) (r : Rdr) : (textN l r 256).1.size ≤ 256 := by
  unfold textN
  have h0 : (strL []).size ≤ 256 := by rw [strL_size]; exact Nat.zero_le _
  split
  · exact h0
  · split
    · exact h0
    · split
      · exact h0
      · split
        · exact h0
        · rename_i h2 h3 h4
          obtain ⟨n, y, e, _, hy⟩ := RdC.getA_ok l r.at_ (by simpa using h2)
          rw [e] at h3 h4 ⊢
          dsimp only at h3 h4 ⊢
          rw [strL_size, List.length_take, List.length_drop]; omega
theorem dec_end (l : List Nat) (hl : ∀ c ∈ l, c < 256) (r : Rdr) (hat : r.at_ ≤ l.length) (r' : Rdr) (L : List Ce) (h : dF l r = some (r', L)) : L.length = cntF l r ∧ r'.err = 0 ∧ r'.at_ ≤ l.length ∧ r'.len = r.len := by
  unfold dF at h
  split at h
  · rename_i h6
    obtain ⟨T, e1, e2, e3, e4, e5, e6, _⟩ := runs_back hl _ _ _ _ _ _ h (Nat.zero_le _) (by simp) h6
    obtain ⟨_, _, _, _, _, l6⟩ := q_le l r hat
    obtain ⟨_, _, _, _, _, s6⟩ := q_same l r
    refine ⟨e2, by rw [e4]; exact h6, ?_, by rw [e4]; exact s6.2.1⟩
    rw [e4]
    by_cases hT : T = []
    · rw [hT, Lb.cellsB_nil]; simpa using l6
    · exact e6 hT
  · cases h
set_option maxRecDepth 100000 in
set_option maxHeartbeats 8000000 in
theorem decodeC (p : Nat) (r : Rdr) (l : List Nat) (w : World) (hp : Rc w p r) (hl : By w r l) (hat : r.at_ ≤ l.length) (hs : l.length ≤ 1000000) :
    Calls Try.prog 48 #[.pointer (some ⟨p, 0, none⟩)] w (DecQ l r p w) := by
  have hbyte := hl.byte
  have hpl := hp.lt
  have HPL := Lib.hid hpl
  have HPL2 := Lib.hid (Nat.ne_of_gt hpl)
  have hb0 := below_one w (svO ⟨0, 0, 0, 0, false, ⟨#[]⟩⟩ none 0 0)
  have HZ0 := Lib.hid (heap_alloc_last w (svO ⟨0, 0, 0, 0, false, ⟨#[]⟩⟩ none 0 0))
  have HP0 := Lib.hid (hp.then_ hb0)
  have HG0 := Lib.hid (grown_below hb0 (some p))
  dsimp only [svO] at HZ0 HP0 HG0
  generalize hw0 : w.alloc (.cells #[.int .i64 0, .int .i64 0, .slice none 0 0, .int .i64 0, .int .i64 0, .bool false, .string ⟨#[]⟩] 24) = w0 at *
  have HBY := fun (r1 : Rdr) (h : r1.a = r.a ∧ r1.len = r.len ∧ r1.cap = r.cap) (w1 : World) (hg : w.grownBy w1 (some p)) => by_same (By.grown hp hl hg) h
  obtain ⟨s1, s2, s3, s4, s5, s6⟩ := q_same l r
  obtain ⟨l1, l2, l3, l4, l5, l6⟩ := q_le l r hat
  have K1 := Lib.hid (fun w1 h1 hg => numC 60 l (w := w1) (p := p) (r := r) h1 (HBY r ⟨rfl, rfl, rfl⟩ w1 hg))
  have K2 := Lib.hid (fun w1 h1 hg => numC 200 l (w := w1) (p := p) (r := (q1 l r).2) h1 (HBY _ s1 w1 hg))
  have K3 := Lib.hid (fun w1 h1 hg => numC 60 l (w := w1) (p := p) (r := (q2 l r).2) h1 (HBY _ s2 w1 hg))
  have K4 := Lib.hid (fun w1 h1 hg => numC 200 l (w := w1) (p := p) (r := (q3 l r).2) h1 (HBY _ s3 w1 hg))
  have K5 := Lib.hid (fun w1 h1 hg => numC 1 l (w := w1) (p := p) (r := (q4 l r).2) h1 (HBY _ s4 w1 hg))
  have K6 := Lib.hid (fun w1 h1 hg => textC 256 l (w := w1) (p := p) (r := (q5 l r).2) h1 (HBY _ s5 w1 hg) l5 hs (by decide))
  have K7 := Lib.hid (fun (n : Int) w1 h1 hg => readAny p (q6 l r).2 l n w1 h1 (HBY _ s6 w1 hg))
  obtain ⟨m1, e1, b1⟩ := num_in l r 60
  obtain ⟨m2, e2, b2⟩ := num_in l (q1 l r).2 200
  obtain ⟨m3, e3, b3⟩ := num_in l (q2 l r).2 60
  obtain ⟨m4, e4, b4⟩ := num_in l (q3 l r).2 200
  obtain ⟨m5, e5, b5⟩ := num_in l (q4 l r).2 1
  have E1 : (q1 l r).1 = (m1 : Int) := e1
  have E2 : (q2 l r).1 = (m2 : Int) := e2
  have E3 : (q3 l r).1 = (m3 : Int) := e3
  have E4 : (q4 l r).1 = (m4 : Int) := e4
  have E5 : (q5 l r).1 = (m5 : Int) := e5
  have HSC : scrF l r = ⟨(m1 : Int), (m2 : Int), (m3 : Int), (m4 : Int), (m5 : Int) == 1, (q6 l r).1⟩ := by unfold scrF; rw [E1, E2, E3, E4, E5]
  have HCN : cntF l r = m1 * m2 := by unfold cntF; rw [E1, E2]; exact Int.toNat_natCast (m1 * m2)
  have HD := Lib.hid (show dF l r = if (q6 l r).2.err = 0 then runsF l (m1 * m2) (m1 * m2 + 1) (q6 l r).2 [] else none by rw [← HCN]; rfl)
  have hc : m1 * m2 ≤ 12000 := Nat.mul_le_mul b1 b2
  have hlen := hl.len
  have HBK := Lib.hid (fun (r' : Rdr) (L : List Ce) (h : dF l r = some (r', L)) => (show L.length = m1 * m2 ∧ r'.err = 0 ∧ r'.at_ ≤ l.length ∧ (r'.len = l.length ∧ l.length ≤ 9223372036854775000) by
    obtain ⟨g1, g2, g3, g4⟩ := dec_end l hbyte r hat r' L h
    exact ⟨g1.trans HCN, g2, g3, g4.trans hlen, by omega⟩))
  have HTI := Lib.hid (show (q6 l r).1.size ≤ 256 from text_small l hbyte (q5 l r).2)
  have hpr : (m1 : Int) * (m2 : Int) = ((m1 * m2 : Nat) : Int) := (Int.natCast_mul m1 m2).symm
  have p1 : IntKind.i64.wrap ((m1 : Int) * (m2 : Int)) = ((m1 * m2 : Nat) : Int) := by rw [hpr]; exact IntWalk.i64_in _ (by omega)
  have p2 : wrap64 ((m1 : Int) * (m2 : Int)) = ((m1 * m2 : Nat) : Int) := by rw [hpr]; exact IntWalk.wrap64_in _ (by omega)
  clear HCN hpr hlen
  have HN1 := Lib.hid (fun w1 h1 hg => (show Calls Try.prog 73 #[.pointer (some ⟨p, 0, none⟩), .int .u64 60] w1 (fun e w' => e = .returned (.int .u64 (m1 : Int)) ∧ Rc w' p (q1 l r).2 ∧ w1.grownBy w' (some p)) from e1 ▸ K1.out w1 h1 hg))
  have HN2 := Lib.hid (fun w1 h1 hg => (show Calls Try.prog 73 #[.pointer (some ⟨p, 0, none⟩), .int .u64 200] w1 (fun e w' => e = .returned (.int .u64 (m2 : Int)) ∧ Rc w' p (q2 l r).2 ∧ w1.grownBy w' (some p)) from e2 ▸ K2.out w1 h1 hg))
  have HN3 := Lib.hid (fun w1 h1 hg => (show Calls Try.prog 73 #[.pointer (some ⟨p, 0, none⟩), .int .u64 60] w1 (fun e w' => e = .returned (.int .u64 (m3 : Int)) ∧ Rc w' p (q3 l r).2 ∧ w1.grownBy w' (some p)) from e3 ▸ K3.out w1 h1 hg))
  have HN4 := Lib.hid (fun w1 h1 hg => (show Calls Try.prog 73 #[.pointer (some ⟨p, 0, none⟩), .int .u64 200] w1 (fun e w' => e = .returned (.int .u64 (m4 : Int)) ∧ Rc w' p (q4 l r).2 ∧ w1.grownBy w' (some p)) from e4 ▸ K4.out w1 h1 hg))
  have HN5 := Lib.hid (fun w1 h1 hg => (show Calls Try.prog 73 #[.pointer (some ⟨p, 0, none⟩), .int .u64 1] w1 (fun e w' => e = .returned (.int .u64 (m5 : Int)) ∧ Rc w' p (q5 l r).2 ∧ w1.grownBy w' (some p)) from e5 ▸ K5.out w1 h1 hg))
  have HN6 := Lib.hid (fun w1 h1 hg => (show Calls Try.prog 74 #[.pointer (some ⟨p, 0, none⟩), .int .i64 256] w1 (fun e w' => e = .returned (.string (q6 l r).1) ∧ Rc w' p (q6 l r).2 ∧ w1.grownBy w' (some p)) from K6.out w1 h1 hg))
  have HYES := Lib.hid (fun (r' : Rdr) (L : List Ce) (g : Nat) (w' : World) (h1 : dF l r = some (r', L)) (h2 : r'.at_ = l.length) (h3 : MayS (scrF l r) L) (hgs : w.heap.size ≤ g) (h4 : RB w' g L) (h5 : w.grownBy w' (some p)) => (show DecQ l r p w (.returned (svA (scrF l r) (some ⟨g, 0, none⟩) L.length L.length)) w' from .inl ⟨r', L, g, h1, h2, h3, rfl, hgs, h4, h5⟩))
  have HNO := Lib.hid (fun (r' : Rdr) (w' : World) (h1 : ¬ ∃ r' L, dF l r = some (r', L) ∧ r'.at_ = l.length ∧ MayS (scrF l r) L) (h3 : Rc w' p r') (h4 : w.grownBy w' (some p)) => (show DecQ l r p w (.panicked [{ v := kfault, recovered := false }]) w' from .inr ⟨h1, rfl, ⟨r', h3⟩, h4⟩))
  rw [HSC] at HYES HNO
  generalize (q1 l r).2 = R1 at *
  generalize (q2 l r).2 = R2 at *
  generalize (q3 l r).2 = R3 at *
  generalize (q4 l r).2 = R4 at *
  generalize (q5 l r).2 = R5 at *
  generalize (q6 l r).2 = R6 at *
  generalize (q6 l r).1 = t6 at *
  generalize m1 * m2 = c at *
  generalize dF l r = D at *
  have v1 : IntKind.i64.wrap (m1 : Int) = (m1 : Int) := IntWalk.i64_in _ (by omega)
  have v2 : IntKind.i64.wrap (m2 : Int) = (m2 : Int) := IntWalk.i64_in _ (by omega)
  have v3 : IntKind.i64.wrap (m3 : Int) = (m3 : Int) := IntWalk.i64_in _ (by omega)
  have v4 : IntKind.i64.wrap (m4 : Int) = (m4 : Int) := IntWalk.i64_in _ (by omega)
  have u1 : wrap64 (m1 : Int) = (m1 : Int) := IntWalk.wrap64_in _ (by omega)
  have u2 : wrap64 (m2 : Int) = (m2 : Int) := IntWalk.wrap64_in _ (by omega)
  have u3 : wrap64 (m3 : Int) = (m3 : Int) := IntWalk.wrap64_in _ (by omega)
  have u4 : wrap64 (m4 : Int) = (m4 : Int) := IntWalk.wrap64_in _ (by omega)
  generalize (m1 : Int) = n1 at *
  generalize (m2 : Int) = n2 at *
  generalize (m3 : Int) = n3 at *
  generalize (m4 : Int) = n4 at *
  generalize (m5 : Int) = n5 at *
  have HCB := Lib.hid hc
  clear hp hl hat hs hpl hb0 HBY s1 s2 s3 s4 s5 s6 l1 l2 l3 l4 l5 l6 K1 K2 K3 K4 K5 K6 e1 e2 e3 e4 e5 E1 E2 E3 E4 E5 b1 b2 b3 b4 b5 HSC hbyte hc
  by_cases hok : ∃ r' L, R6.err = 0 ∧ runsF l c (c + 1) R6 [] = some (r', L)
  · obtain ⟨R7, L, he6, hrun⟩ := hok
    have HDD := Lib.hid (show D = some (R7, L) by rw [HD.out, if_pos he6]; exact hrun)
    obtain ⟨hlc, he7, hle7, hlen7⟩ := HBK.out R7 L HDD.out
    have HRD := Lib.hid (fun w1 h1 hg => (K7.out (c : Int) w1 h1 hg).mono fun e w' hq => rd_yes hq HCB.out he6 hrun)
    have HLC := Lib.hid hlc
    have HEND := Lib.hid (fun w1 (h : Rc w1 p R7) => endX h he7 hle7 hlen7)
    by_cases hat7 : R7.at_ = l.length
    · rw [decide_eq_true hat7] at HEND
      have HMAY0 := Lib.hid (fun (g : Nat) (w1 : World) (hr : RB w1 g L) => mayC ⟨n1, n2, n3, n4, n5 == 1, t6⟩ (some ⟨g, 0, none⟩) c c L w1 HLC.out.symm (by have := HCB.out; omega) (Nat.le_trans HTI.out (by decide)) (.inr ⟨g, 0, rfl, rb_sc hr⟩))
      by_cases hmay : MayS ⟨n1, n2, n3, n4, n5 == 1, t6⟩ L
      · have HMAY := Lib.hid (fun (g : Nat) (w1 : World) (hr : RB w1 g L) => (HMAY0.out g w1 hr).mono fun e w' hq => may_yes hq hmay)
        have HM := Lib.hid hmay
        have HAT := Lib.hid hat7
        clear he6 hrun he7 hle7 hlen7 hat7 hmay hlc
        go_enter Try.func48, Try.ntmps48
        go_wp2_with (first
          | (go_at_call 73; (with_reducible refine (HN1.out _ HP0.out HG0.out).mono ?_); rintro e w1 ⟨rfl, hp, hg⟩; have HP1 := Lib.hid hp; have HG1 := Lib.hid (grown_trans HG0.out hg); have HZ1 := Lib.hid (blk hg HPL2.out HZ0.out); clear hp hg)
          | (go_at_call 73; (with_reducible refine (HN2.out _ HP1.out HG1.out).mono ?_); rintro e w2 ⟨rfl, hp, hg⟩; have HP2 := Lib.hid hp; have HG2 := Lib.hid (grown_trans HG1.out hg); have HZ2 := Lib.hid (blk hg HPL2.out HZ1.out); have HKP := Lib.hid (show w2.heap.size ≠ p from Nat.ne_of_gt hp.lt); have HKB := Lib.hid (show w.heap.size ≤ w2.heap.size from HG2.out.size); have HKZ := Lib.hid (show w.heap.size ≠ w2.heap.size from Nat.ne_of_lt (Array.getElem?_eq_some_iff.1 HZ2.out).1); have HP2a := Lib.hid (hp.then_ (below_one w2 (svO ⟨0, 0, 0, 0, false, ⟨#[]⟩⟩ none 0 0))); have HG2a := Lib.hid (grown_trans HG2.out (grown_below (below_one w2 (svO ⟨0, 0, 0, 0, false, ⟨#[]⟩⟩ none 0 0)) (some p))); have HZ2a := Lib.hid (((below_one w2 (svO ⟨0, 0, 0, 0, false, ⟨#[]⟩⟩ none 0 0)).block _ (Array.getElem?_eq_some_iff.1 HZ2.out).1).trans HZ2.out); have HS2a := Lib.hid (heap_alloc_last w2 (svO ⟨0, 0, 0, 0, false, ⟨#[]⟩⟩ none 0 0)); clear hp hg)
          | ((with_reducible refine wpList_store_sc rfl _ _ rfl w2.heap.size ⟨n1, n2, 0, 0, false, ⟨#[]⟩⟩ none 0 0 _ rfl rfl HS2a.out rfl ?_); intro w2b hs hb hk hz; have HS2b := Lib.hid hs; have HP2b := Lib.hid (show Rc w2b p R2 from (hk _ (Ne.symm HKP.out)).trans HP2a.out); have HZ2b := Lib.hid ((hk _ HKZ.out).trans HZ2a.out); have HG2b := Lib.hid (grown_store HG2a.out (hb _ _ HKB.out (Below.refl _ _))); clear hs hb hk hz)
          | (go_at_call 73; (with_reducible refine (HN3.out _ HP2b.out HG2b.out).mono ?_); rintro e w3 ⟨rfl, hp, hg⟩; have HP3 := Lib.hid hp; have HG3 := Lib.hid (grown_trans HG2b.out hg); have HZ3 := Lib.hid (blk hg HPL2.out HZ2b.out); have HS3 := Lib.hid (blk hg HKP.out HS2b.out); clear hp hg)
          | (go_at_call 73; (with_reducible refine (HN4.out _ HP3.out HG3.out).mono ?_); rintro e w4 ⟨rfl, hp, hg⟩; have HP4 := Lib.hid hp; have HG4 := Lib.hid (grown_trans HG3.out hg); have HZ4 := Lib.hid (blk hg HPL2.out HZ3.out); have HS4 := Lib.hid (blk hg HKP.out HS3.out); clear hp hg)
          | ((with_reducible refine wpList_store_rw rfl _ _ rfl w2.heap.size ⟨n1, n2, 0, 0, false, ⟨#[]⟩⟩ none 0 0 n3 rfl rfl HS4.out ?_); intro w4b hs hb hk hz; have HS4b := Lib.hid hs; have HP4b := Lib.hid (show Rc w4b p R4 from (hk _ (Ne.symm HKP.out)).trans HP4.out); have HZ4b := Lib.hid ((hk _ HKZ.out).trans HZ4.out); have HG4b := Lib.hid (grown_store HG4.out (hb _ _ HKB.out (Below.refl _ _))); clear hs hb hk hz)
          | ((with_reducible refine wpList_store_co rfl _ _ rfl w2.heap.size ⟨n1, n2, n3, 0, false, ⟨#[]⟩⟩ none 0 0 n4 rfl rfl HS4b.out ?_); intro w4c hs hb hk hz; have HS4c := Lib.hid hs; have HP4c := Lib.hid (show Rc w4c p R4 from (hk _ (Ne.symm HKP.out)).trans HP4b.out); have HZ4c := Lib.hid ((hk _ HKZ.out).trans HZ4b.out); have HG4c := Lib.hid (grown_store HG4b.out (hb _ _ HKB.out (Below.refl _ _))); clear hs hb hk hz)
          | (go_at_call 73; (with_reducible refine (HN5.out _ HP4c.out HG4c.out).mono ?_); rintro e w5 ⟨rfl, hp, hg⟩; have HP5 := Lib.hid hp; have HG5 := Lib.hid (grown_trans HG4c.out hg); have HZ5 := Lib.hid (blk hg HPL2.out HZ4c.out); have HS5 := Lib.hid (blk hg HKP.out HS4c.out); clear hp hg)
          | ((with_reducible refine wpList_store_hi rfl _ _ rfl w2.heap.size ⟨n1, n2, n3, n4, false, ⟨#[]⟩⟩ none 0 0 (n5 == 1) rfl rfl HS5.out ?_); intro w5b hs hb hk hz; have HS5b := Lib.hid hs; have HP5b := Lib.hid (show Rc w5b p R5 from (hk _ (Ne.symm HKP.out)).trans HP5.out); have HZ5b := Lib.hid ((hk _ HKZ.out).trans HZ5.out); have HG5b := Lib.hid (grown_store HG5.out (hb _ _ HKB.out (Below.refl _ _))); clear hs hb hk hz)
          | (go_at_call 74; (with_reducible refine (HN6.out _ HP5b.out HG5b.out).mono ?_); rintro e w6 ⟨rfl, hp, hg⟩; have HP6 := Lib.hid hp; have HG6 := Lib.hid (grown_trans HG5b.out hg); have HZ6 := Lib.hid (blk hg HPL2.out HZ5b.out); have HS6 := Lib.hid (blk hg HKP.out HS5b.out); clear hp hg)
          | ((with_reducible refine wpList_store_ti rfl _ _ rfl w2.heap.size ⟨n1, n2, n3, n4, n5 == 1, ⟨#[]⟩⟩ none 0 0 t6 rfl rfl HS6.out ?_); intro w6b hs hb hk hz; have HS6b := Lib.hid hs; have HP6b := Lib.hid (show Rc w6b p R6 from (hk _ (Ne.symm HKP.out)).trans HP6.out); have HZ6b := Lib.hid ((hk _ HKZ.out).trans HZ6.out); have HG6b := Lib.hid (grown_store HG6.out (hb _ _ HKB.out (Below.refl _ _))); obtain ⟨y0, y1, y2, y3, y4, y5, y6⟩ := seven hs; dsimp only at y0 y1; clear y2 y3 y4 y5 y6; clear hs hb hk hz)
          | (go_at_call 23; (with_reducible refine (HRD.out _ HP6b.out HG6b.out).mono ?_); rintro e w7 ⟨g, rfl, hgs, hr, hp, hg⟩; have HP7 := Lib.hid hp; have HG7 := Lib.hid (grown_trans HG6b.out hg); have HS7 := Lib.hid (blk hg HKP.out HS6b.out); have HZ7 := Lib.hid (blk hg HPL2.out HZ6b.out); have HR7 := Lib.hid hr; have HGK := Lib.hid (show g ≠ w2.heap.size ∧ g ≠ w.heap.size from ⟨fun e => by have := (Array.getElem?_eq_some_iff.1 HS6b.out).1; omega, fun e => by have := (Array.getElem?_eq_some_iff.1 HZ6b.out).1; omega⟩); have HGS := Lib.hid (show w.heap.size ≤ g from Nat.le_trans HG6b.out.size hgs); clear hp hg y0 y1 hr hgs)
          | (go_at_call 76; (with_reducible refine (HEND.out _ HP7.out).mono ?_); rintro e w7e ⟨rfl, hb⟩; have HP7e := Lib.hid (HP7.out.then_ hb); have HG7e := Lib.hid (grown_trans HG7.out (grown_below hb (some p))); have HS7e := Lib.hid ((hb.block _ (Array.getElem?_eq_some_iff.1 HS7.out).1).trans HS7.out); have HZ7e := Lib.hid ((hb.block _ (Array.getElem?_eq_some_iff.1 HZ7.out).1).trans HZ7.out); have HR7e := Lib.hid (show RB w7e g L from (hb.block _ (Array.getElem?_eq_some_iff.1 HR7.out).1).trans HR7.out); clear hb)
          | (go_at_call 75; (with_reducible refine (need_t _).mono ?_); rintro e w' ⟨rfl, rfl⟩)
          | ((with_reducible refine wpList_store_cells rfl _ _ rfl w2.heap.size ⟨n1, n2, n3, n4, n5 == 1, t6⟩ none 0 0 (some ⟨g, 0, none⟩) c c rfl rfl HS7e.out ?_); intro w8 hs hb hk hz; have HS8 := Lib.hid hs; have HP8 := Lib.hid (show Rc w8 p R7 from (hk _ (Ne.symm HKP.out)).trans HP7e.out); have HZ8 := Lib.hid ((hk _ HKZ.out).trans HZ7e.out); have HG8 := Lib.hid (grown_store HG7e.out (hb _ _ HKB.out (Below.refl _ _))); have HR8 := Lib.hid (show RB w8 g L from (hk _ HGK.out.1).trans HR7e.out); obtain ⟨y0, y1, y2, y3, y4, y5, y6⟩ := seven hs; dsimp only at y0 y1 y2 y3 y4 y5 y6; clear hs hb hk hz)
          | (go_at_call 28; (with_reducible refine (HMAY.out _ _ HR8.out).mono ?_); rintro e w9 ⟨rfl, hb⟩; have HP9 := Lib.hid (HP8.out.then_ hb); have HG9 := Lib.hid (grown_trans HG8.out (grown_below hb (some p))); have HZ9 := Lib.hid ((hb.block _ (Array.getElem?_eq_some_iff.1 HZ8.out).1).trans HZ8.out); have HR9 := Lib.hid (show RB w9 g L from (hb.block _ (Array.getElem?_eq_some_iff.1 HR8.out).1).trans HR8.out); replace y0 := cell_then hb (Nat.le_refl _) y0; replace y1 := cell_then hb (Nat.le_refl _) y1; replace y2 := cell_then hb (Nat.le_refl _) y2; replace y3 := cell_then hb (Nat.le_refl _) y3; replace y4 := cell_then hb (Nat.le_refl _) y4; replace y5 := cell_then hb (Nat.le_refl _) y5; replace y6 := cell_then hb (Nat.le_refl _) y6; clear hb)
          | ((with_reducible refine wpList_store_sc rfl _ _ rfl w.heap.size ⟨n1, n2, n3, n4, n5 == 1, t6⟩ (some ⟨g, 0, none⟩) c c _ rfl rfl HZ9.out rfl ?_); intro w10 hs hb hk hz; obtain ⟨z0, z1, z2, z3, z4, z5, z6⟩ := seven hs; dsimp only at z0 z1 z2 z3 z4 z5 z6; have HP10 := Lib.hid (show Rc w10 p R7 from (hk _ (Nat.ne_of_lt HPL.out)).trans HP9.out); have HR10 := Lib.hid (show RB w10 g L from (hk _ HGK.out.2).trans HR9.out); have HG10 := Lib.hid (grown_store HG9.out (hb _ _ (Nat.le_refl _) (Below.refl _ _))); clear hs hb hk hz))
        refine bodyPost_ret (v := svA ⟨n1, n2, n3, n4, n5 == 1, t6⟩ (some ⟨g, 0, none⟩) c c) (by simp [results, Try.results48, go_sem, z0, z1, z2, z3, z4, z5, z6]) rfl ?_
        have := HYES.out R7 L g w10 HDD.out HAT.out HM.out HGS.out HR10.out HG10.out
        rw [HLC.out] at this
        exact this
      · have HMAY := Lib.hid (fun (g : Nat) (w1 : World) (hr : RB w1 g L) => (HMAY0.out g w1 hr).mono fun e w' hq => may_not hq hmay)
        have HF := Lib.hid (show ¬ ∃ r' L, D = some (r', L) ∧ r'.at_ = l.length ∧ MayS ⟨n1, n2, n3, n4, n5 == 1, t6⟩ L by
          rintro ⟨r2, L2, h1, h2, h3⟩
          rw [HDD.out] at h1; injection h1 with h1; injection h1 with _ h1; subst h1; exact hmay h3)
        clear he6 hrun he7 hle7 hlen7 hat7 hmay hlc
        go_enter Try.func48, Try.ntmps48
        go_wp2_with (first
          | (go_at_call 73; (with_reducible refine (HN1.out _ HP0.out HG0.out).mono ?_); rintro e w1 ⟨rfl, hp, hg⟩; have HP1 := Lib.hid hp; have HG1 := Lib.hid (grown_trans HG0.out hg); have HZ1 := Lib.hid (blk hg HPL2.out HZ0.out); clear hp hg)
          | (go_at_call 73; (with_reducible refine (HN2.out _ HP1.out HG1.out).mono ?_); rintro e w2 ⟨rfl, hp, hg⟩; have HP2 := Lib.hid hp; have HG2 := Lib.hid (grown_trans HG1.out hg); have HZ2 := Lib.hid (blk hg HPL2.out HZ1.out); have HKP := Lib.hid (show w2.heap.size ≠ p from Nat.ne_of_gt hp.lt); have HKB := Lib.hid (show w.heap.size ≤ w2.heap.size from HG2.out.size); have HKZ := Lib.hid (show w.heap.size ≠ w2.heap.size from Nat.ne_of_lt (Array.getElem?_eq_some_iff.1 HZ2.out).1); have HP2a := Lib.hid (hp.then_ (below_one w2 (svO ⟨0, 0, 0, 0, false, ⟨#[]⟩⟩ none 0 0))); have HG2a := Lib.hid (grown_trans HG2.out (grown_below (below_one w2 (svO ⟨0, 0, 0, 0, false, ⟨#[]⟩⟩ none 0 0)) (some p))); have HZ2a := Lib.hid (((below_one w2 (svO ⟨0, 0, 0, 0, false, ⟨#[]⟩⟩ none 0 0)).block _ (Array.getElem?_eq_some_iff.1 HZ2.out).1).trans HZ2.out); have HS2a := Lib.hid (heap_alloc_last w2 (svO ⟨0, 0, 0, 0, false, ⟨#[]⟩⟩ none 0 0)); clear hp hg)
          | ((with_reducible refine wpList_store_sc rfl _ _ rfl w2.heap.size ⟨n1, n2, 0, 0, false, ⟨#[]⟩⟩ none 0 0 _ rfl rfl HS2a.out rfl ?_); intro w2b hs hb hk hz; have HS2b := Lib.hid hs; have HP2b := Lib.hid (show Rc w2b p R2 from (hk _ (Ne.symm HKP.out)).trans HP2a.out); have HZ2b := Lib.hid ((hk _ HKZ.out).trans HZ2a.out); have HG2b := Lib.hid (grown_store HG2a.out (hb _ _ HKB.out (Below.refl _ _))); clear hs hb hk hz)
          | (go_at_call 73; (with_reducible refine (HN3.out _ HP2b.out HG2b.out).mono ?_); rintro e w3 ⟨rfl, hp, hg⟩; have HP3 := Lib.hid hp; have HG3 := Lib.hid (grown_trans HG2b.out hg); have HZ3 := Lib.hid (blk hg HPL2.out HZ2b.out); have HS3 := Lib.hid (blk hg HKP.out HS2b.out); clear hp hg)
          | (go_at_call 73; (with_reducible refine (HN4.out _ HP3.out HG3.out).mono ?_); rintro e w4 ⟨rfl, hp, hg⟩; have HP4 := Lib.hid hp; have HG4 := Lib.hid (grown_trans HG3.out hg); have HZ4 := Lib.hid (blk hg HPL2.out HZ3.out); have HS4 := Lib.hid (blk hg HKP.out HS3.out); clear hp hg)
          | ((with_reducible refine wpList_store_rw rfl _ _ rfl w2.heap.size ⟨n1, n2, 0, 0, false, ⟨#[]⟩⟩ none 0 0 n3 rfl rfl HS4.out ?_); intro w4b hs hb hk hz; have HS4b := Lib.hid hs; have HP4b := Lib.hid (show Rc w4b p R4 from (hk _ (Ne.symm HKP.out)).trans HP4.out); have HZ4b := Lib.hid ((hk _ HKZ.out).trans HZ4.out); have HG4b := Lib.hid (grown_store HG4.out (hb _ _ HKB.out (Below.refl _ _))); clear hs hb hk hz)
          | ((with_reducible refine wpList_store_co rfl _ _ rfl w2.heap.size ⟨n1, n2, n3, 0, false, ⟨#[]⟩⟩ none 0 0 n4 rfl rfl HS4b.out ?_); intro w4c hs hb hk hz; have HS4c := Lib.hid hs; have HP4c := Lib.hid (show Rc w4c p R4 from (hk _ (Ne.symm HKP.out)).trans HP4b.out); have HZ4c := Lib.hid ((hk _ HKZ.out).trans HZ4b.out); have HG4c := Lib.hid (grown_store HG4b.out (hb _ _ HKB.out (Below.refl _ _))); clear hs hb hk hz)
          | (go_at_call 73; (with_reducible refine (HN5.out _ HP4c.out HG4c.out).mono ?_); rintro e w5 ⟨rfl, hp, hg⟩; have HP5 := Lib.hid hp; have HG5 := Lib.hid (grown_trans HG4c.out hg); have HZ5 := Lib.hid (blk hg HPL2.out HZ4c.out); have HS5 := Lib.hid (blk hg HKP.out HS4c.out); clear hp hg)
          | ((with_reducible refine wpList_store_hi rfl _ _ rfl w2.heap.size ⟨n1, n2, n3, n4, false, ⟨#[]⟩⟩ none 0 0 (n5 == 1) rfl rfl HS5.out ?_); intro w5b hs hb hk hz; have HS5b := Lib.hid hs; have HP5b := Lib.hid (show Rc w5b p R5 from (hk _ (Ne.symm HKP.out)).trans HP5.out); have HZ5b := Lib.hid ((hk _ HKZ.out).trans HZ5.out); have HG5b := Lib.hid (grown_store HG5.out (hb _ _ HKB.out (Below.refl _ _))); clear hs hb hk hz)
          | (go_at_call 74; (with_reducible refine (HN6.out _ HP5b.out HG5b.out).mono ?_); rintro e w6 ⟨rfl, hp, hg⟩; have HP6 := Lib.hid hp; have HG6 := Lib.hid (grown_trans HG5b.out hg); have HZ6 := Lib.hid (blk hg HPL2.out HZ5b.out); have HS6 := Lib.hid (blk hg HKP.out HS5b.out); clear hp hg)
          | ((with_reducible refine wpList_store_ti rfl _ _ rfl w2.heap.size ⟨n1, n2, n3, n4, n5 == 1, ⟨#[]⟩⟩ none 0 0 t6 rfl rfl HS6.out ?_); intro w6b hs hb hk hz; have HS6b := Lib.hid hs; have HP6b := Lib.hid (show Rc w6b p R6 from (hk _ (Ne.symm HKP.out)).trans HP6.out); have HZ6b := Lib.hid ((hk _ HKZ.out).trans HZ6.out); have HG6b := Lib.hid (grown_store HG6.out (hb _ _ HKB.out (Below.refl _ _))); obtain ⟨y0, y1, y2, y3, y4, y5, y6⟩ := seven hs; dsimp only at y0 y1; clear y2 y3 y4 y5 y6; clear hs hb hk hz)
          | (go_at_call 23; (with_reducible refine (HRD.out _ HP6b.out HG6b.out).mono ?_); rintro e w7 ⟨g, rfl, hgs, hr, hp, hg⟩; have HP7 := Lib.hid hp; have HG7 := Lib.hid (grown_trans HG6b.out hg); have HS7 := Lib.hid (blk hg HKP.out HS6b.out); have HZ7 := Lib.hid (blk hg HPL2.out HZ6b.out); have HR7 := Lib.hid hr; have HGK := Lib.hid (show g ≠ w2.heap.size ∧ g ≠ w.heap.size from ⟨fun e => by have := (Array.getElem?_eq_some_iff.1 HS6b.out).1; omega, fun e => by have := (Array.getElem?_eq_some_iff.1 HZ6b.out).1; omega⟩); have HGS := Lib.hid (show w.heap.size ≤ g from Nat.le_trans HG6b.out.size hgs); clear hp hg y0 y1 hr hgs)
          | (go_at_call 76; (with_reducible refine (HEND.out _ HP7.out).mono ?_); rintro e w7e ⟨rfl, hb⟩; have HP7e := Lib.hid (HP7.out.then_ hb); have HG7e := Lib.hid (grown_trans HG7.out (grown_below hb (some p))); have HS7e := Lib.hid ((hb.block _ (Array.getElem?_eq_some_iff.1 HS7.out).1).trans HS7.out); have HZ7e := Lib.hid ((hb.block _ (Array.getElem?_eq_some_iff.1 HZ7.out).1).trans HZ7.out); have HR7e := Lib.hid (show RB w7e g L from (hb.block _ (Array.getElem?_eq_some_iff.1 HR7.out).1).trans HR7.out); clear hb)
          | (go_at_call 75; (with_reducible refine (need_t _).mono ?_); rintro e w' ⟨rfl, rfl⟩)
          | (go_at_call 75; (with_reducible refine (need_f _).mono ?_); rintro e w' ⟨rfl, rfl⟩)
          | ((with_reducible refine wpList_store_cells rfl _ _ rfl w2.heap.size ⟨n1, n2, n3, n4, n5 == 1, t6⟩ none 0 0 (some ⟨g, 0, none⟩) c c rfl rfl HS7e.out ?_); intro w8 hs hb hk hz; have HS8 := Lib.hid hs; have HP8 := Lib.hid (show Rc w8 p R7 from (hk _ (Ne.symm HKP.out)).trans HP7e.out); have HZ8 := Lib.hid ((hk _ HKZ.out).trans HZ7e.out); have HG8 := Lib.hid (grown_store HG7e.out (hb _ _ HKB.out (Below.refl _ _))); have HR8 := Lib.hid (show RB w8 g L from (hk _ HGK.out.1).trans HR7e.out); obtain ⟨y0, y1, y2, y3, y4, y5, y6⟩ := seven hs; dsimp only at y0 y1 y2 y3 y4 y5 y6; clear hs hb hk hz)
          | (go_at_call 28; (with_reducible refine (HMAY.out _ _ HR8.out).mono ?_); rintro e w9 ⟨rfl, hb⟩; have HP9 := Lib.hid (HP8.out.then_ hb); have HG9 := Lib.hid (grown_trans HG8.out (grown_below hb (some p))); have HZ9 := Lib.hid ((hb.block _ (Array.getElem?_eq_some_iff.1 HZ8.out).1).trans HZ8.out); have HR9 := Lib.hid (show RB w9 g L from (hb.block _ (Array.getElem?_eq_some_iff.1 HR8.out).1).trans HR8.out); replace y0 := cell_then hb (Nat.le_refl _) y0; replace y1 := cell_then hb (Nat.le_refl _) y1; replace y2 := cell_then hb (Nat.le_refl _) y2; replace y3 := cell_then hb (Nat.le_refl _) y3; replace y4 := cell_then hb (Nat.le_refl _) y4; replace y5 := cell_then hb (Nat.le_refl _) y5; replace y6 := cell_then hb (Nat.le_refl _) y6; clear hb))
        go_wp2
        exact ⟨rfl, HNO.out _ _ HF.out HP9.out HG9.out⟩
    · rw [decide_eq_false hat7] at HEND
      have HF := Lib.hid (show ¬ ∃ r' L, D = some (r', L) ∧ r'.at_ = l.length ∧ MayS ⟨n1, n2, n3, n4, n5 == 1, t6⟩ L by
        rintro ⟨r2, L2, h1, h2, h3⟩
        rw [HDD.out] at h1; injection h1 with h1; injection h1 with h1 _; subst h1; exact hat7 h2)
      clear he6 hrun he7 hle7 hlen7 hat7 hlc
      go_enter Try.func48, Try.ntmps48
      go_wp2_with (first
        | (go_at_call 73; (with_reducible refine (HN1.out _ HP0.out HG0.out).mono ?_); rintro e w1 ⟨rfl, hp, hg⟩; have HP1 := Lib.hid hp; have HG1 := Lib.hid (grown_trans HG0.out hg); have HZ1 := Lib.hid (blk hg HPL2.out HZ0.out); clear hp hg)
        | (go_at_call 73; (with_reducible refine (HN2.out _ HP1.out HG1.out).mono ?_); rintro e w2 ⟨rfl, hp, hg⟩; have HP2 := Lib.hid hp; have HG2 := Lib.hid (grown_trans HG1.out hg); have HZ2 := Lib.hid (blk hg HPL2.out HZ1.out); have HKP := Lib.hid (show w2.heap.size ≠ p from Nat.ne_of_gt hp.lt); have HKB := Lib.hid (show w.heap.size ≤ w2.heap.size from HG2.out.size); have HKZ := Lib.hid (show w.heap.size ≠ w2.heap.size from Nat.ne_of_lt (Array.getElem?_eq_some_iff.1 HZ2.out).1); have HP2a := Lib.hid (hp.then_ (below_one w2 (svO ⟨0, 0, 0, 0, false, ⟨#[]⟩⟩ none 0 0))); have HG2a := Lib.hid (grown_trans HG2.out (grown_below (below_one w2 (svO ⟨0, 0, 0, 0, false, ⟨#[]⟩⟩ none 0 0)) (some p))); have HZ2a := Lib.hid (((below_one w2 (svO ⟨0, 0, 0, 0, false, ⟨#[]⟩⟩ none 0 0)).block _ (Array.getElem?_eq_some_iff.1 HZ2.out).1).trans HZ2.out); have HS2a := Lib.hid (heap_alloc_last w2 (svO ⟨0, 0, 0, 0, false, ⟨#[]⟩⟩ none 0 0)); clear hp hg)
        | ((with_reducible refine wpList_store_sc rfl _ _ rfl w2.heap.size ⟨n1, n2, 0, 0, false, ⟨#[]⟩⟩ none 0 0 _ rfl rfl HS2a.out rfl ?_); intro w2b hs hb hk hz; have HS2b := Lib.hid hs; have HP2b := Lib.hid (show Rc w2b p R2 from (hk _ (Ne.symm HKP.out)).trans HP2a.out); have HZ2b := Lib.hid ((hk _ HKZ.out).trans HZ2a.out); have HG2b := Lib.hid (grown_store HG2a.out (hb _ _ HKB.out (Below.refl _ _))); clear hs hb hk hz)
        | (go_at_call 73; (with_reducible refine (HN3.out _ HP2b.out HG2b.out).mono ?_); rintro e w3 ⟨rfl, hp, hg⟩; have HP3 := Lib.hid hp; have HG3 := Lib.hid (grown_trans HG2b.out hg); have HZ3 := Lib.hid (blk hg HPL2.out HZ2b.out); have HS3 := Lib.hid (blk hg HKP.out HS2b.out); clear hp hg)
        | (go_at_call 73; (with_reducible refine (HN4.out _ HP3.out HG3.out).mono ?_); rintro e w4 ⟨rfl, hp, hg⟩; have HP4 := Lib.hid hp; have HG4 := Lib.hid (grown_trans HG3.out hg); have HZ4 := Lib.hid (blk hg HPL2.out HZ3.out); have HS4 := Lib.hid (blk hg HKP.out HS3.out); clear hp hg)
        | ((with_reducible refine wpList_store_rw rfl _ _ rfl w2.heap.size ⟨n1, n2, 0, 0, false, ⟨#[]⟩⟩ none 0 0 n3 rfl rfl HS4.out ?_); intro w4b hs hb hk hz; have HS4b := Lib.hid hs; have HP4b := Lib.hid (show Rc w4b p R4 from (hk _ (Ne.symm HKP.out)).trans HP4.out); have HZ4b := Lib.hid ((hk _ HKZ.out).trans HZ4.out); have HG4b := Lib.hid (grown_store HG4.out (hb _ _ HKB.out (Below.refl _ _))); clear hs hb hk hz)
        | ((with_reducible refine wpList_store_co rfl _ _ rfl w2.heap.size ⟨n1, n2, n3, 0, false, ⟨#[]⟩⟩ none 0 0 n4 rfl rfl HS4b.out ?_); intro w4c hs hb hk hz; have HS4c := Lib.hid hs; have HP4c := Lib.hid (show Rc w4c p R4 from (hk _ (Ne.symm HKP.out)).trans HP4b.out); have HZ4c := Lib.hid ((hk _ HKZ.out).trans HZ4b.out); have HG4c := Lib.hid (grown_store HG4b.out (hb _ _ HKB.out (Below.refl _ _))); clear hs hb hk hz)
        | (go_at_call 73; (with_reducible refine (HN5.out _ HP4c.out HG4c.out).mono ?_); rintro e w5 ⟨rfl, hp, hg⟩; have HP5 := Lib.hid hp; have HG5 := Lib.hid (grown_trans HG4c.out hg); have HZ5 := Lib.hid (blk hg HPL2.out HZ4c.out); have HS5 := Lib.hid (blk hg HKP.out HS4c.out); clear hp hg)
        | ((with_reducible refine wpList_store_hi rfl _ _ rfl w2.heap.size ⟨n1, n2, n3, n4, false, ⟨#[]⟩⟩ none 0 0 (n5 == 1) rfl rfl HS5.out ?_); intro w5b hs hb hk hz; have HS5b := Lib.hid hs; have HP5b := Lib.hid (show Rc w5b p R5 from (hk _ (Ne.symm HKP.out)).trans HP5.out); have HZ5b := Lib.hid ((hk _ HKZ.out).trans HZ5.out); have HG5b := Lib.hid (grown_store HG5.out (hb _ _ HKB.out (Below.refl _ _))); clear hs hb hk hz)
        | (go_at_call 74; (with_reducible refine (HN6.out _ HP5b.out HG5b.out).mono ?_); rintro e w6 ⟨rfl, hp, hg⟩; have HP6 := Lib.hid hp; have HG6 := Lib.hid (grown_trans HG5b.out hg); have HZ6 := Lib.hid (blk hg HPL2.out HZ5b.out); have HS6 := Lib.hid (blk hg HKP.out HS5b.out); clear hp hg)
        | ((with_reducible refine wpList_store_ti rfl _ _ rfl w2.heap.size ⟨n1, n2, n3, n4, n5 == 1, ⟨#[]⟩⟩ none 0 0 t6 rfl rfl HS6.out ?_); intro w6b hs hb hk hz; have HS6b := Lib.hid hs; have HP6b := Lib.hid (show Rc w6b p R6 from (hk _ (Ne.symm HKP.out)).trans HP6.out); have HZ6b := Lib.hid ((hk _ HKZ.out).trans HZ6.out); have HG6b := Lib.hid (grown_store HG6.out (hb _ _ HKB.out (Below.refl _ _))); obtain ⟨y0, y1, y2, y3, y4, y5, y6⟩ := seven hs; dsimp only at y0 y1; clear y2 y3 y4 y5 y6; clear hs hb hk hz)
        | (go_at_call 23; (with_reducible refine (HRD.out _ HP6b.out HG6b.out).mono ?_); rintro e w7 ⟨g, rfl, hgs, hr, hp, hg⟩; have HP7 := Lib.hid hp; have HG7 := Lib.hid (grown_trans HG6b.out hg); have HS7 := Lib.hid (blk hg HKP.out HS6b.out); have HZ7 := Lib.hid (blk hg HPL2.out HZ6b.out); have HR7 := Lib.hid hr; have HGK := Lib.hid (show g ≠ w2.heap.size ∧ g ≠ w.heap.size from ⟨fun e => by have := (Array.getElem?_eq_some_iff.1 HS6b.out).1; omega, fun e => by have := (Array.getElem?_eq_some_iff.1 HZ6b.out).1; omega⟩); have HGS := Lib.hid (show w.heap.size ≤ g from Nat.le_trans HG6b.out.size hgs); clear hp hg y0 y1 hr hgs)
        | (go_at_call 76; (with_reducible refine (HEND.out _ HP7.out).mono ?_); rintro e w7e ⟨rfl, hb⟩; have HP7e := Lib.hid (HP7.out.then_ hb); have HG7e := Lib.hid (grown_trans HG7.out (grown_below hb (some p))); have HS7e := Lib.hid ((hb.block _ (Array.getElem?_eq_some_iff.1 HS7.out).1).trans HS7.out); have HZ7e := Lib.hid ((hb.block _ (Array.getElem?_eq_some_iff.1 HZ7.out).1).trans HZ7.out); have HR7e := Lib.hid (show RB w7e g L from (hb.block _ (Array.getElem?_eq_some_iff.1 HR7.out).1).trans HR7.out); clear hb)
        | (go_at_call 75; (with_reducible refine (need_f _).mono ?_); rintro e w' ⟨rfl, rfl⟩))
      go_wp2
      exact ⟨rfl, HNO.out _ _ HF.out HP7e.out HG7e.out⟩
  · have HRD := Lib.hid (fun w1 h1 hg => (K7.out (c : Int) w1 h1 hg).mono fun e w' hq => rd_no hq hok)
    have HF := Lib.hid (show ¬ ∃ r' L, D = some (r', L) ∧ r'.at_ = l.length ∧ MayS ⟨n1, n2, n3, n4, n5 == 1, t6⟩ L by
      rintro ⟨r2, L2, h1, h2, h3⟩
      rw [HD.out] at h1
      by_cases h6 : R6.err = 0
      · rw [if_pos h6] at h1; exact hok ⟨r2, L2, h6, h1⟩
      · rw [if_neg h6] at h1; cases h1)
    clear hok
    go_enter Try.func48, Try.ntmps48
    go_wp2_with (first
      | (go_at_call 73; (with_reducible refine (HN1.out _ HP0.out HG0.out).mono ?_); rintro e w1 ⟨rfl, hp, hg⟩; have HP1 := Lib.hid hp; have HG1 := Lib.hid (grown_trans HG0.out hg); have HZ1 := Lib.hid (blk hg HPL2.out HZ0.out); clear hp hg)
      | (go_at_call 73; (with_reducible refine (HN2.out _ HP1.out HG1.out).mono ?_); rintro e w2 ⟨rfl, hp, hg⟩; have HP2 := Lib.hid hp; have HG2 := Lib.hid (grown_trans HG1.out hg); have HZ2 := Lib.hid (blk hg HPL2.out HZ1.out); have HKP := Lib.hid (show w2.heap.size ≠ p from Nat.ne_of_gt hp.lt); have HKB := Lib.hid (show w.heap.size ≤ w2.heap.size from HG2.out.size); have HKZ := Lib.hid (show w.heap.size ≠ w2.heap.size from Nat.ne_of_lt (Array.getElem?_eq_some_iff.1 HZ2.out).1); have HP2a := Lib.hid (hp.then_ (below_one w2 (svO ⟨0, 0, 0, 0, false, ⟨#[]⟩⟩ none 0 0))); have HG2a := Lib.hid (grown_trans HG2.out (grown_below (below_one w2 (svO ⟨0, 0, 0, 0, false, ⟨#[]⟩⟩ none 0 0)) (some p))); have HZ2a := Lib.hid (((below_one w2 (svO ⟨0, 0, 0, 0, false, ⟨#[]⟩⟩ none 0 0)).block _ (Array.getElem?_eq_some_iff.1 HZ2.out).1).trans HZ2.out); have HS2a := Lib.hid (heap_alloc_last w2 (svO ⟨0, 0, 0, 0, false, ⟨#[]⟩⟩ none 0 0)); clear hp hg)
      | ((with_reducible refine wpList_store_sc rfl _ _ rfl w2.heap.size ⟨n1, n2, 0, 0, false, ⟨#[]⟩⟩ none 0 0 _ rfl rfl HS2a.out rfl ?_); intro w2b hs hb hk hz; have HS2b := Lib.hid hs; have HP2b := Lib.hid (show Rc w2b p R2 from (hk _ (Ne.symm HKP.out)).trans HP2a.out); have HZ2b := Lib.hid ((hk _ HKZ.out).trans HZ2a.out); have HG2b := Lib.hid (grown_store HG2a.out (hb _ _ HKB.out (Below.refl _ _))); clear hs hb hk hz)
      | (go_at_call 73; (with_reducible refine (HN3.out _ HP2b.out HG2b.out).mono ?_); rintro e w3 ⟨rfl, hp, hg⟩; have HP3 := Lib.hid hp; have HG3 := Lib.hid (grown_trans HG2b.out hg); have HZ3 := Lib.hid (blk hg HPL2.out HZ2b.out); have HS3 := Lib.hid (blk hg HKP.out HS2b.out); clear hp hg)
      | (go_at_call 73; (with_reducible refine (HN4.out _ HP3.out HG3.out).mono ?_); rintro e w4 ⟨rfl, hp, hg⟩; have HP4 := Lib.hid hp; have HG4 := Lib.hid (grown_trans HG3.out hg); have HZ4 := Lib.hid (blk hg HPL2.out HZ3.out); have HS4 := Lib.hid (blk hg HKP.out HS3.out); clear hp hg)
      | ((with_reducible refine wpList_store_rw rfl _ _ rfl w2.heap.size ⟨n1, n2, 0, 0, false, ⟨#[]⟩⟩ none 0 0 n3 rfl rfl HS4.out ?_); intro w4b hs hb hk hz; have HS4b := Lib.hid hs; have HP4b := Lib.hid (show Rc w4b p R4 from (hk _ (Ne.symm HKP.out)).trans HP4.out); have HZ4b := Lib.hid ((hk _ HKZ.out).trans HZ4.out); have HG4b := Lib.hid (grown_store HG4.out (hb _ _ HKB.out (Below.refl _ _))); clear hs hb hk hz)
      | ((with_reducible refine wpList_store_co rfl _ _ rfl w2.heap.size ⟨n1, n2, n3, 0, false, ⟨#[]⟩⟩ none 0 0 n4 rfl rfl HS4b.out ?_); intro w4c hs hb hk hz; have HS4c := Lib.hid hs; have HP4c := Lib.hid (show Rc w4c p R4 from (hk _ (Ne.symm HKP.out)).trans HP4b.out); have HZ4c := Lib.hid ((hk _ HKZ.out).trans HZ4b.out); have HG4c := Lib.hid (grown_store HG4b.out (hb _ _ HKB.out (Below.refl _ _))); clear hs hb hk hz)
      | (go_at_call 73; (with_reducible refine (HN5.out _ HP4c.out HG4c.out).mono ?_); rintro e w5 ⟨rfl, hp, hg⟩; have HP5 := Lib.hid hp; have HG5 := Lib.hid (grown_trans HG4c.out hg); have HZ5 := Lib.hid (blk hg HPL2.out HZ4c.out); have HS5 := Lib.hid (blk hg HKP.out HS4c.out); clear hp hg)
      | ((with_reducible refine wpList_store_hi rfl _ _ rfl w2.heap.size ⟨n1, n2, n3, n4, false, ⟨#[]⟩⟩ none 0 0 (n5 == 1) rfl rfl HS5.out ?_); intro w5b hs hb hk hz; have HS5b := Lib.hid hs; have HP5b := Lib.hid (show Rc w5b p R5 from (hk _ (Ne.symm HKP.out)).trans HP5.out); have HZ5b := Lib.hid ((hk _ HKZ.out).trans HZ5.out); have HG5b := Lib.hid (grown_store HG5.out (hb _ _ HKB.out (Below.refl _ _))); clear hs hb hk hz)
      | (go_at_call 74; (with_reducible refine (HN6.out _ HP5b.out HG5b.out).mono ?_); rintro e w6 ⟨rfl, hp, hg⟩; have HP6 := Lib.hid hp; have HG6 := Lib.hid (grown_trans HG5b.out hg); have HZ6 := Lib.hid (blk hg HPL2.out HZ5b.out); have HS6 := Lib.hid (blk hg HKP.out HS5b.out); clear hp hg)
      | ((with_reducible refine wpList_store_ti rfl _ _ rfl w2.heap.size ⟨n1, n2, n3, n4, n5 == 1, ⟨#[]⟩⟩ none 0 0 t6 rfl rfl HS6.out ?_); intro w6b hs hb hk hz; have HS6b := Lib.hid hs; have HP6b := Lib.hid (show Rc w6b p R6 from (hk _ (Ne.symm HKP.out)).trans HP6.out); have HZ6b := Lib.hid ((hk _ HKZ.out).trans HZ6.out); have HG6b := Lib.hid (grown_store HG6.out (hb _ _ HKB.out (Below.refl _ _))); obtain ⟨y0, y1, y2, y3, y4, y5, y6⟩ := seven hs; dsimp only at y0 y1; clear y2 y3 y4 y5 y6; clear hs hb hk hz)
      | (go_at_call 23; (with_reducible refine (HRD.out _ HP6b.out HG6b.out).mono ?_); rintro e w7 ⟨rfl, ⟨r7, hp⟩, hg⟩; have HP7 := Lib.hid hp; have HG7 := Lib.hid (grown_trans HG6b.out hg); clear hp hg y0 y1)
      | (go_at_call 75; (with_reducible refine (need_f _).mono ?_); rintro e w' ⟨rfl, rfl⟩))
    go_wp2
    exact ⟨rfl, HNO.out _ _ HF.out HP7.out HG7.out⟩
end Go.Proofs.Ytfogbokifbjjlaa.Oe
/- key.Decode. -/
set_option linter.unusedVariables false
namespace Go.Proofs.Ytfogbokifbjjlaa.Of
open Go Go.RowKit Kit Gm Gv Crc Var Get Bytes WireFirst Ref3 Copy Ap Sa Sb Sd Rd RdA RdB RdF La Lc Ma Mb Oa Ob Oc Od Oe Na Nb Tk
open RdC (newC NewQ)

abbrev sO0 : Obj := svO ⟨0, 0, 0, 0, false, ⟨#[]⟩⟩ none 0 0
/-- the text of a screen that may be. -/
def EncS (l : List Nat) (s : Scr) (L : List Ce) : Prop := MayS s L ∧ l = encL s L
theorem encS_one {l : List Nat} {s t : Scr} {L M : List Ce} (h : EncS l s L) (k : EncS l t M) : s = t ∧ L = M := by
  obtain ⟨a, b, _⟩ := enc_one s t L M h.1 k.1 [] [] (by rw [← h.2, ← k.2])
  exact ⟨a, b⟩
/-- what Decode answers. -/
def DcQ (l : List Nat) (w : World) (e : Ending) (w' : World) : Prop :=
  (∃ (s : Scr) (L : List Ce) (g : Nat), EncS l s L ∧ e = .returned (.tuple #[svA s (some ⟨g, 0, none⟩) L.length L.length, .int .i64 0]) ∧ w.heap.size ≤ g ∧ RB w' g L ∧ Below w.heap.size w w') ∨
  ((¬ ∃ s L, EncS l s L) ∧ e = .returned (.tuple #[svA ⟨0, 0, 0, 0, false, ⟨#[]⟩⟩ none 0 0, .int .i64 2]) ∧ Below w.heap.size w w')
theorem dec_res {l : List Nat} (hl : ∀ c ∈ l, c < 256) {r : Rdr} (h0 : r.err = 0) (h1 : r.at_ = 0) {p : Nat} {w w' : World} {e : Ending} (h : DecQ l r p w e w') :
    (∃ s L g, EncS l s L ∧ e = .returned (svA s (some ⟨g, 0, none⟩) L.length L.length) ∧ w.heap.size ≤ g ∧ RB w' g L ∧ w.grownBy w' (some p)) ∨ ((¬ ∃ s L, EncS l s L) ∧ KP p w e w') := by
  rcases h with ⟨r', L, g, a1, a2, a3, a4, a5, a6, a7⟩ | ⟨a1, a2⟩
  · left
    obtain ⟨_, _, _, b, _⟩ := dec_back l hl r h1 r' L a1
    rw [a2, List.drop_length, List.append_nil] at b
    exact ⟨scrF l r, L, g, ⟨a3, b⟩, a4, a5, a6, a7⟩
  · right
    refine ⟨?_, a2⟩
    rintro ⟨s, L, b1, b2⟩
    obtain ⟨c1, _, c3⟩ := dec_fw s L b1 [] r h0 h1
    rw [List.append_nil, ← b2] at c1 c3
    exact a1 ⟨_, L, c3, by rw [b2], by rw [c1]; exact b1⟩
theorem tm46 (a b v : Value) : #[a, b] ++ ((Array.replicate 7 undef).setIfInBounds 1 v).setIfInBounds 0 v = #[a, b, v, v, undef, undef, undef, undef, undef] := by
  apply Array.toList_inj.1
  simp [List.replicate]
/-- the deferred closure, where the reading ended well: nothing. -/
theorem catch_idle (a b : Addr) (w : World) :
    CallsD Try.prog 46 #[.pointer (some a), .pointer (some b)] .returning w fun e u' w' => e = .returned (.tuple #[]) ∧ u' = .returning ∧ w' = w := by
  refine callsD_of_wpS Try.func46 rfl fun c₀ cs hu => ?_
  apply wpS_seq
  apply wpS_region
  simp [wpOpsS, go_sem, recoverD, hu, Try.ntmps46, Exit.thenS]
  refine wpS_of_wp ?_
  rw [tm46]
  go_wp2
  cases c₀
  simp_all [bodyPostS, results, Try.results46]
/-- the two results of Decode in their blocks. -/
def ResS (w : World) (g : Nat) (o : Obj) (y : Int) : Prop := w.heap[g]? = some o ∧ w.heap[g + 1]? = some (.cells #[.int .i64 y] 28 (0, 0))
set_option maxRecDepth 100000 in
set_option maxHeartbeats 2000000 in
/-- the deferred closure catches the package's own fault. -/
theorem catch_own (w : World) (g : Nat) (y : Int) (older : List PanicEntry) (h : ResS w g sO0 y) :
    CallsD Try.prog 46 #[.pointer (some ⟨g, 0, none⟩), .pointer (some ⟨g + 1, 0, none⟩)] (.panicking ({ v := kfault, recovered := false } :: older)) w fun en u' w' =>
      en = .returned (.tuple #[]) ∧ u' = .panicking ({ v := kfault, recovered := true } :: older) ∧ ResS w' g sO0 2 ∧ ∀ B W, B ≤ g → Below B W w → Below B W w' := by
  have HC := Lib.hid (ownC w)
  have HR := Lib.hid h
  have hlt := Lib.hid (show g + 1 < w.heap.size from (Array.getElem?_eq_some_iff.1 h.2).1)
  have HI28 := Lib.hid (show (Try.prog.info? 28).map (·.size) = some 1 by kernel_rfl)
  have HL := Lib.hid (show 0 < (#[Value.int .i64 y] : Array Value).size from Nat.zero_lt_one)
  have HU := Lib.hid (show (#[Value.int .i64 y] : Array Value).setIfInBounds 0 (.int .i64 2) = #[.int .i64 2] from rfl)
  clear h
  refine callsD_of_wpS Try.func46 rfl fun c₀ cs hu => ?_
  apply wpS_seq
  apply wpS_region
  simp [wpOpsS, go_sem, recoverD, hu, Try.ntmps46, Exit.thenS]
  refine wpS_of_wp ?_
  rw [tm46]
  unfold kfault at *
  go_wp2_with (first
    | (go_at_call 47; (with_reducible refine HC.out.mono ?_); rintro e w1 ⟨rfl, hb⟩; have HR1 := Lib.hid ((hb.block _ (Array.getElem?_eq_some_iff.1 HR.out.1).1).trans HR.out.1); have HR2 := Lib.hid ((hb.block _ (Array.getElem?_eq_some_iff.1 HR.out.2).1).trans HR.out.2); have HB1 := Lib.hid hb; clear hb)
    | ((with_reducible refine wpList_store_sc rfl _ _ rfl g ⟨0, 0, 0, 0, false, ⟨#[]⟩⟩ none 0 0 _ rfl rfl HR1.out rfl ?_); intro w2 hs hb hk hz; have HS2 := Lib.hid hs; have HE2 := Lib.hid ((hk _ (Nat.succ_ne_self _)).trans HR2.out); have HW2 := Lib.hid hb; clear hs hb hk hz)
    | ((with_reducible refine wpList_store_at rfl 28 _ _ rfl HI28.out (g + 1) 0 28 #[.int .i64 y] #[.int .i64 2] (.int .i64 2) rfl rfl rfl rfl HE2.out HL.out HU.out ?_); intro w3 hs hb hk hz; have HS3 := Lib.hid ((hk _ (Nat.ne_of_lt (Nat.lt_succ_self _))).trans HS2.out); have HE3 := Lib.hid hs; have HW3 := Lib.hid hb; clear hs hb hk hz))
  exact ⟨rfl, _, rfl, .tuple #[], by simp [results, Try.results46], rfl, rfl, ⟨HS3.out, HE3.out⟩, fun B W hB hw => HW3.out _ _ (Nat.le_succ_of_le hB) (HW2.out _ _ hB (below_then hw HB1.out (Nat.le_trans hB (by have := hlt.out; omega))))⟩
/-- the reader is new: but for it all is as it was. -/
theorem grown_new {w w1 w2 : World} {p B : Nat} (hb : Below B w w1) (hB : B ≤ w.heap.size) (hp : B ≤ p) (hg : w1.grownBy w2 (some p)) : Below B w w2 :=
  ⟨hg.os.trans hb.os, hg.tape.trans hb.tape, hg.output.trans hb.output, Nat.le_trans hb.size hg.size, fun k hk => (hg.block k (Nat.lt_of_lt_of_le hk (Nat.le_trans hB hb.size)) (by intro e; injection e with e; omega)).trans (hb.block k hk)⟩
theorem resS_below {w w1 : World} {g B : Nat} {o : Obj} {y : Int} (h : ResS w g o y) (hb : Below B w w1) (hB : g + 1 < B) : ResS w1 g o y :=
  ⟨(hb.block _ (by omega)).trans h.1, (hb.block _ hB).trans h.2⟩
set_option maxRecDepth 100000 in
set_option maxHeartbeats 4000000 in
/-- key.Decode. -/
theorem decC (a : Option Addr) (n cap : Nat) (l : List Nat) (w : World) (hn : n = l.length) (hm : l.length ≤ 1000000) (h8 : ∀ c ∈ l, c < 256) (hs : Sl w a l) (h0 : a = none → cap = 0) :
    Calls Try.prog 19 #[.slice a n cap] w (DcQ l w) := by
  subst hn
  have hmf := RdB.hmf
  have hb := Sd.below_two w sO0 (.cells #[.int .i64 0] 28)
  have hr : ResS ((w.alloc sO0).alloc (.cells #[.int .i64 0] 28)) w.heap.size sO0 0 := Sd.two_heap w sO0 (.cells #[.int .i64 0] 28)
  have hsz : ((w.alloc sO0).alloc (.cells #[.int .i64 0] 28)).heap.size = w.heap.size + 2 := by simp
  generalize hw0 : (w.alloc (.cells #[.int .i64 0, .int .i64 0, .slice none 0 0, .int .i64 0, .int .i64 0, .bool false, .string ⟨#[]⟩] 24)).alloc (.cells #[.int .i64 0] 28) = w0 at *
  have HNEW := Lib.hid (newC a cap l w0 hm h8 (sl_then hb (Nat.le_refl _) hs) h0)
  have HDEC := Lib.hid (fun (p : Nat) (r : Rdr) (w1 : World) (hp : Rc w1 p r) (h1 : r.at_ = 0) (h2 : r.err = 0) (hl : By w1 r l) => (decodeC p r l w1 hp hl (by omega) hm).mono fun e w' hq => dec_res h8 h2 h1 hq)
  have HB := Lib.hid hb
  have HR := Lib.hid hr
  have HSZ := Lib.hid hsz
  have HY := Lib.hid (fun (s : Scr) (L : List Ce) (g : Nat) (w' : World) (h1 : EncS l s L) (h2 : w.heap.size ≤ g) (h3 : RB w' g L) (h4 : Below w.heap.size w w') => (show DcQ l w (.returned (.tuple #[svA s (some ⟨g, 0, none⟩) L.length L.length, .int .i64 0])) w' from .inl ⟨s, L, g, h1, rfl, h2, h3, h4⟩))
  have HNO := Lib.hid (fun (w' : World) (h1 : ¬ ∃ s L, EncS l s L) (h4 : Below w.heap.size w w') => (show DcQ l w (.returned (.tuple #[svA ⟨0, 0, 0, 0, false, ⟨#[]⟩⟩ none 0 0, .int .i64 2])) w' from .inr ⟨h1, rfl, h4⟩))
  have HI28 := Lib.hid (show (Try.prog.info? 28).map (·.size) = some 1 by kernel_rfl)
  have HL := Lib.hid (show 0 < (#[Value.int .i64 0] : Array Value).size from Nat.zero_lt_one)
  have HU := Lib.hid (show (#[Value.int .i64 0] : Array Value).setIfInBounds 0 (.int .i64 0) = #[.int .i64 0] from rfl)
  clear hm h8 hs h0 hb hr hsz
  go_enter_defers Try.func19, Try.ntmps19
  go_wp2_with fail
  refine HNEW.out.mono ?_
  rintro e w1 ⟨p, r, hp, rfl, hrc, h1, h2, hby, hb⟩
  have HD := Lib.hid (HDEC.out p r w1 hrc h1 h2 hby)
  have HP := Lib.hid hp
  have HB1 := Lib.hid hb
  clear hp hrc h1 h2 hby hb HNEW HDEC
  go_wp2_with fail
  refine HD.out.mono ?_
  rintro e w2 (⟨s, L, g, he, rfl, hg, hr, hgr⟩ | ⟨hno, rfl, ⟨r', hp⟩, hgr⟩)
  · have HB2 := Lib.hid (grown_new HB1.out (Nat.le_refl _) HP.out hgr)
    have HE := Lib.hid he
    have HG := Lib.hid (show w.heap.size + 2 ≤ g by have := HB1.out.size; have := HSZ.out; omega)
    have HRB := Lib.hid hr
    obtain ⟨hr2a, hr2b⟩ := resS_below HR.out HB2.out (by have := HSZ.out; omega)
    have HR2a := Lib.hid hr2a
    have HR2b := Lib.hid hr2b
    clear he hg hr hgr hr2a hr2b
    obtain ⟨R, C, row, col, hid, ti⟩ := s
    go_wp2_with (first
      | ((with_reducible refine wpList_store_sc rfl _ _ rfl w.heap.size ⟨R, C, row, col, hid, ti⟩ (some ⟨g, 0, none⟩) L.length L.length _ rfl rfl HR2a.out rfl ?_); intro w3 hs hb hk hz; have HS3 := Lib.hid hs; have HE3 := Lib.hid ((hk _ (Nat.succ_ne_self _)).trans HR2b.out); have HW3 := Lib.hid (hb _ _ (Nat.le_refl _) (below_then HB.out HB2.out HB.out.size)); have HRB3 := Lib.hid (show RB w3 g L from (hk _ (by have := HG.out; omega)).trans HRB.out); clear hs hb hk hz)
      | ((with_reducible refine wpList_store_at rfl 28 _ _ rfl HI28.out (w.heap.size + 1) 0 28 #[.int .i64 0] #[.int .i64 0] (.int .i64 0) rfl rfl rfl rfl HE3.out HL.out HU.out ?_); intro w4 hs hb hk hz; have HS4 := Lib.hid ((hk _ (Nat.ne_of_lt (Nat.lt_succ_self _))).trans HS3.out); have HE4 := Lib.hid hs; have HW4 := Lib.hid (hb _ _ (Nat.le_succ _) HW3.out); have HRB4 := Lib.hid (show RB w4 g L from (hk _ (by have := HG.out; omega)).trans HRB3.out); clear hs hb hk hz))
    obtain ⟨z0, z1, z2, z3, z4, z5, z6⟩ := seven (s := ⟨R, C, row, col, hid, ti⟩) HS4.out
    dsimp only at z0 z1 z2 z3 z4 z5 z6
    have z7 : w4.cell? ⟨w.heap.size + 1, 0, none⟩ = some (.int .i64 0) := cell_of_row w4 (w.heap.size + 1) 0 _ 28 _ HE4.out
    refine leaves_cons (f := 46) (args := #[.pointer (some ⟨w.heap.size, 0, none⟩), .pointer (some ⟨w.heap.size + 1, 0, none⟩)]) (by simp) (by simp [go_sem]) ?_
    refine (catch_idle ⟨w.heap.size, 0, none⟩ ⟨w.heap.size + 1, 0, none⟩ _).mono ?_
    rintro e u' w'' ⟨rfl, rfl, rfl⟩
    simp [Leaves, settle, results, Try.results19, go_sem, Act.put, z0, z1, z2, z3, z4, z5, z6, z7]
    exact HY.out _ _ _ _ HE.out (by have := HG.out; omega) HRB4.out HW4.out
  · have HB2 := Lib.hid (grown_new HB1.out (Nat.le_refl _) HP.out hgr)
    have HN := Lib.hid hno
    have HR2 := Lib.hid (resS_below HR.out HB2.out (by have := HSZ.out; omega))
    clear hno hp hgr
    go_wp2
    refine leaves_cons (f := 46) (args := #[.pointer (some ⟨w.heap.size, 0, none⟩), .pointer (some ⟨w.heap.size + 1, 0, none⟩)]) (by simp) (by simp [go_sem]) ?_
    refine (catch_own _ w.heap.size _ [] HR2.out).mono ?_
    rintro e u' w'' ⟨rfl, rfl, h3, h4⟩
    obtain ⟨z0, z1, z2, z3, z4, z5, z6⟩ := seven h3.1
    dsimp only at z0 z1 z2 z3 z4 z5 z6
    have z7 : w''.cell? ⟨w.heap.size + 1, 0, none⟩ = some (.int .i64 2) := cell_of_row w'' (w.heap.size + 1) 0 _ 28 _ h3.2
    have HF := Lib.hid (h4 _ _ (Nat.le_refl _) (below_then HB.out HB2.out HB.out.size))
    clear h3 h4
    simp [Leaves, settle, results, Try.results19, go_sem, z0, z1, z2, z3, z4, z5, z6, z7]
    exact HNO.out _ HN.out HF.out
end Go.Proofs.Ytfogbokifbjjlaa.Of
