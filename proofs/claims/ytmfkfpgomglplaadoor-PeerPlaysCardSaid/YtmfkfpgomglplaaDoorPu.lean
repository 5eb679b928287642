/- One end of the line: the chapter's example. -/
import Derived.Test.YtmfkfpgomglplaaDoorOq
import Derived.Test.YtmfkfpgomglplaaDoorMf
set_option linter.unusedVariables false
namespace Go.Proofs.YtmfkfpgomglplaaDoor.Pu
open Go Go.RowKit Kit Mb Sha Ap Mc1 Sc Mx Sb Pd Su Pa Hm Mm Tg Mf Pk Se Wn Op Pe Ps Pt Oq


/-- what Take answers to one that is newer. -/
def TkP (x : Pl) (q : Pe) (n : Nat) (fr : Int) (body : List Nat) (w : World) (e : Ending) (w' : World) : Prop :=
  ∃ b c, e = .returned (.tuple #[.slice b body.length c, .int .i64 0]) ∧ Sl w' b body ∧ (b = none → c = 0) ∧ body.length ≤ c ∧ (∀ y, b = some y → w.heap.size ≤ y.block ∧ y.block < w'.heap.size) ∧ Pr w' x { q with last := n, ad := if 0 ≤ fr then fr else q.ad } ∧ Bt x.lo x.hi w w'
theorem takeSealNew (x : Pl) (q : Pe) (fr : Int) (ba : Option Addr) (bn bc : Nat) (D n : Nat) (l : List Nat) (w : World) (hp : Pr w x q) (hq : Ok q)
    (h1 : 1 ≤ D) (h2 : D ≤ 2) (hd : D ≠ q.d) (h4 : 1 ≤ n) (h5 : n ≤ 4611686018427387904) (hn : q.last < n) (h6 : l.length ≤ 1200) (hl : ∀ c ∈ l, c < 256)
    (hbn : bn = 26 + l.length) (hbc : 26 + l.length ≤ bc) (hb : Sl w ba (sealL q.key D q.v n l)) (hT : TabR w) (hB : TabB w) :
    Calls Tryd.prog 43 #[.pointer (some ⟨x.g, 0, none⟩), .int .i64 fr, .slice ba bn bc] w (TkP x q n fr l w) := by
  have KO := openSeal ba bn bc x.ka x.kc q.key D q.v n l w h1 h2 hq.v8 h4 h5 h6 hl hbn hbc hb hp.ks hp.k0 hp.kcap hq.kl hq.klen hT hB
  by_cases hf : 0 ≤ fr
  · refine (takeOkP x q fr ba bn bc D q.v n l w hp hd rfl hn hf KO).mono ?_
    rintro e w' ⟨b, c, rfl, h⟩
    unfold TkP; rw [if_pos hf]; exact ⟨b, c, rfl, h⟩
  · refine (takeOkN x q fr ba bn bc D q.v n l w hp hd rfl hn hf KO).mono ?_
    rintro e w' ⟨b, c, rfl, h⟩
    unfold TkP; rw [if_neg hf]; exact ⟨b, c, rfl, h⟩
theorem takeSealOld (x : Pl) (q : Pe) (fr : Int) (ba : Option Addr) (bn bc : Nat) (D n : Nat) (l : List Nat) (w : World) (hp : Pr w x q) (hq : Ok q)
    (h1 : 1 ≤ D) (h2 : D ≤ 2) (hd : D ≠ q.d) (h4 : 1 ≤ n) (h5 : n ≤ 4611686018427387904) (hn : ¬ q.last < n) (h6 : l.length ≤ 1200) (hl : ∀ c ∈ l, c < 256)
    (hbn : bn = 26 + l.length) (hbc : 26 + l.length ≤ bc) (hb : Sl w ba (sealL q.key D q.v n l)) (hT : TabR w) (hB : TabB w) :
    Calls Tryd.prog 43 #[.pointer (some ⟨x.g, 0, none⟩), .int .i64 fr, .slice ba bn bc] w fun e w' => e = .returned (.tuple #[.slice none 0 0, .int .i64 14]) ∧ Below w.heap.size w w' :=
  takeOldP x q fr ba bn bc D q.v n l w hp hd rfl hn (openSeal ba bn bc x.ka x.kc q.key D q.v n l w h1 h2 hq.v8 h4 h5 h6 hl hbn hbc hb hp.ks hp.k0 hp.kcap hq.kl hq.klen hT hB)
theorem takeShort (x : Pl) (q : Pe) (fr : Int) (ba : Option Addr) (bn bc : Nat) (w : World) (hp : Pr w x q) (h : bn < 26) :
    Calls Tryd.prog 43 #[.pointer (some ⟨x.g, 0, none⟩), .int .i64 fr, .slice ba bn bc] w fun e w' => e = .returned (.tuple #[.slice none 0 0, .int .i64 3]) ∧ Below w.heap.size w w' :=
  takeBad x q fr 3 ba bn bc w hp (by decide) (openShort ba bn bc x.ka q.key.length x.kc w h)
/-- the chapter's example, piece by piece. -/
theorem newK1 (a : Addr) (w : World) (hs : Sl w (some a) [107]) : Calls Tryd.prog 39 #[.slice (some a) 1 1, .int .i64 1, .int .i64 0, .int .u64 0] w (NwP [107] 1 0 0 w) :=
  newPeer (some a) 1 [107] 1 0 0 w hs (fun h => by cases h) (by decide) (by decide) (by decide) (by decide) (by decide)
theorem newK2 (a : Addr) (w : World) (hs : Sl w (some a) [107]) : Calls Tryd.prog 39 #[.slice (some a) 1 1, .int .i64 2, .int .i64 0, .int .u64 0] w (NwP [107] 2 0 0 w) :=
  newPeer (some a) 1 [107] 2 0 0 w hs (fun h => by cases h) (by decide) (by decide) (by decide) (by decide) (by decide)
def q0 (d out last : Nat) (ad : Int) : Pe := ⟨[107], d, 0, out, last, ad⟩
theorem q0_ok (d out last : Nat) (ad : Int) (h1 : 1 ≤ d) (h2 : d ≤ 2) (h : out ≤ 4611686018427387904) : Ok (q0 d out last ad) := ⟨by simp [q0], by simp [q0], h1, h2, by simp [q0], h⟩
def s9 : List Nat := sealL [107] 1 0 1 [9]
def SdK (x : Pl) (w : World) (e : Ending) (w' : World) : Prop :=
  ∃ b c, e = .returned (.tuple #[.slice b 27 c, .int .i64 0]) ∧ Sl w' b s9 ∧ 27 ≤ c ∧ (∀ y, b = some y → w.heap.size ≤ y.block) ∧ Pr w' x (q0 1 1 0 (-1)) ∧ Bt x.lo x.hi w w'
theorem sendK (x : Pl) (a : Addr) (w : World) (hp : Pr w x (q0 1 0 0 (-1))) (hs : Sl w (some a) [9]) (hT : TabR w) (hB : TabB w) :
    Calls Tryd.prog 41 #[.pointer (some ⟨x.g, 0, none⟩), .slice (some a) 1 1] w (SdK x w) := by
  refine (sendC x (q0 1 0 0 (-1)) (some a) 1 [9] w (q0_ok _ _ _ _ (by decide) (by decide) (by decide)) hp (by decide) hs (fun h => by cases h) (by decide) (by decide) (by decide) hT hB).mono ?_
  rintro e w' ⟨b, c, rfl, h1, h2, h3, h4, h5, h6, _⟩
  exact ⟨b, c, rfl, h1, h3, fun y hy => (h4 y hy).1, h5, h6⟩
def TkK (x : Pl) (w : World) (e : Ending) (w' : World) : Prop :=
  ∃ b c, e = .returned (.tuple #[.slice b 1 c, .int .i64 0]) ∧ Sl w' b [9] ∧ Pr w' x (q0 2 0 1 4) ∧ Bt x.lo x.hi w w'
theorem takeK (x : Pl) (b : Option Addr) (c : Nat) (w : World) (hp : Pr w x (q0 2 0 0 (-1))) (hc : 27 ≤ c) (hs : Sl w b s9) (hT : TabR w) (hB : TabB w) :
    Calls Tryd.prog 43 #[.pointer (some ⟨x.g, 0, none⟩), .int .i64 4, .slice b 27 c] w (TkK x w) := by
  refine (takeSealNew x (q0 2 0 0 (-1)) 4 b 27 c 1 1 [9] w hp (q0_ok _ _ _ _ (by decide) (by decide) (by decide)) (by decide) (by decide) (by decide) (by decide) (by decide) (by decide) (by decide) (by decide) rfl hc hs hT hB).mono ?_
  rintro e w' ⟨b, c, rfl, h1, h2, h3, h4, h5, h6⟩
  exact ⟨b, c, rfl, h1, h5, h6⟩
theorem takeK2 (x : Pl) (b : Option Addr) (c : Nat) (w : World) (hp : Pr w x (q0 2 0 1 4)) (hc : 27 ≤ c) (hs : Sl w b s9) (hT : TabR w) (hB : TabB w) :
    Calls Tryd.prog 43 #[.pointer (some ⟨x.g, 0, none⟩), .int .i64 5, .slice b 27 c] w fun e w' => e = .returned (.tuple #[.slice none 0 0, .int .i64 14]) ∧ Below w.heap.size w w' :=
  takeSealOld x (q0 2 0 1 4) 5 b 27 c 1 1 [9] w hp (q0_ok _ _ _ _ (by decide) (by decide) (by decide)) (by decide) (by decide) (by decide) (by decide) (by decide) (by decide) (by decide) (by decide) rfl hc hs hT hB
theorem addrK (x : Pl) (d out last : Nat) (ad : Int) (w : World) (h : Pr w x (q0 d out last ad)) : Calls Tryd.prog 45 #[.pointer (some ⟨x.g, 0, none⟩)] w fun e w' => e = .returned (.int .i64 ad) ∧ w = w' := addrC x _ w h
theorem outK (x : Pl) (d out last : Nat) (ad : Int) (w : World) (h : Pr w x (q0 d out last ad)) : Calls Tryd.prog 46 #[.pointer (some ⟨x.g, 0, none⟩)] w fun e w' => e = .returned (.int .u64 (out : Int)) ∧ w = w' := outC x _ w h
theorem inK (x : Pl) (d out last : Nat) (ad : Int) (w : World) (h : Pr w x (q0 d out last ad)) : Calls Tryd.prog 47 #[.pointer (some ⟨x.g, 0, none⟩)] w fun e w' => e = .returned (.int .u64 (last : Int)) ∧ w = w' := inC x _ w h
theorem bytes9 (b : Option Addr) (c : Nat) (a : Addr) (w : World) (h1 : Sl w b [9]) (h2 : Sl w (some a) [9]) : Calls Tryd.prog 15 #[.slice b 1 c, .slice (some a) 1 1] w fun e w' => e = .returned (.bool true) ∧ w = w' :=
  bytesD b (some a) c 1 1 1 [9] [9] w true rfl rfl h1 h2 (by decide) (by decide) (decide_eq_true rfl).symm
/-- two ends above w. -/
structure Two (w : World) (x y : Pl) (p q : Pe) (W : World) : Prop where
  px : Pr W x p
  py : Pr W y q
  lx : w.heap.size ≤ x.lo
  xy : x.hi ≤ y.lo
  yw : y.hi ≤ W.heap.size
  bel : Below w.heap.size w W
variable {w W W' : World} {x y : Pl} {p q : Pe}
theorem Pl.le (h : Pr W x p) : x.lo ≤ x.hi := by have := h.g1; have := h.g2; omega
theorem Two.then_ (h : Two w x y p q W) (hb : Below W.heap.size W W') : Two w x y p q W' := ⟨h.px.then_ hb, h.py.then_ hb, h.lx, h.xy, Nat.le_trans h.yw hb.size, below_next h.bel hb⟩
theorem Two.alloc (h : Two w x y p q W) (o : Obj) : Two w x y p q (W.alloc o) := h.then_ ((Below.refl _ W).alloc (Nat.le_refl _) o)
theorem Two.tabR (h : Two w x y p q W) (hT : TabR w) : TabR W := tabR_then h.bel hT
theorem Two.tabB (h : Two w x y p q W) (hT : TabB w) : TabB W := tabB_then h.bel hT
theorem Two.setX {p' : Pe} (h : Two w x y p q W) (hb : Bt x.lo x.hi W W') (hp : Pr W' x p') : Two w x y p' q W' :=
  ⟨hp, h.py.apart hb (.inr h.xy), h.lx, h.xy, Nat.le_trans h.yw hb.size, hb.below h.bel h.lx h.bel.size⟩
theorem Two.setY {q' : Pe} (h : Two w x y p q W) (hb : Bt y.lo y.hi W W') (hp : Pr W' y q') : Two w x y p q' W' :=
  ⟨h.px.apart hb (.inl h.xy), hp, h.lx, h.xy, Nat.le_trans h.yw hb.size, hb.below h.bel (by have := h.lx; have := Pl.le h.px; have := h.xy; omega) h.bel.size⟩
theorem Two.slY (h : Two w x y p q W) (hb : Bt y.lo y.hi W W') {a : Option Addr} {l : List Nat} (ha : ∀ z, a = some z → y.hi ≤ z.block) (hs : Sl W a l) : Sl W' a l := hb.sl (fun z hz => .inr (ha z hz)) hs
set_option maxRecDepth 100000 in
set_option maxHeartbeats 2000000 in
theorem qfirst (w : World) (hT : TabR w) (hB : TabB w) : Calls Tryd.prog 37 #[] w fun e w' => e = .returned (.bool true) ∧ Below w.heap.size w w' := by
  have kc := fun (w : World) (C : Array Value) (n c g : Nat) (hg : g = w.heap.size) => Go.Joins.run_convert_bytes_const_at (P := Tryd.prog) w 22 5 C n c g hg Tryd.underlying22 Tryd.underlying5
  have HT := Lib.hid hT
  have HB := Lib.hid hB
  clear hT hB
  go_enter Tryd.func37, Tryd.ntmps37
  go_wp2_with (first
    | (go_at_call 39; (with_reducible refine (newK1 _ _ ?_).mono ?_); exact (sl_lit rfl rfl); rintro e w1 ⟨xa, rfl, pa, la, ha, ba⟩; have PA := Lib.hid (And.intro pa (And.intro la (And.intro ha (below_then ((Below.refl _ w).alloc (Nat.le_refl _) _) ba (by simp))))); clear pa la ha ba)
    | (go_at_call 39; (with_reducible refine (newK2 _ _ ?_).mono ?_); exact (sl_lit rfl rfl); rintro e w2 ⟨xb, rfl, pb, lb, hb, bb⟩; have HW := Lib.hid (show Two w xa xb (q0 1 0 0 (-1)) (q0 2 0 0 (-1)) w2 from ⟨(PA.out.1.then_ ((Below.refl _ w1).alloc (Nat.le_refl _) _)).then_ bb, pb, Nat.le_trans (by simp) PA.out.2.1, Nat.le_trans PA.out.2.2.1 (Nat.le_trans (by simp) lb), hb, below_then (PA.out.2.2.2.alloc PA.out.2.2.2.size _) bb (by have := PA.out.2.2.2.size; simp; omega)⟩); clear pb lb hb bb)
    | (go_at_call 45; (with_reducible refine (addrK xa 1 0 0 (-1) w2 HW.out.px).mono ?_); rintro e w' ⟨rfl, rfl⟩)
    | (go_at_call 41; (with_reducible refine (sendK xa ⟨w2.heap.size, 0, none⟩ (w2.alloc (.cells #[.int .u8 9] 5)) (HW.out.alloc _).px ?_ ((HW.out.alloc _).tabR HT.out) ((HW.out.alloc _).tabB HB.out)).mono ?_); exact (sl_lit rfl rfl); rintro e w3 ⟨yb, yc, rfl, ys, yl, yr, y4, y5⟩; have HW3 := Lib.hid ((HW.out.alloc _).setX y5 y4); have HY := Lib.hid (And.intro ys (And.intro yl (fun z hz => Nat.le_trans (Nat.le_trans HW.out.yw (by simp)) (yr z hz)))); clear ys yl yr y4 y5)
    | (go_at_call 43; (with_reducible refine (takeK xb yb yc w3 HW3.out.py HY.out.2.1 HY.out.1 (HW3.out.tabR HT.out) (HW3.out.tabB HB.out)).mono ?_); rintro e w4 ⟨zb, zc, rfl, zs, z4, z5⟩; have HW4 := Lib.hid (HW3.out.setY z5 z4); have HY4 := Lib.hid (HW3.out.slY z5 HY.out.2.2 HY.out.1); have HZ := Lib.hid zs; clear zs z4 z5)
    | (go_at_call 43; (with_reducible refine (takeK2 xb yb yc w4 HW4.out.py HY.out.2.1 HY4.out (HW4.out.tabR HT.out) (HW4.out.tabB HB.out)).mono ?_); rintro e w5 ⟨rfl, b5⟩; have HW5 := Lib.hid (HW4.out.then_ b5); have HZ5 := Lib.hid (sl_then b5 (Nat.le_refl _) HZ.out); clear b5)
    | (go_at_call 46; (with_reducible refine (outK xa 1 1 0 (-1) w5 HW5.out.px).mono ?_); rintro e w' ⟨rfl, rfl⟩)
    | (go_at_call 15; (with_reducible refine (bytes9 zb zc ⟨w5.heap.size, 0, none⟩ (w5.alloc (.cells #[.int .u8 9] 5)) (sl_alloc HZ5.out _) ?_).mono ?_); exact (sl_lit rfl rfl); rintro e w' ⟨rfl, rfl⟩)
    | (go_at_call 45; (with_reducible refine (addrK xb 2 0 1 4 (w5.alloc (.cells #[.int .u8 9] 5)) (HW5.out.alloc _).py).mono ?_); rintro e w' ⟨rfl, rfl⟩)
    | (go_at_call 47; (with_reducible refine (inK xb 2 0 1 4 (w5.alloc (.cells #[.int .u8 9] 5)) (HW5.out.alloc _).py).mono ?_); rintro e w' ⟨rfl, rfl⟩))
  go_ret
  exact ⟨rfl, (HW5.out.alloc _).bel⟩

end Go.Proofs.YtmfkfpgomglplaaDoor.Pu
