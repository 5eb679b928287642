/- The document's end of the line. -/
import Derived.Test.YtmfkfpgomglplaaDoorYa
import Derived.Test.YtmfkfpgomglplaaDoorDr2
import Derived.Test.YtmfkfpgomglplaaDoorDt
set_option linter.unusedVariables false
namespace Go.Proofs.YtmfkfpgomglplaaDoor.Za
open Go Go.RowKit Kit Mb Sha Ap Mc1 Sc Mx Sb Pd Su Pa Hm Mm Tg Mf Pk Se Wn Op Pe Ps Pt Oq Pu Ar Of Pz Dr Dr2 Tl


/-- where the document's end of the line lies: its own block, its key. -/
structure Dl where
  (lo hi g : Nat) (ka : Option Addr) (kc : Nat)
def deV (x : Dl) (q : Pe) : Array Value := #[.slice x.ka q.key.length x.kc, .int .i64 (q.d : Int), .int .i64 (q.v : Int), .int .u64 (q.out : Int), .int .u64 (q.last : Int), .int .i64 q.ad]
structure De (w : World) (x : Dl) (q : Pe) : Prop where
  blk : w.heap[x.g]? = some (.cells (deV x q) 75 (0, 0))
  ks : Sl w x.ka q.key
  k0 : x.ka = none → x.kc = 0
  kcap : q.key.length ≤ x.kc
  ki : Inn x.lo x.hi x.ka
  kg : ∀ y, x.ka = some y → y.block ≠ x.g
  g1 : x.lo ≤ x.g
  g2 : x.g < x.hi
variable {w w' : World} {x : Dl} {q : Pe}
theorem De.gl (h : De w x q) : x.g < w.heap.size := (Array.getElem?_eq_some_iff.1 h.blk).1
theorem De.le (h : De w x q) : x.lo ≤ x.hi := by have := h.g1; have := h.g2; omega
theorem De.then_ (h : De w x q) (hb : Below w.heap.size w w') : De w' x q :=
  ⟨(hb.block _ h.gl).trans h.blk, sl_then hb (Nat.le_refl _) h.ks, h.k0, h.kcap, h.ki, h.kg, h.g1, h.g2⟩
theorem De.apart {lo hi : Nat} (h : De w x q) (hb : Bt lo hi w w') (ho : x.hi ≤ lo ∨ hi ≤ x.lo) : De w' x q := by
  have a1 := h.g1
  have a2 := h.g2
  exact ⟨(hb.block _ h.gl (by omega)).trans h.blk, hb.sl (fun y hy => by have := h.ki y hy; omega) h.ks, h.k0, h.kcap, h.ki, h.kg, h.g1, h.g2⟩
theorem De.cell0 (h : De w x q) : w.cell? ⟨x.g, 0, none⟩ = some (.slice x.ka q.key.length x.kc) := by rw [cell_of_row w x.g 0 _ 75 _ h.blk]; rfl
theorem De.cell1 (h : De w x q) : w.cell? ⟨x.g, 1, none⟩ = some (.int .i64 (q.d : Int)) := by rw [cell_of_row w x.g 1 _ 75 _ h.blk]; rfl
theorem De.cell2 (h : De w x q) : w.cell? ⟨x.g, 2, none⟩ = some (.int .i64 (q.v : Int)) := by rw [cell_of_row w x.g 2 _ 75 _ h.blk]; rfl
theorem De.cell3 (h : De w x q) : w.cell? ⟨x.g, 3, none⟩ = some (.int .u64 (q.out : Int)) := by rw [cell_of_row w x.g 3 _ 75 _ h.blk]; rfl
theorem De.cell4 (h : De w x q) : w.cell? ⟨x.g, 4, none⟩ = some (.int .u64 (q.last : Int)) := by rw [cell_of_row w x.g 4 _ 75 _ h.blk]; rfl
theorem De.cell5 (h : De w x q) : w.cell? ⟨x.g, 5, none⟩ = some (.int .i64 q.ad) := by rw [cell_of_row w x.g 5 _ 75 _ h.blk]; rfl
theorem De.free (h : De w x q) (i : Nat) : w.frozen? ⟨x.g, i, none⟩ = false := frozen_of_row w x.g i _ 75 h.blk
theorem De.set3 (h : De w x q) (n : Nat) : De (w.setCell ⟨x.g, 3, none⟩ (.int .u64 (n : Int))) x { q with out := n } :=
  ⟨by rw [heap_setCell_same w x.g 3 _ 75 _ h.blk]; rfl, sl_set h.ks (fun y hy => h.kg y hy) _, h.k0, h.kcap, h.ki, h.kg, h.g1, h.g2⟩
theorem De.set4 (h : De w x q) (n : Nat) : De (w.setCell ⟨x.g, 4, none⟩ (.int .u64 (n : Int))) x { q with last := n } :=
  ⟨by rw [heap_setCell_same w x.g 4 _ 75 _ h.blk]; rfl, sl_set h.ks (fun y hy => h.kg y hy) _, h.k0, h.kcap, h.ki, h.kg, h.g1, h.g2⟩
theorem De.set5 (h : De w x q) (n : Int) : De (w.setCell ⟨x.g, 5, none⟩ (.int .i64 n)) x { q with ad := n } :=
  ⟨by rw [heap_setCell_same w x.g 5 _ 75 _ h.blk]; rfl, sl_set h.ks (fun y hy => h.kg y hy) _, h.k0, h.kcap, h.ki, h.kg, h.g1, h.g2⟩
theorem De.drewN (h : De w x q) (n : Nat) : De (w.drewN n) x q := ⟨h.blk, h.ks, h.k0, h.kcap, h.ki, h.kg, h.g1, h.g2⟩
theorem De.drew (h : De w x q) : De w.drew x q := ⟨h.blk, h.ks, h.k0, h.kcap, h.ki, h.kg, h.g1, h.g2⟩
/-- bytes do not lie in its own block. -/
theorem De.sl_set (h : De w x q) {a : Option Addr} {l : List Nat} (hs : Sl w a l) (i : Nat) (u : Value) : Sl (w.setCell ⟨x.g, i, none⟩ u) a l := by
  rcases hs with hs | ⟨b, off, rfl, hs⟩
  · exact .inl hs
  · match l, hs with
    | [], _ => exact .inl rfl
    | c :: cs, hs =>
      have hb : b ≠ x.g := by
        rintro rfl
        have h0 := hs 0 (by simp)
        rw [cell_of_row w x.g (off + 0) _ 75 _ h.blk] at h0
        unfold deV at h0
        match off, h0 with
        | 0, h0 => simp at h0
        | 1, h0 => simp at h0
        | 2, h0 => simp at h0
        | 3, h0 => simp at h0
        | 4, h0 => simp at h0
        | 5, h0 => simp at h0
        | n + 6, h0 => simp at h0
      exact .inr ⟨b, off, rfl, fun j hj => past_set (hs j hj) (show b ≠ x.g from hb)⟩
/-- what NewPeer answers where all is well. -/
def DnP (key : List Nat) (d v out : Nat) (w : World) (e : Ending) (w' : World) : Prop :=
  ∃ x, e = .returned (.tuple #[.pointer (some ⟨x.g, 0, none⟩), .int .i64 0]) ∧ De w' x ⟨key, d, v, out, 0, -1⟩ ∧ w.heap.size ≤ x.lo ∧ x.hi ≤ w'.heap.size ∧ Below w.heap.size w w'
set_option maxRecDepth 100000 in
theorem dnewPeer (ka : Option Addr) (kn kc : Nat) (key : List Nat) (d v out : Nat) (w : World) (hkn : kn = key.length) (ks : Sl w ka key) (k0 : ka = none → kc = 0) (klen : key.length ≤ 1000000) (h1 : 1 ≤ d) (h2 : d ≤ 2) (h3 : v < 8) (ho : out ≤ 4611686018427387904) :
    Calls Tryd.prog 40 #[.slice ka kn kc, .int .i64 (d : Int), .int .i64 (v : Int), .int .u64 (out : Int)] w (DnP key d v out w) := by
  subst hkn
  have KK := Lib.hid (copyC ka kc key w klen ks k0)
  have n1 : ¬ (d : Int) < 1 := by omega
  have n2 : ¬ 2 < (d : Int) := by omega
  have n3 : ¬ (v : Int) < 0 := by omega
  have n4 : ¬ 8 ≤ (v : Int) := by omega
  have n5 : ¬ 4611686018427387904 < (out : Int) := by omega
  clear ks k0 klen h1 h2 h3 ho
  go_enter Tryd.func40, Tryd.ntmps40
  go_wp2_with (go_at_call 14; (with_reducible refine KK.out.mono ?_); rintro e w1 ⟨v1, rfl, o1, b1⟩; obtain ⟨ya, yc, rfl, hyc, hys, hy0, hyx⟩ := rb_sl (show Rb w1 w.heap.size v1 key from o1); have HY := Lib.hid (And.intro hyc (And.intro hys (And.intro hy0 (And.intro hyx b1)))); clear o1 hyc hys hy0 hyx b1)
  go_ret2
  obtain ⟨yl, ys, y0, yx, b1⟩ := HY.out
  have s1 := b1.size
  have ba := (Below.refl w1.heap.size w1).alloc (Nat.le_refl _) (.cells #[.slice ya key.length yc, .int .i64 (d : Int), .int .i64 (v : Int), .int .u64 (out : Int), .int .u64 0, .int .i64 (-1)] 75)
  refine ⟨⟨w.heap.size, w1.heap.size + 1, w1.heap.size, ya, yc⟩, rfl, ⟨heap_alloc_last w1 _, sl_then ba (Nat.le_refl _) ys, y0, yl, fun y hy => by have := yx y hy; simp only; omega, fun y hy => by have := yx y hy; simp only; omega, by simp only; omega, by simp only; omega⟩, Nat.le_refl _, by simp, ?_⟩
  exact below_then b1 ba s1
/-- may there be such an end? -/
def NwOk (d v : Int) (out : Nat) : Prop := 1 ≤ d ∧ d ≤ 2 ∧ 0 ≤ v ∧ v < 8 ∧ out ≤ 4611686018427387904
set_option maxRecDepth 100000 in
theorem dnewPeerNo (ka : Option Addr) (kn kc : Nat) (d v : Int) (out : Nat) (w : World) (hno : ¬ NwOk d v out) :
    Calls Tryd.prog 40 #[.slice ka kn kc, .int .i64 d, .int .i64 v, .int .u64 (out : Int)] w fun e w' => e = .returned (.tuple #[.pointer none, .int .i64 1]) ∧ w = w' := by
  by_cases n1 : d < 1
  · clear hno
    go_enter Tryd.func40, Tryd.ntmps40
    go_wp2
    go_ret2
    exact ⟨rfl, rfl⟩
  by_cases n2 : 2 < d
  · clear hno
    go_enter Tryd.func40, Tryd.ntmps40
    go_wp2
    go_ret2
    exact ⟨rfl, rfl⟩
  by_cases n3 : v < 0
  · clear hno
    go_enter Tryd.func40, Tryd.ntmps40
    go_wp2
    go_ret2
    exact ⟨rfl, rfl⟩
  by_cases n4 : 8 ≤ v
  · clear hno
    go_enter Tryd.func40, Tryd.ntmps40
    go_wp2
    go_ret2
    exact ⟨rfl, rfl⟩
  have n5 : 4611686018427387904 < (out : Int) := by
    have : ¬ out ≤ 4611686018427387904 := fun h => hno ⟨by omega, by omega, by omega, by omega, h⟩
    omega
  clear hno
  go_enter Tryd.func40, Tryd.ntmps40
  go_wp2
  go_ret2
  exact ⟨rfl, rfl⟩
/-- what Send answers where all is well. -/
def DsP (x : Dl) (q : Pe) (n : Nat) (l : List Nat) (w : World) (e : Ending) (w' : World) : Prop :=
  ∃ b c, e = .returned (.tuple #[.slice b n c, .int .i64 0]) ∧ Rb w' w.heap.size (.slice b n c) (sealL q.key q.d q.v (q.out + 1) l) ∧ De w' x { q with out := q.out + 1 } ∧ Bt x.lo x.hi w w'
set_option maxRecDepth 100000 in
theorem dsendC (x : Dl) (q : Pe) (a : Option Addr) (m n cap : Nat) (l : List Nat) (w : World) (hm : m = l.length) (hn : n = 26 + l.length) (hq : Ok q) (hp : De w x q) (ho : q.out < 4611686018427387904)
    (hs : Sl w a l) (h0 : a = none → cap = 0) (hcap : l.length ≤ cap) (hl : ∀ c ∈ l, c < 256) (h6 : l.length ≤ 1200) :
    Calls Tryd.prog 42 #[.pointer (some ⟨x.g, 0, none⟩), .slice a m cap] w (DsP x q n l w) := by
  obtain ⟨lo, hi, g, ka, kc⟩ := x
  obtain ⟨key, d, v, out, last, ad⟩ := q
  have c3 := hp.cell3
  dsimp only at c3 ho ⊢
  obtain ⟨n1, hn1⟩ : ∃ n1, n1 = out + 1 := ⟨_, rfl⟩
  have e1 : IntKind.u64.wrap ((out : Int) + 1) = (n1 : Int) := by rw [IntKind.wrap_u64]; omega
  have e2 : ¬ 4611686018427387904 ≤ (out : Int) := by omega
  have e3 : ¬ 1200 < (m : Int) := by omega
  have f3 := hp.free 3
  dsimp only at f3
  obtain ⟨SL, hSL⟩ : ∃ SL, SL = sealL key d v n1 l := ⟨_, rfl⟩
  have HLN := Lib.hid (show SL.length = n by rw [hSL, hn]; exact sealL_len _ _ _ _ _)
  have HSL := Lib.hid hSL
  have HN := Lib.hid hn1
  have hp2 := hp.set3 n1
  dsimp only at hp2
  have HB2 := Lib.hid ((Bt.of (lo := lo) (hi := hi) (Below.refl w.heap.size w)).set (p := ⟨g, 3, none⟩) hp.g1 hp.g2 (.int .u64 (n1 : Int)))
  have HP2 := Lib.hid hp2
  have HZ2 := Lib.hid (show (w.setCell ⟨g, 3, none⟩ (.int .u64 (n1 : Int))).heap.size = w.heap.size by simp)
  have HK := Lib.hid (fun (W : World) (hW : Below (w.setCell ⟨g, 3, none⟩ (.int .u64 (n1 : Int))).heap.size (w.setCell ⟨g, 3, none⟩ (.int .u64 (n1 : Int))) W) => dsealR d v n1 a m cap l SL ka key.length kc key W hSL hm rfl hq.d1 hq.d2 hq.v8 (by omega) (by omega) h6 (sl_then hW (Nat.le_refl _) (hp.sl_set hs 3 (.int .u64 (n1 : Int)))) h0 hcap hl (sl_then hW (Nat.le_refl _) hp2.ks) hp2.k0 hp2.kcap hq.kl hq.klen)
  have q0 := hp2.cell0
  have q1 := hp2.cell1
  have q2 := hp2.cell2
  have q3 := hp2.cell3
  dsimp only at q0 q1 q2 q3 HK
  clear hp hq hn1 hs h0 hcap hl h6 ho hSL hm hp2 hn
  generalize hw1 : w.setCell ⟨g, 3, none⟩ (.int .u64 (n1 : Int)) = w1 at *
  go_enter Tryd.func42, Tryd.ntmps42
  go_wp2_with fail
  go_region_held3 (fun W => W.cell? ⟨g, 0, none⟩ = some (.slice ka key.length kc) ∧ W.cell? ⟨g, 1, none⟩ = some (.int .i64 (d : Int)) ∧ W.cell? ⟨g, 2, none⟩ = some (.int .i64 (v : Int)) ∧ W.cell? ⟨g, 3, none⟩ = some (.int .u64 (n1 : Int)) ∧ Below w1.heap.size w1 W) (first | (go_split_ands; exact ⟨cell_then b1 (Nat.le_refl _) (by assumption), cell_then b1 (Nat.le_refl _) (by assumption), cell_then b1 (Nat.le_refl _) (by assumption), cell_then b1 (Nat.le_refl _) (by assumption), below_next (by assumption) b1⟩) | (go_split_ands; refine ⟨?_, ?_, ?_, ?_, ?_⟩ <;> (repeat (first | with_reducible assumption | exact Below.refl _ _ | (with_reducible refine past_drew ?_) | (with_reducible refine Below.drew ?_))))) (first | (go_at_call 25; (with_reducible refine (HK.out _ (by go_split_ands; assumption)).mono ?_); rintro e w2 ⟨yb, yo, yc, rfl, ys, b1⟩; have HY := Lib.hid ys; clear ys))
  go_split_ands
  have HB3 := Lib.hid (show Below w1.heap.size w1 w2 by assumption)
  go_wp2
  go_ret2
  have b3 := HB3.out
  refine ⟨some ⟨yb, yo, none⟩, yc, (by rw [← HLN.out]; rfl), ?_, ?_, ?_⟩
  · rw [← HN.out, ← HSL.out, ← HLN.out]
    have z : w1.drew.heap.size = w.heap.size := HZ2.out
    exact rb_base HY.out (Nat.le_of_eq z.symm)
  · rw [← HN.out]; exact HP2.out.then_ b3
  · exact HB2.out.then_ b3
set_option maxRecDepth 100000 in
theorem dsendEnd (x : Dl) (q : Pe) (a : Option Addr) (n cap : Nat) (w : World) (hp : De w x q) (ho : q.out = 4611686018427387904) :
    Calls Tryd.prog 42 #[.pointer (some ⟨x.g, 0, none⟩), .slice a n cap] w fun e w' => e = .returned (.tuple #[.slice none 0 0, .int .i64 17]) ∧ w = w' := by
  have c3 := hp.cell3
  rw [ho] at c3
  clear hp ho
  go_enter Tryd.func42, Tryd.ntmps42
  go_wp2
  go_ret2
  exact ⟨rfl, rfl⟩
set_option maxRecDepth 100000 in
theorem dsendLong (x : Dl) (q : Pe) (a : Option Addr) (n cap : Nat) (w : World) (hp : De w x q) (ho : q.out < 4611686018427387904) (hn : 1200 < n) :
    Calls Tryd.prog 42 #[.pointer (some ⟨x.g, 0, none⟩), .slice a n cap] w fun e w' => e = .returned (.tuple #[.slice none 0 0, .int .i64 4]) ∧ w = w' := by
  have c3 := hp.cell3
  have e2 : ¬ 4611686018427387904 ≤ (q.out : Int) := by omega
  have e3 : 1200 < (n : Int) := by omega
  clear hp ho hn
  go_enter Tryd.func42, Tryd.ntmps42
  go_wp2
  go_ret2
  exact ⟨rfl, rfl⟩
set_option maxRecDepth 100000 in
theorem dtakeBad (x : Dl) (q : Pe) (fr E D V : Int) (N : Nat) (body : List Nat) (ba : Option Addr) (bn bc : Nat) (w : World) (hp : De w x q) (hE : E ≠ 0)
    (KO : Calls Tryd.prog 28 #[.slice x.ka q.key.length x.kc, .slice ba bn bc] w (OgP ⟨D, V, N, body, E⟩ w)) :
    Calls Tryd.prog 44 #[.pointer (some ⟨x.g, 0, none⟩), .int .i64 fr, .slice ba bn bc] w fun e w' => e = .returned (.tuple #[.slice none 0 0, .int .i64 E]) ∧ Below w.heap.size w w' := by
  have c0 := hp.cell0
  have HK := Lib.hid KO
  have e1 : (E != 0) = true := by simpa using hE
  clear hp hE KO
  go_enter Tryd.func44, Tryd.ntmps44
  go_wp2_with (go_at_call 28; refine HK.out.mono ?_; rintro e w1 ⟨ya, yc, rfl, hys, b1⟩; have HB1 := Lib.hid b1; clear hys b1)
  go_ret2
  exact ⟨rfl, below_then HB1.out ((Below.refl w1.heap.size w1).alloc (Nat.le_refl _) _) HB1.out.size⟩
/-- what Take answers where all is well. -/
def DtP (x : Dl) (q : Pe) (body : List Nat) (w : World) (e : Ending) (w' : World) : Prop :=
  ∃ b c, e = .returned (.tuple #[.slice b body.length c, .int .i64 0]) ∧ Sl w' b body ∧ De w' x q ∧ Bt x.lo x.hi w w'
set_option maxRecDepth 100000 in
theorem dtakeForm1 (x : Dl) (q : Pe) (fr : Int) (ba : Option Addr) (bn bc : Nat) (D V : Int) (N o : Nat) (body : List Nat) (w : World) (hp : De w x q) (h1 : 1 ≤ q.d) (h2 : q.d ≤ 2) (ho : o + q.d = 3) (hd : D ≠ (o : Int))
    (KO : Calls Tryd.prog 28 #[.slice x.ka q.key.length x.kc, .slice ba bn bc] w (OgP ⟨D, V, N, body, 0⟩ w)) :
    Calls Tryd.prog 44 #[.pointer (some ⟨x.g, 0, none⟩), .int .i64 fr, .slice ba bn bc] w fun e w' => e = .returned (.tuple #[.slice none 0 0, .int .i64 2]) ∧ Below w.heap.size w w' := by
  obtain ⟨lo, hi, g, ka, kc⟩ := x
  obtain ⟨key, d, v, out, last, ad⟩ := q
  have c0 := hp.cell0
  have HK := Lib.hid KO
  dsimp only at *
  have t1 : (D != (o : Int)) = true := by simpa using hd
  clear hd
  have W3 : IntKind.i64.wrap ((3 : Int) - (d : Int)) = (o : Int) := (IntWalk.i64_in _ (by omega)).trans (by omega)
  have HP := Lib.hid hp
  clear hp KO h1 h2 ho
  go_enter Tryd.func44, Tryd.ntmps44
  go_wp2_with (go_at_call 28; refine HK.out.mono ?_; rintro e w1 ⟨ya, yc, rfl, hys, b1⟩; have HY := Lib.hid hys; have HB1 := Lib.hid b1; clear hys b1)
  clear c0
  have ba1 := (Below.refl w1.heap.size w1).alloc (Nat.le_refl _) (.cells #[.int .i64 D, .int .i64 V, .int .u64 (N : Int), .slice ya body.length yc] 40)
  have hp2 := (HP.out.then_ HB1.out).then_ ba1
  have hg2 := heap_alloc_last w1 (.cells #[.int .i64 D, .int .i64 V, .int .u64 (N : Int), .slice ya body.length yc] 40)
  have hl2 := HB1.out.size
  have hgl := HP.out.gl
  dsimp only at hgl
  have HB2 := Lib.hid (below_then HB1.out ba1 hl2)
  have HY2 := Lib.hid (sl_then ba1 (Nat.le_refl _) HY.out)
  have hz2 : (w1.alloc (.cells #[.int .i64 D, .int .i64 V, .int .u64 (N : Int), .slice ya body.length yc] 40)).heap.size = w1.heap.size + 1 := by simp
  clear ba1
  generalize w1.alloc (.cells #[.int .i64 D, .int .i64 V, .int .u64 (N : Int), .slice ya body.length yc] 40) = w2 at *
  generalize hG : w1.heap.size = G at *
  have p0 : w2.cell? ⟨G, 0, none⟩ = some (.int .i64 D) := by rw [cell_of_row w2 G 0 _ 40 _ hg2]; rfl
  have p1 : w2.cell? ⟨G, 1, none⟩ = some (.int .i64 V) := by rw [cell_of_row w2 G 1 _ 40 _ hg2]; rfl
  have p2 : w2.cell? ⟨G, 2, none⟩ = some (.int .u64 (N : Int)) := by rw [cell_of_row w2 G 2 _ 40 _ hg2]; rfl
  have p3 : w2.cell? ⟨G, 3, none⟩ = some (.slice ya body.length yc) := by rw [cell_of_row w2 G 3 _ 40 _ hg2]; rfl
  have c1 := hp2.cell1
  have c2 := hp2.cell2
  have c4 := hp2.cell4
  dsimp only at c1 c2 c4
  have HP2 := Lib.hid hp2
  have HG := Lib.hid (And.intro hG (And.intro hl2 (And.intro hgl hz2)))
  clear hp2 hg2 hG hl2 hgl hz2
  go_quiet (fail)
  go_wp2
  go_ret2
  exact ⟨rfl, below_drewN HB2.out _⟩

set_option maxRecDepth 100000 in
theorem dtakeForm2 (x : Dl) (q : Pe) (fr : Int) (ba : Option Addr) (bn bc : Nat) (D V : Int) (N o : Nat) (body : List Nat) (w : World) (hp : De w x q) (h1 : 1 ≤ q.d) (h2 : q.d ≤ 2) (ho : o + q.d = 3) (hd : D = (o : Int)) (hv : V ≠ (q.v : Int))
    (KO : Calls Tryd.prog 28 #[.slice x.ka q.key.length x.kc, .slice ba bn bc] w (OgP ⟨D, V, N, body, 0⟩ w)) :
    Calls Tryd.prog 44 #[.pointer (some ⟨x.g, 0, none⟩), .int .i64 fr, .slice ba bn bc] w fun e w' => e = .returned (.tuple #[.slice none 0 0, .int .i64 2]) ∧ Below w.heap.size w w' := by
  obtain ⟨lo, hi, g, ka, kc⟩ := x
  obtain ⟨key, d, v, out, last, ad⟩ := q
  have c0 := hp.cell0
  have HK := Lib.hid KO
  dsimp only at *
  subst hd
  have t1 : ((o : Int) != (o : Int)) = false := by simp
  have t2 : (V != (v : Int)) = true := by simpa using hv
  clear hv
  have W3 : IntKind.i64.wrap ((3 : Int) - (d : Int)) = (o : Int) := (IntWalk.i64_in _ (by omega)).trans (by omega)
  have HP := Lib.hid hp
  clear hp KO h1 h2 ho
  go_enter Tryd.func44, Tryd.ntmps44
  go_wp2_with (go_at_call 28; refine HK.out.mono ?_; rintro e w1 ⟨ya, yc, rfl, hys, b1⟩; have HY := Lib.hid hys; have HB1 := Lib.hid b1; clear hys b1)
  clear c0
  have ba1 := (Below.refl w1.heap.size w1).alloc (Nat.le_refl _) (.cells #[.int .i64 (o : Int), .int .i64 V, .int .u64 (N : Int), .slice ya body.length yc] 40)
  have hp2 := (HP.out.then_ HB1.out).then_ ba1
  have hg2 := heap_alloc_last w1 (.cells #[.int .i64 (o : Int), .int .i64 V, .int .u64 (N : Int), .slice ya body.length yc] 40)
  have hl2 := HB1.out.size
  have hgl := HP.out.gl
  dsimp only at hgl
  have HB2 := Lib.hid (below_then HB1.out ba1 hl2)
  have HY2 := Lib.hid (sl_then ba1 (Nat.le_refl _) HY.out)
  have hz2 : (w1.alloc (.cells #[.int .i64 (o : Int), .int .i64 V, .int .u64 (N : Int), .slice ya body.length yc] 40)).heap.size = w1.heap.size + 1 := by simp
  clear ba1
  generalize w1.alloc (.cells #[.int .i64 (o : Int), .int .i64 V, .int .u64 (N : Int), .slice ya body.length yc] 40) = w2 at *
  generalize hG : w1.heap.size = G at *
  have p0 : w2.cell? ⟨G, 0, none⟩ = some (.int .i64 (o : Int)) := by rw [cell_of_row w2 G 0 _ 40 _ hg2]; rfl
  have p1 : w2.cell? ⟨G, 1, none⟩ = some (.int .i64 V) := by rw [cell_of_row w2 G 1 _ 40 _ hg2]; rfl
  have p2 : w2.cell? ⟨G, 2, none⟩ = some (.int .u64 (N : Int)) := by rw [cell_of_row w2 G 2 _ 40 _ hg2]; rfl
  have p3 : w2.cell? ⟨G, 3, none⟩ = some (.slice ya body.length yc) := by rw [cell_of_row w2 G 3 _ 40 _ hg2]; rfl
  have c1 := hp2.cell1
  have c2 := hp2.cell2
  have c4 := hp2.cell4
  dsimp only at c1 c2 c4
  have HP2 := Lib.hid hp2
  have HG := Lib.hid (And.intro hG (And.intro hl2 (And.intro hgl hz2)))
  clear hp2 hg2 hG hl2 hgl hz2
  go_quiet (fail)
  go_wp2
  go_ret2
  exact ⟨rfl, below_drewN HB2.out _⟩

set_option maxRecDepth 100000 in
theorem dtakeOld (x : Dl) (q : Pe) (fr : Int) (ba : Option Addr) (bn bc : Nat) (D V : Int) (N o : Nat) (body : List Nat) (w : World) (hp : De w x q) (h1 : 1 ≤ q.d) (h2 : q.d ≤ 2) (ho : o + q.d = 3) (hd : D = (o : Int)) (hv : V = (q.v : Int)) (hn : ¬ q.last < N)
    (KO : Calls Tryd.prog 28 #[.slice x.ka q.key.length x.kc, .slice ba bn bc] w (OgP ⟨D, V, N, body, 0⟩ w)) :
    Calls Tryd.prog 44 #[.pointer (some ⟨x.g, 0, none⟩), .int .i64 fr, .slice ba bn bc] w fun e w' => e = .returned (.tuple #[.slice none 0 0, .int .i64 14]) ∧ Below w.heap.size w w' := by
  obtain ⟨lo, hi, g, ka, kc⟩ := x
  obtain ⟨key, d, v, out, last, ad⟩ := q
  have c0 := hp.cell0
  have HK := Lib.hid KO
  dsimp only at *
  subst hd hv
  have t1 : ((o : Int) != (o : Int)) = false := by simp
  have t2 : ((v : Int) != (v : Int)) = false := by simp
  have t3 : (N : Int) ≤ (last : Int) := by omega
  clear hn
  have W3 : IntKind.i64.wrap ((3 : Int) - (d : Int)) = (o : Int) := (IntWalk.i64_in _ (by omega)).trans (by omega)
  have HP := Lib.hid hp
  clear hp KO h1 h2 ho
  go_enter Tryd.func44, Tryd.ntmps44
  go_wp2_with (go_at_call 28; refine HK.out.mono ?_; rintro e w1 ⟨ya, yc, rfl, hys, b1⟩; have HY := Lib.hid hys; have HB1 := Lib.hid b1; clear hys b1)
  clear c0
  have ba1 := (Below.refl w1.heap.size w1).alloc (Nat.le_refl _) (.cells #[.int .i64 (o : Int), .int .i64 (v : Int), .int .u64 (N : Int), .slice ya body.length yc] 40)
  have hp2 := (HP.out.then_ HB1.out).then_ ba1
  have hg2 := heap_alloc_last w1 (.cells #[.int .i64 (o : Int), .int .i64 (v : Int), .int .u64 (N : Int), .slice ya body.length yc] 40)
  have hl2 := HB1.out.size
  have hgl := HP.out.gl
  dsimp only at hgl
  have HB2 := Lib.hid (below_then HB1.out ba1 hl2)
  have HY2 := Lib.hid (sl_then ba1 (Nat.le_refl _) HY.out)
  have hz2 : (w1.alloc (.cells #[.int .i64 (o : Int), .int .i64 (v : Int), .int .u64 (N : Int), .slice ya body.length yc] 40)).heap.size = w1.heap.size + 1 := by simp
  clear ba1
  generalize w1.alloc (.cells #[.int .i64 (o : Int), .int .i64 (v : Int), .int .u64 (N : Int), .slice ya body.length yc] 40) = w2 at *
  generalize hG : w1.heap.size = G at *
  have p0 : w2.cell? ⟨G, 0, none⟩ = some (.int .i64 (o : Int)) := by rw [cell_of_row w2 G 0 _ 40 _ hg2]; rfl
  have p1 : w2.cell? ⟨G, 1, none⟩ = some (.int .i64 (v : Int)) := by rw [cell_of_row w2 G 1 _ 40 _ hg2]; rfl
  have p2 : w2.cell? ⟨G, 2, none⟩ = some (.int .u64 (N : Int)) := by rw [cell_of_row w2 G 2 _ 40 _ hg2]; rfl
  have p3 : w2.cell? ⟨G, 3, none⟩ = some (.slice ya body.length yc) := by rw [cell_of_row w2 G 3 _ 40 _ hg2]; rfl
  have c1 := hp2.cell1
  have c2 := hp2.cell2
  have c4 := hp2.cell4
  dsimp only at c1 c2 c4
  have HP2 := Lib.hid hp2
  have HG := Lib.hid (And.intro hG (And.intro hl2 (And.intro hgl hz2)))
  clear hp2 hg2 hG hl2 hgl hz2
  have HN := Lib.hid t3
  clear t3
  go_quiet (fail)
  clear t1 t2 W3 c1 c2 p0 p1
  have t3 := HN.out
  go_wp2_with fail
  go_quiet (fail)
  go_wp2
  go_ret2
  exact ⟨rfl, below_drewN (below_drewN HB2.out _) _⟩

set_option maxRecDepth 100000 in
theorem dtakeOkP (x : Dl) (q : Pe) (fr : Int) (ba : Option Addr) (bn bc : Nat) (D V : Int) (N o : Nat) (body : List Nat) (w : World) (hp : De w x q) (h1 : 1 ≤ q.d) (h2 : q.d ≤ 2) (ho : o + q.d = 3) (hd : D = (o : Int)) (hv : V = (q.v : Int)) (hn : q.last < N) (hf : 0 ≤ fr)
    (KO : Calls Tryd.prog 28 #[.slice x.ka q.key.length x.kc, .slice ba bn bc] w (OgP ⟨D, V, N, body, 0⟩ w)) :
    Calls Tryd.prog 44 #[.pointer (some ⟨x.g, 0, none⟩), .int .i64 fr, .slice ba bn bc] w (DtP x { q with last := N, ad := fr } body w) := by
  obtain ⟨lo, hi, g, ka, kc⟩ := x
  obtain ⟨key, d, v, out, last, ad⟩ := q
  have c0 := hp.cell0
  have HK := Lib.hid KO
  dsimp only at *
  subst hd hv
  have t1 : ((o : Int) != (o : Int)) = false := by simp
  have t2 : ((v : Int) != (v : Int)) = false := by simp
  have t3 : ¬ (N : Int) ≤ (last : Int) := by omega
  clear hn
  have W3 : IntKind.i64.wrap ((3 : Int) - (d : Int)) = (o : Int) := (IntWalk.i64_in _ (by omega)).trans (by omega)
  have HP := Lib.hid hp
  clear hp KO h1 h2 ho
  go_enter Tryd.func44, Tryd.ntmps44
  go_wp2_with (go_at_call 28; refine HK.out.mono ?_; rintro e w1 ⟨ya, yc, rfl, hys, b1⟩; have HY := Lib.hid hys; have HB1 := Lib.hid b1; clear hys b1)
  clear c0
  have ba1 := (Below.refl w1.heap.size w1).alloc (Nat.le_refl _) (.cells #[.int .i64 (o : Int), .int .i64 (v : Int), .int .u64 (N : Int), .slice ya body.length yc] 40)
  have hp2 := (HP.out.then_ HB1.out).then_ ba1
  have hg2 := heap_alloc_last w1 (.cells #[.int .i64 (o : Int), .int .i64 (v : Int), .int .u64 (N : Int), .slice ya body.length yc] 40)
  have hl2 := HB1.out.size
  have hgl := HP.out.gl
  dsimp only at hgl
  have HB2 := Lib.hid (below_then HB1.out ba1 hl2)
  have HY2 := Lib.hid (sl_then ba1 (Nat.le_refl _) HY.out)
  have hz2 : (w1.alloc (.cells #[.int .i64 (o : Int), .int .i64 (v : Int), .int .u64 (N : Int), .slice ya body.length yc] 40)).heap.size = w1.heap.size + 1 := by simp
  clear ba1
  generalize w1.alloc (.cells #[.int .i64 (o : Int), .int .i64 (v : Int), .int .u64 (N : Int), .slice ya body.length yc] 40) = w2 at *
  generalize hG : w1.heap.size = G at *
  have p0 : w2.cell? ⟨G, 0, none⟩ = some (.int .i64 (o : Int)) := by rw [cell_of_row w2 G 0 _ 40 _ hg2]; rfl
  have p1 : w2.cell? ⟨G, 1, none⟩ = some (.int .i64 (v : Int)) := by rw [cell_of_row w2 G 1 _ 40 _ hg2]; rfl
  have p2 : w2.cell? ⟨G, 2, none⟩ = some (.int .u64 (N : Int)) := by rw [cell_of_row w2 G 2 _ 40 _ hg2]; rfl
  have p3 : w2.cell? ⟨G, 3, none⟩ = some (.slice ya body.length yc) := by rw [cell_of_row w2 G 3 _ 40 _ hg2]; rfl
  have c1 := hp2.cell1
  have c2 := hp2.cell2
  have c4 := hp2.cell4
  dsimp only at c1 c2 c4
  have HP2 := Lib.hid hp2
  have HG := Lib.hid (And.intro hG (And.intro hl2 (And.intro hgl hz2)))
  clear hp2 hg2 hG hl2 hgl hz2
  have HN := Lib.hid t3
  clear t3
  go_quiet (fail)
  clear t1 t2 W3 c1 c2 p0 p1
  have t3 := HN.out
  go_wp2_with fail
  go_quiet (fail)
  clear HN
  generalize hq : (w2.drewN _).drewN _ = wq
  have HP3 := Lib.hid (show De wq ⟨lo, hi, g, ka, kc⟩ ⟨key, d, v, out, last, ad⟩ by rw [← hq]; exact (HP2.out.drewN _).drewN _)
  have HB3 := Lib.hid (show Below w.heap.size w wq by rw [← hq]; exact below_drewN (below_drewN HB2.out _) _)
  have HY3 := Lib.hid (show Sl wq ya body by rw [← hq]; exact HY2.out)
  have p2 : wq.cell? ⟨G, 2, none⟩ = some (.int .u64 (N : Int)) := by rw [← hq]; exact p2
  have p3 : wq.cell? ⟨G, 3, none⟩ = some (.slice ya body.length yc) := by rw [← hq]; exact p3
  clear hq c4
  have c4 := HP3.out.cell4
  have f4 := HP3.out.free 4
  have f5 := HP3.out.free 5
  have g1 : ¬ G = g := by have := HG.out; omega
  have g2 : ¬ g = G := by omega
  dsimp only at f4 f5 c4
  have s2 := past_set (p := ⟨g, 4, none⟩) (u := .int .u64 (N : Int)) p3 g1
  have s3 := past_set (p := ⟨g, 5, none⟩) (u := .int .i64 fr) s2 g1
  have c5 := HP3.out.cell5
  have d5 := (HP3.out.set4 N).cell5
  have h5 := (HP3.out.set4 N).free 5
  dsimp only at c5 d5 h5
  go_wp2
  go_ret2
  have hp3 := HP3.out
  refine ⟨ya, yc, rfl, ?_, ?_, ?_⟩
  · refine De.sl_set (x := ⟨lo, hi, g, ka, kc⟩) (q := ⟨key, d, v, out, N, ad⟩) ?_ ?_ 5 _
    · exact De.set4 hp3 N
    · exact De.sl_set hp3 HY3.out 4 _
  · exact De.set5 (De.set4 hp3 N) fr
  · exact ((Bt.of HB3.out).set (p := ⟨g, 4, none⟩) hp3.g1 hp3.g2 _).set (p := ⟨g, 5, none⟩) hp3.g1 hp3.g2 _

set_option maxRecDepth 100000 in
theorem dtakeOkN (x : Dl) (q : Pe) (fr : Int) (ba : Option Addr) (bn bc : Nat) (D V : Int) (N o : Nat) (body : List Nat) (w : World) (hp : De w x q) (h1 : 1 ≤ q.d) (h2 : q.d ≤ 2) (ho : o + q.d = 3) (hd : D = (o : Int)) (hv : V = (q.v : Int)) (hn : q.last < N) (hf : ¬ 0 ≤ fr)
    (KO : Calls Tryd.prog 28 #[.slice x.ka q.key.length x.kc, .slice ba bn bc] w (OgP ⟨D, V, N, body, 0⟩ w)) :
    Calls Tryd.prog 44 #[.pointer (some ⟨x.g, 0, none⟩), .int .i64 fr, .slice ba bn bc] w (DtP x { q with last := N, ad := q.ad } body w) := by
  obtain ⟨lo, hi, g, ka, kc⟩ := x
  obtain ⟨key, d, v, out, last, ad⟩ := q
  have c0 := hp.cell0
  have HK := Lib.hid KO
  dsimp only at *
  subst hd hv
  have t1 : ((o : Int) != (o : Int)) = false := by simp
  have t2 : ((v : Int) != (v : Int)) = false := by simp
  have t3 : ¬ (N : Int) ≤ (last : Int) := by omega
  clear hn
  have W3 : IntKind.i64.wrap ((3 : Int) - (d : Int)) = (o : Int) := (IntWalk.i64_in _ (by omega)).trans (by omega)
  have HP := Lib.hid hp
  clear hp KO h1 h2 ho
  go_enter Tryd.func44, Tryd.ntmps44
  go_wp2_with (go_at_call 28; refine HK.out.mono ?_; rintro e w1 ⟨ya, yc, rfl, hys, b1⟩; have HY := Lib.hid hys; have HB1 := Lib.hid b1; clear hys b1)
  clear c0
  have ba1 := (Below.refl w1.heap.size w1).alloc (Nat.le_refl _) (.cells #[.int .i64 (o : Int), .int .i64 (v : Int), .int .u64 (N : Int), .slice ya body.length yc] 40)
  have hp2 := (HP.out.then_ HB1.out).then_ ba1
  have hg2 := heap_alloc_last w1 (.cells #[.int .i64 (o : Int), .int .i64 (v : Int), .int .u64 (N : Int), .slice ya body.length yc] 40)
  have hl2 := HB1.out.size
  have hgl := HP.out.gl
  dsimp only at hgl
  have HB2 := Lib.hid (below_then HB1.out ba1 hl2)
  have HY2 := Lib.hid (sl_then ba1 (Nat.le_refl _) HY.out)
  have hz2 : (w1.alloc (.cells #[.int .i64 (o : Int), .int .i64 (v : Int), .int .u64 (N : Int), .slice ya body.length yc] 40)).heap.size = w1.heap.size + 1 := by simp
  clear ba1
  generalize w1.alloc (.cells #[.int .i64 (o : Int), .int .i64 (v : Int), .int .u64 (N : Int), .slice ya body.length yc] 40) = w2 at *
  generalize hG : w1.heap.size = G at *
  have p0 : w2.cell? ⟨G, 0, none⟩ = some (.int .i64 (o : Int)) := by rw [cell_of_row w2 G 0 _ 40 _ hg2]; rfl
  have p1 : w2.cell? ⟨G, 1, none⟩ = some (.int .i64 (v : Int)) := by rw [cell_of_row w2 G 1 _ 40 _ hg2]; rfl
  have p2 : w2.cell? ⟨G, 2, none⟩ = some (.int .u64 (N : Int)) := by rw [cell_of_row w2 G 2 _ 40 _ hg2]; rfl
  have p3 : w2.cell? ⟨G, 3, none⟩ = some (.slice ya body.length yc) := by rw [cell_of_row w2 G 3 _ 40 _ hg2]; rfl
  have c1 := hp2.cell1
  have c2 := hp2.cell2
  have c4 := hp2.cell4
  dsimp only at c1 c2 c4
  have HP2 := Lib.hid hp2
  have HG := Lib.hid (And.intro hG (And.intro hl2 (And.intro hgl hz2)))
  clear hp2 hg2 hG hl2 hgl hz2
  have HN := Lib.hid t3
  clear t3
  go_quiet (fail)
  clear t1 t2 W3 c1 c2 p0 p1
  have t3 := HN.out
  go_wp2_with fail
  go_quiet (fail)
  clear HN
  generalize hq : (w2.drewN _).drewN _ = wq
  have HP3 := Lib.hid (show De wq ⟨lo, hi, g, ka, kc⟩ ⟨key, d, v, out, last, ad⟩ by rw [← hq]; exact (HP2.out.drewN _).drewN _)
  have HB3 := Lib.hid (show Below w.heap.size w wq by rw [← hq]; exact below_drewN (below_drewN HB2.out _) _)
  have HY3 := Lib.hid (show Sl wq ya body by rw [← hq]; exact HY2.out)
  have p2 : wq.cell? ⟨G, 2, none⟩ = some (.int .u64 (N : Int)) := by rw [← hq]; exact p2
  have p3 : wq.cell? ⟨G, 3, none⟩ = some (.slice ya body.length yc) := by rw [← hq]; exact p3
  clear hq c4
  have c4 := HP3.out.cell4
  have f4 := HP3.out.free 4
  have f5 := HP3.out.free 5
  have g1 : ¬ G = g := by have := HG.out; omega
  have g2 : ¬ g = G := by omega
  dsimp only at f4 f5 c4
  have s2 := past_set (p := ⟨g, 4, none⟩) (u := .int .u64 (N : Int)) p3 g1
  go_wp2
  go_ret2
  have hp3 := HP3.out
  refine ⟨ya, yc, rfl, ?_, ?_, ?_⟩
  · exact De.sl_set hp3 HY3.out 4 _
  · exact De.set4 hp3 N
  · exact (Bt.of HB3.out).set (p := ⟨g, 4, none⟩) hp3.g1 hp3.g2 _


end Go.Proofs.YtmfkfpgomglplaaDoor.Za
