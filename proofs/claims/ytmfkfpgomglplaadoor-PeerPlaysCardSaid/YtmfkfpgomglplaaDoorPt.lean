/- One end of the line: Send and Take. -/
import Derived.Test.YtmfkfpgomglplaaDoorPs
set_option linter.unusedVariables false
namespace Go.Proofs.YtmfkfpgomglplaaDoor.Pt
open Go Go.RowKit Kit Mb Sha Ap Mc1 Sc Mx Sb Pd Su Pa Hm Mm Tg Mf Pk Se Wn Op Pe Ps


/-- what Send answers where all is well. -/
def SdP (x : Pl) (q : Pe) (l : List Nat) (w : World) (e : Ending) (w' : World) : Prop :=
  ∃ b c, e = .returned (.tuple #[.slice b (26 + l.length) c, .int .i64 0]) ∧ Sl w' b (sealL q.key q.d q.v (q.out + 1) l) ∧ (b = none → c = 0) ∧ 26 + l.length ≤ c ∧ (∀ y, b = some y → w.heap.size ≤ y.block ∧ y.block < w'.heap.size) ∧ Pr w' x { q with out := q.out + 1 } ∧ Bt x.lo x.hi w w' ∧ Rb w' w.heap.size (.slice b (26 + l.length) c) (sealL q.key q.d q.v (q.out + 1) l)
theorem sealL_len (key : List Nat) (D V n : Nat) (l : List Nat) : (sealL key D V n l).length = 26 + l.length := by
  have h8 : (be8 n).length = 8 := be8_len _
  unfold sealL pktL frontL
  rw [List.length_append, tagL_len]
  simp [h8]; omega
set_option maxRecDepth 100000 in
theorem sendC (x : Pl) (q : Pe) (a : Option Addr) (cap : Nat) (l : List Nat) (w : World) (hq : Ok q) (hp : Pr w x q) (ho : q.out < 4611686018427387904)
    (hs : Sl w a l) (h0 : a = none → cap = 0) (hcap : l.length ≤ cap) (hl : ∀ c ∈ l, c < 256) (h6 : l.length ≤ 1200) (hT : TabR w) (hB : TabB w) :
    Calls Tryd.prog 41 #[.pointer (some ⟨x.g, 0, none⟩), .slice a l.length cap] w (SdP x q l w) := by
  obtain ⟨lo, hi, g, h, ka, kc⟩ := x
  obtain ⟨key, d, v, out, last, ad⟩ := q
  have c0 := hp.cell0
  have c1 := hp.cell1
  have c2 := hp.cell2
  have c3 := hp.cell3
  dsimp only at c0 c1 c2 c3 ho ⊢
  obtain ⟨n1, hn1⟩ : ∃ n1, n1 = out + 1 := ⟨_, rfl⟩
  have e1 : IntKind.u64.wrap ((out : Int) + 1) = (n1 : Int) := by rw [IntKind.wrap_u64]; omega
  have e2 : ((out : Int) == 4611686018427387904) = false := by rw [beq_eq_false_iff_ne]; omega
  have e3 : ¬ 1200 < (l.length : Int) := by omega
  have HP := Lib.hid hp
  have HQ := Lib.hid hq
  have HN := Lib.hid hn1
  have HNB := Lib.hid (show 1 ≤ n1 ∧ n1 ≤ 4611686018427387904 by omega)
  have HS := Lib.hid hs
  have H0 := Lib.hid h0
  have HC := Lib.hid hcap
  have HL := Lib.hid hl
  have H6 := Lib.hid h6
  have HT := Lib.hid hT
  have HB := Lib.hid hB
  have HLN := Lib.hid (show (sealL key d v n1 l).length = 26 + l.length from sealL_len _ _ _ _ _)
  obtain ⟨SL, hSL⟩ : ∃ SL, SL = sealL key d v n1 l := ⟨_, rfl⟩
  rw [← hSL] at HLN
  have HSL := Lib.hid hSL
  clear hp hq hn1 hs h0 hcap hl h6 hT hB ho hSL
  go_enter Tryd.func41, Tryd.ntmps41
  go_wp2_with fail
  go_region_held3 (fun W => W.cell? ⟨g, 0, none⟩ = some (.slice ka key.length kc) ∧ W.cell? ⟨g, 1, none⟩ = some (.int .i64 (d : Int)) ∧ W.cell? ⟨g, 2, none⟩ = some (.int .i64 (v : Int)) ∧ W.cell? ⟨g, 3, none⟩ = some (.int .u64 (out : Int)) ∧ Pr W ⟨lo, hi, g, h, ka, kc⟩ ⟨key, d, v, out, last, ad⟩ ∧ Below w.heap.size w W) (first | (go_split_ands; exact ⟨cell_then b1 (Nat.le_refl _) (by assumption), cell_then b1 (Nat.le_refl _) (by assumption), cell_then b1 (Nat.le_refl _) (by assumption), cell_then b1 (Nat.le_refl _) (by assumption), Pr.then_ (by assumption) b1, below_next (by assumption) b1⟩) | (go_split_ands; refine ⟨?_, ?_, ?_, ?_, ?_, ?_⟩ <;> (repeat (first | with_reducible assumption | exact HP.out | exact Below.refl _ _ | (with_reducible refine past_drew ?_) | (with_reducible refine Pr.drew ?_) | (with_reducible refine Below.drew ?_))))) (first | (go_at_call 24; (with_reducible refine (sealC d v n1 a cap l ka kc key _ HQ.out.d1 HQ.out.d2 HQ.out.v8 HNB.out.1 HNB.out.2 H6.out (sl_then (by go_split_ands; assumption) (Nat.le_refl _) HS.out) H0.out HC.out HL.out (sl_then (by go_split_ands; assumption) (Nat.le_refl _) HP.out.ks) HP.out.k0 HP.out.kcap HQ.out.kl HQ.out.klen (tabR_then (by go_split_ands; assumption) HT.out) (tabB_then (by go_split_ands; assumption) HB.out)).mono ?_); rintro e w1 ⟨v1, rfl, o1, b1⟩; rw [← HSL.out] at o1; have HO1 := Lib.hid o1; obtain ⟨ya, yc, rfl, hyc, hys, hy0, hyx⟩ := rb_sl o1; have HY := Lib.hid (And.intro hyc (And.intro hys (And.intro hy0 hyx))); clear o1 hyc hys hy0 hyx))
  go_split_ands
  have HP1 : Pr w1 ⟨lo, hi, g, h, ka, kc⟩ ⟨key, d, v, out, last, ad⟩ := by assumption
  have HB1 : Below w.heap.size w w1 := by assumption
  have f3 := HP1.free 3
  dsimp only at f3
  have HP2 := Lib.hid HP1
  have HB2 := Lib.hid HB1
  clear HP1 HB1
  go_wp2
  go_ret2
  have hp2 := HP2.out
  have gl := HP.out.gl
  have hln := HLN.out
  refine ⟨ya, yc, (by rw [← hln]; rfl), ?_, HY.out.2.2.1, by rw [← HLN.out]; exact HY.out.1, ?_, ?_, ?_, ?_⟩
  · rw [← HN.out, ← HSL.out]
    exact sl_set HY.out.2.1 (fun y hy => by have := HY.out.2.2.2 y hy; simp only at gl ⊢; simp at this; omega) _
  · intro y hy
    have := HY.out.2.2.2 y hy
    simpa using this
  · have := hp2.set3 n1
    rw [← HN.out]; exact this
  · exact (Bt.of HB2.out).set hp2.g1 hp2.g2 _
  · have ho : Rb w1 w.heap.size (.slice ya SL.length yc) SL := HO1.out
    rw [hln] at ho
    rw [← HN.out, ← HSL.out]
    exact rb_setCell ho gl _
set_option maxRecDepth 100000 in
theorem sendEnd (x : Pl) (q : Pe) (a : Option Addr) (n cap : Nat) (w : World) (hp : Pr w x q) (ho : q.out = 4611686018427387904) :
    Calls Tryd.prog 41 #[.pointer (some ⟨x.g, 0, none⟩), .slice a n cap] w fun e w' => e = .returned (.tuple #[.slice none 0 0, .int .i64 17]) ∧ w = w' := by
  have c3 := hp.cell3
  rw [ho] at c3
  clear hp ho
  go_enter Tryd.func41, Tryd.ntmps41
  go_wp2
  go_ret2
  exact ⟨rfl, rfl⟩
set_option maxRecDepth 100000 in
theorem sendLong (x : Pl) (q : Pe) (a : Option Addr) (n cap : Nat) (w : World) (hp : Pr w x q) (ho : q.out < 4611686018427387904) (hn : 1200 < n) :
    Calls Tryd.prog 41 #[.pointer (some ⟨x.g, 0, none⟩), .slice a n cap] w fun e w' => e = .returned (.tuple #[.slice none 0 0, .int .i64 4]) ∧ w = w' := by
  have c3 := hp.cell3
  have e2 : ((q.out : Int) == 4611686018427387904) = false := by rw [beq_eq_false_iff_ne]; omega
  have e3 : 1200 < (n : Int) := by omega
  clear hp ho hn
  go_enter Tryd.func41, Tryd.ntmps41
  go_wp2
  go_ret2
  exact ⟨rfl, rfl⟩
set_option maxRecDepth 100000 in
/-- what Open refuses, Take refuses. -/
theorem takeBad (x : Pl) (q : Pe) (fr E : Int) (ba : Option Addr) (bn bc : Nat) (w : World) (hp : Pr w x q) (hE : E ≠ 0)
    (KO : Calls Tryd.prog 27 #[.slice x.ka q.key.length x.kc, .slice ba bn bc] w fun e w' => e = .returned (.tuple #[.agg #[.int .i64 0, .int .i64 0, .int .u64 0, .slice none 0 0], .int .i64 E]) ∧ Below w.heap.size w w') :
    Calls Tryd.prog 43 #[.pointer (some ⟨x.g, 0, none⟩), .int .i64 fr, .slice ba bn bc] w fun e w' => e = .returned (.tuple #[.slice none 0 0, .int .i64 E]) ∧ Below w.heap.size w w' := by
  have c0 := hp.cell0
  have HK := Lib.hid KO
  have e1 : (E != 0) = true := by simpa using hE
  clear hp hE KO
  go_enter Tryd.func43, Tryd.ntmps43
  go_wp2_with (go_at_call 27; refine HK.out.mono ?_; rintro e w1 ⟨rfl, b1⟩; have HB1 := Lib.hid b1; clear b1)
  go_ret2
  exact ⟨rfl, HB1.out.alloc HB1.out.size _⟩

set_option maxRecDepth 100000 in
/-- one of the own direction. -/
theorem takeForm1 (x : Pl) (q : Pe) (fr : Int) (ba : Option Addr) (bn bc : Nat) (D V N : Nat) (body : List Nat) (w : World) (hp : Pr w x q) (hd : D = q.d)
    (KO : Calls Tryd.prog 27 #[.slice x.ka q.key.length x.kc, .slice ba bn bc] w (OpP (D : Int) (V : Int) N body w)) :
    Calls Tryd.prog 43 #[.pointer (some ⟨x.g, 0, none⟩), .int .i64 fr, .slice ba bn bc] w fun e w' => e = .returned (.tuple #[.slice none 0 0, .int .i64 2]) ∧ Below w.heap.size w w' := by
  obtain ⟨lo, hi, g, h, ka, kc⟩ := x
  obtain ⟨key, d, v, out, last, ad⟩ := q
  have c0 := hp.cell0
  have HK := Lib.hid KO
  dsimp only at *
  subst hd
  have t1 : ((D : Int) == (D : Int)) = true := by simp
  have HP := Lib.hid hp
  clear hp KO
  go_enter Tryd.func43, Tryd.ntmps43
  go_wp2_with (go_at_call 27; refine HK.out.mono ?_; rintro e w1 ⟨sl, rfl, o1, b1⟩; obtain ⟨ya, yc, rfl, hyc, hys, hy0, hyx⟩ := rb_sl o1; have HY := Lib.hid (And.intro hyc (And.intro hys (And.intro hy0 hyx))); have HB1 := Lib.hid b1; clear o1 hyc hys hy0 hyx b1)
  clear c0
  have ba1 := (Below.refl w1.heap.size w1).alloc (Nat.le_refl _) (.cells #[.int .i64 (D : Int), .int .i64 (V : Int), .int .u64 (N : Int), .slice ya body.length yc] 35)
  have hp2 := (HP.out.then_ HB1.out).then_ ba1
  have hg2 := heap_alloc_last w1 (.cells #[.int .i64 (D : Int), .int .i64 (V : Int), .int .u64 (N : Int), .slice ya body.length yc] 35)
  have hl2 := HB1.out.size
  have hgl := HP.out.gl
  have hhl := HP.out.win.lt
  dsimp only at hgl hhl
  have HB2 := Lib.hid (below_then HB1.out ba1 hl2)
  have HY2 := Lib.hid (sl_then ba1 (Nat.le_refl _) HY.out.2.1)
  have hz2 : (w1.alloc (.cells #[.int .i64 (D : Int), .int .i64 (V : Int), .int .u64 (N : Int), .slice ya body.length yc] 35)).heap.size = w1.heap.size + 1 := by simp
  clear ba1
  generalize w1.alloc (.cells #[.int .i64 (D : Int), .int .i64 (V : Int), .int .u64 (N : Int), .slice ya body.length yc] 35) = w2 at *
  generalize hG : w1.heap.size = G at *
  have p0 : w2.cell? ⟨G, 0, none⟩ = some (.int .i64 (D : Int)) := by rw [cell_of_row w2 G 0 _ 35 _ hg2]; rfl
  have p1 : w2.cell? ⟨G, 1, none⟩ = some (.int .i64 (V : Int)) := by rw [cell_of_row w2 G 1 _ 35 _ hg2]; rfl
  have p2 : w2.cell? ⟨G, 2, none⟩ = some (.int .u64 (N : Int)) := by rw [cell_of_row w2 G 2 _ 35 _ hg2]; rfl
  have p3 : w2.cell? ⟨G, 3, none⟩ = some (.slice ya body.length yc) := by rw [cell_of_row w2 G 3 _ 35 _ hg2]; rfl
  have c1 := hp2.cell1
  have c2 := hp2.cell2
  have c4 := hp2.cell4
  dsimp only at c1 c2 c4
  have HP2 := Lib.hid hp2
  have HG := Lib.hid (And.intro hG (And.intro hl2 (And.intro hgl (And.intro hhl hz2))))
  clear hp2 hg2 hG hl2 hgl hhl hz2
  go_quiet (fail)
  go_wp2
  go_ret2
  exact ⟨rfl, below_drewN HB2.out _⟩

set_option maxRecDepth 100000 in
/-- one of another viewer. -/
theorem takeForm2 (x : Pl) (q : Pe) (fr : Int) (ba : Option Addr) (bn bc : Nat) (D V N : Nat) (body : List Nat) (w : World) (hp : Pr w x q) (hd : D ≠ q.d) (hv : V ≠ q.v)
    (KO : Calls Tryd.prog 27 #[.slice x.ka q.key.length x.kc, .slice ba bn bc] w (OpP (D : Int) (V : Int) N body w)) :
    Calls Tryd.prog 43 #[.pointer (some ⟨x.g, 0, none⟩), .int .i64 fr, .slice ba bn bc] w fun e w' => e = .returned (.tuple #[.slice none 0 0, .int .i64 2]) ∧ Below w.heap.size w w' := by
  obtain ⟨lo, hi, g, h, ka, kc⟩ := x
  obtain ⟨key, d, v, out, last, ad⟩ := q
  have c0 := hp.cell0
  have HK := Lib.hid KO
  dsimp only at *
  have t1 : ((D : Int) == (d : Int)) = false := by rw [beq_eq_false_iff_ne]; omega
  have t2 : ((V : Int) != (v : Int)) = true := by simp; omega
  clear hd hv
  have HP := Lib.hid hp
  clear hp KO
  go_enter Tryd.func43, Tryd.ntmps43
  go_wp2_with (go_at_call 27; refine HK.out.mono ?_; rintro e w1 ⟨sl, rfl, o1, b1⟩; obtain ⟨ya, yc, rfl, hyc, hys, hy0, hyx⟩ := rb_sl o1; have HY := Lib.hid (And.intro hyc (And.intro hys (And.intro hy0 hyx))); have HB1 := Lib.hid b1; clear o1 hyc hys hy0 hyx b1)
  clear c0
  have ba1 := (Below.refl w1.heap.size w1).alloc (Nat.le_refl _) (.cells #[.int .i64 (D : Int), .int .i64 (V : Int), .int .u64 (N : Int), .slice ya body.length yc] 35)
  have hp2 := (HP.out.then_ HB1.out).then_ ba1
  have hg2 := heap_alloc_last w1 (.cells #[.int .i64 (D : Int), .int .i64 (V : Int), .int .u64 (N : Int), .slice ya body.length yc] 35)
  have hl2 := HB1.out.size
  have hgl := HP.out.gl
  have hhl := HP.out.win.lt
  dsimp only at hgl hhl
  have HB2 := Lib.hid (below_then HB1.out ba1 hl2)
  have HY2 := Lib.hid (sl_then ba1 (Nat.le_refl _) HY.out.2.1)
  have hz2 : (w1.alloc (.cells #[.int .i64 (D : Int), .int .i64 (V : Int), .int .u64 (N : Int), .slice ya body.length yc] 35)).heap.size = w1.heap.size + 1 := by simp
  clear ba1
  generalize w1.alloc (.cells #[.int .i64 (D : Int), .int .i64 (V : Int), .int .u64 (N : Int), .slice ya body.length yc] 35) = w2 at *
  generalize hG : w1.heap.size = G at *
  have p0 : w2.cell? ⟨G, 0, none⟩ = some (.int .i64 (D : Int)) := by rw [cell_of_row w2 G 0 _ 35 _ hg2]; rfl
  have p1 : w2.cell? ⟨G, 1, none⟩ = some (.int .i64 (V : Int)) := by rw [cell_of_row w2 G 1 _ 35 _ hg2]; rfl
  have p2 : w2.cell? ⟨G, 2, none⟩ = some (.int .u64 (N : Int)) := by rw [cell_of_row w2 G 2 _ 35 _ hg2]; rfl
  have p3 : w2.cell? ⟨G, 3, none⟩ = some (.slice ya body.length yc) := by rw [cell_of_row w2 G 3 _ 35 _ hg2]; rfl
  have c1 := hp2.cell1
  have c2 := hp2.cell2
  have c4 := hp2.cell4
  dsimp only at c1 c2 c4
  have HP2 := Lib.hid hp2
  have HG := Lib.hid (And.intro hG (And.intro hl2 (And.intro hgl (And.intro hhl hz2))))
  clear hp2 hg2 hG hl2 hgl hhl hz2
  go_quiet (fail)
  go_wp2
  go_ret2
  exact ⟨rfl, below_drewN HB2.out _⟩

set_option maxRecDepth 100000 in
/-- one that is not newer. -/
theorem takeOldP (x : Pl) (q : Pe) (fr : Int) (ba : Option Addr) (bn bc : Nat) (D V N : Nat) (body : List Nat) (w : World) (hp : Pr w x q) (hd : D ≠ q.d) (hv : V = q.v) (hn : ¬ q.last < N)
    (KO : Calls Tryd.prog 27 #[.slice x.ka q.key.length x.kc, .slice ba bn bc] w (OpP (D : Int) (V : Int) N body w)) :
    Calls Tryd.prog 43 #[.pointer (some ⟨x.g, 0, none⟩), .int .i64 fr, .slice ba bn bc] w fun e w' => e = .returned (.tuple #[.slice none 0 0, .int .i64 14]) ∧ Below w.heap.size w w' := by
  obtain ⟨lo, hi, g, h, ka, kc⟩ := x
  obtain ⟨key, d, v, out, last, ad⟩ := q
  have c0 := hp.cell0
  have HK := Lib.hid KO
  dsimp only at *
  have t1 : ((D : Int) == (d : Int)) = false := by rw [beq_eq_false_iff_ne]; omega
  have t2 : ((V : Int) != (v : Int)) = false := by simp; omega
  clear hd hv
  have HN := Lib.hid hn
  clear hn
  have HP := Lib.hid hp
  clear hp KO
  go_enter Tryd.func43, Tryd.ntmps43
  go_wp2_with (go_at_call 27; refine HK.out.mono ?_; rintro e w1 ⟨sl, rfl, o1, b1⟩; obtain ⟨ya, yc, rfl, hyc, hys, hy0, hyx⟩ := rb_sl o1; have HY := Lib.hid (And.intro hyc (And.intro hys (And.intro hy0 hyx))); have HB1 := Lib.hid b1; clear o1 hyc hys hy0 hyx b1)
  clear c0
  have ba1 := (Below.refl w1.heap.size w1).alloc (Nat.le_refl _) (.cells #[.int .i64 (D : Int), .int .i64 (V : Int), .int .u64 (N : Int), .slice ya body.length yc] 35)
  have hp2 := (HP.out.then_ HB1.out).then_ ba1
  have hg2 := heap_alloc_last w1 (.cells #[.int .i64 (D : Int), .int .i64 (V : Int), .int .u64 (N : Int), .slice ya body.length yc] 35)
  have hl2 := HB1.out.size
  have hgl := HP.out.gl
  have hhl := HP.out.win.lt
  dsimp only at hgl hhl
  have HB2 := Lib.hid (below_then HB1.out ba1 hl2)
  have HY2 := Lib.hid (sl_then ba1 (Nat.le_refl _) HY.out.2.1)
  have hz2 : (w1.alloc (.cells #[.int .i64 (D : Int), .int .i64 (V : Int), .int .u64 (N : Int), .slice ya body.length yc] 35)).heap.size = w1.heap.size + 1 := by simp
  clear ba1
  generalize w1.alloc (.cells #[.int .i64 (D : Int), .int .i64 (V : Int), .int .u64 (N : Int), .slice ya body.length yc] 35) = w2 at *
  generalize hG : w1.heap.size = G at *
  have p0 : w2.cell? ⟨G, 0, none⟩ = some (.int .i64 (D : Int)) := by rw [cell_of_row w2 G 0 _ 35 _ hg2]; rfl
  have p1 : w2.cell? ⟨G, 1, none⟩ = some (.int .i64 (V : Int)) := by rw [cell_of_row w2 G 1 _ 35 _ hg2]; rfl
  have p2 : w2.cell? ⟨G, 2, none⟩ = some (.int .u64 (N : Int)) := by rw [cell_of_row w2 G 2 _ 35 _ hg2]; rfl
  have p3 : w2.cell? ⟨G, 3, none⟩ = some (.slice ya body.length yc) := by rw [cell_of_row w2 G 3 _ 35 _ hg2]; rfl
  have c1 := hp2.cell1
  have c2 := hp2.cell2
  have c4 := hp2.cell4
  dsimp only at c1 c2 c4
  have HP2 := Lib.hid hp2
  have HG := Lib.hid (And.intro hG (And.intro hl2 (And.intro hgl (And.intro hhl hz2))))
  clear hp2 hg2 hG hl2 hgl hhl hz2
  go_quiet (fail)
  clear t1 t2 c1 c2 p0 p1
  go_wp2_with fail
  go_region_held3 (fun W => W.cell? ⟨g, 4, none⟩ = some (.pointer (some ⟨h, 0, none⟩)) ∧ W.cell? ⟨G, 2, none⟩ = some (.int .u64 (N : Int)) ∧ W.cell? ⟨G, 3, none⟩ = some (.slice ya body.length yc) ∧ Pr W ⟨lo, hi, g, h, ka, kc⟩ ⟨key, d, v, out, last, ad⟩ ∧ Below w.heap.size w W) ((go_split_ands; refine ⟨?_, ?_, ?_, ?_, ?_⟩ <;> (repeat (first | with_reducible assumption | exact HP2.out | exact HB2.out | (with_reducible refine past_drew ?_) | (with_reducible refine Pr.drew ?_) | (with_reducible refine Below.drew ?_) | (with_reducible refine past_drewN _ ?_) | (with_reducible refine Pr.drewN ?_ _) | (with_reducible refine below_drewN ?_ _))))) (first | (go_at_call 35; (with_reducible refine (takeOld h last N _ HN.out (show Wn _ h last from (show Pr _ ⟨lo, hi, g, h, ka, kc⟩ ⟨key, d, v, out, last, ad⟩ by go_split_ands; repeat (first | with_reducible assumption | exact HP2.out | exact HB2.out | (with_reducible refine past_drew ?_) | (with_reducible refine Pr.drew ?_) | (with_reducible refine Below.drew ?_) | (with_reducible refine past_drewN _ ?_) | (with_reducible refine Pr.drewN ?_ _) | (with_reducible refine below_drewN ?_ _))).win)).mono ?_); rintro e w3 ⟨rfl, rfl⟩))
  go_wp2
  go_ret2
  exact ⟨rfl, by go_split_ands; assumption⟩

set_option maxRecDepth 100000 in
/-- one that is taken, and told where it came from. -/
theorem takeOkP (x : Pl) (q : Pe) (fr : Int) (ba : Option Addr) (bn bc : Nat) (D V N : Nat) (body : List Nat) (w : World) (hp : Pr w x q) (hd : D ≠ q.d) (hv : V = q.v) (hn : q.last < N) (hf : 0 ≤ fr)
    (KO : Calls Tryd.prog 27 #[.slice x.ka q.key.length x.kc, .slice ba bn bc] w (OpP (D : Int) (V : Int) N body w)) :
    Calls Tryd.prog 43 #[.pointer (some ⟨x.g, 0, none⟩), .int .i64 fr, .slice ba bn bc] w fun e w' => ∃ b c, e = .returned (.tuple #[.slice b body.length c, .int .i64 0]) ∧ Sl w' b body ∧ (b = none → c = 0) ∧ body.length ≤ c ∧ (∀ y, b = some y → w.heap.size ≤ y.block ∧ y.block < w'.heap.size) ∧ Pr w' x { q with last := N, ad := fr } ∧ Bt x.lo x.hi w w' := by
  obtain ⟨lo, hi, g, h, ka, kc⟩ := x
  obtain ⟨key, d, v, out, last, ad⟩ := q
  have c0 := hp.cell0
  have HK := Lib.hid KO
  dsimp only at *
  have t1 : ((D : Int) == (d : Int)) = false := by rw [beq_eq_false_iff_ne]; omega
  have t2 : ((V : Int) != (v : Int)) = false := by simp; omega
  clear hd hv
  have HN := Lib.hid hn
  clear hn
  have t3 : (0 : Int) ≤ fr := hf
  clear hf
  have HP := Lib.hid hp
  clear hp KO
  go_enter Tryd.func43, Tryd.ntmps43
  go_wp2_with (go_at_call 27; refine HK.out.mono ?_; rintro e w1 ⟨sl, rfl, o1, b1⟩; obtain ⟨ya, yc, rfl, hyc, hys, hy0, hyx⟩ := rb_sl o1; have HY := Lib.hid (And.intro hyc (And.intro hys (And.intro hy0 hyx))); have HB1 := Lib.hid b1; clear o1 hyc hys hy0 hyx b1)
  clear c0
  have ba1 := (Below.refl w1.heap.size w1).alloc (Nat.le_refl _) (.cells #[.int .i64 (D : Int), .int .i64 (V : Int), .int .u64 (N : Int), .slice ya body.length yc] 35)
  have hp2 := (HP.out.then_ HB1.out).then_ ba1
  have hg2 := heap_alloc_last w1 (.cells #[.int .i64 (D : Int), .int .i64 (V : Int), .int .u64 (N : Int), .slice ya body.length yc] 35)
  have hl2 := HB1.out.size
  have hgl := HP.out.gl
  have hhl := HP.out.win.lt
  dsimp only at hgl hhl
  have HB2 := Lib.hid (below_then HB1.out ba1 hl2)
  have HY2 := Lib.hid (sl_then ba1 (Nat.le_refl _) HY.out.2.1)
  have hz2 : (w1.alloc (.cells #[.int .i64 (D : Int), .int .i64 (V : Int), .int .u64 (N : Int), .slice ya body.length yc] 35)).heap.size = w1.heap.size + 1 := by simp
  clear ba1
  generalize w1.alloc (.cells #[.int .i64 (D : Int), .int .i64 (V : Int), .int .u64 (N : Int), .slice ya body.length yc] 35) = w2 at *
  generalize hG : w1.heap.size = G at *
  have p0 : w2.cell? ⟨G, 0, none⟩ = some (.int .i64 (D : Int)) := by rw [cell_of_row w2 G 0 _ 35 _ hg2]; rfl
  have p1 : w2.cell? ⟨G, 1, none⟩ = some (.int .i64 (V : Int)) := by rw [cell_of_row w2 G 1 _ 35 _ hg2]; rfl
  have p2 : w2.cell? ⟨G, 2, none⟩ = some (.int .u64 (N : Int)) := by rw [cell_of_row w2 G 2 _ 35 _ hg2]; rfl
  have p3 : w2.cell? ⟨G, 3, none⟩ = some (.slice ya body.length yc) := by rw [cell_of_row w2 G 3 _ 35 _ hg2]; rfl
  have c1 := hp2.cell1
  have c2 := hp2.cell2
  have c4 := hp2.cell4
  dsimp only at c1 c2 c4
  have HP2 := Lib.hid hp2
  have HG := Lib.hid (And.intro hG (And.intro hl2 (And.intro hgl (And.intro hhl hz2))))
  clear hp2 hg2 hG hl2 hgl hhl hz2
  go_quiet (fail)
  clear t1 t2 c1 c2 p0 p1
  go_wp2_with fail
  go_region_held3 (fun W => W.cell? ⟨g, 4, none⟩ = some (.pointer (some ⟨h, 0, none⟩)) ∧ W.cell? ⟨G, 2, none⟩ = some (.int .u64 (N : Int)) ∧ W.cell? ⟨G, 3, none⟩ = some (.slice ya body.length yc)) (first | exact ⟨k4, k2, k3⟩ | (go_split_ands; refine ⟨?_, ?_, ?_⟩ <;> (repeat (first | with_reducible assumption | exact HP2.out | exact HB2.out | (with_reducible refine past_drew ?_) | (with_reducible refine Pr.drew ?_) | (with_reducible refine Below.drew ?_) | (with_reducible refine past_drewN _ ?_) | (with_reducible refine Pr.drewN ?_ _) | (with_reducible refine below_drewN ?_ _))))) (first | (go_at_call 35; (with_reducible refine (takeNew h last N _ HN.out (show Wn _ h last from (show Pr _ ⟨lo, hi, g, h, ka, kc⟩ ⟨key, d, v, out, last, ad⟩ by repeat (first | with_reducible assumption | exact HP2.out | exact HB2.out | (with_reducible refine past_drew ?_) | (with_reducible refine Pr.drew ?_) | (with_reducible refine Below.drew ?_) | (with_reducible refine past_drewN _ ?_) | (with_reducible refine Pr.drewN ?_ _) | (with_reducible refine below_drewN ?_ _))).win)).mono ?_); rintro e w3 ⟨rfl, hw3, ew3⟩; clear hw3; have HP3 := Lib.hid (show Pr w3 ⟨lo, hi, g, h, ka, kc⟩ ⟨key, d, v, out, N, ad⟩ by rw [ew3]; exact Pr.setW (x := ⟨lo, hi, g, h, ka, kc⟩) (q := ⟨key, d, v, out, last, ad⟩) (by repeat (first | with_reducible assumption | exact HP2.out | exact HB2.out | (with_reducible refine past_drew ?_) | (with_reducible refine Pr.drew ?_) | (with_reducible refine Below.drew ?_) | (with_reducible refine past_drewN _ ?_) | (with_reducible refine Pr.drewN ?_ _) | (with_reducible refine below_drewN ?_ _))) N); have k4 := (show w3.cell? ⟨g, 4, none⟩ = some (.pointer (some ⟨h, 0, none⟩)) by rw [ew3]; exact past_set c4 HP.out.ne); have k2 := (show w3.cell? ⟨G, 2, none⟩ = some (.int .u64 (N : Int)) by rw [ew3]; exact past_set p2 (show G ≠ h by have := HG.out; omega)); have k3 := (show w3.cell? ⟨G, 3, none⟩ = some (.slice ya body.length yc) by rw [ew3]; exact past_set p3 (show G ≠ h by have := HG.out; omega)); have HT3 := Lib.hid (show Bt lo hi w w3 by rw [ew3]; exact (Bt.of (by repeat (first | with_reducible assumption | exact HP2.out | exact HB2.out | (with_reducible refine past_drew ?_) | (with_reducible refine Pr.drew ?_) | (with_reducible refine Below.drew ?_) | (with_reducible refine past_drewN _ ?_) | (with_reducible refine Pr.drewN ?_ _) | (with_reducible refine below_drewN ?_ _)))).set HP.out.h1 HP.out.h2 _); have HY3 := Lib.hid (show Sl w3 ya body by rw [ew3]; exact sl_set (show Sl w2 ya body from HY2.out) (fun y hy => (show y.block ≠ h by have := HY.out.2.2.2 y hy; have := HG.out; omega)) _); have HZ3 := Lib.hid (show w3.heap.size = G + 1 by rw [ew3]; have := HG.out; simp [World.setCell]; omega); clear ew3))
  have f5 := HP3.out.free 5
  have c5 := HP3.out.cell5
  dsimp only at f5 c5
  have g1 : ¬ G = g := by have := HG.out; omega
  have g2 : ¬ g = G := by omega
  have s3 := past_set (p := ⟨g, 5, none⟩) (u := .int .i64 fr) k3 g1
  go_wp2
  go_ret2
  refine ⟨ya, yc, rfl, sl_set HY3.out (fun y hy => by have := HY.out.2.2.2 y hy; have := HG.out; simp; omega) _, HY.out.2.2.1, HY.out.1, fun y hy => by have h1 := HY.out.2.2.2 y hy; have h2 := HG.out; have h3 := HZ3.out; simp [World.setCell]; omega, HP3.out.set5 fr, HT3.out.set HP.out.g1 HP.out.g2 _⟩

set_option maxRecDepth 100000 in
/-- one that is taken, from nowhere. -/
theorem takeOkN (x : Pl) (q : Pe) (fr : Int) (ba : Option Addr) (bn bc : Nat) (D V N : Nat) (body : List Nat) (w : World) (hp : Pr w x q) (hd : D ≠ q.d) (hv : V = q.v) (hn : q.last < N) (hf : ¬ 0 ≤ fr)
    (KO : Calls Tryd.prog 27 #[.slice x.ka q.key.length x.kc, .slice ba bn bc] w (OpP (D : Int) (V : Int) N body w)) :
    Calls Tryd.prog 43 #[.pointer (some ⟨x.g, 0, none⟩), .int .i64 fr, .slice ba bn bc] w fun e w' => ∃ b c, e = .returned (.tuple #[.slice b body.length c, .int .i64 0]) ∧ Sl w' b body ∧ (b = none → c = 0) ∧ body.length ≤ c ∧ (∀ y, b = some y → w.heap.size ≤ y.block ∧ y.block < w'.heap.size) ∧ Pr w' x { q with last := N, ad := q.ad } ∧ Bt x.lo x.hi w w' := by
  obtain ⟨lo, hi, g, h, ka, kc⟩ := x
  obtain ⟨key, d, v, out, last, ad⟩ := q
  have c0 := hp.cell0
  have HK := Lib.hid KO
  dsimp only at *
  have t1 : ((D : Int) == (d : Int)) = false := by rw [beq_eq_false_iff_ne]; omega
  have t2 : ((V : Int) != (v : Int)) = false := by simp; omega
  clear hd hv
  have HN := Lib.hid hn
  clear hn
  have t3 : ¬ (0 : Int) ≤ fr := hf
  clear hf
  have HP := Lib.hid hp
  clear hp KO
  go_enter Tryd.func43, Tryd.ntmps43
  go_wp2_with (go_at_call 27; refine HK.out.mono ?_; rintro e w1 ⟨sl, rfl, o1, b1⟩; obtain ⟨ya, yc, rfl, hyc, hys, hy0, hyx⟩ := rb_sl o1; have HY := Lib.hid (And.intro hyc (And.intro hys (And.intro hy0 hyx))); have HB1 := Lib.hid b1; clear o1 hyc hys hy0 hyx b1)
  clear c0
  have ba1 := (Below.refl w1.heap.size w1).alloc (Nat.le_refl _) (.cells #[.int .i64 (D : Int), .int .i64 (V : Int), .int .u64 (N : Int), .slice ya body.length yc] 35)
  have hp2 := (HP.out.then_ HB1.out).then_ ba1
  have hg2 := heap_alloc_last w1 (.cells #[.int .i64 (D : Int), .int .i64 (V : Int), .int .u64 (N : Int), .slice ya body.length yc] 35)
  have hl2 := HB1.out.size
  have hgl := HP.out.gl
  have hhl := HP.out.win.lt
  dsimp only at hgl hhl
  have HB2 := Lib.hid (below_then HB1.out ba1 hl2)
  have HY2 := Lib.hid (sl_then ba1 (Nat.le_refl _) HY.out.2.1)
  have hz2 : (w1.alloc (.cells #[.int .i64 (D : Int), .int .i64 (V : Int), .int .u64 (N : Int), .slice ya body.length yc] 35)).heap.size = w1.heap.size + 1 := by simp
  clear ba1
  generalize w1.alloc (.cells #[.int .i64 (D : Int), .int .i64 (V : Int), .int .u64 (N : Int), .slice ya body.length yc] 35) = w2 at *
  generalize hG : w1.heap.size = G at *
  have p0 : w2.cell? ⟨G, 0, none⟩ = some (.int .i64 (D : Int)) := by rw [cell_of_row w2 G 0 _ 35 _ hg2]; rfl
  have p1 : w2.cell? ⟨G, 1, none⟩ = some (.int .i64 (V : Int)) := by rw [cell_of_row w2 G 1 _ 35 _ hg2]; rfl
  have p2 : w2.cell? ⟨G, 2, none⟩ = some (.int .u64 (N : Int)) := by rw [cell_of_row w2 G 2 _ 35 _ hg2]; rfl
  have p3 : w2.cell? ⟨G, 3, none⟩ = some (.slice ya body.length yc) := by rw [cell_of_row w2 G 3 _ 35 _ hg2]; rfl
  have c1 := hp2.cell1
  have c2 := hp2.cell2
  have c4 := hp2.cell4
  dsimp only at c1 c2 c4
  have HP2 := Lib.hid hp2
  have HG := Lib.hid (And.intro hG (And.intro hl2 (And.intro hgl (And.intro hhl hz2))))
  clear hp2 hg2 hG hl2 hgl hhl hz2
  go_quiet (fail)
  clear t1 t2 c1 c2 p0 p1
  go_wp2_with fail
  go_region_held3 (fun W => W.cell? ⟨g, 4, none⟩ = some (.pointer (some ⟨h, 0, none⟩)) ∧ W.cell? ⟨G, 2, none⟩ = some (.int .u64 (N : Int)) ∧ W.cell? ⟨G, 3, none⟩ = some (.slice ya body.length yc)) (first | exact ⟨k4, k2, k3⟩ | (go_split_ands; refine ⟨?_, ?_, ?_⟩ <;> (repeat (first | with_reducible assumption | exact HP2.out | exact HB2.out | (with_reducible refine past_drew ?_) | (with_reducible refine Pr.drew ?_) | (with_reducible refine Below.drew ?_) | (with_reducible refine past_drewN _ ?_) | (with_reducible refine Pr.drewN ?_ _) | (with_reducible refine below_drewN ?_ _))))) (first | (go_at_call 35; (with_reducible refine (takeNew h last N _ HN.out (show Wn _ h last from (show Pr _ ⟨lo, hi, g, h, ka, kc⟩ ⟨key, d, v, out, last, ad⟩ by repeat (first | with_reducible assumption | exact HP2.out | exact HB2.out | (with_reducible refine past_drew ?_) | (with_reducible refine Pr.drew ?_) | (with_reducible refine Below.drew ?_) | (with_reducible refine past_drewN _ ?_) | (with_reducible refine Pr.drewN ?_ _) | (with_reducible refine below_drewN ?_ _))).win)).mono ?_); rintro e w3 ⟨rfl, hw3, ew3⟩; clear hw3; have HP3 := Lib.hid (show Pr w3 ⟨lo, hi, g, h, ka, kc⟩ ⟨key, d, v, out, N, ad⟩ by rw [ew3]; exact Pr.setW (x := ⟨lo, hi, g, h, ka, kc⟩) (q := ⟨key, d, v, out, last, ad⟩) (by repeat (first | with_reducible assumption | exact HP2.out | exact HB2.out | (with_reducible refine past_drew ?_) | (with_reducible refine Pr.drew ?_) | (with_reducible refine Below.drew ?_) | (with_reducible refine past_drewN _ ?_) | (with_reducible refine Pr.drewN ?_ _) | (with_reducible refine below_drewN ?_ _))) N); have k4 := (show w3.cell? ⟨g, 4, none⟩ = some (.pointer (some ⟨h, 0, none⟩)) by rw [ew3]; exact past_set c4 HP.out.ne); have k2 := (show w3.cell? ⟨G, 2, none⟩ = some (.int .u64 (N : Int)) by rw [ew3]; exact past_set p2 (show G ≠ h by have := HG.out; omega)); have k3 := (show w3.cell? ⟨G, 3, none⟩ = some (.slice ya body.length yc) by rw [ew3]; exact past_set p3 (show G ≠ h by have := HG.out; omega)); have HT3 := Lib.hid (show Bt lo hi w w3 by rw [ew3]; exact (Bt.of (by repeat (first | with_reducible assumption | exact HP2.out | exact HB2.out | (with_reducible refine past_drew ?_) | (with_reducible refine Pr.drew ?_) | (with_reducible refine Below.drew ?_) | (with_reducible refine past_drewN _ ?_) | (with_reducible refine Pr.drewN ?_ _) | (with_reducible refine below_drewN ?_ _)))).set HP.out.h1 HP.out.h2 _); have HY3 := Lib.hid (show Sl w3 ya body by rw [ew3]; exact sl_set (show Sl w2 ya body from HY2.out) (fun y hy => (show y.block ≠ h by have := HY.out.2.2.2 y hy; have := HG.out; omega)) _); have HZ3 := Lib.hid (show w3.heap.size = G + 1 by rw [ew3]; have := HG.out; simp [World.setCell]; omega); clear ew3))
  go_wp2
  go_ret2
  refine ⟨ya, yc, rfl, HY3.out, HY.out.2.2.1, HY.out.1, fun y hy => by have := HY.out.2.2.2 y hy; have := HG.out; have := HZ3.out; omega, HP3.out, HT3.out⟩

end Go.Proofs.YtmfkfpgomglplaaDoor.Pt
