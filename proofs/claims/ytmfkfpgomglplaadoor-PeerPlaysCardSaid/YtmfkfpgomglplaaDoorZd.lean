/- PeerPlays: the walk. -/
import Derived.Test.YtmfkfpgomglplaaDoorZc
import Derived.Deep.CutRange
import Derived.Deep.CutBlock
set_option linter.unusedVariables false
namespace Go.Proofs.YtmfkfpgomglplaaDoor.Zd
open Go Go.RowKit Kit Mb Sha Ap Mc1 Sc Mx Sb Pd Su Pa Hm Mm Tg Mf Pk Se Wn Op Pe Ps Pt Oq Pu Ar Of Pz Tl Za Zb Zc


theorem thr_drew {w W : World} {x : Pl} {y z : Dl} {p q r : Pe} (h : Thr w x y z p q r W) : Thr w x y z p q r W.drew := ⟨h.px.drew, h.py.drew, h.pz.drew, h.lx, h.xy, h.yz, h.zw, h.bel.drew⟩
theorem dsendA (x : Dl) (q : Pe) (p : Part) (m : Nat) (R : An) (w : World) (hm : m = p.l.length) (hR : sdR q p.l = R) (hq : Ok q) (hp : De w x q) (hs : Pt w p) :
    Calls Tryd.prog 42 #[.pointer (some ⟨x.g, 0, none⟩), .slice p.a m p.cap] w (DaP x R w) := by
  refine (dsendG x q p m R w hm hR hq hp hs).mono ?_
  rintro e w' ⟨b, c, rfl, h1, h2, h3⟩
  obtain ⟨a, c', e1, _, h4, _, _⟩ := rb_sl h1
  injection e1 with e1 e2 e3
  subst e1
  exact ⟨b, c, rfl, h4, h2, h3⟩
theorem newAll (ka : Option Addr) (kn kc : Nat) (d v : Int) (out : Nat) (w : World) (h : ¬ NwOk d v out) :
    Calls Tryd.prog 39 #[.slice ka kn kc, .int .i64 d, .int .i64 v, .int .u64 (out : Int)] w fun e w' => e = .returned (.tuple #[.pointer none, .int .i64 1]) ∧ Below w.heap.size w w' := by
  refine newPeerNo ka kn kc d v out w ?_
  by_cases ho : 4611686018427387904 < out
  · exact .inr ho
  · left
    unfold mayB
    by_cases h1 : 1 ≤ d
    · by_cases h2 : d ≤ 2
      · by_cases h3 : 0 ≤ v
        · have : ¬ v < 8 := fun h4 => h ⟨h1, h2, h3, h4, by omega⟩
          simp [this]
        · simp [h3]
      · simp [h2]
    · simp [h1]
theorem newK (ka : Option Addr) (kn kc : Nat) (key : List Nat) (d v out : Nat) (w : World) (hn : kn = key.length) (ks : Sl w ka key) (k0 : ka = none → kc = 0) (klen : key.length ≤ 140737488355328) (h1 : 1 ≤ d) (h2 : d ≤ 2) (h3 : v < 8) (ho : out ≤ 4611686018427387904) :
    Calls Tryd.prog 39 #[.slice ka kn kc, .int .i64 (d : Int), .int .i64 (v : Int), .int .u64 (out : Int)] w (NwP key d v out w) := by
  subst hn; exact newPeer ka kc key d v out w ks k0 klen h1 h2 h3 ho
theorem dnewK (ka : Option Addr) (kn kc : Nat) (key : List Nat) (d v out : Nat) (dd oo : Int) (w : World) (hd : dd = (d : Int)) (hoo : oo = (out : Int)) (hkn : kn = key.length) (ks : Sl w ka key) (k0 : ka = none → kc = 0) (klen : key.length ≤ 1000000) (h1 : 1 ≤ d) (h2 : d ≤ 2) (h3 : v < 8) (ho : out ≤ 4611686018427387904) :
    Calls Tryd.prog 40 #[.slice ka kn kc, .int .i64 dd, .int .i64 (v : Int), .int .u64 oo] w (DnP key d v out w) := by
  subst hd hoo; exact dnewPeer ka kn kc key d v out w hkn ks k0 klen h1 h2 h3 ho
theorem dnewK0 (ka : Option Addr) (kn kc : Nat) (key : List Nat) (d v : Nat) (w : World) (hkn : kn = key.length) (ks : Sl w ka key) (k0 : ka = none → kc = 0) (klen : key.length ≤ 1000000) (h1 : 1 ≤ d) (h2 : d ≤ 2) (h3 : v < 8) :
    Calls Tryd.prog 40 #[.slice ka kn kc, .int .i64 (d : Int), .int .i64 (v : Int), .int .u64 0] w (DnP key d v 0 w) := dnewPeer ka kn kc key d v 0 w hkn ks k0 klen h1 h2 h3 (Nat.zero_le _)
theorem bytes0 (w : World) : Calls Tryd.prog 15 #[.slice none 0 0, .slice none 0 0] w fun e w' => e = .returned (.bool true) ∧ w = w' :=
  bytesD none none 0 0 0 0 [] [] w true rfl rfl (.inl rfl) (.inl rfl) (fun c h => by cases h) (fun c h => by cases h) (decide_eq_true rfl).symm
theorem bytesS (a1 a2 : Option Addr) (c1 c2 : Nat) (l : List Nat) (w : World) (h1 : Sl w a1 l) (h2 : Sl w a2 l) (hl : ∀ c ∈ l, c < 256) : Calls Tryd.prog 15 #[.slice a1 l.length c1, .slice a2 l.length c2] w fun e w' => e = .returned (.bool true) ∧ w = w' :=
  bytesD a1 a2 c1 c2 _ _ l l w true rfl rfl h1 h2 hl hl (decide_eq_true rfl).symm
theorem thr_drewN {w W : World} {x : Pl} {y z : Dl} {p q r : Pe} (h : Thr w x y z p q r W) (n : Nat) : Thr w x y z p q r (W.drewN n) := ⟨h.px.drewN n, h.py.drewN n, h.pz.drewN n, h.lx, h.xy, h.yz, h.zw, below_drewN h.bel n⟩
theorem sl_drewN {w : World} {a : Option Addr} {l : List Nat} (h : Sl w a l) (n : Nat) : Sl (w.drewN n) a l := h
def AnQ (x : Pl) (E : Int) (L : List Nat) (Q : Pe) (w : World) (e : Ending) (w' : World) : Prop :=
  ∃ b c, e = .returned (.tuple #[.slice b L.length c, .int .i64 E]) ∧ Sl w' b L ∧ (∀ y, b = some y → w.heap.size ≤ y.block) ∧ Pr w' x Q ∧ Bt x.lo x.hi w w'
def DaQ (y : Dl) (E : Int) (L : List Nat) (Q : Pe) (w : World) (e : Ending) (w' : World) : Prop :=
  ∃ b c, e = .returned (.tuple #[.slice b L.length c, .int .i64 E]) ∧ Sl w' b L ∧ De w' y Q ∧ Bt y.lo y.hi w w'
def DrQ (y : Dl) (E : Int) (L : List Nat) (Q : Pe) (w : World) (e : Ending) (w' : World) : Prop :=
  ∃ b c, e = .returned (.tuple #[.slice b L.length c, .int .i64 E]) ∧ Rb w' w.heap.size (.slice b L.length c) L ∧ De w' y Q ∧ Bt y.lo y.hi w w'
theorem sendE (x : Pl) (q : Pe) (p : Part) (E : Int) (L : List Nat) (Q : Pe) (w : World) (hR : sdR q p.l = ⟨E, L, Q⟩) (hq : Ok q) (hp : Pr w x q) (hs : Pt w p) (hT : TabR w) (hB : TabB w) :
    Calls Tryd.prog 41 #[.pointer (some ⟨x.g, 0, none⟩), .slice p.a p.l.length p.cap] w (AnQ x E L Q w) := (sendG x q p _ _ w rfl hR hq hp hs hT hB).mono fun _ _ h => h
theorem dsendE (x : Dl) (q : Pe) (p : Part) (E : Int) (L : List Nat) (Q : Pe) (w : World) (hR : sdR q p.l = ⟨E, L, Q⟩) (hq : Ok q) (hp : De w x q) (hs : Pt w p) :
    Calls Tryd.prog 42 #[.pointer (some ⟨x.g, 0, none⟩), .slice p.a p.l.length p.cap] w (DaQ x E L Q w) := (dsendA x q p _ _ w rfl hR hq hp hs).mono fun _ _ h => h
theorem dsendF (x : Dl) (q : Pe) (p : Part) (E : Int) (L : List Nat) (Q : Pe) (w : World) (hR : sdR q p.l = ⟨E, L, Q⟩) (hq : Ok q) (hp : De w x q) (hs : Pt w p) :
    Calls Tryd.prog 42 #[.pointer (some ⟨x.g, 0, none⟩), .slice p.a p.l.length p.cap] w (DrQ x E L Q w) := (dsendG x q p _ _ w rfl hR hq hp hs).mono fun _ _ h => h
theorem takeE (x : Pl) (q : Pe) (fr : Int) (fa : Option Addr) (fc : Nat) (f : List Nat) (E : Int) (L : List Nat) (Q : Pe) (w : World) (hR : tkR q fr f = ⟨E, L, Q⟩) (hq : Ok q) (hp : Pr w x q) (hlen : f.length ≤ 100000) (hfc : f.length ≤ fc) (hf : Sl w fa f) (hfx : ∀ c ∈ f, c < 256) (hT : TabR w) (hB : TabB w) :
    Calls Tryd.prog 43 #[.pointer (some ⟨x.g, 0, none⟩), .int .i64 fr, .slice fa f.length fc] w (AnQ x E L Q w) := (takeG x q fr fa _ fc f _ w rfl hR hq hp hlen hfc hf hfx hT hB).mono fun _ _ h => h
theorem dtakeE (x : Dl) (q : Pe) (fr : Int) (fa : Option Addr) (fc : Nat) (f : List Nat) (E : Int) (L : List Nat) (Q : Pe) (w : World) (hR : tkR q fr f = ⟨E, L, Q⟩) (hq : Ok q) (hp : De w x q) (hlen : f.length ≤ 100000) (hfc : f.length ≤ fc) (hf : Sl w fa f) (hfx : ∀ c ∈ f, c < 256) :
    Calls Tryd.prog 44 #[.pointer (some ⟨x.g, 0, none⟩), .int .i64 fr, .slice fa f.length fc] w (DaQ x E L Q w) := (dtakeG x q fr fa _ fc f _ w rfl hR hq hp hlen hfc hf hfx).mono fun _ _ h => h
theorem rs_form {w : World} {base : Nat} {v : Value} {ps : List (Option Addr × Nat × Nat)} (h : Ya.Rs w base v ps) : ∃ a c, v = .slice a ps.length c := by
  rcases h.2 with ⟨hv, hn⟩ | ⟨g, cap, cur, hv, _⟩
  · exact ⟨none, 0, by rw [hv, hn]⟩
  · exact ⟨_, _, hv⟩
theorem rs_cell {w : World} {base n lc : Nat} {la : Option Addr} {ps : List (Option Addr × Nat × Nat)} (h : Ya.Rs w base (.slice la n lc) ps) (o : Nat) (ho : o < ps.length) :
    ∃ gl, la = some ⟨gl, 0, none⟩ ∧ base ≤ gl ∧ w.cell? ⟨gl, o, none⟩ = some (Ya.dv ps[o]) := by
  rcases h.2 with ⟨_, h0⟩ | ⟨gl, cap, cur, hv, hg2, hc, _⟩
  · omega
  · have e1 : la = some ⟨gl, 0, none⟩ := by injection hv
    refine ⟨gl, e1, hg2, ?_⟩
    subst e1
    have := h.cells (g := gl) rfl o (Ya.dv ps[o]) (by simp [ho])
    have hadd : (⟨gl, 0, none⟩ : Addr).add o = ⟨gl, o, none⟩ := by unfold Addr.add; split <;> simp_all
    rw [hadd] at this
    exact this
theorem fewT (a : Option Addr) (n cap : Nat) (F : Nat → OV) (w : World) (h : IsOps w a n F) (hn : n ≤ 9223372036854775807) (hf : Few n F) :
    Calls Tryd.prog 38 #[.slice a n cap] w fun e w' => e = .returned (.bool true) ∧ w = w' := fewC a n cap F true w h hn ⟨fun _ => hf, fun _ => rfl⟩
theorem fewN (a : Option Addr) (n cap : Nat) (F : Nat → OV) (w : World) (h : IsOps w a n F) (hn : n ≤ 9223372036854775807) (hf : ¬ Few n F) :
    Calls Tryd.prog 38 #[.slice a n cap] w fun e w' => e = .returned (.bool false) ∧ w = w' := fewC a n cap F false w h hn ⟨(fun h => by cases h), fun h => absurd h hf⟩
/-- the cells of a step's own block. -/
theorem box4 (w : World) (x0 x1 x2 x3 : Value) : (w.alloc (.cells #[x0, x1, x2, x3] 70)).cell? ⟨w.heap.size, 0, none⟩ = some x0 ∧ (w.alloc (.cells #[x0, x1, x2, x3] 70)).cell? ⟨w.heap.size, 1, none⟩ = some x1 ∧ (w.alloc (.cells #[x0, x1, x2, x3] 70)).cell? ⟨w.heap.size, 2, none⟩ = some x2 ∧ (w.alloc (.cells #[x0, x1, x2, x3] 70)).cell? ⟨w.heap.size, 3, none⟩ = some x3 := by
  have h := heap_alloc_last w (.cells #[x0, x1, x2, x3] 70)
  refine ⟨?_, ?_, ?_, ?_⟩ <;> (rw [cell_of_row _ w.heap.size _ _ 70 _ h]; rfl)
set_option maxRecDepth 100000 in
set_option maxHeartbeats 8000000 in
theorem main (ka : Option Addr) (kc : Nat) (key : List Nat) (d v : Int) (out : Nat) (a : Option Addr) (n cap : Nat) (F : Nat → OV) (w : World)
    (ks : Sl w ka key) (k0 : ka = none → kc = 0) (kl : ∀ c ∈ key, c < 256) (hO : IsOps w a n F) (hn : n ≤ 9223372036854775807) (hT : TabR w) (hB : TabB w) :
    Calls Tryd.prog 10 #[.slice ka key.length kc, .int .i64 d, .int .i64 v, .int .u64 (out : Int), .slice a n cap] w fun e w' => e = .returned (.bool true) ∧ Below w.heap.size w w' := by
  have KS := Lib.hid ks
  have K0 := Lib.hid k0
  have KL := Lib.hid kl
  have HO := Lib.hid hO
  have HN := Lib.hid hn
  have HT := Lib.hid hT
  have HB := Lib.hid hB
  clear ks k0 kl hO hn hT hB
  by_cases g1 : 1000 < key.length
  case pos =>
    have t1 : 1000 < (key.length : Int) := by omega
    go_enter Tryd.func10, Tryd.ntmps10
    go_wp2_with (first
      | (go_at_call 37; (with_reducible refine (qfirst w HT.out HB.out).mono ?_); rintro e w0 ⟨rfl, b0⟩; have HB0 := Lib.hid b0; clear b0)
      | (go_at_call 37; (with_reducible refine (qfirst w0 (tabR_then HB0.out HT.out) (tabB_then HB0.out HB.out)).mono ?_); rintro e w9 ⟨rfl, b9⟩; have HB9 := Lib.hid (below_then HB0.out b9 HB0.out.size); clear b9))
    go_ret
    exact ⟨rfl, HB9.out⟩
  have t1 : ¬ 1000 < (key.length : Int) := by omega
  have KLEN := Lib.hid (show key.length ≤ 800000 by omega)
  have KLEN2 := Lib.hid (show key.length ≤ 140737488355328 by omega)
  have KLEN3 := Lib.hid (show key.length ≤ 1000000 by omega)
  by_cases g2 : Few n F
  case neg =>
    have HF := Lib.hid g2
    clear g1 g2
    go_enter Tryd.func10, Tryd.ntmps10
    go_wp2_with (first
      | (go_at_call 37; (with_reducible refine (qfirst w HT.out HB.out).mono ?_); rintro e w0 ⟨rfl, b0⟩; have HB0 := Lib.hid b0; clear b0)
      | (go_at_call 38; (with_reducible refine (fewN a n cap F w0 (ops_then HO.out HB0.out) HN.out HF.out).mono ?_); rintro e w' ⟨rfl, rfl⟩)
      | (go_at_call 37; (with_reducible refine (qfirst w0 (tabR_then HB0.out HT.out) (tabB_then HB0.out HB.out)).mono ?_); rintro e w9 ⟨rfl, b9⟩; have HB9 := Lib.hid (below_then HB0.out b9 HB0.out.size); clear b9))
    go_ret
    exact ⟨rfl, HB9.out⟩
  have HFW := Lib.hid g2
  clear g1 g2
  by_cases g3 : NwOk d v out
  case neg =>
    have HNO := Lib.hid g3
    clear g3
    go_enter Tryd.func10, Tryd.ntmps10
    go_wp2_with (first
      | (go_at_call 37; (with_reducible refine (qfirst w HT.out HB.out).mono ?_); rintro e w0 ⟨rfl, b0⟩; have HB0 := Lib.hid b0; clear b0)
      | (go_at_call 38; (with_reducible refine (fewT a n cap F w0 (ops_then HO.out HB0.out) HN.out HFW.out).mono ?_); rintro e w' ⟨rfl, rfl⟩)
      | (go_at_call 39; (with_reducible refine (newAll ka key.length kc d v out w0 HNO.out).mono ?_); rintro e w1 ⟨rfl, b1⟩; have HB1 := Lib.hid (below_then HB0.out b1 HB0.out.size); clear b1)
      | (go_at_call 40; (with_reducible refine (dnewPeerNo ka key.length kc d v out w1 HNO.out).mono ?_); rintro e w' ⟨rfl, rfl⟩)
      | (go_at_call 37; (with_reducible refine (qfirst w1 (tabR_then HB1.out HT.out) (tabB_then HB1.out HB.out)).mono ?_); rintro e w9 ⟨rfl, b9⟩; have HB9 := Lib.hid (below_then HB1.out b9 HB1.out.size); clear b9))
    go_ret
    exact ⟨rfl, HB9.out⟩
  obtain ⟨d1, d2, v1, v2, ho⟩ := g3
  obtain ⟨D, rfl⟩ := Int.eq_ofNat_of_zero_le (show 0 ≤ d by omega)
  obtain ⟨V, rfl⟩ := Int.eq_ofNat_of_zero_le v1
  obtain ⟨o, ho3⟩ : ∃ o, o = 3 - D := ⟨_, rfl⟩
  have HD := Lib.hid (show 1 ≤ D ∧ D ≤ 2 ∧ V < 8 ∧ out ≤ 4611686018427387904 ∧ 1 ≤ o ∧ o ≤ 2 by omega)
  have HOQ := Lib.hid (show (3 : Int) - (D : Int) = (o : Int) by omega)
  have W3 : IntKind.i64.wrap ((3 : Int) - (D : Int)) = (o : Int) := (IntWalk.i64_in _ (by omega)).trans (by omega)
  have HK := Lib.hid (show Ok ⟨key, D, V, out, 0, -1⟩ from ⟨KL.out, KLEN.out, HD.out.1, HD.out.2.1, HD.out.2.2.1, HD.out.2.2.2.1⟩)
  have HKZ := Lib.hid (show Ok ⟨key, o, V, 0, 0, -1⟩ from ⟨KL.out, KLEN.out, HD.out.2.2.2.2.1, HD.out.2.2.2.2.2, HD.out.2.2.1, Nat.zero_le _⟩)
  clear d1 d2 v1 v2 ho ho3
  go_enter Tryd.func10, Tryd.ntmps10
  go_wp2_with (first
    | (go_at_call 37; (with_reducible refine (qfirst w HT.out HB.out).mono ?_); rintro e w0 ⟨rfl, b0⟩; have HB0 := Lib.hid b0; clear b0)
    | (go_at_call 38; (with_reducible refine (fewT a n cap F w0 (ops_then HO.out HB0.out) HN.out HFW.out).mono ?_); rintro e w' ⟨rfl, rfl⟩)
    | (go_at_call 39; (with_reducible refine (newK ka _ kc key D V out w0 rfl (sl_then HB0.out (Nat.le_refl _) KS.out) K0.out KLEN2.out HD.out.1 HD.out.2.1 HD.out.2.2.1 HD.out.2.2.2.1).mono ?_); rintro e w1 ⟨x, rfl, px, lx, hx, b1⟩; have HX := Lib.hid (And.intro px (And.intro (Nat.le_trans HB0.out.size lx) (And.intro hx (below_then HB0.out b1 HB0.out.size)))); clear px lx hx b1)
    | (go_at_call 40; (with_reducible refine (dnewK ka _ kc key D V out _ _ w1 rfl rfl rfl (sl_then HX.out.2.2.2 (Nat.le_refl _) KS.out) K0.out KLEN3.out HD.out.1 HD.out.2.1 HD.out.2.2.1 HD.out.2.2.2.1).mono ?_); rintro e w2 ⟨y, rfl, py, ly, hy, b2⟩; have HY := Lib.hid (And.intro (HX.out.1.then_ b2) (And.intro py (And.intro (Nat.le_trans HX.out.2.2.1 ly) (And.intro hy (below_then HX.out.2.2.2 b2 HX.out.2.2.2.size))))); clear py ly hy b2)
    | (go_at_call 40; (with_reducible refine (dnewK0 ka _ kc key o V w2 rfl (sl_then HY.out.2.2.2.2 (Nat.le_refl _) KS.out) K0.out KLEN3.out HD.out.2.2.2.2.1 HD.out.2.2.2.2.2 HD.out.2.2.1).mono ?_); rintro e w3 ⟨z, rfl, pz, lz, hz, b3⟩; have HZ := Lib.hid (show Thr w x y z ⟨key, D, V, out, 0, -1⟩ ⟨key, D, V, out, 0, -1⟩ ⟨key, o, V, 0, 0, -1⟩ w3 from ⟨HY.out.1.then_ b3, HY.out.2.1.then_ b3, pz, HX.out.2.1, HY.out.2.2.1, Nat.le_trans HY.out.2.2.2.1 lz, hz, below_then HY.out.2.2.2.2 b3 HY.out.2.2.2.2.size⟩); clear pz lz hz b3))
  clear W3 t1
  have HZW := Lib.hid HZ.out.zw
  have HXB := Lib.hid (show x.hi ≤ w3.heap.size ∧ y.hi ≤ w3.heap.size from ⟨Nat.le_trans HZ.out.xw HZ.out.zw, Nat.le_trans HZ.out.yw HZ.out.zw⟩)
  go_loopw [17, 18] (fun s17 s18 wr => ∃ (i : Nat) (ps : List (Option Addr × Nat × Nat)) (q r : Pe), i ≤ n ∧ ps.length ≤ i ∧ s18 = .int .i64 (i : Int) ∧ Ya.Rs wr w3.heap.size s17 ps ∧ Gds wr w3.heap.size ps ∧ Thr w x y z q q r wr ∧ w3.heap.size ≤ wr.heap.size ∧ Hid (Ok q) ∧ Hid (Ok r)) (fun _ s18 _ => n - (intOf s18).toNat)
  case atStart => exact ⟨0, [], _, _, Nat.zero_le _, Nat.le_refl _, rfl, Ya.rs_nil _ _, gds_nil _ _, HZ.out, Nat.le_refl _, HK, HKZ⟩
  case round =>
    obtain ⟨i, ps, q, r, hi, hpl, rfl, hR, hG, hW, hz, HQ, HQR⟩ := hrel
    obtain ⟨la, lc, rfl⟩ := rs_form hR
    have HR := Lib.hid hR
    have HGD := Lib.hid hG
    have HWr := Lib.hid hW
    have HZ2 := Lib.hid hz
    have HPL := Lib.hid hpl
    have HI := Lib.hid hi
    have HN100 := Lib.hid HFW.out.1
    clear hR hG hW hz hpl
    by_cases hlt : i < n
    case neg =>
      obtain rfl : i = n := Nat.le_antisymm hi (Nat.not_lt.1 hlt)
      have e1 : ¬ (i : Int) < (i : Int) := by omega
      clear hlt hi
      go_wp2_with (go_at_call 37; (with_reducible refine (qfirst wr (HWr.out.tabR HT.out) (HWr.out.tabB HB.out)).mono ?_); rintro e w9 ⟨rfl, b9⟩; have HB9 := Lib.hid (HWr.out.then_ b9); clear b9)
      go_ret
      exact ⟨rfl, HB9.out.bel⟩
    obtain ⟨b, off, rfl, HC⟩ : ∃ b off, a = some ⟨b, off, none⟩ ∧ Hid (∀ i, i < n → w.cell? ⟨b, off + i * 4, none⟩ = some (.int .i64 (F i).k) ∧ w.cell? ⟨b, off + i * 4 + 1, none⟩ = some (.int .i64 (F i).j) ∧ w.cell? ⟨b, off + i * 4 + 2, none⟩ = some (.int .i64 (F i).fr) ∧
        w.cell? ⟨b, off + i * 4 + 3, none⟩ = some (.slice (F i).p.a (F i).p.l.length (F i).p.cap) ∧ Pt w (F i).p) := by
      rcases HO.out with h0 | ⟨b, off, e, hc⟩
      · rw [h0] at hlt; exact absurd hlt (Nat.not_lt_zero _)
      · exact ⟨b, off, e, Lib.hid hc⟩
    have hf20 := HFW.out.each i hlt
    obtain ⟨c0, c1, c2, c3, hpt⟩ := HC.out i hlt
    generalize F i = f at c0 c1 c2 c3 hpt hf20
    obtain ⟨K, J, FR, p⟩ := f
    dsimp only at c0 c1 c2 c3 hpt hf20
    have c0 := cell_then HWr.out.bel (Nat.le_refl _) c0
    have c1 := cell_then HWr.out.bel (Nat.le_refl _) c1
    have c2 := cell_then HWr.out.bel (Nat.le_refl _) c2
    have c3 := cell_then HWr.out.bel (Nat.le_refl _) c3
    have HPT := Lib.hid (Ya.pt_then hpt HWr.out.bel)
    have HPT0 := Lib.hid hpt
    have HPS0 := Lib.hid hpt.1
    have HPC := Lib.hid hpt.2.2.1
    have HPX := Lib.hid hpt.2.2.2
    have H20 := Lib.hid (show p.l.length ≤ 100000 by omega)
    have HLT := Lib.hid hlt
    have e1 : (i : Int) < (n : Int) := by omega
    have hNB : n ≤ 100 := HN100.out
    clear hpt hf20 hi
    clear hlt
    by_cases hk0 : K = 0
    case pos =>
      subst hk0
      go_upto_region 19 with fail
      obtain ⟨B0, B1, B2, B3⟩ := box4 wr (.int .i64 0) (.int .i64 J) (.int .i64 FR) (.slice p.a p.l.length p.cap)
      have H1 := Lib.hid (HWr.out.alloc (.cells #[.int .i64 0, .int .i64 J, .int .i64 FR, .slice p.a p.l.length p.cap] 70))
      have HR1 := Lib.hid (Ya.rs_far HR.out (w' := wr.alloc (.cells #[.int .i64 0, .int .i64 J, .int .i64 FR, .slice p.a p.l.length p.cap] 70)) (fun k h1 _ => Below.heap_alloc _ _ _ h1))
      have HG1 := Lib.hid (gds_far HGD.out (W' := wr.alloc (.cells #[.int .i64 0, .int .i64 J, .int .i64 FR, .slice p.a p.l.length p.cap] 70)) (fun k h1 _ => Below.heap_alloc _ _ _ h1))
      have HP1 := Lib.hid (Ya.pt_then HPT.out ((Below.refl _ wr).alloc (Nat.le_refl _) (.cells #[.int .i64 0, .int .i64 J, .int .i64 FR, .slice p.a p.l.length p.cap] 70)))
      have hz1 : (wr.alloc (.cells #[.int .i64 0, .int .i64 J, .int .i64 FR, .slice p.a p.l.length p.cap] 70)).heap.size = wr.heap.size + 1 := by simp
      generalize hw1 : wr.alloc (.cells #[.int .i64 0, .int .i64 J, .int .i64 FR, .slice p.a p.l.length p.cap] 70) = w1 at *
      generalize hGG : wr.heap.size = G at *
      have HZ1 := Lib.hid (show w3.heap.size ≤ w1.heap.size by rw [hz1]; exact Nat.le_succ_of_le HZ2.out)
      have HGG := Lib.hid (show z.hi ≤ G ∧ w3.heap.size ≤ G ∧ w1.heap.size = G + 1 from ⟨by have := HZ2.out; have := HZW.out; omega, HZ2.out, hz1⟩)
      clear hw1 hz1 hGG c0 c1 c2 c3
      clear B1 B2
      obtain ⟨R, hR⟩ : ∃ R, sdR q p.l = R := ⟨_, rfl⟩
      obtain ⟨E, L, Q⟩ := R
      have HRR := Lib.hid hR
      have HQ2 := Lib.hid (show Ok Q from by have h := sd_ok HQ.out p.l; rw [hR] at h; exact h)
      have HLX := Lib.hid (show ∀ c ∈ L, c < 256 from by have h := sd_lt HQ.out HPX.out; rw [hR] at h; exact h)
      clear hR
      go_wp2_with (first
        | (go_at_call 41; (with_reducible refine (sendE x q p E L Q w1 HRR.out HQ.out H1.out.px HP1.out (H1.out.tabR HT.out) (H1.out.tabB HB.out)).mono ?_); rintro e w4 ⟨b1, c1, rfl, s1, f1, p1, t1⟩; have H2 := Lib.hid (H1.out.setX t1 p1); have HR2 := Lib.hid (Ya.rs_far HR1.out (fun k h1 h2 => t1.block k h1 (.inr (Nat.le_trans HXB.out.1 h2)))); have HG2 := Lib.hid (gds_far HG1.out (fun k h1 h2 => t1.block k h1 (.inr (Nat.le_trans HXB.out.1 h2)))); have HZ2 := Lib.hid (Nat.le_trans HZ1.out t1.size); have HS1 := Lib.hid s1; have HF1 := Lib.hid (show ∀ u, b1 = some u → y.hi ≤ u.block from fun u hu => Nat.le_trans HXB.out.2 (Nat.le_trans HZ1.out (f1 u hu))); have D3 := t1.cell (.inr (Nat.le_trans HXB.out.1 HGG.out.2.1)) B3; clear s1 f1 p1 t1)
        | (go_at_call 42; (with_reducible refine (dsendE y q p E L Q w4 HRR.out HQ.out H2.out.py (Ya.pt_then HPT0.out H2.out.bel)).mono ?_); rintro e w5 ⟨b2, c2, rfl, s2, p2, t2⟩; have H3 := Lib.hid (H2.out.setY t2 p2); have HR3 := Lib.hid (Ya.rs_far HR2.out (fun k h1 h2 => t2.block k h1 (.inr (Nat.le_trans HXB.out.2 h2)))); have HG3 := Lib.hid (gds_far HG2.out (fun k h1 h2 => t2.block k h1 (.inr (Nat.le_trans HXB.out.2 h2)))); have HZ3 := Lib.hid (Nat.le_trans HZ2.out t2.size); have HS2 := Lib.hid s2; have HS3 := Lib.hid (t2.sl (fun u hu => .inr (HF1.out u hu)) HS1.out); clear s2 p2 t2))
      have y5 := H3.out.py.cell5
      have y3 := H3.out.py.cell3
      have y4 := H3.out.py.cell4
      go_wp2_with fail
      go_big_quiet (first
        | (go_at_call 15; with_reducible exact Calls.quiet_of_same ((bytesS b1 b2 c1 c2 L _ (sl_drewN HS3.out _) (sl_drewN HS2.out _) HLX.out).mono fun _ _ h => ⟨h.1, h.2.symm⟩))
        | (go_at_call 45; with_reducible exact Calls.quiet_of_same ((addrC x Q _ (H3.out.px.drewN _)).mono fun _ _ h => ⟨h.1, h.2.symm⟩))
        | (go_at_call 46; with_reducible exact Calls.quiet_of_same ((outC x Q _ (H3.out.px.drewN _)).mono fun _ _ h => ⟨h.1, h.2.symm⟩))
        | (go_at_call 47; with_reducible exact Calls.quiet_of_same ((inC x Q _ (H3.out.px.drewN _)).mono fun _ _ h => ⟨h.1, h.2.symm⟩)))
      clear y5 y3 y4
      go_wp2_with fail
      go_roundw
      case rel => exact ⟨i + 1, ps, Q, r, HLT.out, Nat.le_succ_of_le HPL.out, by go_num, Ya.rs_far HR3.out (fun _ _ _ => rfl), gds_far HG3.out (fun _ _ _ => rfl), thr_drewN H3.out _, HZ3.out, HQ2, HQR⟩
      case measure => simp [intOf]; have := HLT.out; omega
    by_cases hk1 : K = 1
    case pos =>
      subst hk1
      clear hk0
      by_cases hj0 : J < 0
      case pos =>
        go_upto_region 19 with fail
        obtain ⟨B0, B1, B2, B3⟩ := box4 wr (.int .i64 1) (.int .i64 J) (.int .i64 FR) (.slice p.a p.l.length p.cap)
        have H1 := Lib.hid (HWr.out.alloc (.cells #[.int .i64 1, .int .i64 J, .int .i64 FR, .slice p.a p.l.length p.cap] 70))
        have HR1 := Lib.hid (Ya.rs_far HR.out (w' := wr.alloc (.cells #[.int .i64 1, .int .i64 J, .int .i64 FR, .slice p.a p.l.length p.cap] 70)) (fun k h1 _ => Below.heap_alloc _ _ _ h1))
        have HG1 := Lib.hid (gds_far HGD.out (W' := wr.alloc (.cells #[.int .i64 1, .int .i64 J, .int .i64 FR, .slice p.a p.l.length p.cap] 70)) (fun k h1 _ => Below.heap_alloc _ _ _ h1))
        have HP1 := Lib.hid (Ya.pt_then HPT.out ((Below.refl _ wr).alloc (Nat.le_refl _) (.cells #[.int .i64 1, .int .i64 J, .int .i64 FR, .slice p.a p.l.length p.cap] 70)))
        have hz1 : (wr.alloc (.cells #[.int .i64 1, .int .i64 J, .int .i64 FR, .slice p.a p.l.length p.cap] 70)).heap.size = wr.heap.size + 1 := by simp
        generalize hw1 : wr.alloc (.cells #[.int .i64 1, .int .i64 J, .int .i64 FR, .slice p.a p.l.length p.cap] 70) = w1 at *
        generalize hGG : wr.heap.size = G at *
        have HZ1 := Lib.hid (show w3.heap.size ≤ w1.heap.size by rw [hz1]; exact Nat.le_succ_of_le HZ2.out)
        have HGG := Lib.hid (show z.hi ≤ G ∧ w3.heap.size ≤ G ∧ w1.heap.size = G + 1 from ⟨by have := HZ2.out; have := HZW.out; omega, HZ2.out, hz1⟩)
        clear hw1 hz1 hGG c0 c1 c2 c3
        clear B2 B3
        go_wp2_with fail
        go_roundw
        case rel => exact ⟨i + 1, ps, q, r, HLT.out, Nat.le_succ_of_le HPL.out, by go_num, HR1.out, HG1.out, H1.out, HZ1.out, HQ, HQR⟩
        case measure => simp [intOf]; have := HLT.out; omega
      by_cases hj1 : J < (ps.length : Int)
      case neg =>
        have hj2 : (ps.length : Int) ≤ J := by omega
        clear hj1
        go_upto_region 19 with fail
        obtain ⟨B0, B1, B2, B3⟩ := box4 wr (.int .i64 1) (.int .i64 J) (.int .i64 FR) (.slice p.a p.l.length p.cap)
        have H1 := Lib.hid (HWr.out.alloc (.cells #[.int .i64 1, .int .i64 J, .int .i64 FR, .slice p.a p.l.length p.cap] 70))
        have HR1 := Lib.hid (Ya.rs_far HR.out (w' := wr.alloc (.cells #[.int .i64 1, .int .i64 J, .int .i64 FR, .slice p.a p.l.length p.cap] 70)) (fun k h1 _ => Below.heap_alloc _ _ _ h1))
        have HG1 := Lib.hid (gds_far HGD.out (W' := wr.alloc (.cells #[.int .i64 1, .int .i64 J, .int .i64 FR, .slice p.a p.l.length p.cap] 70)) (fun k h1 _ => Below.heap_alloc _ _ _ h1))
        have HP1 := Lib.hid (Ya.pt_then HPT.out ((Below.refl _ wr).alloc (Nat.le_refl _) (.cells #[.int .i64 1, .int .i64 J, .int .i64 FR, .slice p.a p.l.length p.cap] 70)))
        have hz1 : (wr.alloc (.cells #[.int .i64 1, .int .i64 J, .int .i64 FR, .slice p.a p.l.length p.cap] 70)).heap.size = wr.heap.size + 1 := by simp
        generalize hw1 : wr.alloc (.cells #[.int .i64 1, .int .i64 J, .int .i64 FR, .slice p.a p.l.length p.cap] 70) = w1 at *
        generalize hGG : wr.heap.size = G at *
        have HZ1 := Lib.hid (show w3.heap.size ≤ w1.heap.size by rw [hz1]; exact Nat.le_succ_of_le HZ2.out)
        have HGG := Lib.hid (show z.hi ≤ G ∧ w3.heap.size ≤ G ∧ w1.heap.size = G + 1 from ⟨by have := HZ2.out; have := HZW.out; omega, HZ2.out, hz1⟩)
        clear hw1 hz1 hGG c0 c1 c2 c3
        clear B2 B3
        go_wp2_with fail
        go_roundw
        case rel => exact ⟨i + 1, ps, q, r, HLT.out, Nat.le_succ_of_le HPL.out, by go_num, HR1.out, HG1.out, H1.out, HZ1.out, HQ, HQR⟩
        case measure => simp [intOf]; have := HLT.out; omega
      obtain ⟨o, rfl⟩ := Int.eq_ofNat_of_zero_le (show 0 ≤ J by omega)
      have ho : o < ps.length := by omega
      have hj2 : ¬ (ps.length : Int) ≤ (o : Int) := by omega
      clear hj0
      go_upto_region 19 with fail
      obtain ⟨B0, B1, B2, B3⟩ := box4 wr (.int .i64 1) (.int .i64 (o : Int)) (.int .i64 FR) (.slice p.a p.l.length p.cap)
      have H1 := Lib.hid (HWr.out.alloc (.cells #[.int .i64 1, .int .i64 (o : Int), .int .i64 FR, .slice p.a p.l.length p.cap] 70))
      have HR1 := Lib.hid (Ya.rs_far HR.out (w' := wr.alloc (.cells #[.int .i64 1, .int .i64 (o : Int), .int .i64 FR, .slice p.a p.l.length p.cap] 70)) (fun k h1 _ => Below.heap_alloc _ _ _ h1))
      have HG1 := Lib.hid (gds_far HGD.out (W' := wr.alloc (.cells #[.int .i64 1, .int .i64 (o : Int), .int .i64 FR, .slice p.a p.l.length p.cap] 70)) (fun k h1 _ => Below.heap_alloc _ _ _ h1))
      have HP1 := Lib.hid (Ya.pt_then HPT.out ((Below.refl _ wr).alloc (Nat.le_refl _) (.cells #[.int .i64 1, .int .i64 (o : Int), .int .i64 FR, .slice p.a p.l.length p.cap] 70)))
      have hz1 : (wr.alloc (.cells #[.int .i64 1, .int .i64 (o : Int), .int .i64 FR, .slice p.a p.l.length p.cap] 70)).heap.size = wr.heap.size + 1 := by simp
      generalize hw1 : wr.alloc (.cells #[.int .i64 1, .int .i64 (o : Int), .int .i64 FR, .slice p.a p.l.length p.cap] 70) = w1 at *
      generalize hGG : wr.heap.size = G at *
      have HZ1 := Lib.hid (show w3.heap.size ≤ w1.heap.size by rw [hz1]; exact Nat.le_succ_of_le HZ2.out)
      have HGG := Lib.hid (show z.hi ≤ G ∧ w3.heap.size ≤ G ∧ w1.heap.size = G + 1 from ⟨by have := HZ2.out; have := HZW.out; omega, HZ2.out, hz1⟩)
      clear hw1 hz1 hGG c0 c1 c2 c3
      clear B3
      obtain ⟨gl, rfl, hgl, cg⟩ := rs_cell HR1.out o ho
      obtain ⟨f, gd⟩ := HG1.out o ho
      obtain ⟨da, dc, hv, hd1, hds, _, hdf⟩ := rb_sl gd.row
      rw [hv] at cg
      have BG := cg
      have HGL := Lib.hid hgl
      have HDS := Lib.hid hds
      have HDC := Lib.hid hd1
      have HDF := Lib.hid (show ∀ u, da = some u → w3.heap.size ≤ u.block from fun u hu => (hdf u hu).1)
      have HDX := Lib.hid gd.lt
      have HDL := Lib.hid (show f.length ≤ 100000 by have := gd.len; omega)
      clear gd hv hd1 hds hdf cg hgl
      obtain ⟨R, hR⟩ : ∃ R, tkR q FR f = R := ⟨_, rfl⟩
      obtain ⟨E, L, Q⟩ := R
      have HRR := Lib.hid hR
      have HQ2 := Lib.hid (show Ok Q from by have h := tk_ok HQ.out FR f; rw [hR] at h; exact h)
      have HLX := Lib.hid (show ∀ c ∈ L, c < 256 from by have h := tk_lt q FR HDX.out; rw [hR] at h; exact h)
      clear hR
      have KS1 := Lib.hid (And.intro B2 (And.intro B1 BG))
      have H1d := Lib.hid (thr_drew H1.out)
      have HDS1 := Lib.hid (show Sl w1.drew da f from HDS.out)
      go_wp2_with fail
      go_region_held3 (fun W => W.cell? ⟨G, 2, none⟩ = some (.int .i64 FR) ∧ W.cell? ⟨G, 1, none⟩ = some (.int .i64 (o : Int)) ∧ W.cell? ⟨gl, o, none⟩ = some (.slice da f.length dc)) (first | exact KS1.out | exact KU.out) (first | (go_at_call 43; (with_reducible refine (takeE x q FR da dc f E L Q w1.drew HRR.out HQ.out H1d.out.px HDL.out HDC.out HDS1.out HDX.out (H1d.out.tabR HT.out) (H1d.out.tabB HB.out)).mono ?_); rintro e w4 ⟨b1, c1, rfl, s1, f1, p1, t1⟩; have H2 := Lib.hid (H1d.out.setX t1 p1); have HR2 := Lib.hid (Ya.rs_far HR1.out (fun k h1 h2 => t1.block k h1 (.inr (Nat.le_trans HXB.out.1 h2)))); have HG2 := Lib.hid (gds_far HG1.out (fun k h1 h2 => t1.block k h1 (.inr (Nat.le_trans HXB.out.1 h2)))); have HZ2 := Lib.hid (Nat.le_trans HZ1.out t1.size); have HS1 := Lib.hid s1; have HF1 := Lib.hid (show ∀ u, b1 = some u → y.hi ≤ u.block from fun u hu => Nat.le_trans HXB.out.2 (Nat.le_trans HZ1.out (f1 u hu))); have D2 := t1.cell (.inr (Nat.le_trans HXB.out.1 HGG.out.2.1)) B2;have D1 := t1.cell (.inr (Nat.le_trans HXB.out.1 HGG.out.2.1)) B1;have DG := t1.cell (.inr (Nat.le_trans HXB.out.1 HGL.out)) BG; have HS0 := Lib.hid (t1.sl (fun u hu => .inr (Nat.le_trans HXB.out.1 (HDF.out u hu))) HDS.out); have KU := Lib.hid (And.intro D2 (And.intro D1 DG)); clear s1 f1 p1 t1))
      have H2d := Lib.hid (thr_drew H2.out)
      have HS0d := Lib.hid (show Sl w4.drew da f from HS0.out)
      go_wp2_with fail
      go_region_held3 (fun W => W.cell? ⟨G, 2, none⟩ = some (.int .i64 FR) ∧ W.cell? ⟨G, 1, none⟩ = some (.int .i64 (o : Int)) ∧ W.cell? ⟨gl, o, none⟩ = some (.slice da f.length dc)) (first | exact KU.out | exact KT.out) (first | (go_at_call 44; (with_reducible refine (dtakeE y q FR da dc f E L Q w4.drew HRR.out HQ.out H2d.out.py HDL.out HDC.out HS0d.out HDX.out).mono ?_); rintro e w5 ⟨b2, c2, rfl, s2, p2, t2⟩; have H3 := Lib.hid (H2d.out.setY t2 p2); have HR3 := Lib.hid (Ya.rs_far HR2.out (fun k h1 h2 => t2.block k h1 (.inr (Nat.le_trans HXB.out.2 h2)))); have HG3 := Lib.hid (gds_far HG2.out (fun k h1 h2 => t2.block k h1 (.inr (Nat.le_trans HXB.out.2 h2)))); have HZ3 := Lib.hid (Nat.le_trans HZ2.out t2.size); have HS2 := Lib.hid s2; have HS3 := Lib.hid (t2.sl (fun u hu => .inr (HF1.out u hu)) HS1.out); have C2 := t2.cell (.inr (Nat.le_trans HXB.out.2 HGG.out.2.1)) D2; have C1 := t2.cell (.inr (Nat.le_trans HXB.out.2 HGG.out.2.1)) D1; have CG := t2.cell (.inr (Nat.le_trans HXB.out.2 HGL.out)) DG; have KT := Lib.hid (And.intro C2 (And.intro C1 CG)); clear s2 p2 t2))
      have y5 := H3.out.py.cell5
      have y3 := H3.out.py.cell3
      have y4 := H3.out.py.cell4
      go_wp2_with fail
      go_big_quiet (first
        | (go_at_call 15; with_reducible exact Calls.quiet_of_same ((bytesS b1 b2 c1 c2 L _ (sl_drewN HS3.out _) (sl_drewN HS2.out _) HLX.out).mono fun _ _ h => ⟨h.1, h.2.symm⟩))
        | (go_at_call 45; with_reducible exact Calls.quiet_of_same ((addrC x Q _ (H3.out.px.drewN _)).mono fun _ _ h => ⟨h.1, h.2.symm⟩))
        | (go_at_call 46; with_reducible exact Calls.quiet_of_same ((outC x Q _ (H3.out.px.drewN _)).mono fun _ _ h => ⟨h.1, h.2.symm⟩))
        | (go_at_call 47; with_reducible exact Calls.quiet_of_same ((inC x Q _ (H3.out.px.drewN _)).mono fun _ _ h => ⟨h.1, h.2.symm⟩)))
      clear y5 y3 y4
      go_wp2_with fail
      go_roundw
      case rel => exact ⟨i + 1, ps, Q, r, HLT.out, Nat.le_succ_of_le HPL.out, by go_num, Ya.rs_far HR3.out (fun _ _ _ => rfl), gds_far HG3.out (fun _ _ _ => rfl), thr_drewN H3.out _, HZ3.out, HQ2, HQR⟩
      case measure => simp [intOf]; have := HLT.out; omega
    by_cases hk2 : K = 2
    case pos =>
      subst hk2
      clear hk0 hk1
      go_upto_region 19 with fail
      obtain ⟨B0, B1, B2, B3⟩ := box4 wr (.int .i64 2) (.int .i64 J) (.int .i64 FR) (.slice p.a p.l.length p.cap)
      have H1 := Lib.hid (HWr.out.alloc (.cells #[.int .i64 2, .int .i64 J, .int .i64 FR, .slice p.a p.l.length p.cap] 70))
      have HR1 := Lib.hid (Ya.rs_far HR.out (w' := wr.alloc (.cells #[.int .i64 2, .int .i64 J, .int .i64 FR, .slice p.a p.l.length p.cap] 70)) (fun k h1 _ => Below.heap_alloc _ _ _ h1))
      have HG1 := Lib.hid (gds_far HGD.out (W' := wr.alloc (.cells #[.int .i64 2, .int .i64 J, .int .i64 FR, .slice p.a p.l.length p.cap] 70)) (fun k h1 _ => Below.heap_alloc _ _ _ h1))
      have HP1 := Lib.hid (Ya.pt_then HPT.out ((Below.refl _ wr).alloc (Nat.le_refl _) (.cells #[.int .i64 2, .int .i64 J, .int .i64 FR, .slice p.a p.l.length p.cap] 70)))
      have hz1 : (wr.alloc (.cells #[.int .i64 2, .int .i64 J, .int .i64 FR, .slice p.a p.l.length p.cap] 70)).heap.size = wr.heap.size + 1 := by simp
      generalize hw1 : wr.alloc (.cells #[.int .i64 2, .int .i64 J, .int .i64 FR, .slice p.a p.l.length p.cap] 70) = w1 at *
      generalize hGG : wr.heap.size = G at *
      have HZ1 := Lib.hid (show w3.heap.size ≤ w1.heap.size by rw [hz1]; exact Nat.le_succ_of_le HZ2.out)
      have HGG := Lib.hid (show z.hi ≤ G ∧ w3.heap.size ≤ G ∧ w1.heap.size = G + 1 from ⟨by have := HZ2.out; have := HZW.out; omega, HZ2.out, hz1⟩)
      clear hw1 hz1 hGG c0 c1 c2 c3
      clear B1
      obtain ⟨R, hR⟩ : ∃ R, tkR q FR p.l = R := ⟨_, rfl⟩
      obtain ⟨E, L, Q⟩ := R
      have HRR := Lib.hid hR
      have HQ2 := Lib.hid (show Ok Q from by have h := tk_ok HQ.out FR p.l; rw [hR] at h; exact h)
      have HLX := Lib.hid (show ∀ c ∈ L, c < 256 from by have h := tk_lt q FR HPX.out; rw [hR] at h; exact h)
      clear hR
      go_wp2_with (first
        | (go_at_call 43; (with_reducible refine (takeE x q FR p.a p.cap p.l E L Q w1 HRR.out HQ.out H1.out.px H20.out HPC.out (sl_then H1.out.bel (Nat.le_refl _) HPS0.out) HPX.out (H1.out.tabR HT.out) (H1.out.tabB HB.out)).mono ?_); rintro e w4 ⟨b1, c1, rfl, s1, f1, p1, t1⟩; have H2 := Lib.hid (H1.out.setX t1 p1); have HR2 := Lib.hid (Ya.rs_far HR1.out (fun k h1 h2 => t1.block k h1 (.inr (Nat.le_trans HXB.out.1 h2)))); have HG2 := Lib.hid (gds_far HG1.out (fun k h1 h2 => t1.block k h1 (.inr (Nat.le_trans HXB.out.1 h2)))); have HZ2 := Lib.hid (Nat.le_trans HZ1.out t1.size); have HS1 := Lib.hid s1; have HF1 := Lib.hid (show ∀ u, b1 = some u → y.hi ≤ u.block from fun u hu => Nat.le_trans HXB.out.2 (Nat.le_trans HZ1.out (f1 u hu))); have D3 := t1.cell (.inr (Nat.le_trans HXB.out.1 HGG.out.2.1)) B3;have D2 := t1.cell (.inr (Nat.le_trans HXB.out.1 HGG.out.2.1)) B2; clear s1 f1 p1 t1)
        | (go_at_call 44; (with_reducible refine (dtakeE y q FR p.a p.cap p.l E L Q w4 HRR.out HQ.out H2.out.py H20.out HPC.out (sl_then H2.out.bel (Nat.le_refl _) HPS0.out) HPX.out).mono ?_); rintro e w5 ⟨b2, c2, rfl, s2, p2, t2⟩; have H3 := Lib.hid (H2.out.setY t2 p2); have HR3 := Lib.hid (Ya.rs_far HR2.out (fun k h1 h2 => t2.block k h1 (.inr (Nat.le_trans HXB.out.2 h2)))); have HG3 := Lib.hid (gds_far HG2.out (fun k h1 h2 => t2.block k h1 (.inr (Nat.le_trans HXB.out.2 h2)))); have HZ3 := Lib.hid (Nat.le_trans HZ2.out t2.size); have HS2 := Lib.hid s2; have HS3 := Lib.hid (t2.sl (fun u hu => .inr (HF1.out u hu)) HS1.out); clear s2 p2 t2))
      have y5 := H3.out.py.cell5
      have y3 := H3.out.py.cell3
      have y4 := H3.out.py.cell4
      go_wp2_with fail
      go_big_quiet (first
        | (go_at_call 15; with_reducible exact Calls.quiet_of_same ((bytesS b1 b2 c1 c2 L _ (sl_drewN HS3.out _) (sl_drewN HS2.out _) HLX.out).mono fun _ _ h => ⟨h.1, h.2.symm⟩))
        | (go_at_call 45; with_reducible exact Calls.quiet_of_same ((addrC x Q _ (H3.out.px.drewN _)).mono fun _ _ h => ⟨h.1, h.2.symm⟩))
        | (go_at_call 46; with_reducible exact Calls.quiet_of_same ((outC x Q _ (H3.out.px.drewN _)).mono fun _ _ h => ⟨h.1, h.2.symm⟩))
        | (go_at_call 47; with_reducible exact Calls.quiet_of_same ((inC x Q _ (H3.out.px.drewN _)).mono fun _ _ h => ⟨h.1, h.2.symm⟩)))
      clear y5 y3 y4
      go_wp2_with fail
      go_roundw
      case rel => exact ⟨i + 1, ps, Q, r, HLT.out, Nat.le_succ_of_le HPL.out, by go_num, Ya.rs_far HR3.out (fun _ _ _ => rfl), gds_far HG3.out (fun _ _ _ => rfl), thr_drewN H3.out _, HZ3.out, HQ2, HQR⟩
      case measure => simp [intOf]; have := HLT.out; omega
    by_cases hk3 : K = 3
    case pos =>
      subst hk3
      clear hk0 hk1 hk2
      go_upto_region 19 with fail
      obtain ⟨B0, B1, B2, B3⟩ := box4 wr (.int .i64 3) (.int .i64 J) (.int .i64 FR) (.slice p.a p.l.length p.cap)
      have H1 := Lib.hid (HWr.out.alloc (.cells #[.int .i64 3, .int .i64 J, .int .i64 FR, .slice p.a p.l.length p.cap] 70))
      have HR1 := Lib.hid (Ya.rs_far HR.out (w' := wr.alloc (.cells #[.int .i64 3, .int .i64 J, .int .i64 FR, .slice p.a p.l.length p.cap] 70)) (fun k h1 _ => Below.heap_alloc _ _ _ h1))
      have HG1 := Lib.hid (gds_far HGD.out (W' := wr.alloc (.cells #[.int .i64 3, .int .i64 J, .int .i64 FR, .slice p.a p.l.length p.cap] 70)) (fun k h1 _ => Below.heap_alloc _ _ _ h1))
      have HP1 := Lib.hid (Ya.pt_then HPT.out ((Below.refl _ wr).alloc (Nat.le_refl _) (.cells #[.int .i64 3, .int .i64 J, .int .i64 FR, .slice p.a p.l.length p.cap] 70)))
      have hz1 : (wr.alloc (.cells #[.int .i64 3, .int .i64 J, .int .i64 FR, .slice p.a p.l.length p.cap] 70)).heap.size = wr.heap.size + 1 := by simp
      generalize hw1 : wr.alloc (.cells #[.int .i64 3, .int .i64 J, .int .i64 FR, .slice p.a p.l.length p.cap] 70) = w1 at *
      generalize hGG : wr.heap.size = G at *
      have HZ1 := Lib.hid (show w3.heap.size ≤ w1.heap.size by rw [hz1]; exact Nat.le_succ_of_le HZ2.out)
      have HGG := Lib.hid (show z.hi ≤ G ∧ w3.heap.size ≤ G ∧ w1.heap.size = G + 1 from ⟨by have := HZ2.out; have := HZW.out; omega, HZ2.out, hz1⟩)
      clear hw1 hz1 hGG c0 c1 c2 c3
      clear B1 B2
      obtain ⟨R, hR⟩ : ∃ R, sdR r p.l = R := ⟨_, rfl⟩
      obtain ⟨E, L, Q⟩ := R
      have HLEN := Lib.hid (show L.length ≤ 1226 from by have h := sd_len r p.l; rw [hR] at h; exact h)
      have HRR := Lib.hid hR
      have HQ2 := Lib.hid (show Ok Q from by have h := sd_ok HQR.out p.l; rw [hR] at h; exact h)
      have HLX := Lib.hid (show ∀ c ∈ L, c < 256 from by have h := sd_lt HQR.out HPX.out; rw [hR] at h; exact h)
      clear hR
      by_cases hE : E = 0
      case pos =>
        subst hE
        go_wp2_with (first
          | (go_at_call 42; (with_reducible refine (dsendF z r p 0 L Q w1 HRR.out HQR.out H1.out.pz HP1.out).mono ?_); rintro e w4 ⟨b2, c2, rfl, rb, p2, t2⟩; have H2 := Lib.hid (H1.out.setZ t2 p2); have HR2 := Lib.hid (Ya.rs_far HR1.out (fun k h1 h2 => t2.block k h1 (.inr (Nat.le_trans HZW.out h2)))); have HG2 := Lib.hid (gds_far HG1.out (fun k h1 h2 => t2.block k h1 (.inr (Nat.le_trans HZW.out h2)))); have HZ2 := Lib.hid (Nat.le_trans HZ1.out t2.size); have HRB := Lib.hid (rb_base rb HZ1.out); clear rb p2 t2)
          | (at_builtin; refine Ya.app_rs rfl _ _ rfl w3.heap.size _ ps rfl (Ya.rs_far HR2.out (fun k h1 _ => Below.heap_alloc _ _ _ h1)) w4.heap.size (b2, L.length, c2) rfl (by rw [cell_of_row _ w4.heap.size 0 _ 22 (0, 0) (heap_alloc_last w4 _)]; rfl) (by have := HPL.out; have := HLT.out; have := HN100.out; omega) (by have := HZ2.out; simp; omega) ?_; intro v5 w5 o5 g5; have h4 := H2.out.alloc (.cells #[.slice b2 L.length c2] 22); have r4 := Ya.rs_far HR2.out (w' := w4.alloc (.cells #[.slice b2 L.length c2] 22)) (fun k h1 _ => Below.heap_alloc _ _ _ h1); have HR5 := Lib.hid o5; have HZ5 := Lib.hid (show w3.heap.size ≤ w5.heap.size from Nat.le_trans HZ2.out (Nat.le_trans (by simp) g5.size)); have hlow : Bt w3.heap.size (w4.heap.size + 1) (w4.alloc (.cells #[.slice b2 L.length c2] 22)) w5 := ⟨g5.os, g5.tape, g5.output, g5.size, fun k hk hx => g5.block k hk (fun e => by have := r4.lt k e.symm; simp at hk; omega)⟩; have H5 := Lib.hid (h4.up HZW.out hlow); have HG5 := Lib.hid (show Gds w5 w3.heap.size (ps ++ [(b2, L.length, c2)]) from gds_snoc (gds_grown r4 (gds_far HG2.out (fun k h1 _ => Below.heap_alloc _ _ _ h1)) g5) (l := L) ⟨Ya.rb_grown r4 (rb_alloc HRB.out _) g5, HLEN.out, HLX.out⟩); clear h4 r4 hlow o5 g5))
        have y5 := H5.out.py.cell5
        have y3 := H5.out.py.cell3
        have y4 := H5.out.py.cell4
        go_wp2_with fail
        go_big_quiet (first
          | (go_at_call 15; with_reducible exact Calls.quiet_of_same ((bytes0 _).mono fun _ _ h => ⟨h.1, h.2.symm⟩))
          | (go_at_call 45; with_reducible exact Calls.quiet_of_same ((addrC x q _ (H5.out.px.drewN _)).mono fun _ _ h => ⟨h.1, h.2.symm⟩))
          | (go_at_call 46; with_reducible exact Calls.quiet_of_same ((outC x q _ (H5.out.px.drewN _)).mono fun _ _ h => ⟨h.1, h.2.symm⟩))
          | (go_at_call 47; with_reducible exact Calls.quiet_of_same ((inC x q _ (H5.out.px.drewN _)).mono fun _ _ h => ⟨h.1, h.2.symm⟩)))
        clear y5 y3 y4
        go_wp2_with fail
        go_roundw
        case rel => exact ⟨i + 1, (ps ++ [(b2, L.length, c2)]), q, Q, HLT.out, (by simp; exact HPL.out), by go_num, Ya.rs_far HR5.out (fun _ _ _ => rfl), gds_far HG5.out (fun _ _ _ => rfl), thr_drewN H5.out _, HZ5.out, HQ, HQ2⟩
        case measure => simp [intOf]; have := HLT.out; omega
      case neg =>
        have e0 : (E == 0) = false := by rw [beq_eq_false_iff_ne]; exact hE
        clear hE
        go_wp2_with (first
          | (go_at_call 42; (with_reducible refine (dsendF z r p E L Q w1 HRR.out HQR.out H1.out.pz HP1.out).mono ?_); rintro e w4 ⟨b2, c2, rfl, rb, p2, t2⟩; have H2 := Lib.hid (H1.out.setZ t2 p2); have HR2 := Lib.hid (Ya.rs_far HR1.out (fun k h1 h2 => t2.block k h1 (.inr (Nat.le_trans HZW.out h2)))); have HG2 := Lib.hid (gds_far HG1.out (fun k h1 h2 => t2.block k h1 (.inr (Nat.le_trans HZW.out h2)))); have HZ2 := Lib.hid (Nat.le_trans HZ1.out t2.size); have HRB := Lib.hid (rb_base rb HZ1.out); clear rb p2 t2))
        have y5 := H2.out.py.cell5
        have y3 := H2.out.py.cell3
        have y4 := H2.out.py.cell4
        go_wp2_with fail
        go_big_quiet (first
          | (go_at_call 15; with_reducible exact Calls.quiet_of_same ((bytes0 _).mono fun _ _ h => ⟨h.1, h.2.symm⟩))
          | (go_at_call 45; with_reducible exact Calls.quiet_of_same ((addrC x q _ (H2.out.px.drewN _)).mono fun _ _ h => ⟨h.1, h.2.symm⟩))
          | (go_at_call 46; with_reducible exact Calls.quiet_of_same ((outC x q _ (H2.out.px.drewN _)).mono fun _ _ h => ⟨h.1, h.2.symm⟩))
          | (go_at_call 47; with_reducible exact Calls.quiet_of_same ((inC x q _ (H2.out.px.drewN _)).mono fun _ _ h => ⟨h.1, h.2.symm⟩)))
        clear y5 y3 y4
        go_wp2_with fail
        go_roundw
        case rel => exact ⟨i + 1, ps, q, Q, HLT.out, Nat.le_succ_of_le HPL.out, by go_num, Ya.rs_far HR2.out (fun _ _ _ => rfl), gds_far HG2.out (fun _ _ _ => rfl), thr_drewN H2.out _, HZ2.out, HQ, HQ2⟩
        case measure => simp [intOf]; have := HLT.out; omega
    case neg =>
      have k0 : ¬ K = 0 := hk0
      have k1 : ¬ K = 1 := hk1
      have k2 : ¬ K = 2 := hk2
      have k3 : ¬ K = 3 := hk3
      clear hk0 hk1 hk2 hk3
      go_upto_region 19 with fail
      obtain ⟨B0, B1, B2, B3⟩ := box4 wr (.int .i64 K) (.int .i64 J) (.int .i64 FR) (.slice p.a p.l.length p.cap)
      have H1 := Lib.hid (HWr.out.alloc (.cells #[.int .i64 K, .int .i64 J, .int .i64 FR, .slice p.a p.l.length p.cap] 70))
      have HR1 := Lib.hid (Ya.rs_far HR.out (w' := wr.alloc (.cells #[.int .i64 K, .int .i64 J, .int .i64 FR, .slice p.a p.l.length p.cap] 70)) (fun k h1 _ => Below.heap_alloc _ _ _ h1))
      have HG1 := Lib.hid (gds_far HGD.out (W' := wr.alloc (.cells #[.int .i64 K, .int .i64 J, .int .i64 FR, .slice p.a p.l.length p.cap] 70)) (fun k h1 _ => Below.heap_alloc _ _ _ h1))
      have HP1 := Lib.hid (Ya.pt_then HPT.out ((Below.refl _ wr).alloc (Nat.le_refl _) (.cells #[.int .i64 K, .int .i64 J, .int .i64 FR, .slice p.a p.l.length p.cap] 70)))
      have hz1 : (wr.alloc (.cells #[.int .i64 K, .int .i64 J, .int .i64 FR, .slice p.a p.l.length p.cap] 70)).heap.size = wr.heap.size + 1 := by simp
      generalize hw1 : wr.alloc (.cells #[.int .i64 K, .int .i64 J, .int .i64 FR, .slice p.a p.l.length p.cap] 70) = w1 at *
      generalize hGG : wr.heap.size = G at *
      have HZ1 := Lib.hid (show w3.heap.size ≤ w1.heap.size by rw [hz1]; exact Nat.le_succ_of_le HZ2.out)
      have HGG := Lib.hid (show z.hi ≤ G ∧ w3.heap.size ≤ G ∧ w1.heap.size = G + 1 from ⟨by have := HZ2.out; have := HZW.out; omega, HZ2.out, hz1⟩)
      clear hw1 hz1 hGG c0 c1 c2 c3
      clear B1 B2 B3
      have y5 := H1.out.py.cell5
      have y3 := H1.out.py.cell3
      have y4 := H1.out.py.cell4
      go_wp2_with fail
      go_big_quiet (first
        | (go_at_call 15; with_reducible exact Calls.quiet_of_same ((bytes0 _).mono fun _ _ h => ⟨h.1, h.2.symm⟩))
        | (go_at_call 45; with_reducible exact Calls.quiet_of_same ((addrC x q _ (H1.out.px.drewN _)).mono fun _ _ h => ⟨h.1, h.2.symm⟩))
        | (go_at_call 46; with_reducible exact Calls.quiet_of_same ((outC x q _ (H1.out.px.drewN _)).mono fun _ _ h => ⟨h.1, h.2.symm⟩))
        | (go_at_call 47; with_reducible exact Calls.quiet_of_same ((inC x q _ (H1.out.px.drewN _)).mono fun _ _ h => ⟨h.1, h.2.symm⟩)))
      clear y5 y3 y4
      go_wp2_with fail
      go_roundw
      case rel => exact ⟨i + 1, ps, q, r, HLT.out, Nat.le_succ_of_le HPL.out, by go_num, Ya.rs_far HR1.out (fun _ _ _ => rfl), gds_far HG1.out (fun _ _ _ => rfl), thr_drewN H1.out _, HZ1.out, HQ, HQR⟩
      case measure => simp [intOf]; have := HLT.out; omega


end Go.Proofs.YtmfkfpgomglplaaDoor.Zd
