/- MacSums: the sums and the tags are the document's. -/
import Derived.Test.YtmfkfpgomglplaaDoorDh
import Derived.Test.YtmfkfpgomglplaaDoorMf
import Derived.Test.YtmfkfpgomglplaaDoorOp
import Derived.Test.YtmfkfpgomglplaaDoorAr
set_option linter.unusedVariables false
namespace Go.Proofs.YtmfkfpgomglplaaDoor.Ms
open Go Go.RowKit Kit Mb Sha Ap Mc1 Sc Mx Sb Pd Su Pa Hm Mm Tg Mf Pk Se Op Ar Dq Db Ds Dh


/-- some bytes, of a length that is known. -/
def ByP (n : Nat) (L : List Nat) (w : World) (e : Ending) (w' : World) : Prop := ∃ a c, e = .returned (.slice a n c) ∧ Sl w' a L ∧ n ≤ c ∧ (a = none → c = 0) ∧ Below w.heap.size w w'
theorem byP_of {n : Nat} {L : List Nat} {v : Value} {w w' : World} (hn : n = L.length) (h : Rb w' w.heap.size v L) (b : Below w.heap.size w w') : ByP n L w (.returned v) w' := by
  obtain ⟨a, c, rfl, h1, h2, h3, _⟩ := rb_sl h
  subst hn
  exact ⟨a, c, rfl, h2, h1, h3, b⟩
theorem sumK (a : Option Addr) (n cap : Nat) (l S : List Nat) (w : World) (hS : S = sha l) (hn : n = l.length) (hs : Sl w a l) (h0 : a = none → cap = 0) (hcap : l.length ≤ cap) (hl : ∀ c ∈ l, c < 256) (hlen : l.length ≤ 900000) (hT : TabR w) (hB : TabB w) :
    Calls Tryd.prog 16 #[.slice a n cap] w (ByP 32 S w) := by
  subst hS hn
  refine (sumC a cap l w hs h0 hcap hl hlen hT hB).mono ?_
  rintro e w' ⟨v, rfl, o, b⟩
  exact byP_of (sha_len l).symm o b
theorem dsumK (a : Option Addr) (n cap : Nat) (l S : List Nat) (w : World) (hS : S = sha l) (hn : n = l.length) (hs : Sl w a l) (h0 : a = none → cap = 0) (hcap : l.length ≤ cap) (hl : ∀ c ∈ l, c < 256) (hlen : l.length ≤ 900000) :
    Calls Tryd.prog 17 #[.slice a n cap] w (ByP 32 S w) := by
  subst hS hn
  refine (dsumC a cap l w hs h0 hcap hl hlen).mono ?_
  rintro e w' ⟨v, rfl, o, b⟩
  exact byP_of (sha_len l).symm o b
theorem hmK2 (ka : Option Addr) (kn kc : Nat) (key H : List Nat) (xa ya : Option Addr) (xc yc p q g : Nat) (X Y B : List Nat) (w : World) (hH : H = hmac key B) (hB0 : X ++ Y = B) (hkn : kn = key.length) (hp : p = X.length) (hq : q = Y.length) (hg : g = w.heap.size) (ks : Sl w ka key) (k0 : ka = none → kc = 0) (kcap : key.length ≤ kc) (kl : ∀ c ∈ key, c < 256) (klen : key.length ≤ 800000)
    (xs : Sl w xa X) (x0 : xa = none → xc = 0) (xcap : X.length ≤ xc) (ys : Sl w ya Y) (y0 : ya = none → yc = 0) (ycap : Y.length ≤ yc) (bl : ∀ c ∈ B, c < 256) (blen : B.length ≤ 800000) (hT : TabR w) (hB : TabB w) :
    Calls Tryd.prog 18 #[.slice ka kn kc, .slice (some ⟨g, 0, none⟩) 2 2] (w.alloc (.cells #[.slice xa p xc, .slice ya q yc] 22)) (ByP 32 H (w.alloc (.cells #[.slice xa p xc, .slice ya q yc] 22))) := by
  subst hp hq hg hB0 hkn hH
  have h := hmacC ka kc key (some ⟨w.heap.size, 0, none⟩) 2 [⟨xa, xc, X⟩, ⟨ya, yc, Y⟩] (w.alloc (.cells #[.slice xa X.length xc, .slice ya Y.length yc] 22)) (sl_alloc ks _) k0 kcap kl klen
    ⟨.inr ⟨_, 0, rfl, fun i hi => by
      have : i = 0 ∨ i = 1 := by simp at hi; omega
      rcases this with rfl | rfl
      · rw [Nat.zero_add, cell_of_row _ w.heap.size 0 _ 22 (0, 0) (heap_alloc_last w _)]; rfl
      · rw [Nat.zero_add, cell_of_row _ w.heap.size 1 _ 22 (0, 0) (heap_alloc_last w _)]; rfl⟩, fun p hp => by
      simp only [List.mem_cons, List.not_mem_nil, or_false] at hp
      rcases hp with rfl | rfl
      · exact ⟨sl_alloc xs _, x0, xcap, fun c hc => bl c (List.mem_append_left _ hc)⟩
      · exact ⟨sl_alloc ys _, y0, ycap, fun c hc => bl c (List.mem_append_right _ hc)⟩⟩ (by simp) (by simpa [catP] using blen)
    (tabR_then ((Below.refl _ w).alloc (Nat.le_refl _) _) hT) (tabB_then ((Below.refl _ w).alloc (Nat.le_refl _) _) hB)
  rw [show catP [⟨xa, xc, X⟩, ⟨ya, yc, Y⟩] = X ++ Y by simp [catP]] at h
  refine h.mono ?_
  rintro e w' ⟨v, rfl, o, b⟩
  exact byP_of (hmac_len _ _).symm o b
theorem tgK2 (ka : Option Addr) (kn kc : Nat) (key H : List Nat) (xa ya : Option Addr) (xc yc p q g : Nat) (X Y B : List Nat) (w : World) (hH : H = tagL key B) (hB0 : X ++ Y = B) (hkn : kn = key.length) (hp : p = X.length) (hq : q = Y.length) (hg : g = w.heap.size) (ks : Sl w ka key) (k0 : ka = none → kc = 0) (kcap : key.length ≤ kc) (kl : ∀ c ∈ key, c < 256) (klen : key.length ≤ 800000)
    (xs : Sl w xa X) (x0 : xa = none → xc = 0) (xcap : X.length ≤ xc) (ys : Sl w ya Y) (y0 : ya = none → yc = 0) (ycap : Y.length ≤ yc) (bl : ∀ c ∈ B, c < 256) (blen : B.length ≤ 800000) (hT : TabR w) (hB : TabB w) :
    Calls Tryd.prog 20 #[.slice ka kn kc, .slice (some ⟨g, 0, none⟩) 2 2] (w.alloc (.cells #[.slice xa p xc, .slice ya q yc] 22)) (ByP 16 H (w.alloc (.cells #[.slice xa p xc, .slice ya q yc] 22))) := by
  subst hp hq hg hB0 hkn hH
  have h := tagC ka kc key (some ⟨w.heap.size, 0, none⟩) 2 [⟨xa, xc, X⟩, ⟨ya, yc, Y⟩] (w.alloc (.cells #[.slice xa X.length xc, .slice ya Y.length yc] 22)) (sl_alloc ks _) k0 kcap kl klen
    ⟨.inr ⟨_, 0, rfl, fun i hi => by
      have : i = 0 ∨ i = 1 := by simp at hi; omega
      rcases this with rfl | rfl
      · rw [Nat.zero_add, cell_of_row _ w.heap.size 0 _ 22 (0, 0) (heap_alloc_last w _)]; rfl
      · rw [Nat.zero_add, cell_of_row _ w.heap.size 1 _ 22 (0, 0) (heap_alloc_last w _)]; rfl⟩, fun p hp => by
      simp only [List.mem_cons, List.not_mem_nil, or_false] at hp
      rcases hp with rfl | rfl
      · exact ⟨sl_alloc xs _, x0, xcap, fun c hc => bl c (List.mem_append_left _ hc)⟩
      · exact ⟨sl_alloc ys _, y0, ycap, fun c hc => bl c (List.mem_append_right _ hc)⟩⟩ (by simp) (by simpa [catP] using blen)
    (tabR_then ((Below.refl _ w).alloc (Nat.le_refl _) _) hT) (tabB_then ((Below.refl _ w).alloc (Nat.le_refl _) _) hB)
  rw [show catP [⟨xa, xc, X⟩, ⟨ya, yc, Y⟩] = X ++ Y by simp [catP]] at h
  refine h.mono ?_
  rintro e w' ⟨v, rfl, o, b⟩
  exact byP_of (tagL_len _ _).symm o b
theorem dhmK (ka : Option Addr) (kn kc : Nat) (key H : List Nat) (ta : Option Addr) (n tc : Nat) (text : List Nat) (w : World) (hH : H = hmac key text) (hkn : kn = key.length) (hn : n = text.length) (ks : Sl w ka key) (k0 : ka = none → kc = 0) (kcap : key.length ≤ kc) (kl : ∀ c ∈ key, c < 256) (klen : key.length ≤ 800000)
    (ts : Sl w ta text) (t0 : ta = none → tc = 0) (tcap : text.length ≤ tc) (tl : ∀ c ∈ text, c < 256) (tlen : text.length ≤ 800000) :
    Calls Tryd.prog 19 #[.slice ka kn kc, .slice ta n tc] w (ByP 32 H w) := by
  subst hH hkn hn
  refine (dhmacC ka kc key ta tc text w ks k0 kcap kl klen ts t0 tcap tl tlen).mono ?_
  rintro e w' ⟨v, rfl, o, b⟩
  exact byP_of (hmac_len _ _).symm o b
theorem dtgK (ka : Option Addr) (kn kc : Nat) (key H : List Nat) (ta : Option Addr) (n tc : Nat) (text : List Nat) (w : World) (hH : H = tagL key text) (hkn : kn = key.length) (hn : n = text.length) (ks : Sl w ka key) (k0 : ka = none → kc = 0) (kcap : key.length ≤ kc) (kl : ∀ c ∈ key, c < 256) (klen : key.length ≤ 800000)
    (ts : Sl w ta text) (t0 : ta = none → tc = 0) (tcap : text.length ≤ tc) (tl : ∀ c ∈ text, c < 256) (tlen : text.length ≤ 800000) :
    Calls Tryd.prog 21 #[.slice ka kn kc, .slice ta n tc] w (ByP 16 H w) := by
  subst hH hkn hn
  refine (dtagC ka kc key ta tc text w ks k0 kcap kl klen ts t0 tcap tl tlen).mono ?_
  rintro e w' ⟨hb, ho, hc, rfl, h1, h2, h3⟩
  exact ⟨_, hc, rfl, .inr ⟨hb, ho, rfl, h1⟩, h2, (fun h => by cases h), h3⟩
/-- two that are the same. -/
theorem bytesS (a1 a2 : Option Addr) (c1 c2 n : Nat) (T : List Nat) (w : World) (hn : n = T.length) (h1 : Sl w a1 T) (h2 : Sl w a2 T) (hx : ∀ c ∈ T, c < 256) :
    Calls Tryd.prog 15 #[.slice a1 n c1, .slice a2 n c2] w fun e w' => e = .returned (.bool true) ∧ w = w' :=
  bytesD a1 a2 c1 c2 n n T T w true hn hn h1 h2 hx hx (decide_eq_true rfl).symm
theorem step {W w1 w2 : World} (h : Below W.heap.size W w1) (o : Obj) (b : Below (w1.alloc o).heap.size (w1.alloc o) w2) : Below W.heap.size W w2 := below_then (h.alloc h.size _) b (by have := h.size; simp; omega)

set_option maxRecDepth 100000 in
set_option maxHeartbeats 4000000 in
theorem sumsIn (ka : Option Addr) (kc : Nat) (key : List Nat) (aa : Option Addr) (ac : Nat) (A : List Nat) (ba : Option Addr) (bc : Nat) (B : List Nat) (w : World) (ks : Sl w ka key) (k0 : ka = none → kc = 0) (kcap : key.length ≤ kc) (kl : ∀ c ∈ key, c < 256) (kn : key.length ≤ 3000)
    (aS : Sl w aa A) (a0 : aa = none → ac = 0) (acap : A.length ≤ ac) (al : ∀ c ∈ A, c < 256) (an : A.length ≤ 3000) (bS : Sl w ba B) (b0 : ba = none → bc = 0) (bcap : B.length ≤ bc) (bl : ∀ c ∈ B, c < 256) (bn : B.length ≤ 3000) (hT : TabR w) (hB : TabB w) :
    Calls Tryd.prog 3 #[.slice ka key.length kc, .slice aa A.length ac, .slice ba B.length bc] w fun e w' => e = .returned (.bool true) ∧ Below w.heap.size w w' := by
  have HKS := Lib.hid ks
  have HK0 := Lib.hid k0
  have HKC := Lib.hid kcap
  have HKX := Lib.hid kl
  have HK8 := Lib.hid (show key.length ≤ 800000 by omega)
  have HAS := Lib.hid aS
  have HA0 := Lib.hid a0
  have HAC := Lib.hid acap
  have HAX := Lib.hid al
  have HA9 := Lib.hid (show A.length ≤ 900000 by omega)
  have HAM := Lib.hid (show A.length ≤ 1000000 by omega)
  have HAZ := Lib.hid (show A.length ≤ 9223372036854775000 by omega)
  have HBS := Lib.hid bS
  have HB0 := Lib.hid b0
  have HBC := Lib.hid bcap
  have HBX := Lib.hid bl
  have HT := Lib.hid hT
  have HB := Lib.hid hB
  obtain ⟨AB, hAB⟩ : ∃ AB, AB = A ++ B := ⟨_, rfl⟩
  have HAB := Lib.hid hAB
  have HABX := Lib.hid (show ∀ c ∈ AB, c < 256 by rw [hAB]; exact fun c hc => (List.mem_append.1 hc).elim (al c) (bl c))
  have HAB8 := Lib.hid (show AB.length ≤ 800000 by rw [hAB, List.length_append]; omega)
  have HABM := Lib.hid (show A.length + B.length ≤ 1000000 by omega)
  obtain ⟨S, hS⟩ : ∃ S, S = sha A := ⟨_, rfl⟩
  have HS := Lib.hid hS
  have HSL := Lib.hid (show 32 = S.length by rw [hS]; exact (sha_len A).symm)
  have HSX := Lib.hid (show ∀ c ∈ S, c < 256 by rw [hS]; exact sha_lt A)
  obtain ⟨H, hH⟩ : ∃ H, H = hmac key AB := ⟨_, rfl⟩
  have HH := Lib.hid hH
  have HHL := Lib.hid (show 32 = H.length by rw [hH]; exact (hmac_len _ _).symm)
  have HHX := Lib.hid (show ∀ c ∈ H, c < 256 by rw [hH]; exact hmac_lt _ _)
  obtain ⟨G, hG⟩ : ∃ G, G = tagL key AB := ⟨_, rfl⟩
  have HG := Lib.hid hG
  have HGL := Lib.hid (show 16 = G.length by rw [hG]; exact (tagL_len _ _).symm)
  have HGX := Lib.hid (show ∀ c ∈ G, c < 256 by rw [hG]; exact tagL_lt _ _)
  obtain ⟨R, hR⟩ : ∃ R, R = decide (A = B) := ⟨_, rfl⟩
  have HR := Lib.hid hR
  have t1 : ¬ 3000 < (key.length : Int) := by omega
  have t2 : ¬ 3000 < (A.length : Int) := by omega
  have t3 : ¬ 3000 < (B.length : Int) := by omega
  clear ks k0 kcap kl aS a0 acap al bS b0 bcap bl hT hB hAB hS hH hG hR kn an bn
  go_enter Tryd.func3, Tryd.ntmps3
  go_wp2_with (first
    | (go_at_call 13; (with_reducible refine (first w HT.out HB.out).mono ?_); rintro e w1 ⟨rfl, b1⟩; have HB1 := Lib.hid b1; clear b1)
    | (go_at_call 14; (with_reducible refine (copyC aa ac A w1 HAM.out (sl_then HB1.out (Nat.le_refl _) HAS.out) HA0.out).mono ?_); rintro e w2 ⟨v2, rfl, q1, q2⟩; have HO2 := Lib.hid q1; have HB2 := Lib.hid (below_then HB1.out q2 HB1.out.size); have HS2 := Lib.hid q2.size; clear q1 q2)
    | (at_builtin; refine app_sl rfl _ _ rfl w1.heap.size _ A rfl HO2.out ba B.length bc B rfl rfl HB0.out (sl_then HB2.out (Nat.le_refl _) HBS.out) HABM.out HS2.out ?_; intro v3 w3 o3 b3; rw [← HAB.out] at o3; obtain ⟨la, lc, rfl, q1, q2, q3, q5⟩ := rb_sl o3; have HLC := Lib.hid q1; have HLS := Lib.hid q2; have HLZ := Lib.hid q3; have HB3 := Lib.hid (b3 _ _ HB1.out.size HB2.out); clear q1 q2 q3 q5 o3 b3)
    | (go_at_call 13; (with_reducible refine (first w3 (tabR_then HB3.out HT.out) (tabB_then HB3.out HB.out)).mono ?_); rintro e w4 ⟨rfl, b4⟩; have HLS4 := Lib.hid (sl_then b4 (Nat.le_refl _) HLS.out); have HB4 := Lib.hid (below_then HB3.out b4 HB3.out.size); clear b4)
    | (go_at_call 16; (with_reducible refine (sumK aa A.length ac A S w4 HS.out rfl (sl_then HB4.out (Nat.le_refl _) HAS.out) HA0.out HAC.out HAX.out HA9.out (tabR_then HB4.out HT.out) (tabB_then HB4.out HB.out)).mono ?_); rintro e w5 ⟨sa, sc, rfl, q1, _, _, b5⟩; have HS5 := Lib.hid q1; have HLS5 := Lib.hid (sl_then b5 (Nat.le_refl _) HLS4.out); have HB5 := Lib.hid (below_then HB4.out b5 HB4.out.size); clear q1 b5)
    | (go_at_call 17; (with_reducible refine (dsumK aa A.length ac A S w5 HS.out rfl (sl_then HB5.out (Nat.le_refl _) HAS.out) HA0.out HAC.out HAX.out HA9.out).mono ?_); rintro e w6 ⟨ta, tc, rfl, q1, _, _, b6⟩; have HT6 := Lib.hid q1; have HS6 := Lib.hid (sl_then b6 (Nat.le_refl _) HS5.out); have HLS6 := Lib.hid (sl_then b6 (Nat.le_refl _) HLS5.out); have HB6 := Lib.hid (below_then HB5.out b6 HB5.out.size); clear q1 b6)
    | (go_at_call 15; (with_reducible refine (bytesS sa ta sc tc 32 S w6 HSL.out HS6.out HT6.out HSX.out).mono ?_); rintro e w' ⟨rfl, rfl⟩)
    | (go_at_call 18; (with_reducible refine (hmK2 ka key.length kc key H aa ba ac bc A.length B.length w6.heap.size A B AB w6 HH.out HAB.out.symm rfl rfl rfl rfl (sl_then HB6.out (Nat.le_refl _) HKS.out) HK0.out HKC.out HKX.out HK8.out (sl_then HB6.out (Nat.le_refl _) HAS.out) HA0.out HAC.out (sl_then HB6.out (Nat.le_refl _) HBS.out) HB0.out HBC.out HABX.out HAB8.out (tabR_then HB6.out HT.out) (tabB_then HB6.out HB.out)).mono ?_); rintro e w7 ⟨ha, hc, rfl, q1, _, _, b7⟩; have HH7 := Lib.hid q1; have HB7 := Lib.hid (step HB6.out _ b7); have HLS7 := Lib.hid (sl_then b7 (Nat.le_refl _) (sl_alloc HLS6.out _)); clear q1 b7)
    | (go_at_call 19; (with_reducible refine (dhmK ka key.length kc key H la AB.length lc AB w7 HH.out rfl rfl (sl_then HB7.out (Nat.le_refl _) HKS.out) HK0.out HKC.out HKX.out HK8.out HLS7.out HLZ.out HLC.out HABX.out HAB8.out).mono ?_); rintro e w8 ⟨ja, jc, rfl, q1, _, _, b8⟩; have HJ8 := Lib.hid q1; have HH8 := Lib.hid (sl_then b8 (Nat.le_refl _) HH7.out); have HLS8 := Lib.hid (sl_then b8 (Nat.le_refl _) HLS7.out); have HB8 := Lib.hid (below_then HB7.out b8 HB7.out.size); clear q1 b8)
    | (go_at_call 15; (with_reducible refine (bytesS ha ja hc jc 32 H w8 HHL.out HH8.out HJ8.out HHX.out).mono ?_); rintro e w' ⟨rfl, rfl⟩)
    | (go_at_call 20; (with_reducible refine (tgK2 ka key.length kc key G aa ba ac bc A.length B.length w8.heap.size A B AB w8 HG.out HAB.out.symm rfl rfl rfl rfl (sl_then HB8.out (Nat.le_refl _) HKS.out) HK0.out HKC.out HKX.out HK8.out (sl_then HB8.out (Nat.le_refl _) HAS.out) HA0.out HAC.out (sl_then HB8.out (Nat.le_refl _) HBS.out) HB0.out HBC.out HABX.out HAB8.out (tabR_then HB8.out HT.out) (tabB_then HB8.out HB.out)).mono ?_); rintro e w9 ⟨ga, gc, rfl, q1, _, _, b9⟩; have HG9 := Lib.hid q1; have HB9 := Lib.hid (step HB8.out _ b9); have HLS9 := Lib.hid (sl_then b9 (Nat.le_refl _) (sl_alloc HLS8.out _)); clear q1 b9)
    | (go_at_call 21; (with_reducible refine (dtgK ka key.length kc key G la AB.length lc AB w9 HG.out rfl rfl (sl_then HB9.out (Nat.le_refl _) HKS.out) HK0.out HKC.out HKX.out HK8.out HLS9.out HLZ.out HLC.out HABX.out HAB8.out).mono ?_); rintro e w10 ⟨ia, ic, rfl, q1, _, _, b10⟩; have HI10 := Lib.hid q1; have HG10 := Lib.hid (sl_then b10 (Nat.le_refl _) HG9.out); have HB10 := Lib.hid (below_then HB9.out b10 HB9.out.size); clear q1 b10)
    | (go_at_call 15; (with_reducible refine (bytesS ga ia gc ic 16 G w10 HGL.out HG10.out HI10.out HGX.out).mono ?_); rintro e w' ⟨rfl, rfl⟩)
    | (go_at_call 22; (with_reducible refine (equalE aa ba ac bc A.length B.length A B w10 R rfl rfl (sl_then HB10.out (Nat.le_refl _) HAS.out) (sl_then HB10.out (Nat.le_refl _) HBS.out) HAX.out HBX.out HAZ.out HR.out).mono ?_); rintro e w11 ⟨rfl, b11⟩; have HB11 := Lib.hid (below_then HB10.out b11 HB10.out.size); clear b11)
    | (go_at_call 15; (with_reducible refine (bytesD aa ba ac bc A.length B.length A B w11 R rfl rfl (sl_then HB11.out (Nat.le_refl _) HAS.out) (sl_then HB11.out (Nat.le_refl _) HBS.out) HAX.out HBX.out HR.out).mono ?_); rintro e w' ⟨rfl, rfl⟩))
  go_ret
  exact ⟨by simp, HB11.out⟩
set_option maxRecDepth 100000 in
theorem sumsOut (ka : Option Addr) (kn kc : Nat) (aa : Option Addr) (an ac : Nat) (ba : Option Addr) (bn bc : Nat) (w : World) (hno : 3000 < kn ∨ 3000 < an ∨ 3000 < bn) (hT : TabR w) (hB : TabB w) :
    Calls Tryd.prog 3 #[.slice ka kn kc, .slice aa an ac, .slice ba bn bc] w fun e w' => e = .returned (.bool true) ∧ Below w.heap.size w w' := by
  have HT := Lib.hid hT
  have HB := Lib.hid hB
  clear hT hB
  by_cases h0 : 3000 < (kn : Int)
  · clear hno
    go_enter Tryd.func3, Tryd.ntmps3
    go_wp2_with (first
      | (go_at_call 13; (with_reducible refine (first w HT.out HB.out).mono ?_); rintro e w1 ⟨rfl, b1⟩; have HB1 := Lib.hid b1; clear b1)
      | (go_at_call 13; (with_reducible refine (first w1 (tabR_then HB1.out HT.out) (tabB_then HB1.out HB.out)).mono ?_); rintro e w2 ⟨rfl, b2⟩; have HB2 := Lib.hid (below_then HB1.out b2 HB1.out.size); clear b2))
    go_ret
    exact ⟨rfl, HB2.out⟩
  ·
    by_cases h1 : 3000 < (an : Int)
    · clear hno
      go_enter Tryd.func3, Tryd.ntmps3
      go_wp2_with (first
        | (go_at_call 13; (with_reducible refine (first w HT.out HB.out).mono ?_); rintro e w1 ⟨rfl, b1⟩; have HB1 := Lib.hid b1; clear b1)
        | (go_at_call 13; (with_reducible refine (first w1 (tabR_then HB1.out HT.out) (tabB_then HB1.out HB.out)).mono ?_); rintro e w2 ⟨rfl, b2⟩; have HB2 := Lib.hid (below_then HB1.out b2 HB1.out.size); clear b2))
      go_ret
      exact ⟨rfl, HB2.out⟩
    ·
      by_cases h2 : 3000 < (bn : Int)
      · clear hno
        go_enter Tryd.func3, Tryd.ntmps3
        go_wp2_with (first
          | (go_at_call 13; (with_reducible refine (first w HT.out HB.out).mono ?_); rintro e w1 ⟨rfl, b1⟩; have HB1 := Lib.hid b1; clear b1)
          | (go_at_call 13; (with_reducible refine (first w1 (tabR_then HB1.out HT.out) (tabB_then HB1.out HB.out)).mono ?_); rintro e w2 ⟨rfl, b2⟩; have HB2 := Lib.hid (below_then HB1.out b2 HB1.out.size); clear b2))
        go_ret
        exact ⟨rfl, HB2.out⟩
      ·
        omega

theorem walk (a0 : Option Addr) (n0 c0 : Nat) (z0 : List Int) (a1 : Option Addr) (n1 c1 : Nat) (z1 : List Int) (a2 : Option Addr) (n2 c2 : Nat) (z2 : List Int) (W : World) (w0 : IsRow .u8 W a0 n0 c0 z0) (w1 : IsRow .u8 W a1 n1 c1 z1) (w2 : IsRow .u8 W a2 n2 c2 z2)
    (h1 : Lib.TabIs Tryd.prog W "tickertape/mac.rounds" .u32 [1116352408, 1899447441, 3049323471, 3921009573, 961987163, 1508970993, 2453635748, 2870763221, 3624381080, 310598401, 607225278, 1426881987, 1925078388, 2162078206, 2614888103, 3248222580, 3835390401, 4022224774, 264347078, 604807628, 770255983, 1249150122, 1555081692, 1996064986, 2554220882, 2821834349, 2952996808, 3210313671, 3336571891, 3584528711, 113926993, 338241895, 666307205, 773529912, 1294757372, 1396182291, 1695183700, 1986661051, 2177026350, 2456956037, 2730485921, 2820302411, 3259730800, 3345764771, 3516065817, 3600352804, 4094571909, 275423344, 430227734, 506948616, 659060556, 883997877, 958139571, 1322822218, 1537002063, 1747873779, 1955562222, 2024104815, 2227730452, 2361852424, 2428436474, 2756734187, 3204031479, 3329325298]) (h2 : Lib.TabIs Tryd.prog W "tickertape/mac.beginning" .u32 [1779033703, 3144134277, 1013904242, 2773480762, 1359893119, 2600822924, 528734635, 1541459225]) :
    Calls Tryd.prog 3 #[.slice a0 n0 c0, .slice a1 n1 c1, .slice a2 n2 c2] W fun e W' => e = .returned (.bool true) ∧ Below W.heap.size W W' := by
  have hT := tabR_of h1
  have hB := tabB_of h2
  by_cases hno : 3000 < n0 ∨ 3000 < n1 ∨ 3000 < n2
  · exact sumsOut a0 n0 c0 a1 n1 c1 a2 n2 c2 W hno hT hB
  · obtain ⟨key, rfl, kl, ks, k0, kcap, _⟩ := row_bytes w0
    obtain ⟨A, rfl, al, aS, az, acap, _⟩ := row_bytes w1
    obtain ⟨B, rfl, bl, bS, bz, bcap, _⟩ := row_bytes w2
    exact sumsIn a0 c0 key a1 c1 A a2 c2 B W ks k0 kcap kl (by omega) aS az acap al (by omega) bS bz bcap bl (by omega) hT hB

end Go.Proofs.YtmfkfpgomglplaaDoor.Ms
