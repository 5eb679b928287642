/- MacCuts: however the parts are cut. -/
import Derived.Test.YtmfkfpgomglplaaDoorMz
import Derived.Test.YtmfkfpgomglplaaDoorMf
import Derived.Test.YtmfkfpgomglplaaDoorOp
import Derived.Test.YtmfkfpgomglplaaDoorAr
set_option linter.unusedVariables false
namespace Go.Proofs.YtmfkfpgomglplaaDoor.Mu
open Go Go.RowKit Kit Mb Sha Ap Mc1 Sc Mx Sb Pd Su Pa Hm Mm Tg Mf Pk Se Op Mz Ar


/-- a copy is no nil. -/
def CpN (l : List Nat) (w : World) (e : Ending) (w' : World) : Prop := ∃ v, e = .returned v ∧ Rb w' w.heap.size v l ∧ v ≠ .slice none 0 0 ∧ Below w.heap.size w w'
set_option maxRecDepth 100000 in
theorem copySome (x : Addr) (cap : Nat) (l : List Nat) (w : World) (hm : l.length ≤ 1000000) (hc : Sl w (some x) l) : Calls Tryd.prog 14 #[.slice (some x) l.length cap] w (CpN l w) := by
  obtain ⟨i0, hi, hz0, hz1, hz2⟩ := info_parts info5
  have hown : (w.alloc (.cells #[] 5)).ownsRow w.heap.size 5 1 (.slice (some ⟨w.heap.size, 0, none⟩) 0 0) 0 [] := World.ownsRow_made w #[] 0 (Nat.le_refl _) (by simp) rfl
  have hcs := sl_cells (sl_alloc hc (.cells #[] 5))
  have hlen : (cellsOf l).length = l.length * 1 := by simp [cellsOf]
  clear hc
  go_enter Tryd.func14, Tryd.ntmps14
  go_wp2_with (at_builtin; refine wpList_append_own _ rfl _ _ 22 rfl w.heap.size 5 i0 (.int .u8 0) 1 1 Tryd.underlying22 hi hz0 hz1 hz2 rfl (by decide) _ _ _ rfl hown x l.length cap (cellsOf l) rfl hlen hcs cellsOf_one (by unfold maxLen; omega) (by omega) (by simp) ?_; intro v' w3 hown' hgrow3 hnil3)
  go_ret
  refine ⟨v', rfl, (by unfold Rb; simpa using hown'), (fun h => by have := (hnil3.1 h).1; cases this), ?_⟩
  exact ((Below.refl _ _).alloc (Nat.le_refl _) _).grown hgrow3 (by simp) (fun j hj => by cases hj; exact Nat.le_refl _)
set_option maxRecDepth 100000 in
theorem copyNone (w : World) : Calls Tryd.prog 14 #[.slice none 0 0] w (CpN [] w) := by
  obtain ⟨i0, hi, hz0, hz1, hz2⟩ := info_parts info5
  have hown : (w.alloc (.cells #[] 5)).ownsRow w.heap.size 5 1 (.slice (some ⟨w.heap.size, 0, none⟩) 0 0) 0 [] := World.ownsRow_made w #[] 0 (Nat.le_refl _) (by simp) rfl
  go_enter Tryd.func14, Tryd.ntmps14
  go_wp2_with (at_builtin; refine wpList_append_own_none rfl _ _ 22 rfl w.heap.size 5 i0 1 Tryd.underlying22 hi _ _ _ rfl hown rfl ?_)
  go_ret
  exact ⟨.slice (some ⟨w.heap.size, 0, none⟩) 0 0, rfl, hown, (fun h => by cases h), (Below.refl _ _).alloc (Nat.le_refl _) _⟩
theorem copyN (a : Option Addr) (cap : Nat) (l : List Nat) (w : World) (hm : l.length ≤ 1000000) (hc : Sl w a l) (h0 : a = none → cap = 0) : Calls Tryd.prog 14 #[.slice a l.length cap] w (CpN l w) := by
  cases a with
  | none =>
    obtain rfl := h0 rfl
    rcases hc with rfl | ⟨_, _, e, _⟩
    · exact copyNone w
    · cases e
  | some x => exact copySome x cap l w hm hc
/-- a tag of 16 bytes. -/
def TgK (T : List Nat) (w : World) (e : Ending) (w' : World) : Prop := ∃ ta tc, e = .returned (.slice ta 16 tc) ∧ Sl w' ta T ∧ 16 ≤ tc ∧ (ta = none → tc = 0) ∧ Below w.heap.size w w'
theorem tgK {T key B : List Nat} (hT : T = tagL key B) {w : World} {e : Ending} {w' : World} (h : TgP key B w e w') : TgK T w e w' := by
  subst hT
  obtain ⟨v, rfl, o, b⟩ := h
  obtain ⟨ta, tc, rfl, h1, h2, h3, h4⟩ := rb_sl o
  rw [tagL_len] at h1
  refine ⟨ta, tc, by rw [tagL_len], h2, h1, h3, b⟩
/-- Tag over one part. -/
theorem tagA (ka : Option Addr) (kn kc : Nat) (key T : List Nat) (ba : Option Addr) (n bc g : Nat) (B : List Nat) (w : World) (hT0 : T = tagL key B) (hkn : kn = key.length) (hn : n = B.length) (hg : g = w.heap.size) (ks : Sl w ka key) (k0 : ka = none → kc = 0) (kcap : key.length ≤ kc) (kl : ∀ c ∈ key, c < 256) (klen : key.length ≤ 800000)
    (bs : Sl w ba B) (b0 : ba = none → bc = 0) (bcap : B.length ≤ bc) (bl : ∀ c ∈ B, c < 256) (blen : B.length ≤ 800000) (hT : TabR w) (hB : TabB w) :
    Calls Tryd.prog 20 #[.slice ka kn kc, .slice (some ⟨g, 0, none⟩) 1 1] (w.alloc (.cells #[.slice ba n bc] 22)) (TgK T (w.alloc (.cells #[.slice ba n bc] 22))) := by
  subst hkn
  exact (tag2 ka kc key ba n bc g B w hn hg ks k0 kcap kl klen bs b0 bcap bl blen hT hB).mono fun _ _ h => tgK hT0 h
/-- Tag over three parts, one of them nil. -/
theorem tag3 (ka : Option Addr) (kc : Nat) (key T : List Nat) (xa ya : Option Addr) (xc yc p q g : Nat) (X Y B : List Nat) (w : World) (hT0 : T = tagL key B) (hB0 : X ++ Y = B) (hp : p = X.length) (hq : q = Y.length) (hg : g = w.heap.size) (ks : Sl w ka key) (k0 : ka = none → kc = 0) (kcap : key.length ≤ kc) (kl : ∀ c ∈ key, c < 256) (klen : key.length ≤ 800000)
    (xs : Sl w xa X) (x0 : xa = none → xc = 0) (xcap : X.length ≤ xc) (ys : Sl w ya Y) (y0 : ya = none → yc = 0) (ycap : Y.length ≤ yc) (bl : ∀ c ∈ B, c < 256) (blen : B.length ≤ 800000) (hT : TabR w) (hB : TabB w) :
    Calls Tryd.prog 20 #[.slice ka key.length kc, .slice (some ⟨g, 0, none⟩) 3 3] (w.alloc (.cells #[.slice xa p xc, .slice none 0 0, .slice ya q yc] 22)) (TgK T (w.alloc (.cells #[.slice xa p xc, .slice none 0 0, .slice ya q yc] 22))) := by
  subst hp hq hg hB0
  have h := tagC ka kc key (some ⟨w.heap.size, 0, none⟩) 3 [⟨xa, xc, X⟩, ⟨none, 0, []⟩, ⟨ya, yc, Y⟩] (w.alloc (.cells #[.slice xa X.length xc, .slice none 0 0, .slice ya Y.length yc] 22)) (sl_alloc ks _) k0 kcap kl klen
    ⟨.inr ⟨_, 0, rfl, fun i hi => by
      have : i = 0 ∨ i = 1 ∨ i = 2 := by simp at hi; omega
      rcases this with rfl | rfl | rfl
      · rw [Nat.zero_add, cell_of_row _ w.heap.size 0 _ 22 (0, 0) (heap_alloc_last w _)]; rfl
      · rw [Nat.zero_add, cell_of_row _ w.heap.size 1 _ 22 (0, 0) (heap_alloc_last w _)]; rfl
      · rw [Nat.zero_add, cell_of_row _ w.heap.size 2 _ 22 (0, 0) (heap_alloc_last w _)]; rfl⟩, fun p hp => by
      simp only [List.mem_cons, List.not_mem_nil, or_false] at hp
      rcases hp with rfl | rfl | rfl
      · exact ⟨sl_alloc xs _, x0, xcap, fun c hc => bl c (List.mem_append_left _ hc)⟩
      · exact ⟨.inl rfl, fun _ => rfl, Nat.le_refl _, fun c hc => by simp at hc⟩
      · exact ⟨sl_alloc ys _, y0, ycap, fun c hc => bl c (List.mem_append_right _ hc)⟩⟩ (by simp) (by simpa [catP] using blen)
    (tabR_then ((Below.refl _ w).alloc (Nat.le_refl _) _) hT) (tabB_then ((Below.refl _ w).alloc (Nat.le_refl _) _) hB)
  rw [show catP [⟨xa, xc, X⟩, ⟨none, 0, []⟩, ⟨ya, yc, Y⟩] = X ++ Y by simp [catP]] at h
  exact h.mono fun _ _ h => tgK hT0 h
theorem tag3d (ka : Option Addr) (kc : Nat) (key T : List Nat) (xa ya : Option Addr) (xc yc p q g : Nat) (X Y B : List Nat) (w : World) (hT0 : T = tagL key B) (hB0 : X ++ Y = B) (hp : p = X.length) (hq : q = Y.length) (hg : g = w.heap.size) (ks : Sl w ka key) (k0 : ka = none → kc = 0) (kcap : key.length ≤ kc) (kl : ∀ c ∈ key, c < 256) (klen : key.length ≤ 800000)
    (xs : Sl w xa X) (x0 : xa = none → xc = 0) (xcap : X.length ≤ xc) (ys : Sl w ya Y) (y0 : ya = none → yc = 0) (ycap : Y.length ≤ yc) (bl : ∀ c ∈ B, c < 256) (blen : B.length ≤ 800000) (hT : TabR w) (hB : TabB w) :
    Calls Tryd.prog 20 #[.slice ka key.length kc, .slice (some ⟨g, 0, none⟩) 3 3] (w.alloc (.cells #[.slice xa p xc, .slice none 0 0, .slice ya q yc] 22)).drew (TgK T (w.alloc (.cells #[.slice xa p xc, .slice none 0 0, .slice ya q yc] 22)).drew) :=
  tag3 ka kc key T xa ya xc yc p q g X Y B w.drew hT0 hB0 hp hq hg ks k0 kcap kl klen xs x0 xcap ys y0 ycap bl blen hT hB
theorem equalT (a1 a2 : Option Addr) (c1 c2 : Nat) (T : List Nat) (w : World) (h1 : Sl w a1 T) (h2 : Sl w a2 T) (hl : T.length = 16) (hx : ∀ c ∈ T, c < 256) :
    Calls Tryd.prog 22 #[.slice a1 16 c1, .slice a2 16 c2] w fun e w' => e = .returned (.bool true) ∧ Below w.heap.size w w' :=
  equalE a1 a2 c1 c2 16 16 T T w true hl.symm hl.symm h1 h2 hx hx (by omega) (decide_eq_true rfl).symm
theorem bytesT (a1 a2 : Option Addr) (c1 c2 : Nat) (T : List Nat) (w : World) (h1 : Sl w a1 T) (h2 : Sl w a2 T) (hl : T.length = 16) (hx : ∀ c ∈ T, c < 256) :
    Calls Tryd.prog 15 #[.slice a1 16 c1, .slice a2 16 c2] w fun e w' => e = .returned (.bool true) ∧ w = w' :=
  bytesD a1 a2 c1 c2 16 16 T T w true hl.symm hl.symm h1 h2 hx hx (decide_eq_true rfl).symm
/-- Hmac over one part: 32 bytes, at a block. -/
theorem hmacA (ka : Option Addr) (kc : Nat) (key H : List Nat) (ba : Option Addr) (bc g : Nat) (B : List Nat) (w : World) (hH : H = hmac key B) (hg : g = w.heap.size) (ks : Sl w ka key) (k0 : ka = none → kc = 0) (kcap : key.length ≤ kc) (kl : ∀ c ∈ key, c < 256) (klen : key.length ≤ 800000)
    (bs : Sl w ba B) (b0 : ba = none → bc = 0) (bcap : B.length ≤ bc) (bl : ∀ c ∈ B, c < 256) (blen : B.length ≤ 800000) (hT : TabR w) (hB : TabB w) :
    Calls Tryd.prog 18 #[.slice ka key.length kc, .slice (some ⟨g, 0, none⟩) 1 1] (w.alloc (.cells #[.slice ba B.length bc] 22)) fun e w' => ∃ hb ho hc, e = .returned (.slice (some ⟨hb, ho, none⟩) 32 hc) ∧ Cells w' hb ho H ∧ 32 ≤ hc ∧ Below w.heap.size w w' := by
  subst hH hg
  have h := hmacC ka kc key (some ⟨w.heap.size, 0, none⟩) 1 [⟨ba, bc, B⟩] (w.alloc (.cells #[.slice ba B.length bc] 22)) (sl_alloc ks _) k0 kcap kl klen
    ⟨.inr ⟨_, 0, rfl, fun i hi => by
      obtain rfl : i = 0 := by simp at hi; omega
      rw [Nat.zero_add, cell_of_row _ w.heap.size 0 _ 22 (0, 0) (heap_alloc_last w _)]; rfl⟩, fun p hp => by
      rw [List.mem_singleton.1 hp]; exact ⟨sl_alloc bs _, b0, bcap, bl⟩⟩ (by simp) (by simpa [catP] using blen)
    (tabR_then ((Below.refl _ w).alloc (Nat.le_refl _) _) hT) (tabB_then ((Below.refl _ w).alloc (Nat.le_refl _) _) hB)
  rw [show catP [⟨ba, bc, B⟩] = B by simp [catP]] at h
  refine h.mono ?_
  rintro e w' ⟨v, rfl, o, b⟩
  obtain ⟨a, c, rfl, h1, h2, h3, h4⟩ := rb_sl o
  rw [hmac_len] at h1
  obtain ⟨hb, ho, rfl, hc⟩ := sl_at h2 (by rw [hmac_len]; omega)
  exact ⟨hb, ho, c, by rw [hmac_len], hc, h1, below_then ((Below.refl _ w).alloc (Nat.le_refl _) _) b (by simp)⟩
theorem sumA (a : Option Addr) (cap : Nat) (l : List Nat) (w : World) (hs : Sl w a l) (h0 : a = none → cap = 0) (hcap : l.length ≤ cap) (hl : ∀ c ∈ l, c < 256) (hlen : l.length ≤ 900000) (hT : TabR w) (hB : TabB w) :
    Calls Tryd.prog 16 #[.slice a l.length cap] w fun e w' => ∃ sa sc, e = .returned (.slice sa 32 sc) ∧ Sl w' sa (sha l) ∧ 32 ≤ sc ∧ (sa = none → sc = 0) ∧ Below w.heap.size w w' := by
  refine (sumC a cap l w hs h0 hcap hl hlen hT hB).mono ?_
  rintro e w' ⟨v, rfl, o, b⟩
  obtain ⟨a, c, rfl, h1, h2, h3, h4⟩ := rb_sl o
  rw [sha_len] at h1
  exact ⟨a, c, by rw [sha_len], h2, h1, h3, b⟩

set_option maxRecDepth 100000 in
set_option maxHeartbeats 4000000 in
theorem cuts0 (ka : Option Addr) (kc : Nat) (key : List Nat) (aa : Option Addr) (ac : Nat) (A : List Nat) (p m : Nat) (w : World) (ks : Sl w ka key) (k0 : ka = none → kc = 0) (kcap : key.length ≤ kc) (kl : ∀ c ∈ key, c < 256) (kn : key.length ≤ 3000)
    (aS : Sl w aa A) (a0 : aa = none → ac = 0) (acap : A.length ≤ ac) (al : ∀ c ∈ A, c < 256) (an : A.length ≤ 3000) (hp : p ≤ A.length) (hm : m ≤ 64) (hc : key.length + m ≤ 64) (hT : TabR w) (hB : TabB w) :
    Calls Tryd.prog 4 #[.slice ka key.length kc, .slice aa A.length ac, .int .i64 (p : Int), .int .i64 (m : Int)] w fun e w' => e = .returned (.bool true) ∧ Below w.heap.size w w' := by
  have HS := Lib.hid ks
  have HK0 := Lib.hid k0
  have HKC := Lib.hid kcap
  have HKX := Lib.hid kl
  have HK8 := Lib.hid (show key.length ≤ 800000 by omega)
  have HK9 := Lib.hid (show key.length ≤ 900000 by omega)
  have HKM := Lib.hid (show key.length ≤ 1000000 by omega)
  have HAS := Lib.hid aS
  have HA0 := Lib.hid a0
  have HAC := Lib.hid acap
  have HAX := Lib.hid al
  have HA8 := Lib.hid (show A.length ≤ 800000 by omega)
  have HT := Lib.hid hT
  have HB := Lib.hid hB
  obtain ⟨T, hT0⟩ : ∃ T, T = tagL key A := ⟨_, rfl⟩
  have HT0 := Lib.hid hT0
  have HTL := Lib.hid (show T.length = 16 by rw [hT0]; exact tagL_len _ _)
  have HTX := Lib.hid (show ∀ c ∈ T, c < 256 by rw [hT0]; exact tagL_lt _ _)
  obtain ⟨H, hH⟩ : ∃ H, H = hmac key A := ⟨_, rfl⟩
  have HH := Lib.hid hH
  have HHT := Lib.hid (show T = H.take 16 by rw [hT0, hH]; rfl)
  obtain ⟨L, hL⟩ : ∃ L, L = key ++ zs m := ⟨_, rfl⟩
  have HL := Lib.hid hL
  have hLl : L.length = key.length + m := by rw [hL]; simp [zs]
  have HLX := Lib.hid (show ∀ c ∈ L, c < 256 by
    rw [hL]; intro c hc
    rcases List.mem_append.1 hc with h | h
    · exact kl c h
    · have := (List.mem_replicate.1 h).2; omega)
  have HL8 := Lib.hid (show L.length ≤ 800000 by omega)
  have HZT := Lib.hid (fun h : key.length + m ≤ 64 => show T = tagL L A by rw [hT0, hL]; exact (tagL_zero key A m h).symm)
  have HST := Lib.hid (fun h : 64 < key.length => show T = tagL (sha key) A by rw [hT0]; exact (tagL_long key A h).symm)
  obtain ⟨x1, y1, e1, s1, l1, z1, _⟩ := sub_val aS a0 acap 0 p (Nat.zero_le _) hp
  obtain ⟨x2, y2, e2, s2, l2, z2, _⟩ := sub_val aS a0 acap p A.length hp (Nat.le_refl _)
  have hs1 : ∀ w1 : World, (Instr.sliceAt 22 (.slice aa A.length ac) none (some (.int .i64 (p : Int))) none).run Tryd.prog w1 = .ok (.slice x1 p y1) w1 := fun w1 => by
    rw [run_sub aa A.length ac none (some (.int .i64 (p : Int))) 0 p w1 lo_none (hi_some rfl) (Nat.zero_le _) hp acap, e1]; rfl
  have hs2 : ∀ w1 : World, (Instr.sliceAt 22 (.slice aa A.length ac) (some (.int .i64 (p : Int))) none none).run Tryd.prog w1 = .ok (.slice x2 (A.length - p) y2) w1 := fun w1 => by
    rw [run_sub aa A.length ac (some (.int .i64 (p : Int))) none p A.length w1 (lo_some rfl) (hi_none _) hp (Nat.le_refl _) acap, e2]
  obtain ⟨X, hX⟩ : ∃ X, X = (A.drop 0).take (p - 0) := ⟨_, rfl⟩
  obtain ⟨Y, hY⟩ : ∃ Y, Y = (A.drop p).take (A.length - p) := ⟨_, rfl⟩
  rw [← hX] at s1
  rw [← hY] at s2
  have HX1 := Lib.hid s1
  have HX2 := Lib.hid s2
  have HXZ1 := Lib.hid z1
  have HXZ2 := Lib.hid z2
  have HXL := Lib.hid (show p = X.length by rw [hX]; simp; omega)
  have HYL := Lib.hid (show A.length - p = Y.length by rw [hY]; simp)
  have HXC := Lib.hid (show X.length ≤ y1 by rw [← HXL.out]; simpa using l1)
  have HYC := Lib.hid (show Y.length ≤ y2 by rw [← HYL.out]; exact l2)
  have HXY := Lib.hid (show X ++ Y = A by rw [hX, hY, List.drop_zero, Nat.sub_zero, List.take_of_length_le (l := A.drop p) (by simp), List.take_append_drop])
  have t1 : ¬ 3000 < (key.length : Int) := by omega
  have t2 : ¬ 3000 < (A.length : Int) := by omega
  have t3 : ¬ (p : Int) < 0 := by omega
  have t4 : ¬ (A.length : Int) < (p : Int) := by omega
  have t5 : ¬ (m : Int) < 0 := by omega
  have t6 : ¬ 64 < (m : Int) := by omega
  have HM := Lib.hid (show m ≤ 1000000 by omega)
  have HSH := Lib.hid hc
  have tL : (L.length : Int) ≤ 64 := by omega
  have tK : (key.length : Int) ≤ 64 := by omega
  clear hc
  clear ks k0 kcap kl aS a0 acap al hT hB hT0 hH hL s1 s2 z1 z2 l1 l2 e1 e2 hX hY hp hm kn an hLl
  go_enter Tryd.func4, Tryd.ntmps4
  go_wp2_with (first
    | (go_at_call 13; (with_reducible refine (first w HT.out HB.out).mono ?_); rintro e w1 ⟨rfl, b1⟩; have HB1 := Lib.hid b1; clear b1)
    | (go_at_call 20; (with_reducible refine (tagA ka key.length kc key T aa A.length ac w1.heap.size A w1 HT0.out rfl rfl rfl (sl_then HB1.out (Nat.le_refl _) HS.out) HK0.out HKC.out HKX.out HK8.out (sl_then HB1.out (Nat.le_refl _) HAS.out) HA0.out HAC.out HAX.out HA8.out (tabR_then HB1.out HT.out) (tabB_then HB1.out HB.out)).mono ?_); rintro e w2 ⟨ta, tc, rfl, q1, q2, q3, q4⟩; have HTS := Lib.hid q1; have HTC := Lib.hid q2; have HTZ := Lib.hid q3; have HB2 := Lib.hid (below_then (HB1.out.alloc HB1.out.size _) q4 (by have := HB1.out.size; simp; omega)); clear q1 q2 q3 q4)
    | (go_at_call 14; (with_reducible refine (copyN ka kc key w2 HKM.out (sl_then HB2.out (Nat.le_refl _) HS.out) HK0.out).mono ?_); rintro e w3 ⟨v3, rfl, q1, q2, q3⟩; have HO3 := Lib.hid q1; have HN3 := Lib.hid q2; have HB3 := Lib.hid (below_then HB2.out q3 HB2.out.size); have HS3 := Lib.hid q3.size; have KB23 := Lib.hid q3; clear q1 q2 q3)
    | (at_builtin; refine app_zeros rfl _ _ rfl w2.heap.size _ key rfl HO3.out HN3.out m rfl HM.out HKM.out HS3.out ?_; intro v4 w4 o4 b4; rw [← HL.out] at o4; obtain ⟨la, lc, rfl, q1, q2, q3, q5⟩ := rb_sl o4; have HLC := Lib.hid q1; have HLS := Lib.hid q2; have HLZ := Lib.hid q3; have HB4 := Lib.hid (b4 _ _ HB2.out.size HB3.out); have HT4 := Lib.hid (sl_then (b4 _ _ (Nat.le_refl _) (show Below w2.heap.size w2 w3 from KB23.out)) (Nat.le_refl _) HTS.out); clear q1 q2 q3 q5 o4 b4))
  clear t1 t2 t3 t4 t5 t6
  refine wp_region_held_drew (S := (fun _ => True)) (by kernel_rfl) ?_ (fun hHeld => ?_)
  · ((try dsimp only); (first | done | trivial))
  refine wpAnyH_take (i := 0) (oi := { dst := some 49, op := Op.move (Operand.tmp 9), type := 22, pos := _, after := #[], guard := none }) (v := ?_) rfl (by kernel_rfl) (by kernel_rfl) (by kernel_rfl) (fun _ _ _ h => h) (Or.inl ⟨by rfl, ?_⟩) (by assumption) ?_
  rotate_left
  · ((intro w hSw); (try dsimp only at hSw); go_simp; (try with_reducible rfl))
  try simp only [Act.put, List.setIfInBounds_toArray, List.set_cons_zero, List.set_cons_succ]
  refine wpAnyH_take (i := 1) (oi := { dst := some 50, op := Op.call { callee := Callee.builtin Builtin.len, args := #[Operand.tmp 49], argTypes := #[22] }, type := 3, pos := _, after := #[{ on := 0, ground := Ground.data }], guard := none }) (v := ?_) rfl (by kernel_rfl) (by kernel_rfl) (by kernel_rfl) (fun _ _ _ h => h) (Or.inl ⟨by rfl, ?_⟩) (by assumption) ?_
  rotate_left
  · ((intro w hSw); (try dsimp only at hSw); go_simp; (try with_reducible rfl))
  try simp only [Act.put, List.setIfInBounds_toArray, List.set_cons_zero, List.set_cons_succ]
  refine wpAnyH_take (i := 2) (oi := { dst := some 51, op := Op.binOp BinOp.neq 3 (Operand.tmp 50) (Operand.const (Value.int IntKind.i64 16)) 3, type := 4, pos := _, after := #[{ on := 1, ground := Ground.data }], guard := none }) (v := ?_) rfl (by kernel_rfl) (by kernel_rfl) (by kernel_rfl) (fun _ _ _ h => h) (Or.inl ⟨by rfl, ?_⟩) (by assumption) ?_
  rotate_left
  · ((intro w hSw); (try dsimp only at hSw); go_simp; (try with_reducible rfl))
  try simp only [Act.put, List.setIfInBounds_toArray, List.set_cons_zero, List.set_cons_succ]
  refine wpAnyH_take (i := 3) (oi := { dst := some 52, op := Op.move (Operand.tmp 51), type := 4, pos := _, after := #[{ on := 2, ground := Ground.data }], guard := none }) (v := ?_) rfl (by kernel_rfl) (by kernel_rfl) (by kernel_rfl) (fun _ _ _ h => h) (Or.inl ⟨by rfl, ?_⟩) (by assumption) ?_
  rotate_left
  · ((intro w hSw); (try dsimp only at hSw); go_simp; (try with_reducible rfl))
  try simp only [Act.put, List.setIfInBounds_toArray, List.set_cons_zero, List.set_cons_succ]
  refine wpAnyH_take (i := 4) (oi := { dst := some 53, op := Op.move (Operand.tmp 9), type := 22, pos := _, after := #[{ on := 3, ground := Ground.guard }], guard := some (3, false) }) (v := ?_) rfl (by kernel_rfl) (by kernel_rfl) (by kernel_rfl) (fun _ _ _ h => h) (Or.inl ⟨by rfl, ?_⟩) (by assumption) ?_
  rotate_left
  · ((intro w hSw); (try dsimp only at hSw); go_simp; (try with_reducible rfl))
  try simp only [Act.put, List.setIfInBounds_toArray, List.set_cons_zero, List.set_cons_succ]
  refine wpAnyH_take (i := 5) (oi := { dst := some 54, op := Op.move (Operand.tmp 0), type := 22, pos := _, after := #[{ on := 3, ground := Ground.guard }], guard := some (3, false) }) (v := ?_) rfl (by kernel_rfl) (by kernel_rfl) (by kernel_rfl) (fun _ _ _ h => h) (Or.inl ⟨by rfl, ?_⟩) (by assumption) ?_
  rotate_left
  · ((intro w hSw); (try dsimp only at hSw); go_simp; (try with_reducible rfl))
  try simp only [Act.put, List.setIfInBounds_toArray, List.set_cons_zero, List.set_cons_succ]
  refine wpAnyH_take (i := 6) (oi := { dst := some 55, op := Op.move (Operand.tmp 1), type := 22, pos := _, after := #[{ on := 3, ground := Ground.guard }], guard := some (3, false) }) (v := ?_) rfl (by kernel_rfl) (by kernel_rfl) (by kernel_rfl) (fun _ _ _ h => h) (Or.inl ⟨by rfl, ?_⟩) (by assumption) ?_
  rotate_left
  · ((intro w hSw); (try dsimp only at hSw); go_simp; (try with_reducible rfl))
  try simp only [Act.put, List.setIfInBounds_toArray, List.set_cons_zero, List.set_cons_succ]
  refine wpAnyH_take (i := 7) (oi := { dst := some 56, op := Op.move (Operand.tmp 2), type := 3, pos := _, after := #[{ on := 3, ground := Ground.guard }], guard := some (3, false) }) (v := ?_) rfl (by kernel_rfl) (by kernel_rfl) (by kernel_rfl) (fun _ _ _ h => h) (Or.inl ⟨by rfl, ?_⟩) (by assumption) ?_
  rotate_left
  · ((intro w hSw); (try dsimp only at hSw); go_simp; (try with_reducible rfl))
  try simp only [Act.put, List.setIfInBounds_toArray, List.set_cons_zero, List.set_cons_succ]
  refine wpAnyH_take (i := 8) (oi := { dst := some 57, op := Op.slice 22 (Operand.tmp 55) none (some (Operand.tmp 56)) none, type := 22, pos := _, after := #[{ on := 6, ground := Ground.data }, { on := 7, ground := Ground.data }, { on := 3, ground := Ground.guard }], guard := some (3, false) }) (v := ?_) rfl (by kernel_rfl) (by kernel_rfl) (by kernel_rfl) (fun _ _ _ h => h) (Or.inl ⟨by rfl, ?_⟩) (by assumption) ?_
  rotate_left
  · ((intro w hSw); (try dsimp only at hSw); go_simp; (try with_reducible rfl))
  try simp only [Act.put, List.setIfInBounds_toArray, List.set_cons_zero, List.set_cons_succ]
  refine wpAnyH_take (i := 9) (oi := { dst := some 58, op := Op.move (Operand.tmp 1), type := 22, pos := _, after := #[{ on := 3, ground := Ground.guard }], guard := some (3, false) }) (v := ?_) rfl (by kernel_rfl) (by kernel_rfl) (by kernel_rfl) (fun _ _ _ h => h) (Or.inl ⟨by rfl, ?_⟩) (by assumption) ?_
  rotate_left
  · ((intro w hSw); (try dsimp only at hSw); go_simp; (try with_reducible rfl))
  try simp only [Act.put, List.setIfInBounds_toArray, List.set_cons_zero, List.set_cons_succ]
  refine wpAnyH_take (i := 10) (oi := { dst := some 59, op := Op.move (Operand.tmp 2), type := 3, pos := _, after := #[{ on := 3, ground := Ground.guard }], guard := some (3, false) }) (v := ?_) rfl (by kernel_rfl) (by kernel_rfl) (by kernel_rfl) (fun _ _ _ h => h) (Or.inl ⟨by rfl, ?_⟩) (by assumption) ?_
  rotate_left
  · ((intro w hSw); (try dsimp only at hSw); go_simp; (try with_reducible rfl))
  try simp only [Act.put, List.setIfInBounds_toArray, List.set_cons_zero, List.set_cons_succ]
  refine wpAnyH_take (i := 11) (oi := { dst := some 60, op := Op.slice 22 (Operand.tmp 58) (some (Operand.tmp 59)) none none, type := 22, pos := _, after := #[{ on := 9, ground := Ground.data }, { on := 10, ground := Ground.data }, { on := 3, ground := Ground.guard }], guard := some (3, false) }) (v := ?_) rfl (by kernel_rfl) (by kernel_rfl) (by kernel_rfl) (fun _ _ _ h => h) (Or.inl ⟨by rfl, ?_⟩) (by assumption) ?_
  rotate_left
  · ((intro w hSw); (try dsimp only at hSw); go_simp; (try with_reducible rfl))
  try simp only [Act.put, List.setIfInBounds_toArray, List.set_cons_zero, List.set_cons_succ]
  refine wpAnyH_ready (rs := [12]) (by kernel_rfl) (by simp) ?_
  refine (AllReadyH.cons (o := { dst := some 61, op := Op.buildSlice 31 3 #[(0, Operand.tmp 57), (1, Operand.const (Value.slice none 0 0)), (2, Operand.tmp 60)], type := 31, pos := _, after := #[{ on := 8, ground := Ground.data }, { on := 11, ground := Ground.data }, { on := 3, ground := Ground.guard }], guard := some (3, false) }) rfl (fun K hK => ?_) AllReadyH.nil)
  go_simp
  refine hK.out _ _ ?_ (fun hHeld => ?_)
  · ((try dsimp only); (first | done | trivial))
  clear hK K
  try simp only [Act.put, List.setIfInBounds_toArray, List.set_cons_zero, List.set_cons_succ]
  refine wpAnyH_ready (rs := [13]) (by kernel_rfl) (by simp) ?_
  refine (AllReadyH.cons (o := { dst := some 62, op := Op.call { callee := Callee.value (Operand.func 20), args := #[Operand.tmp 54, Operand.tmp 61], argTypes := #[22, 31] }, type := 22, pos := _, after := #[{ on := 5, ground := Ground.data }, { on := 12, ground := Ground.data }, { on := 3, ground := Ground.chain }, { on := 3, ground := Ground.guard }], guard := some (3, false) }) rfl (fun K hK => ?_) AllReadyH.nil)
  go_simp
  go_at_call 20
  (with_reducible refine (tag3d ka kc key T x1 x2 y1 y2 p (A.length - p) w4.heap.size X Y A w4 HT0.out HXY.out HXL.out HYL.out rfl (sl_then HB4.out (Nat.le_refl _) HS.out) HK0.out HKC.out HKX.out HK8.out (sl_then HB4.out (Nat.le_refl _) HX1.out) HXZ1.out HXC.out (sl_then HB4.out (Nat.le_refl _) HX2.out) HXZ2.out HYC.out HAX.out HA8.out (tabR_then HB4.out HT.out) (tabB_then HB4.out HB.out)).mono ?_)
  rintro e w5 ⟨ua, uc, rfl, q1, q2, q3, q4⟩
  have HU := Lib.hid q1
  have HB5 := Lib.hid (below_then (HB4.out.alloc HB4.out.size _).drew q4 (by have := HB4.out.size; simp; omega))
  have KB45 := Lib.hid (below_then ((Below.refl w4.heap.size w4).alloc (Nat.le_refl _) _).drew q4 (by simp))
  clear q1 q2 q3 q4
  go_wp2_with fail
  refine hK.out _ _ ?_ (fun hHeld => ?_)
  · ((try dsimp only); (first | done | trivial))
  clear hK K
  try simp only [Act.put, List.setIfInBounds_toArray, List.set_cons_zero, List.set_cons_succ]
  refine wpAnyH_ready (rs := [14]) (by kernel_rfl) (by simp) ?_
  refine (AllReadyH.cons (o := { dst := some 63, op := Op.call { callee := Callee.value (Operand.func 22), args := #[Operand.tmp 53, Operand.tmp 62], argTypes := #[22, 22] }, type := 4, pos := _, after := #[{ on := 4, ground := Ground.data }, { on := 13, ground := Ground.data }, { on := 13, ground := Ground.chain }, { on := 3, ground := Ground.guard }], guard := some (3, false) }) rfl (fun K hK => ?_) AllReadyH.nil)
  go_simp
  go_at_call 22
  (with_reducible refine (equalT ta ua tc uc T w5 (sl_then KB45.out (Nat.le_refl _) HT4.out) HU.out HTL.out HTX.out).mono ?_)
  rintro e w6 ⟨rfl, b6⟩
  have HB6 := Lib.hid (below_then HB5.out b6 HB5.out.size)
  have KB46 := Lib.hid (below_then KB45.out b6 KB45.out.size)
  clear b6
  go_wp2_with fail
  refine hK.out _ _ ?_ (fun hHeld => ?_)
  · ((try dsimp only); (first | done | trivial))
  clear hK K
  try simp only [Act.put, List.setIfInBounds_toArray, List.set_cons_zero, List.set_cons_succ]
  refine wpAnyH_take (i := 15) (oi := { dst := some 64, op := Op.unOp UnOp.not 4 (Operand.tmp 63), type := 4, pos := _, after := #[{ on := 14, ground := Ground.data }, { on := 3, ground := Ground.guard }], guard := some (3, false) }) (v := ?_) rfl (by kernel_rfl) (by kernel_rfl) (by kernel_rfl) (fun _ _ _ h => h) (Or.inl ⟨by rfl, ?_⟩) (by assumption) ?_
  rotate_left
  · ((intro w hSw); (try dsimp only at hSw); go_simp; (try with_reducible rfl))
  try simp only [Act.put, List.setIfInBounds_toArray, List.set_cons_zero, List.set_cons_succ]
  refine wpAnyH_take (i := 16) (oi := { dst := some 65, op := Op.pick (Operand.tmp 52) (Operand.const (Value.bool true)) (Operand.tmp 64), type := 4, pos := _, after := #[{ on := 3, ground := Ground.data }, { on := 15, ground := Ground.data }], guard := none }) (v := ?_) rfl (by kernel_rfl) (by kernel_rfl) (by kernel_rfl) (fun _ _ _ h => h) (Or.inl ⟨by rfl, ?_⟩) (by assumption) ?_
  rotate_left
  · ((intro w hSw); (try dsimp only at hSw); go_simp; (try with_reducible rfl))
  try simp only [Act.put, List.setIfInBounds_toArray, List.set_cons_zero, List.set_cons_succ]
  refine wpAnyH_take (i := 17) (oi := { dst := some 66, op := Op.move (Operand.tmp 65), type := 4, pos := _, after := #[{ on := 16, ground := Ground.data }, { on := 14, ground := Ground.chain }], guard := none }) (v := ?_) rfl (by kernel_rfl) (by kernel_rfl) (by kernel_rfl) (fun _ _ _ h => h) (Or.inl ⟨by rfl, ?_⟩) (by assumption) ?_
  rotate_left
  · ((intro w hSw); (try dsimp only at hSw); go_simp; (try with_reducible rfl))
  try simp only [Act.put, List.setIfInBounds_toArray, List.set_cons_zero, List.set_cons_succ]
  refine wpAnyH_take (i := 18) (oi := { dst := some 67, op := Op.move (Operand.tmp 10), type := 22, pos := _, after := #[{ on := 17, ground := Ground.guard }], guard := some (17, false) }) (v := ?_) rfl (by kernel_rfl) (by kernel_rfl) (by kernel_rfl) (fun _ _ _ h => h) (Or.inl ⟨by rfl, ?_⟩) (by assumption) ?_
  rotate_left
  · ((intro w hSw); (try dsimp only at hSw); go_simp; (try with_reducible rfl))
  try simp only [Act.put, List.setIfInBounds_toArray, List.set_cons_zero, List.set_cons_succ]
  refine wpAnyH_take (i := 19) (oi := { dst := some 68, op := Op.call { callee := Callee.builtin Builtin.len, args := #[Operand.tmp 67], argTypes := #[22] }, type := 3, pos := _, after := #[{ on := 18, ground := Ground.data }, { on := 17, ground := Ground.guard }], guard := some (17, false) }) (v := ?_) rfl (by kernel_rfl) (by kernel_rfl) (by kernel_rfl) (fun _ _ _ h => h) (Or.inl ⟨by rfl, ?_⟩) (by assumption) ?_
  rotate_left
  · ((intro w hSw); (try dsimp only at hSw); go_simp; (try with_reducible rfl))
  try simp only [Act.put, List.setIfInBounds_toArray, List.set_cons_zero, List.set_cons_succ]
  refine wpAnyH_take (i := 20) (oi := { dst := some 69, op := Op.binOp BinOp.leq 3 (Operand.tmp 68) (Operand.const (Value.int IntKind.i64 64)) 3, type := 4, pos := _, after := #[{ on := 19, ground := Ground.data }, { on := 17, ground := Ground.guard }], guard := some (17, false) }) (v := ?_) rfl (by kernel_rfl) (by kernel_rfl) (by kernel_rfl) (fun _ _ _ h => h) (Or.inl ⟨by rfl, ?_⟩) (by assumption) ?_
  rotate_left
  · ((intro w hSw); (try dsimp only at hSw); go_simp; (try with_reducible rfl))
  try simp only [Act.put, List.setIfInBounds_toArray, List.set_cons_zero, List.set_cons_succ]
  refine wpAnyH_take (i := 21) (oi := { dst := some 70, op := Op.move (Operand.tmp 69), type := 4, pos := _, after := #[{ on := 20, ground := Ground.data }, { on := 17, ground := Ground.chain }, { on := 17, ground := Ground.guard }], guard := some (17, false) }) (v := ?_) rfl (by kernel_rfl) (by kernel_rfl) (by kernel_rfl) (fun _ _ _ h => h) (Or.inl ⟨by rfl, ?_⟩) (by assumption) ?_
  rotate_left
  · ((intro w hSw); (try dsimp only at hSw); go_simp; (try with_reducible rfl))
  try simp only [Act.put, List.setIfInBounds_toArray, List.set_cons_zero, List.set_cons_succ]
  refine wpAnyH_take (i := 22) (oi := { dst := some 71, op := Op.move (Operand.tmp 10), type := 22, pos := _, after := #[{ on := 21, ground := Ground.guard }], guard := some (21, true) }) (v := ?_) rfl (by kernel_rfl) (by kernel_rfl) (by kernel_rfl) (fun _ _ _ h => h) (Or.inl ⟨by rfl, ?_⟩) (by assumption) ?_
  rotate_left
  · ((intro w hSw); (try dsimp only at hSw); go_simp; (try with_reducible rfl))
  try simp only [Act.put, List.setIfInBounds_toArray, List.set_cons_zero, List.set_cons_succ]
  refine wpAnyH_take (i := 23) (oi := { dst := some 72, op := Op.move (Operand.tmp 1), type := 22, pos := _, after := #[{ on := 21, ground := Ground.guard }], guard := some (21, true) }) (v := ?_) rfl (by kernel_rfl) (by kernel_rfl) (by kernel_rfl) (fun _ _ _ h => h) (Or.inl ⟨by rfl, ?_⟩) (by assumption) ?_
  rotate_left
  · ((intro w hSw); (try dsimp only at hSw); go_simp; (try with_reducible rfl))
  try simp only [Act.put, List.setIfInBounds_toArray, List.set_cons_zero, List.set_cons_succ]
  refine wpAnyH_take (i := 26) (oi := { dst := some 75, op := Op.move (Operand.tmp 9), type := 22, pos := _, after := #[{ on := 21, ground := Ground.guard }], guard := some (21, true) }) (v := ?_) rfl (by kernel_rfl) (by kernel_rfl) (by kernel_rfl) (fun _ _ _ h => h) (Or.inl ⟨by rfl, ?_⟩) (by assumption) ?_
  rotate_left
  · ((intro w hSw); (try dsimp only at hSw); go_simp; (try with_reducible rfl))
  try simp only [Act.put, List.setIfInBounds_toArray, List.set_cons_zero, List.set_cons_succ]
  refine wpAnyH_ready (rs := [24]) (by kernel_rfl) (by simp) ?_
  refine (AllReadyH.cons (o := { dst := some 73, op := Op.buildSlice 31 1 #[(0, Operand.tmp 72)], type := 31, pos := _, after := #[{ on := 23, ground := Ground.data }, { on := 21, ground := Ground.guard }], guard := some (21, true) }) rfl (fun K hK => ?_) AllReadyH.nil)
  go_simp
  refine hK.out _ _ ?_ (fun hHeld => ?_)
  · ((try dsimp only); (first | done | trivial))
  clear hK K
  try simp only [Act.put, List.setIfInBounds_toArray, List.set_cons_zero, List.set_cons_succ]
  refine wpAnyH_ready (rs := [25]) (by kernel_rfl) (by simp) ?_
  refine (AllReadyH.cons (o := { dst := some 74, op := Op.call { callee := Callee.value (Operand.func 20), args := #[Operand.tmp 71, Operand.tmp 73], argTypes := #[22, 31] }, type := 22, pos := _, after := #[{ on := 22, ground := Ground.data }, { on := 24, ground := Ground.data }, { on := 21, ground := Ground.chain }, { on := 21, ground := Ground.guard }], guard := some (21, true) }) rfl (fun K hK => ?_) AllReadyH.nil)
  go_simp
  go_at_call 20
  (with_reducible refine (tagA la L.length lc L T aa A.length ac w6.heap.size A w6 (HZT.out HSH.out) rfl rfl rfl (sl_then KB46.out (Nat.le_refl _) HLS.out) HLZ.out HLC.out HLX.out HL8.out (sl_then HB6.out (Nat.le_refl _) HAS.out) HA0.out HAC.out HAX.out HA8.out (tabR_then HB6.out HT.out) (tabB_then HB6.out HB.out)).mono ?_)
  rintro e w7 ⟨va, vc, rfl, q1, q2, q3, q4⟩
  have HV := Lib.hid q1
  have HB7 := Lib.hid (below_then (HB6.out.alloc HB6.out.size _) q4 (by have := HB6.out.size; simp; omega))
  have KB47 := Lib.hid (below_then (KB46.out.alloc KB46.out.size _) q4 (by have := KB46.out.size; simp; omega))
  clear q1 q2 q3 q4
  go_wp2_with fail
  refine hK.out _ _ ?_ (fun hHeld => ?_)
  · ((try dsimp only); (first | done | trivial))
  clear hK K
  try simp only [Act.put, List.setIfInBounds_toArray, List.set_cons_zero, List.set_cons_succ]
  refine wpAnyH_ready (rs := [27]) (by kernel_rfl) (by simp) ?_
  refine (AllReadyH.cons (o := { dst := some 76, op := Op.call { callee := Callee.value (Operand.func 22), args := #[Operand.tmp 74, Operand.tmp 75], argTypes := #[22, 22] }, type := 4, pos := _, after := #[{ on := 25, ground := Ground.data }, { on := 26, ground := Ground.data }, { on := 25, ground := Ground.chain }, { on := 21, ground := Ground.guard }], guard := some (21, true) }) rfl (fun K hK => ?_) AllReadyH.nil)
  go_simp
  go_at_call 22
  (with_reducible refine (equalT va ta vc tc T w7 HV.out (sl_then KB47.out (Nat.le_refl _) HT4.out) HTL.out HTX.out).mono ?_)
  rintro e w8 ⟨rfl, b8⟩
  have HB8 := Lib.hid (below_then HB7.out b8 HB7.out.size)
  have KB48 := Lib.hid (below_then KB47.out b8 KB47.out.size)
  clear b8
  go_wp2_with fail
  refine hK.out _ _ ?_ (fun hHeld => ?_)
  · ((try dsimp only); (first | done | trivial))
  clear hK K
  try simp only [Act.put, List.setIfInBounds_toArray, List.set_cons_zero, List.set_cons_succ]
  refine wpAnyH_take (i := 28) (oi := { dst := some 77, op := Op.unOp UnOp.not 4 (Operand.tmp 76), type := 4, pos := _, after := #[{ on := 27, ground := Ground.data }, { on := 21, ground := Ground.guard }], guard := some (21, true) }) (v := ?_) rfl (by kernel_rfl) (by kernel_rfl) (by kernel_rfl) (fun _ _ _ h => h) (Or.inl ⟨by rfl, ?_⟩) (by assumption) ?_
  rotate_left
  · ((intro w hSw); (try dsimp only at hSw); go_simp; (try with_reducible rfl))
  try simp only [Act.put, List.setIfInBounds_toArray, List.set_cons_zero, List.set_cons_succ]
  refine wpAnyH_take (i := 29) (oi := { dst := some 78, op := Op.pick (Operand.tmp 70) (Operand.tmp 77) (Operand.const (Value.bool false)), type := 4, pos := _, after := #[{ on := 21, ground := Ground.data }, { on := 28, ground := Ground.data }, { on := 17, ground := Ground.guard }], guard := some (17, false) }) (v := ?_) rfl (by kernel_rfl) (by kernel_rfl) (by kernel_rfl) (fun _ _ _ h => h) (Or.inl ⟨by rfl, ?_⟩) (by assumption) ?_
  rotate_left
  · ((intro w hSw); (try dsimp only at hSw); go_simp; (try with_reducible rfl))
  try simp only [Act.put, List.setIfInBounds_toArray, List.set_cons_zero, List.set_cons_succ]
  refine wpAnyH_take (i := 30) (oi := { dst := some 79, op := Op.pick (Operand.tmp 66) (Operand.const (Value.bool true)) (Operand.tmp 78), type := 4, pos := _, after := #[{ on := 17, ground := Ground.data }, { on := 29, ground := Ground.data }], guard := none }) (v := ?_) rfl (by kernel_rfl) (by kernel_rfl) (by kernel_rfl) (fun _ _ _ h => h) (Or.inl ⟨by rfl, ?_⟩) (by assumption) ?_
  rotate_left
  · ((intro w hSw); (try dsimp only at hSw); go_simp; (try with_reducible rfl))
  try simp only [Act.put, List.setIfInBounds_toArray, List.set_cons_zero, List.set_cons_succ]
  refine wpAnyH_done (by kernel_rfl) ?_ _
  go_wp2_with (first
    | (go_at_call 18; (with_reducible refine (hmacA ka kc key H aa ac w8.heap.size A w8 HH.out rfl (sl_then HB8.out (Nat.le_refl _) HS.out) HK0.out HKC.out HKX.out HK8.out (sl_then HB8.out (Nat.le_refl _) HAS.out) HA0.out HAC.out HAX.out HA8.out (tabR_then HB8.out HT.out) (tabB_then HB8.out HB.out)).mono ?_); rintro e w9 ⟨hb, ho, hc, rfl, q1, q2, q3⟩; have HHC := Lib.hid q1; have HB9 := Lib.hid (below_then HB8.out q3 HB8.out.size); have KB49 := Lib.hid (below_then KB48.out q3 KB48.out.size); have h16 : (16 : Int) ≤ (hc : Int) := (by omega); have hc0 : ¬ hc = 0 := (by omega); clear q1 q2 q3)
    | (go_at_call 13; (with_reducible refine (first w9 (tabR_then HB9.out HT.out) (tabB_then HB9.out HB.out)).mono ?_); rintro e wa ⟨rfl, ba⟩; have HBa := Lib.hid (below_then HB9.out ba HB9.out.size); have KB4a := Lib.hid (below_then KB49.out ba KB49.out.size); have HHa := Lib.hid (cells_then ba (Nat.le_refl _) HHC.out); clear ba)
    | (go_at_call 15; (with_reducible refine (bytesT (some ⟨hb, ho, none⟩) ta hc tc T wa (sl_take HHa.out 16 T HHT.out) (sl_then KB4a.out (Nat.le_refl _) HT4.out) HTL.out HTX.out).mono ?_); rintro e w' ⟨rfl, rfl⟩))
  go_ret
  exact ⟨rfl, HBa.out⟩

set_option maxRecDepth 100000 in
set_option maxHeartbeats 4000000 in
theorem cuts1 (ka : Option Addr) (kc : Nat) (key : List Nat) (aa : Option Addr) (ac : Nat) (A : List Nat) (p m : Nat) (w : World) (ks : Sl w ka key) (k0 : ka = none → kc = 0) (kcap : key.length ≤ kc) (kl : ∀ c ∈ key, c < 256) (kn : key.length ≤ 3000)
    (aS : Sl w aa A) (a0 : aa = none → ac = 0) (acap : A.length ≤ ac) (al : ∀ c ∈ A, c < 256) (an : A.length ≤ 3000) (hp : p ≤ A.length) (hm : m ≤ 64) (hc : 64 < key.length + m) (hk : key.length ≤ 64) (hT : TabR w) (hB : TabB w) :
    Calls Tryd.prog 4 #[.slice ka key.length kc, .slice aa A.length ac, .int .i64 (p : Int), .int .i64 (m : Int)] w fun e w' => e = .returned (.bool true) ∧ Below w.heap.size w w' := by
  have HS := Lib.hid ks
  have HK0 := Lib.hid k0
  have HKC := Lib.hid kcap
  have HKX := Lib.hid kl
  have HK8 := Lib.hid (show key.length ≤ 800000 by omega)
  have HK9 := Lib.hid (show key.length ≤ 900000 by omega)
  have HKM := Lib.hid (show key.length ≤ 1000000 by omega)
  have HAS := Lib.hid aS
  have HA0 := Lib.hid a0
  have HAC := Lib.hid acap
  have HAX := Lib.hid al
  have HA8 := Lib.hid (show A.length ≤ 800000 by omega)
  have HT := Lib.hid hT
  have HB := Lib.hid hB
  obtain ⟨T, hT0⟩ : ∃ T, T = tagL key A := ⟨_, rfl⟩
  have HT0 := Lib.hid hT0
  have HTL := Lib.hid (show T.length = 16 by rw [hT0]; exact tagL_len _ _)
  have HTX := Lib.hid (show ∀ c ∈ T, c < 256 by rw [hT0]; exact tagL_lt _ _)
  obtain ⟨H, hH⟩ : ∃ H, H = hmac key A := ⟨_, rfl⟩
  have HH := Lib.hid hH
  have HHT := Lib.hid (show T = H.take 16 by rw [hT0, hH]; rfl)
  obtain ⟨L, hL⟩ : ∃ L, L = key ++ zs m := ⟨_, rfl⟩
  have HL := Lib.hid hL
  have hLl : L.length = key.length + m := by rw [hL]; simp [zs]
  have HLX := Lib.hid (show ∀ c ∈ L, c < 256 by
    rw [hL]; intro c hc
    rcases List.mem_append.1 hc with h | h
    · exact kl c h
    · have := (List.mem_replicate.1 h).2; omega)
  have HL8 := Lib.hid (show L.length ≤ 800000 by omega)
  have HZT := Lib.hid (fun h : key.length + m ≤ 64 => show T = tagL L A by rw [hT0, hL]; exact (tagL_zero key A m h).symm)
  have HST := Lib.hid (fun h : 64 < key.length => show T = tagL (sha key) A by rw [hT0]; exact (tagL_long key A h).symm)
  obtain ⟨x1, y1, e1, s1, l1, z1, _⟩ := sub_val aS a0 acap 0 p (Nat.zero_le _) hp
  obtain ⟨x2, y2, e2, s2, l2, z2, _⟩ := sub_val aS a0 acap p A.length hp (Nat.le_refl _)
  have hs1 : ∀ w1 : World, (Instr.sliceAt 22 (.slice aa A.length ac) none (some (.int .i64 (p : Int))) none).run Tryd.prog w1 = .ok (.slice x1 p y1) w1 := fun w1 => by
    rw [run_sub aa A.length ac none (some (.int .i64 (p : Int))) 0 p w1 lo_none (hi_some rfl) (Nat.zero_le _) hp acap, e1]; rfl
  have hs2 : ∀ w1 : World, (Instr.sliceAt 22 (.slice aa A.length ac) (some (.int .i64 (p : Int))) none none).run Tryd.prog w1 = .ok (.slice x2 (A.length - p) y2) w1 := fun w1 => by
    rw [run_sub aa A.length ac (some (.int .i64 (p : Int))) none p A.length w1 (lo_some rfl) (hi_none _) hp (Nat.le_refl _) acap, e2]
  obtain ⟨X, hX⟩ : ∃ X, X = (A.drop 0).take (p - 0) := ⟨_, rfl⟩
  obtain ⟨Y, hY⟩ : ∃ Y, Y = (A.drop p).take (A.length - p) := ⟨_, rfl⟩
  rw [← hX] at s1
  rw [← hY] at s2
  have HX1 := Lib.hid s1
  have HX2 := Lib.hid s2
  have HXZ1 := Lib.hid z1
  have HXZ2 := Lib.hid z2
  have HXL := Lib.hid (show p = X.length by rw [hX]; simp; omega)
  have HYL := Lib.hid (show A.length - p = Y.length by rw [hY]; simp)
  have HXC := Lib.hid (show X.length ≤ y1 by rw [← HXL.out]; simpa using l1)
  have HYC := Lib.hid (show Y.length ≤ y2 by rw [← HYL.out]; exact l2)
  have HXY := Lib.hid (show X ++ Y = A by rw [hX, hY, List.drop_zero, Nat.sub_zero, List.take_of_length_le (l := A.drop p) (by simp), List.take_append_drop])
  have t1 : ¬ 3000 < (key.length : Int) := by omega
  have t2 : ¬ 3000 < (A.length : Int) := by omega
  have t3 : ¬ (p : Int) < 0 := by omega
  have t4 : ¬ (A.length : Int) < (p : Int) := by omega
  have t5 : ¬ (m : Int) < 0 := by omega
  have t6 : ¬ 64 < (m : Int) := by omega
  have HM := Lib.hid (show m ≤ 1000000 by omega)
  have HNL := Lib.hid (show ¬ (L.length : Int) ≤ 64 by omega)
  have tK : (key.length : Int) ≤ 64 := by omega
  clear hc hk
  clear ks k0 kcap kl aS a0 acap al hT hB hT0 hH hL s1 s2 z1 z2 l1 l2 e1 e2 hX hY hp hm kn an hLl
  go_enter Tryd.func4, Tryd.ntmps4
  go_wp2_with (first
    | (go_at_call 13; (with_reducible refine (first w HT.out HB.out).mono ?_); rintro e w1 ⟨rfl, b1⟩; have HB1 := Lib.hid b1; clear b1)
    | (go_at_call 20; (with_reducible refine (tagA ka key.length kc key T aa A.length ac w1.heap.size A w1 HT0.out rfl rfl rfl (sl_then HB1.out (Nat.le_refl _) HS.out) HK0.out HKC.out HKX.out HK8.out (sl_then HB1.out (Nat.le_refl _) HAS.out) HA0.out HAC.out HAX.out HA8.out (tabR_then HB1.out HT.out) (tabB_then HB1.out HB.out)).mono ?_); rintro e w2 ⟨ta, tc, rfl, q1, q2, q3, q4⟩; have HTS := Lib.hid q1; have HTC := Lib.hid q2; have HTZ := Lib.hid q3; have HB2 := Lib.hid (below_then (HB1.out.alloc HB1.out.size _) q4 (by have := HB1.out.size; simp; omega)); clear q1 q2 q3 q4)
    | (go_at_call 14; (with_reducible refine (copyN ka kc key w2 HKM.out (sl_then HB2.out (Nat.le_refl _) HS.out) HK0.out).mono ?_); rintro e w3 ⟨v3, rfl, q1, q2, q3⟩; have HO3 := Lib.hid q1; have HN3 := Lib.hid q2; have HB3 := Lib.hid (below_then HB2.out q3 HB2.out.size); have HS3 := Lib.hid q3.size; have KB23 := Lib.hid q3; clear q1 q2 q3)
    | (at_builtin; refine app_zeros rfl _ _ rfl w2.heap.size _ key rfl HO3.out HN3.out m rfl HM.out HKM.out HS3.out ?_; intro v4 w4 o4 b4; rw [← HL.out] at o4; obtain ⟨la, lc, rfl, q1, q2, q3, q5⟩ := rb_sl o4; have HLC := Lib.hid q1; have HLS := Lib.hid q2; have HLZ := Lib.hid q3; have HB4 := Lib.hid (b4 _ _ HB2.out.size HB3.out); have HT4 := Lib.hid (sl_then (b4 _ _ (Nat.le_refl _) (show Below w2.heap.size w2 w3 from KB23.out)) (Nat.le_refl _) HTS.out); clear q1 q2 q3 q5 o4 b4))
  clear t1 t2 t3 t4 t5 t6
  refine wp_region_held_drew (S := (fun _ => True)) (by kernel_rfl) ?_ (fun hHeld => ?_)
  · ((try dsimp only); (first | done | trivial))
  refine wpAnyH_take (i := 0) (oi := { dst := some 49, op := Op.move (Operand.tmp 9), type := 22, pos := _, after := #[], guard := none }) (v := ?_) rfl (by kernel_rfl) (by kernel_rfl) (by kernel_rfl) (fun _ _ _ h => h) (Or.inl ⟨by rfl, ?_⟩) (by assumption) ?_
  rotate_left
  · ((intro w hSw); (try dsimp only at hSw); go_simp; (try with_reducible rfl))
  try simp only [Act.put, List.setIfInBounds_toArray, List.set_cons_zero, List.set_cons_succ]
  refine wpAnyH_take (i := 1) (oi := { dst := some 50, op := Op.call { callee := Callee.builtin Builtin.len, args := #[Operand.tmp 49], argTypes := #[22] }, type := 3, pos := _, after := #[{ on := 0, ground := Ground.data }], guard := none }) (v := ?_) rfl (by kernel_rfl) (by kernel_rfl) (by kernel_rfl) (fun _ _ _ h => h) (Or.inl ⟨by rfl, ?_⟩) (by assumption) ?_
  rotate_left
  · ((intro w hSw); (try dsimp only at hSw); go_simp; (try with_reducible rfl))
  try simp only [Act.put, List.setIfInBounds_toArray, List.set_cons_zero, List.set_cons_succ]
  refine wpAnyH_take (i := 2) (oi := { dst := some 51, op := Op.binOp BinOp.neq 3 (Operand.tmp 50) (Operand.const (Value.int IntKind.i64 16)) 3, type := 4, pos := _, after := #[{ on := 1, ground := Ground.data }], guard := none }) (v := ?_) rfl (by kernel_rfl) (by kernel_rfl) (by kernel_rfl) (fun _ _ _ h => h) (Or.inl ⟨by rfl, ?_⟩) (by assumption) ?_
  rotate_left
  · ((intro w hSw); (try dsimp only at hSw); go_simp; (try with_reducible rfl))
  try simp only [Act.put, List.setIfInBounds_toArray, List.set_cons_zero, List.set_cons_succ]
  refine wpAnyH_take (i := 3) (oi := { dst := some 52, op := Op.move (Operand.tmp 51), type := 4, pos := _, after := #[{ on := 2, ground := Ground.data }], guard := none }) (v := ?_) rfl (by kernel_rfl) (by kernel_rfl) (by kernel_rfl) (fun _ _ _ h => h) (Or.inl ⟨by rfl, ?_⟩) (by assumption) ?_
  rotate_left
  · ((intro w hSw); (try dsimp only at hSw); go_simp; (try with_reducible rfl))
  try simp only [Act.put, List.setIfInBounds_toArray, List.set_cons_zero, List.set_cons_succ]
  refine wpAnyH_take (i := 4) (oi := { dst := some 53, op := Op.move (Operand.tmp 9), type := 22, pos := _, after := #[{ on := 3, ground := Ground.guard }], guard := some (3, false) }) (v := ?_) rfl (by kernel_rfl) (by kernel_rfl) (by kernel_rfl) (fun _ _ _ h => h) (Or.inl ⟨by rfl, ?_⟩) (by assumption) ?_
  rotate_left
  · ((intro w hSw); (try dsimp only at hSw); go_simp; (try with_reducible rfl))
  try simp only [Act.put, List.setIfInBounds_toArray, List.set_cons_zero, List.set_cons_succ]
  refine wpAnyH_take (i := 5) (oi := { dst := some 54, op := Op.move (Operand.tmp 0), type := 22, pos := _, after := #[{ on := 3, ground := Ground.guard }], guard := some (3, false) }) (v := ?_) rfl (by kernel_rfl) (by kernel_rfl) (by kernel_rfl) (fun _ _ _ h => h) (Or.inl ⟨by rfl, ?_⟩) (by assumption) ?_
  rotate_left
  · ((intro w hSw); (try dsimp only at hSw); go_simp; (try with_reducible rfl))
  try simp only [Act.put, List.setIfInBounds_toArray, List.set_cons_zero, List.set_cons_succ]
  refine wpAnyH_take (i := 6) (oi := { dst := some 55, op := Op.move (Operand.tmp 1), type := 22, pos := _, after := #[{ on := 3, ground := Ground.guard }], guard := some (3, false) }) (v := ?_) rfl (by kernel_rfl) (by kernel_rfl) (by kernel_rfl) (fun _ _ _ h => h) (Or.inl ⟨by rfl, ?_⟩) (by assumption) ?_
  rotate_left
  · ((intro w hSw); (try dsimp only at hSw); go_simp; (try with_reducible rfl))
  try simp only [Act.put, List.setIfInBounds_toArray, List.set_cons_zero, List.set_cons_succ]
  refine wpAnyH_take (i := 7) (oi := { dst := some 56, op := Op.move (Operand.tmp 2), type := 3, pos := _, after := #[{ on := 3, ground := Ground.guard }], guard := some (3, false) }) (v := ?_) rfl (by kernel_rfl) (by kernel_rfl) (by kernel_rfl) (fun _ _ _ h => h) (Or.inl ⟨by rfl, ?_⟩) (by assumption) ?_
  rotate_left
  · ((intro w hSw); (try dsimp only at hSw); go_simp; (try with_reducible rfl))
  try simp only [Act.put, List.setIfInBounds_toArray, List.set_cons_zero, List.set_cons_succ]
  refine wpAnyH_take (i := 8) (oi := { dst := some 57, op := Op.slice 22 (Operand.tmp 55) none (some (Operand.tmp 56)) none, type := 22, pos := _, after := #[{ on := 6, ground := Ground.data }, { on := 7, ground := Ground.data }, { on := 3, ground := Ground.guard }], guard := some (3, false) }) (v := ?_) rfl (by kernel_rfl) (by kernel_rfl) (by kernel_rfl) (fun _ _ _ h => h) (Or.inl ⟨by rfl, ?_⟩) (by assumption) ?_
  rotate_left
  · ((intro w hSw); (try dsimp only at hSw); go_simp; (try with_reducible rfl))
  try simp only [Act.put, List.setIfInBounds_toArray, List.set_cons_zero, List.set_cons_succ]
  refine wpAnyH_take (i := 9) (oi := { dst := some 58, op := Op.move (Operand.tmp 1), type := 22, pos := _, after := #[{ on := 3, ground := Ground.guard }], guard := some (3, false) }) (v := ?_) rfl (by kernel_rfl) (by kernel_rfl) (by kernel_rfl) (fun _ _ _ h => h) (Or.inl ⟨by rfl, ?_⟩) (by assumption) ?_
  rotate_left
  · ((intro w hSw); (try dsimp only at hSw); go_simp; (try with_reducible rfl))
  try simp only [Act.put, List.setIfInBounds_toArray, List.set_cons_zero, List.set_cons_succ]
  refine wpAnyH_take (i := 10) (oi := { dst := some 59, op := Op.move (Operand.tmp 2), type := 3, pos := _, after := #[{ on := 3, ground := Ground.guard }], guard := some (3, false) }) (v := ?_) rfl (by kernel_rfl) (by kernel_rfl) (by kernel_rfl) (fun _ _ _ h => h) (Or.inl ⟨by rfl, ?_⟩) (by assumption) ?_
  rotate_left
  · ((intro w hSw); (try dsimp only at hSw); go_simp; (try with_reducible rfl))
  try simp only [Act.put, List.setIfInBounds_toArray, List.set_cons_zero, List.set_cons_succ]
  refine wpAnyH_take (i := 11) (oi := { dst := some 60, op := Op.slice 22 (Operand.tmp 58) (some (Operand.tmp 59)) none none, type := 22, pos := _, after := #[{ on := 9, ground := Ground.data }, { on := 10, ground := Ground.data }, { on := 3, ground := Ground.guard }], guard := some (3, false) }) (v := ?_) rfl (by kernel_rfl) (by kernel_rfl) (by kernel_rfl) (fun _ _ _ h => h) (Or.inl ⟨by rfl, ?_⟩) (by assumption) ?_
  rotate_left
  · ((intro w hSw); (try dsimp only at hSw); go_simp; (try with_reducible rfl))
  try simp only [Act.put, List.setIfInBounds_toArray, List.set_cons_zero, List.set_cons_succ]
  refine wpAnyH_ready (rs := [12]) (by kernel_rfl) (by simp) ?_
  refine (AllReadyH.cons (o := { dst := some 61, op := Op.buildSlice 31 3 #[(0, Operand.tmp 57), (1, Operand.const (Value.slice none 0 0)), (2, Operand.tmp 60)], type := 31, pos := _, after := #[{ on := 8, ground := Ground.data }, { on := 11, ground := Ground.data }, { on := 3, ground := Ground.guard }], guard := some (3, false) }) rfl (fun K hK => ?_) AllReadyH.nil)
  go_simp
  refine hK.out _ _ ?_ (fun hHeld => ?_)
  · ((try dsimp only); (first | done | trivial))
  clear hK K
  try simp only [Act.put, List.setIfInBounds_toArray, List.set_cons_zero, List.set_cons_succ]
  refine wpAnyH_ready (rs := [13]) (by kernel_rfl) (by simp) ?_
  refine (AllReadyH.cons (o := { dst := some 62, op := Op.call { callee := Callee.value (Operand.func 20), args := #[Operand.tmp 54, Operand.tmp 61], argTypes := #[22, 31] }, type := 22, pos := _, after := #[{ on := 5, ground := Ground.data }, { on := 12, ground := Ground.data }, { on := 3, ground := Ground.chain }, { on := 3, ground := Ground.guard }], guard := some (3, false) }) rfl (fun K hK => ?_) AllReadyH.nil)
  go_simp
  go_at_call 20
  (with_reducible refine (tag3d ka kc key T x1 x2 y1 y2 p (A.length - p) w4.heap.size X Y A w4 HT0.out HXY.out HXL.out HYL.out rfl (sl_then HB4.out (Nat.le_refl _) HS.out) HK0.out HKC.out HKX.out HK8.out (sl_then HB4.out (Nat.le_refl _) HX1.out) HXZ1.out HXC.out (sl_then HB4.out (Nat.le_refl _) HX2.out) HXZ2.out HYC.out HAX.out HA8.out (tabR_then HB4.out HT.out) (tabB_then HB4.out HB.out)).mono ?_)
  rintro e w5 ⟨ua, uc, rfl, q1, q2, q3, q4⟩
  have HU := Lib.hid q1
  have HB5 := Lib.hid (below_then (HB4.out.alloc HB4.out.size _).drew q4 (by have := HB4.out.size; simp; omega))
  have KB45 := Lib.hid (below_then ((Below.refl w4.heap.size w4).alloc (Nat.le_refl _) _).drew q4 (by simp))
  clear q1 q2 q3 q4
  go_wp2_with fail
  refine hK.out _ _ ?_ (fun hHeld => ?_)
  · ((try dsimp only); (first | done | trivial))
  clear hK K
  try simp only [Act.put, List.setIfInBounds_toArray, List.set_cons_zero, List.set_cons_succ]
  refine wpAnyH_ready (rs := [14]) (by kernel_rfl) (by simp) ?_
  refine (AllReadyH.cons (o := { dst := some 63, op := Op.call { callee := Callee.value (Operand.func 22), args := #[Operand.tmp 53, Operand.tmp 62], argTypes := #[22, 22] }, type := 4, pos := _, after := #[{ on := 4, ground := Ground.data }, { on := 13, ground := Ground.data }, { on := 13, ground := Ground.chain }, { on := 3, ground := Ground.guard }], guard := some (3, false) }) rfl (fun K hK => ?_) AllReadyH.nil)
  go_simp
  go_at_call 22
  (with_reducible refine (equalT ta ua tc uc T w5 (sl_then KB45.out (Nat.le_refl _) HT4.out) HU.out HTL.out HTX.out).mono ?_)
  rintro e w6 ⟨rfl, b6⟩
  have HB6 := Lib.hid (below_then HB5.out b6 HB5.out.size)
  have KB46 := Lib.hid (below_then KB45.out b6 KB45.out.size)
  clear b6
  go_wp2_with fail
  have tL8 : decide ((L.length : Int) ≤ 64) = false := decide_eq_false (by have := HNL.out; omega)
  refine hK.out _ _ ?_ (fun hHeld => ?_)
  · ((try dsimp only); (first | done | trivial))
  clear hK K
  try simp only [Act.put, List.setIfInBounds_toArray, List.set_cons_zero, List.set_cons_succ]
  refine wpAnyH_take (i := 15) (oi := { dst := some 64, op := Op.unOp UnOp.not 4 (Operand.tmp 63), type := 4, pos := _, after := #[{ on := 14, ground := Ground.data }, { on := 3, ground := Ground.guard }], guard := some (3, false) }) (v := ?_) rfl (by kernel_rfl) (by kernel_rfl) (by kernel_rfl) (fun _ _ _ h => h) (Or.inl ⟨by rfl, ?_⟩) (by assumption) ?_
  rotate_left
  · ((intro w hSw); (try dsimp only at hSw); go_simp; (try with_reducible rfl))
  try simp only [Act.put, List.setIfInBounds_toArray, List.set_cons_zero, List.set_cons_succ]
  refine wpAnyH_take (i := 16) (oi := { dst := some 65, op := Op.pick (Operand.tmp 52) (Operand.const (Value.bool true)) (Operand.tmp 64), type := 4, pos := _, after := #[{ on := 3, ground := Ground.data }, { on := 15, ground := Ground.data }], guard := none }) (v := ?_) rfl (by kernel_rfl) (by kernel_rfl) (by kernel_rfl) (fun _ _ _ h => h) (Or.inl ⟨by rfl, ?_⟩) (by assumption) ?_
  rotate_left
  · ((intro w hSw); (try dsimp only at hSw); go_simp; (try with_reducible rfl))
  try simp only [Act.put, List.setIfInBounds_toArray, List.set_cons_zero, List.set_cons_succ]
  refine wpAnyH_take (i := 17) (oi := { dst := some 66, op := Op.move (Operand.tmp 65), type := 4, pos := _, after := #[{ on := 16, ground := Ground.data }, { on := 14, ground := Ground.chain }], guard := none }) (v := ?_) rfl (by kernel_rfl) (by kernel_rfl) (by kernel_rfl) (fun _ _ _ h => h) (Or.inl ⟨by rfl, ?_⟩) (by assumption) ?_
  rotate_left
  · ((intro w hSw); (try dsimp only at hSw); go_simp; (try with_reducible rfl))
  try simp only [Act.put, List.setIfInBounds_toArray, List.set_cons_zero, List.set_cons_succ]
  refine wpAnyH_take (i := 18) (oi := { dst := some 67, op := Op.move (Operand.tmp 10), type := 22, pos := _, after := #[{ on := 17, ground := Ground.guard }], guard := some (17, false) }) (v := ?_) rfl (by kernel_rfl) (by kernel_rfl) (by kernel_rfl) (fun _ _ _ h => h) (Or.inl ⟨by rfl, ?_⟩) (by assumption) ?_
  rotate_left
  · ((intro w hSw); (try dsimp only at hSw); go_simp; (try with_reducible rfl))
  try simp only [Act.put, List.setIfInBounds_toArray, List.set_cons_zero, List.set_cons_succ]
  refine wpAnyH_take (i := 19) (oi := { dst := some 68, op := Op.call { callee := Callee.builtin Builtin.len, args := #[Operand.tmp 67], argTypes := #[22] }, type := 3, pos := _, after := #[{ on := 18, ground := Ground.data }, { on := 17, ground := Ground.guard }], guard := some (17, false) }) (v := ?_) rfl (by kernel_rfl) (by kernel_rfl) (by kernel_rfl) (fun _ _ _ h => h) (Or.inl ⟨by rfl, ?_⟩) (by assumption) ?_
  rotate_left
  · ((intro w hSw); (try dsimp only at hSw); go_simp; (try with_reducible rfl))
  try simp only [Act.put, List.setIfInBounds_toArray, List.set_cons_zero, List.set_cons_succ]
  refine wpAnyH_take (i := 20) (oi := { dst := some 69, op := Op.binOp BinOp.leq 3 (Operand.tmp 68) (Operand.const (Value.int IntKind.i64 64)) 3, type := 4, pos := _, after := #[{ on := 19, ground := Ground.data }, { on := 17, ground := Ground.guard }], guard := some (17, false) }) (v := ?_) rfl (by kernel_rfl) (by kernel_rfl) (by kernel_rfl) (fun _ _ _ h => h) (Or.inl ⟨by rfl, ?_⟩) (by assumption) ?_
  rotate_left
  · ((intro w hSw); (try dsimp only at hSw); go_simp; (try with_reducible rfl))
  try simp only [Act.put, List.setIfInBounds_toArray, List.set_cons_zero, List.set_cons_succ]
  refine wpAnyH_take (i := 21) (oi := { dst := some 70, op := Op.move (Operand.tmp 69), type := 4, pos := _, after := #[{ on := 20, ground := Ground.data }, { on := 17, ground := Ground.chain }, { on := 17, ground := Ground.guard }], guard := some (17, false) }) (v := ?_) rfl (by kernel_rfl) (by kernel_rfl) (by kernel_rfl) (fun _ _ _ h => h) (Or.inl ⟨by rfl, ?_⟩) (by assumption) ?_
  rotate_left
  · ((intro w hSw); (try dsimp only at hSw); go_simp; (try with_reducible rfl))
  try simp only [Act.put, List.setIfInBounds_toArray, List.set_cons_zero, List.set_cons_succ]
  refine wpAnyH_take (i := 22) (oi := { dst := some 71, op := Op.move (Operand.tmp 10), type := 22, pos := _, after := #[{ on := 21, ground := Ground.guard }], guard := some (21, true) }) (v := undef) rfl (by kernel_rfl) (by kernel_rfl) (by kernel_rfl) (fun _ _ _ h => h) (Or.inr ⟨by rfl, rfl⟩) (by assumption) ?_
  try simp only [Act.put, List.setIfInBounds_toArray, List.set_cons_zero, List.set_cons_succ]
  refine wpAnyH_take (i := 23) (oi := { dst := some 72, op := Op.move (Operand.tmp 1), type := 22, pos := _, after := #[{ on := 21, ground := Ground.guard }], guard := some (21, true) }) (v := undef) rfl (by kernel_rfl) (by kernel_rfl) (by kernel_rfl) (fun _ _ _ h => h) (Or.inr ⟨by rfl, rfl⟩) (by assumption) ?_
  try simp only [Act.put, List.setIfInBounds_toArray, List.set_cons_zero, List.set_cons_succ]
  refine wpAnyH_take (i := 24) (oi := { dst := some 73, op := Op.buildSlice 31 1 #[(0, Operand.tmp 72)], type := 31, pos := _, after := #[{ on := 23, ground := Ground.data }, { on := 21, ground := Ground.guard }], guard := some (21, true) }) (v := undef) rfl (by kernel_rfl) (by kernel_rfl) (by kernel_rfl) (fun _ _ _ h => h) (Or.inr ⟨by rfl, rfl⟩) (by assumption) ?_
  try simp only [Act.put, List.setIfInBounds_toArray, List.set_cons_zero, List.set_cons_succ]
  refine wpAnyH_take (i := 25) (oi := { dst := some 74, op := Op.call { callee := Callee.value (Operand.func 20), args := #[Operand.tmp 71, Operand.tmp 73], argTypes := #[22, 31] }, type := 22, pos := _, after := #[{ on := 22, ground := Ground.data }, { on := 24, ground := Ground.data }, { on := 21, ground := Ground.chain }, { on := 21, ground := Ground.guard }], guard := some (21, true) }) (v := undef) rfl (by kernel_rfl) (by kernel_rfl) (by kernel_rfl) (fun _ _ _ h => h) (Or.inr ⟨by rfl, rfl⟩) (by assumption) ?_
  try simp only [Act.put, List.setIfInBounds_toArray, List.set_cons_zero, List.set_cons_succ]
  refine wpAnyH_take (i := 26) (oi := { dst := some 75, op := Op.move (Operand.tmp 9), type := 22, pos := _, after := #[{ on := 21, ground := Ground.guard }], guard := some (21, true) }) (v := undef) rfl (by kernel_rfl) (by kernel_rfl) (by kernel_rfl) (fun _ _ _ h => h) (Or.inr ⟨by rfl, rfl⟩) (by assumption) ?_
  try simp only [Act.put, List.setIfInBounds_toArray, List.set_cons_zero, List.set_cons_succ]
  refine wpAnyH_take (i := 27) (oi := { dst := some 76, op := Op.call { callee := Callee.value (Operand.func 22), args := #[Operand.tmp 74, Operand.tmp 75], argTypes := #[22, 22] }, type := 4, pos := _, after := #[{ on := 25, ground := Ground.data }, { on := 26, ground := Ground.data }, { on := 25, ground := Ground.chain }, { on := 21, ground := Ground.guard }], guard := some (21, true) }) (v := undef) rfl (by kernel_rfl) (by kernel_rfl) (by kernel_rfl) (fun _ _ _ h => h) (Or.inr ⟨by rfl, rfl⟩) (by assumption) ?_
  try simp only [Act.put, List.setIfInBounds_toArray, List.set_cons_zero, List.set_cons_succ]
  refine wpAnyH_take (i := 28) (oi := { dst := some 77, op := Op.unOp UnOp.not 4 (Operand.tmp 76), type := 4, pos := _, after := #[{ on := 27, ground := Ground.data }, { on := 21, ground := Ground.guard }], guard := some (21, true) }) (v := undef) rfl (by kernel_rfl) (by kernel_rfl) (by kernel_rfl) (fun _ _ _ h => h) (Or.inr ⟨by rfl, rfl⟩) (by assumption) ?_
  try simp only [Act.put, List.setIfInBounds_toArray, List.set_cons_zero, List.set_cons_succ]
  refine wpAnyH_take (i := 29) (oi := { dst := some 78, op := Op.pick (Operand.tmp 70) (Operand.tmp 77) (Operand.const (Value.bool false)), type := 4, pos := _, after := #[{ on := 21, ground := Ground.data }, { on := 28, ground := Ground.data }, { on := 17, ground := Ground.guard }], guard := some (17, false) }) (v := ?_) rfl (by kernel_rfl) (by kernel_rfl) (by kernel_rfl) (fun _ _ _ h => h) (Or.inl ⟨by rfl, ?_⟩) (by assumption) ?_
  rotate_left
  · ((intro w hSw); (try dsimp only at hSw); go_simp; (try with_reducible rfl))
  try simp only [Act.put, List.setIfInBounds_toArray, List.set_cons_zero, List.set_cons_succ]
  refine wpAnyH_take (i := 30) (oi := { dst := some 79, op := Op.pick (Operand.tmp 66) (Operand.const (Value.bool true)) (Operand.tmp 78), type := 4, pos := _, after := #[{ on := 17, ground := Ground.data }, { on := 29, ground := Ground.data }], guard := none }) (v := ?_) rfl (by kernel_rfl) (by kernel_rfl) (by kernel_rfl) (fun _ _ _ h => h) (Or.inl ⟨by rfl, ?_⟩) (by assumption) ?_
  rotate_left
  · ((intro w hSw); (try dsimp only at hSw); go_simp; (try with_reducible rfl))
  try simp only [Act.put, List.setIfInBounds_toArray, List.set_cons_zero, List.set_cons_succ]
  refine wpAnyH_done (by kernel_rfl) ?_ _
  go_wp2_with (first
    | (go_at_call 18; (with_reducible refine (hmacA ka kc key H aa ac w6.heap.size A w6 HH.out rfl (sl_then HB6.out (Nat.le_refl _) HS.out) HK0.out HKC.out HKX.out HK8.out (sl_then HB6.out (Nat.le_refl _) HAS.out) HA0.out HAC.out HAX.out HA8.out (tabR_then HB6.out HT.out) (tabB_then HB6.out HB.out)).mono ?_); rintro e w9 ⟨hb, ho, hc, rfl, q1, q2, q3⟩; have HHC := Lib.hid q1; have HB9 := Lib.hid (below_then HB6.out q3 HB6.out.size); have KB49 := Lib.hid (below_then KB46.out q3 KB46.out.size); have h16 : (16 : Int) ≤ (hc : Int) := (by omega); have hc0 : ¬ hc = 0 := (by omega); clear q1 q2 q3)
    | (go_at_call 13; (with_reducible refine (first w9 (tabR_then HB9.out HT.out) (tabB_then HB9.out HB.out)).mono ?_); rintro e wa ⟨rfl, ba⟩; have HBa := Lib.hid (below_then HB9.out ba HB9.out.size); have KB4a := Lib.hid (below_then KB49.out ba KB49.out.size); have HHa := Lib.hid (cells_then ba (Nat.le_refl _) HHC.out); clear ba)
    | (go_at_call 15; (with_reducible refine (bytesT (some ⟨hb, ho, none⟩) ta hc tc T wa (sl_take HHa.out 16 T HHT.out) (sl_then KB4a.out (Nat.le_refl _) HT4.out) HTL.out HTX.out).mono ?_); rintro e w' ⟨rfl, rfl⟩))
  go_ret
  exact ⟨rfl, HBa.out⟩

set_option maxRecDepth 100000 in
set_option maxHeartbeats 4000000 in
theorem cuts2 (ka : Option Addr) (kc : Nat) (key : List Nat) (aa : Option Addr) (ac : Nat) (A : List Nat) (p m : Nat) (w : World) (ks : Sl w ka key) (k0 : ka = none → kc = 0) (kcap : key.length ≤ kc) (kl : ∀ c ∈ key, c < 256) (kn : key.length ≤ 3000)
    (aS : Sl w aa A) (a0 : aa = none → ac = 0) (acap : A.length ≤ ac) (al : ∀ c ∈ A, c < 256) (an : A.length ≤ 3000) (hp : p ≤ A.length) (hm : m ≤ 64) (hc : 64 < key.length) (hT : TabR w) (hB : TabB w) :
    Calls Tryd.prog 4 #[.slice ka key.length kc, .slice aa A.length ac, .int .i64 (p : Int), .int .i64 (m : Int)] w fun e w' => e = .returned (.bool true) ∧ Below w.heap.size w w' := by
  have HS := Lib.hid ks
  have HK0 := Lib.hid k0
  have HKC := Lib.hid kcap
  have HKX := Lib.hid kl
  have HK8 := Lib.hid (show key.length ≤ 800000 by omega)
  have HK9 := Lib.hid (show key.length ≤ 900000 by omega)
  have HKM := Lib.hid (show key.length ≤ 1000000 by omega)
  have HAS := Lib.hid aS
  have HA0 := Lib.hid a0
  have HAC := Lib.hid acap
  have HAX := Lib.hid al
  have HA8 := Lib.hid (show A.length ≤ 800000 by omega)
  have HT := Lib.hid hT
  have HB := Lib.hid hB
  obtain ⟨T, hT0⟩ : ∃ T, T = tagL key A := ⟨_, rfl⟩
  have HT0 := Lib.hid hT0
  have HTL := Lib.hid (show T.length = 16 by rw [hT0]; exact tagL_len _ _)
  have HTX := Lib.hid (show ∀ c ∈ T, c < 256 by rw [hT0]; exact tagL_lt _ _)
  obtain ⟨H, hH⟩ : ∃ H, H = hmac key A := ⟨_, rfl⟩
  have HH := Lib.hid hH
  have HHT := Lib.hid (show T = H.take 16 by rw [hT0, hH]; rfl)
  obtain ⟨L, hL⟩ : ∃ L, L = key ++ zs m := ⟨_, rfl⟩
  have HL := Lib.hid hL
  have hLl : L.length = key.length + m := by rw [hL]; simp [zs]
  have HLX := Lib.hid (show ∀ c ∈ L, c < 256 by
    rw [hL]; intro c hc
    rcases List.mem_append.1 hc with h | h
    · exact kl c h
    · have := (List.mem_replicate.1 h).2; omega)
  have HL8 := Lib.hid (show L.length ≤ 800000 by omega)
  have HZT := Lib.hid (fun h : key.length + m ≤ 64 => show T = tagL L A by rw [hT0, hL]; exact (tagL_zero key A m h).symm)
  have HST := Lib.hid (fun h : 64 < key.length => show T = tagL (sha key) A by rw [hT0]; exact (tagL_long key A h).symm)
  obtain ⟨x1, y1, e1, s1, l1, z1, _⟩ := sub_val aS a0 acap 0 p (Nat.zero_le _) hp
  obtain ⟨x2, y2, e2, s2, l2, z2, _⟩ := sub_val aS a0 acap p A.length hp (Nat.le_refl _)
  have hs1 : ∀ w1 : World, (Instr.sliceAt 22 (.slice aa A.length ac) none (some (.int .i64 (p : Int))) none).run Tryd.prog w1 = .ok (.slice x1 p y1) w1 := fun w1 => by
    rw [run_sub aa A.length ac none (some (.int .i64 (p : Int))) 0 p w1 lo_none (hi_some rfl) (Nat.zero_le _) hp acap, e1]; rfl
  have hs2 : ∀ w1 : World, (Instr.sliceAt 22 (.slice aa A.length ac) (some (.int .i64 (p : Int))) none none).run Tryd.prog w1 = .ok (.slice x2 (A.length - p) y2) w1 := fun w1 => by
    rw [run_sub aa A.length ac (some (.int .i64 (p : Int))) none p A.length w1 (lo_some rfl) (hi_none _) hp (Nat.le_refl _) acap, e2]
  obtain ⟨X, hX⟩ : ∃ X, X = (A.drop 0).take (p - 0) := ⟨_, rfl⟩
  obtain ⟨Y, hY⟩ : ∃ Y, Y = (A.drop p).take (A.length - p) := ⟨_, rfl⟩
  rw [← hX] at s1
  rw [← hY] at s2
  have HX1 := Lib.hid s1
  have HX2 := Lib.hid s2
  have HXZ1 := Lib.hid z1
  have HXZ2 := Lib.hid z2
  have HXL := Lib.hid (show p = X.length by rw [hX]; simp; omega)
  have HYL := Lib.hid (show A.length - p = Y.length by rw [hY]; simp)
  have HXC := Lib.hid (show X.length ≤ y1 by rw [← HXL.out]; simpa using l1)
  have HYC := Lib.hid (show Y.length ≤ y2 by rw [← HYL.out]; exact l2)
  have HXY := Lib.hid (show X ++ Y = A by rw [hX, hY, List.drop_zero, Nat.sub_zero, List.take_of_length_le (l := A.drop p) (by simp), List.take_append_drop])
  have t1 : ¬ 3000 < (key.length : Int) := by omega
  have t2 : ¬ 3000 < (A.length : Int) := by omega
  have t3 : ¬ (p : Int) < 0 := by omega
  have t4 : ¬ (A.length : Int) < (p : Int) := by omega
  have t5 : ¬ (m : Int) < 0 := by omega
  have t6 : ¬ 64 < (m : Int) := by omega
  have HM := Lib.hid (show m ≤ 1000000 by omega)
  have HLO := Lib.hid hc
  have HNL := Lib.hid (show ¬ (L.length : Int) ≤ 64 by omega)
  have tK : ¬ (key.length : Int) ≤ 64 := by omega
  clear hc
  clear ks k0 kcap kl aS a0 acap al hT hB hT0 hH hL s1 s2 z1 z2 l1 l2 e1 e2 hX hY hp hm kn an hLl
  go_enter Tryd.func4, Tryd.ntmps4
  go_wp2_with (first
    | (go_at_call 13; (with_reducible refine (first w HT.out HB.out).mono ?_); rintro e w1 ⟨rfl, b1⟩; have HB1 := Lib.hid b1; clear b1)
    | (go_at_call 20; (with_reducible refine (tagA ka key.length kc key T aa A.length ac w1.heap.size A w1 HT0.out rfl rfl rfl (sl_then HB1.out (Nat.le_refl _) HS.out) HK0.out HKC.out HKX.out HK8.out (sl_then HB1.out (Nat.le_refl _) HAS.out) HA0.out HAC.out HAX.out HA8.out (tabR_then HB1.out HT.out) (tabB_then HB1.out HB.out)).mono ?_); rintro e w2 ⟨ta, tc, rfl, q1, q2, q3, q4⟩; have HTS := Lib.hid q1; have HTC := Lib.hid q2; have HTZ := Lib.hid q3; have HB2 := Lib.hid (below_then (HB1.out.alloc HB1.out.size _) q4 (by have := HB1.out.size; simp; omega)); clear q1 q2 q3 q4)
    | (go_at_call 14; (with_reducible refine (copyN ka kc key w2 HKM.out (sl_then HB2.out (Nat.le_refl _) HS.out) HK0.out).mono ?_); rintro e w3 ⟨v3, rfl, q1, q2, q3⟩; have HO3 := Lib.hid q1; have HN3 := Lib.hid q2; have HB3 := Lib.hid (below_then HB2.out q3 HB2.out.size); have HS3 := Lib.hid q3.size; have KB23 := Lib.hid q3; clear q1 q2 q3)
    | (at_builtin; refine app_zeros rfl _ _ rfl w2.heap.size _ key rfl HO3.out HN3.out m rfl HM.out HKM.out HS3.out ?_; intro v4 w4 o4 b4; rw [← HL.out] at o4; obtain ⟨la, lc, rfl, q1, q2, q3, q5⟩ := rb_sl o4; have HLC := Lib.hid q1; have HLS := Lib.hid q2; have HLZ := Lib.hid q3; have HB4 := Lib.hid (b4 _ _ HB2.out.size HB3.out); have HT4 := Lib.hid (sl_then (b4 _ _ (Nat.le_refl _) (show Below w2.heap.size w2 w3 from KB23.out)) (Nat.le_refl _) HTS.out); clear q1 q2 q3 q5 o4 b4))
  clear t1 t2 t3 t4 t5 t6
  refine wp_region_held_drew (S := (fun _ => True)) (by kernel_rfl) ?_ (fun hHeld => ?_)
  · ((try dsimp only); (first | done | trivial))
  refine wpAnyH_take (i := 0) (oi := { dst := some 49, op := Op.move (Operand.tmp 9), type := 22, pos := _, after := #[], guard := none }) (v := ?_) rfl (by kernel_rfl) (by kernel_rfl) (by kernel_rfl) (fun _ _ _ h => h) (Or.inl ⟨by rfl, ?_⟩) (by assumption) ?_
  rotate_left
  · ((intro w hSw); (try dsimp only at hSw); go_simp; (try with_reducible rfl))
  try simp only [Act.put, List.setIfInBounds_toArray, List.set_cons_zero, List.set_cons_succ]
  refine wpAnyH_take (i := 1) (oi := { dst := some 50, op := Op.call { callee := Callee.builtin Builtin.len, args := #[Operand.tmp 49], argTypes := #[22] }, type := 3, pos := _, after := #[{ on := 0, ground := Ground.data }], guard := none }) (v := ?_) rfl (by kernel_rfl) (by kernel_rfl) (by kernel_rfl) (fun _ _ _ h => h) (Or.inl ⟨by rfl, ?_⟩) (by assumption) ?_
  rotate_left
  · ((intro w hSw); (try dsimp only at hSw); go_simp; (try with_reducible rfl))
  try simp only [Act.put, List.setIfInBounds_toArray, List.set_cons_zero, List.set_cons_succ]
  refine wpAnyH_take (i := 2) (oi := { dst := some 51, op := Op.binOp BinOp.neq 3 (Operand.tmp 50) (Operand.const (Value.int IntKind.i64 16)) 3, type := 4, pos := _, after := #[{ on := 1, ground := Ground.data }], guard := none }) (v := ?_) rfl (by kernel_rfl) (by kernel_rfl) (by kernel_rfl) (fun _ _ _ h => h) (Or.inl ⟨by rfl, ?_⟩) (by assumption) ?_
  rotate_left
  · ((intro w hSw); (try dsimp only at hSw); go_simp; (try with_reducible rfl))
  try simp only [Act.put, List.setIfInBounds_toArray, List.set_cons_zero, List.set_cons_succ]
  refine wpAnyH_take (i := 3) (oi := { dst := some 52, op := Op.move (Operand.tmp 51), type := 4, pos := _, after := #[{ on := 2, ground := Ground.data }], guard := none }) (v := ?_) rfl (by kernel_rfl) (by kernel_rfl) (by kernel_rfl) (fun _ _ _ h => h) (Or.inl ⟨by rfl, ?_⟩) (by assumption) ?_
  rotate_left
  · ((intro w hSw); (try dsimp only at hSw); go_simp; (try with_reducible rfl))
  try simp only [Act.put, List.setIfInBounds_toArray, List.set_cons_zero, List.set_cons_succ]
  refine wpAnyH_take (i := 4) (oi := { dst := some 53, op := Op.move (Operand.tmp 9), type := 22, pos := _, after := #[{ on := 3, ground := Ground.guard }], guard := some (3, false) }) (v := ?_) rfl (by kernel_rfl) (by kernel_rfl) (by kernel_rfl) (fun _ _ _ h => h) (Or.inl ⟨by rfl, ?_⟩) (by assumption) ?_
  rotate_left
  · ((intro w hSw); (try dsimp only at hSw); go_simp; (try with_reducible rfl))
  try simp only [Act.put, List.setIfInBounds_toArray, List.set_cons_zero, List.set_cons_succ]
  refine wpAnyH_take (i := 5) (oi := { dst := some 54, op := Op.move (Operand.tmp 0), type := 22, pos := _, after := #[{ on := 3, ground := Ground.guard }], guard := some (3, false) }) (v := ?_) rfl (by kernel_rfl) (by kernel_rfl) (by kernel_rfl) (fun _ _ _ h => h) (Or.inl ⟨by rfl, ?_⟩) (by assumption) ?_
  rotate_left
  · ((intro w hSw); (try dsimp only at hSw); go_simp; (try with_reducible rfl))
  try simp only [Act.put, List.setIfInBounds_toArray, List.set_cons_zero, List.set_cons_succ]
  refine wpAnyH_take (i := 6) (oi := { dst := some 55, op := Op.move (Operand.tmp 1), type := 22, pos := _, after := #[{ on := 3, ground := Ground.guard }], guard := some (3, false) }) (v := ?_) rfl (by kernel_rfl) (by kernel_rfl) (by kernel_rfl) (fun _ _ _ h => h) (Or.inl ⟨by rfl, ?_⟩) (by assumption) ?_
  rotate_left
  · ((intro w hSw); (try dsimp only at hSw); go_simp; (try with_reducible rfl))
  try simp only [Act.put, List.setIfInBounds_toArray, List.set_cons_zero, List.set_cons_succ]
  refine wpAnyH_take (i := 7) (oi := { dst := some 56, op := Op.move (Operand.tmp 2), type := 3, pos := _, after := #[{ on := 3, ground := Ground.guard }], guard := some (3, false) }) (v := ?_) rfl (by kernel_rfl) (by kernel_rfl) (by kernel_rfl) (fun _ _ _ h => h) (Or.inl ⟨by rfl, ?_⟩) (by assumption) ?_
  rotate_left
  · ((intro w hSw); (try dsimp only at hSw); go_simp; (try with_reducible rfl))
  try simp only [Act.put, List.setIfInBounds_toArray, List.set_cons_zero, List.set_cons_succ]
  refine wpAnyH_take (i := 8) (oi := { dst := some 57, op := Op.slice 22 (Operand.tmp 55) none (some (Operand.tmp 56)) none, type := 22, pos := _, after := #[{ on := 6, ground := Ground.data }, { on := 7, ground := Ground.data }, { on := 3, ground := Ground.guard }], guard := some (3, false) }) (v := ?_) rfl (by kernel_rfl) (by kernel_rfl) (by kernel_rfl) (fun _ _ _ h => h) (Or.inl ⟨by rfl, ?_⟩) (by assumption) ?_
  rotate_left
  · ((intro w hSw); (try dsimp only at hSw); go_simp; (try with_reducible rfl))
  try simp only [Act.put, List.setIfInBounds_toArray, List.set_cons_zero, List.set_cons_succ]
  refine wpAnyH_take (i := 9) (oi := { dst := some 58, op := Op.move (Operand.tmp 1), type := 22, pos := _, after := #[{ on := 3, ground := Ground.guard }], guard := some (3, false) }) (v := ?_) rfl (by kernel_rfl) (by kernel_rfl) (by kernel_rfl) (fun _ _ _ h => h) (Or.inl ⟨by rfl, ?_⟩) (by assumption) ?_
  rotate_left
  · ((intro w hSw); (try dsimp only at hSw); go_simp; (try with_reducible rfl))
  try simp only [Act.put, List.setIfInBounds_toArray, List.set_cons_zero, List.set_cons_succ]
  refine wpAnyH_take (i := 10) (oi := { dst := some 59, op := Op.move (Operand.tmp 2), type := 3, pos := _, after := #[{ on := 3, ground := Ground.guard }], guard := some (3, false) }) (v := ?_) rfl (by kernel_rfl) (by kernel_rfl) (by kernel_rfl) (fun _ _ _ h => h) (Or.inl ⟨by rfl, ?_⟩) (by assumption) ?_
  rotate_left
  · ((intro w hSw); (try dsimp only at hSw); go_simp; (try with_reducible rfl))
  try simp only [Act.put, List.setIfInBounds_toArray, List.set_cons_zero, List.set_cons_succ]
  refine wpAnyH_take (i := 11) (oi := { dst := some 60, op := Op.slice 22 (Operand.tmp 58) (some (Operand.tmp 59)) none none, type := 22, pos := _, after := #[{ on := 9, ground := Ground.data }, { on := 10, ground := Ground.data }, { on := 3, ground := Ground.guard }], guard := some (3, false) }) (v := ?_) rfl (by kernel_rfl) (by kernel_rfl) (by kernel_rfl) (fun _ _ _ h => h) (Or.inl ⟨by rfl, ?_⟩) (by assumption) ?_
  rotate_left
  · ((intro w hSw); (try dsimp only at hSw); go_simp; (try with_reducible rfl))
  try simp only [Act.put, List.setIfInBounds_toArray, List.set_cons_zero, List.set_cons_succ]
  refine wpAnyH_ready (rs := [12]) (by kernel_rfl) (by simp) ?_
  refine (AllReadyH.cons (o := { dst := some 61, op := Op.buildSlice 31 3 #[(0, Operand.tmp 57), (1, Operand.const (Value.slice none 0 0)), (2, Operand.tmp 60)], type := 31, pos := _, after := #[{ on := 8, ground := Ground.data }, { on := 11, ground := Ground.data }, { on := 3, ground := Ground.guard }], guard := some (3, false) }) rfl (fun K hK => ?_) AllReadyH.nil)
  go_simp
  refine hK.out _ _ ?_ (fun hHeld => ?_)
  · ((try dsimp only); (first | done | trivial))
  clear hK K
  try simp only [Act.put, List.setIfInBounds_toArray, List.set_cons_zero, List.set_cons_succ]
  refine wpAnyH_ready (rs := [13]) (by kernel_rfl) (by simp) ?_
  refine (AllReadyH.cons (o := { dst := some 62, op := Op.call { callee := Callee.value (Operand.func 20), args := #[Operand.tmp 54, Operand.tmp 61], argTypes := #[22, 31] }, type := 22, pos := _, after := #[{ on := 5, ground := Ground.data }, { on := 12, ground := Ground.data }, { on := 3, ground := Ground.chain }, { on := 3, ground := Ground.guard }], guard := some (3, false) }) rfl (fun K hK => ?_) AllReadyH.nil)
  go_simp
  go_at_call 20
  (with_reducible refine (tag3d ka kc key T x1 x2 y1 y2 p (A.length - p) w4.heap.size X Y A w4 HT0.out HXY.out HXL.out HYL.out rfl (sl_then HB4.out (Nat.le_refl _) HS.out) HK0.out HKC.out HKX.out HK8.out (sl_then HB4.out (Nat.le_refl _) HX1.out) HXZ1.out HXC.out (sl_then HB4.out (Nat.le_refl _) HX2.out) HXZ2.out HYC.out HAX.out HA8.out (tabR_then HB4.out HT.out) (tabB_then HB4.out HB.out)).mono ?_)
  rintro e w5 ⟨ua, uc, rfl, q1, q2, q3, q4⟩
  have HU := Lib.hid q1
  have HB5 := Lib.hid (below_then (HB4.out.alloc HB4.out.size _).drew q4 (by have := HB4.out.size; simp; omega))
  have KB45 := Lib.hid (below_then ((Below.refl w4.heap.size w4).alloc (Nat.le_refl _) _).drew q4 (by simp))
  clear q1 q2 q3 q4
  go_wp2_with fail
  refine hK.out _ _ ?_ (fun hHeld => ?_)
  · ((try dsimp only); (first | done | trivial))
  clear hK K
  try simp only [Act.put, List.setIfInBounds_toArray, List.set_cons_zero, List.set_cons_succ]
  refine wpAnyH_ready (rs := [14]) (by kernel_rfl) (by simp) ?_
  refine (AllReadyH.cons (o := { dst := some 63, op := Op.call { callee := Callee.value (Operand.func 22), args := #[Operand.tmp 53, Operand.tmp 62], argTypes := #[22, 22] }, type := 4, pos := _, after := #[{ on := 4, ground := Ground.data }, { on := 13, ground := Ground.data }, { on := 13, ground := Ground.chain }, { on := 3, ground := Ground.guard }], guard := some (3, false) }) rfl (fun K hK => ?_) AllReadyH.nil)
  go_simp
  go_at_call 22
  (with_reducible refine (equalT ta ua tc uc T w5 (sl_then KB45.out (Nat.le_refl _) HT4.out) HU.out HTL.out HTX.out).mono ?_)
  rintro e w6 ⟨rfl, b6⟩
  have HB6 := Lib.hid (below_then HB5.out b6 HB5.out.size)
  have KB46 := Lib.hid (below_then KB45.out b6 KB45.out.size)
  clear b6
  go_wp2_with fail
  have tL8 : decide ((L.length : Int) ≤ 64) = false := decide_eq_false (by have := HNL.out; omega)
  refine hK.out _ _ ?_ (fun hHeld => ?_)
  · ((try dsimp only); (first | done | trivial))
  clear hK K
  try simp only [Act.put, List.setIfInBounds_toArray, List.set_cons_zero, List.set_cons_succ]
  refine wpAnyH_take (i := 15) (oi := { dst := some 64, op := Op.unOp UnOp.not 4 (Operand.tmp 63), type := 4, pos := _, after := #[{ on := 14, ground := Ground.data }, { on := 3, ground := Ground.guard }], guard := some (3, false) }) (v := ?_) rfl (by kernel_rfl) (by kernel_rfl) (by kernel_rfl) (fun _ _ _ h => h) (Or.inl ⟨by rfl, ?_⟩) (by assumption) ?_
  rotate_left
  · ((intro w hSw); (try dsimp only at hSw); go_simp; (try with_reducible rfl))
  try simp only [Act.put, List.setIfInBounds_toArray, List.set_cons_zero, List.set_cons_succ]
  refine wpAnyH_take (i := 16) (oi := { dst := some 65, op := Op.pick (Operand.tmp 52) (Operand.const (Value.bool true)) (Operand.tmp 64), type := 4, pos := _, after := #[{ on := 3, ground := Ground.data }, { on := 15, ground := Ground.data }], guard := none }) (v := ?_) rfl (by kernel_rfl) (by kernel_rfl) (by kernel_rfl) (fun _ _ _ h => h) (Or.inl ⟨by rfl, ?_⟩) (by assumption) ?_
  rotate_left
  · ((intro w hSw); (try dsimp only at hSw); go_simp; (try with_reducible rfl))
  try simp only [Act.put, List.setIfInBounds_toArray, List.set_cons_zero, List.set_cons_succ]
  refine wpAnyH_take (i := 17) (oi := { dst := some 66, op := Op.move (Operand.tmp 65), type := 4, pos := _, after := #[{ on := 16, ground := Ground.data }, { on := 14, ground := Ground.chain }], guard := none }) (v := ?_) rfl (by kernel_rfl) (by kernel_rfl) (by kernel_rfl) (fun _ _ _ h => h) (Or.inl ⟨by rfl, ?_⟩) (by assumption) ?_
  rotate_left
  · ((intro w hSw); (try dsimp only at hSw); go_simp; (try with_reducible rfl))
  try simp only [Act.put, List.setIfInBounds_toArray, List.set_cons_zero, List.set_cons_succ]
  refine wpAnyH_take (i := 18) (oi := { dst := some 67, op := Op.move (Operand.tmp 10), type := 22, pos := _, after := #[{ on := 17, ground := Ground.guard }], guard := some (17, false) }) (v := ?_) rfl (by kernel_rfl) (by kernel_rfl) (by kernel_rfl) (fun _ _ _ h => h) (Or.inl ⟨by rfl, ?_⟩) (by assumption) ?_
  rotate_left
  · ((intro w hSw); (try dsimp only at hSw); go_simp; (try with_reducible rfl))
  try simp only [Act.put, List.setIfInBounds_toArray, List.set_cons_zero, List.set_cons_succ]
  refine wpAnyH_take (i := 19) (oi := { dst := some 68, op := Op.call { callee := Callee.builtin Builtin.len, args := #[Operand.tmp 67], argTypes := #[22] }, type := 3, pos := _, after := #[{ on := 18, ground := Ground.data }, { on := 17, ground := Ground.guard }], guard := some (17, false) }) (v := ?_) rfl (by kernel_rfl) (by kernel_rfl) (by kernel_rfl) (fun _ _ _ h => h) (Or.inl ⟨by rfl, ?_⟩) (by assumption) ?_
  rotate_left
  · ((intro w hSw); (try dsimp only at hSw); go_simp; (try with_reducible rfl))
  try simp only [Act.put, List.setIfInBounds_toArray, List.set_cons_zero, List.set_cons_succ]
  refine wpAnyH_take (i := 20) (oi := { dst := some 69, op := Op.binOp BinOp.leq 3 (Operand.tmp 68) (Operand.const (Value.int IntKind.i64 64)) 3, type := 4, pos := _, after := #[{ on := 19, ground := Ground.data }, { on := 17, ground := Ground.guard }], guard := some (17, false) }) (v := ?_) rfl (by kernel_rfl) (by kernel_rfl) (by kernel_rfl) (fun _ _ _ h => h) (Or.inl ⟨by rfl, ?_⟩) (by assumption) ?_
  rotate_left
  · ((intro w hSw); (try dsimp only at hSw); go_simp; (try with_reducible rfl))
  try simp only [Act.put, List.setIfInBounds_toArray, List.set_cons_zero, List.set_cons_succ]
  refine wpAnyH_take (i := 21) (oi := { dst := some 70, op := Op.move (Operand.tmp 69), type := 4, pos := _, after := #[{ on := 20, ground := Ground.data }, { on := 17, ground := Ground.chain }, { on := 17, ground := Ground.guard }], guard := some (17, false) }) (v := ?_) rfl (by kernel_rfl) (by kernel_rfl) (by kernel_rfl) (fun _ _ _ h => h) (Or.inl ⟨by rfl, ?_⟩) (by assumption) ?_
  rotate_left
  · ((intro w hSw); (try dsimp only at hSw); go_simp; (try with_reducible rfl))
  try simp only [Act.put, List.setIfInBounds_toArray, List.set_cons_zero, List.set_cons_succ]
  refine wpAnyH_take (i := 22) (oi := { dst := some 71, op := Op.move (Operand.tmp 10), type := 22, pos := _, after := #[{ on := 21, ground := Ground.guard }], guard := some (21, true) }) (v := undef) rfl (by kernel_rfl) (by kernel_rfl) (by kernel_rfl) (fun _ _ _ h => h) (Or.inr ⟨by rfl, rfl⟩) (by assumption) ?_
  try simp only [Act.put, List.setIfInBounds_toArray, List.set_cons_zero, List.set_cons_succ]
  refine wpAnyH_take (i := 23) (oi := { dst := some 72, op := Op.move (Operand.tmp 1), type := 22, pos := _, after := #[{ on := 21, ground := Ground.guard }], guard := some (21, true) }) (v := undef) rfl (by kernel_rfl) (by kernel_rfl) (by kernel_rfl) (fun _ _ _ h => h) (Or.inr ⟨by rfl, rfl⟩) (by assumption) ?_
  try simp only [Act.put, List.setIfInBounds_toArray, List.set_cons_zero, List.set_cons_succ]
  refine wpAnyH_take (i := 24) (oi := { dst := some 73, op := Op.buildSlice 31 1 #[(0, Operand.tmp 72)], type := 31, pos := _, after := #[{ on := 23, ground := Ground.data }, { on := 21, ground := Ground.guard }], guard := some (21, true) }) (v := undef) rfl (by kernel_rfl) (by kernel_rfl) (by kernel_rfl) (fun _ _ _ h => h) (Or.inr ⟨by rfl, rfl⟩) (by assumption) ?_
  try simp only [Act.put, List.setIfInBounds_toArray, List.set_cons_zero, List.set_cons_succ]
  refine wpAnyH_take (i := 25) (oi := { dst := some 74, op := Op.call { callee := Callee.value (Operand.func 20), args := #[Operand.tmp 71, Operand.tmp 73], argTypes := #[22, 31] }, type := 22, pos := _, after := #[{ on := 22, ground := Ground.data }, { on := 24, ground := Ground.data }, { on := 21, ground := Ground.chain }, { on := 21, ground := Ground.guard }], guard := some (21, true) }) (v := undef) rfl (by kernel_rfl) (by kernel_rfl) (by kernel_rfl) (fun _ _ _ h => h) (Or.inr ⟨by rfl, rfl⟩) (by assumption) ?_
  try simp only [Act.put, List.setIfInBounds_toArray, List.set_cons_zero, List.set_cons_succ]
  refine wpAnyH_take (i := 26) (oi := { dst := some 75, op := Op.move (Operand.tmp 9), type := 22, pos := _, after := #[{ on := 21, ground := Ground.guard }], guard := some (21, true) }) (v := undef) rfl (by kernel_rfl) (by kernel_rfl) (by kernel_rfl) (fun _ _ _ h => h) (Or.inr ⟨by rfl, rfl⟩) (by assumption) ?_
  try simp only [Act.put, List.setIfInBounds_toArray, List.set_cons_zero, List.set_cons_succ]
  refine wpAnyH_take (i := 27) (oi := { dst := some 76, op := Op.call { callee := Callee.value (Operand.func 22), args := #[Operand.tmp 74, Operand.tmp 75], argTypes := #[22, 22] }, type := 4, pos := _, after := #[{ on := 25, ground := Ground.data }, { on := 26, ground := Ground.data }, { on := 25, ground := Ground.chain }, { on := 21, ground := Ground.guard }], guard := some (21, true) }) (v := undef) rfl (by kernel_rfl) (by kernel_rfl) (by kernel_rfl) (fun _ _ _ h => h) (Or.inr ⟨by rfl, rfl⟩) (by assumption) ?_
  try simp only [Act.put, List.setIfInBounds_toArray, List.set_cons_zero, List.set_cons_succ]
  refine wpAnyH_take (i := 28) (oi := { dst := some 77, op := Op.unOp UnOp.not 4 (Operand.tmp 76), type := 4, pos := _, after := #[{ on := 27, ground := Ground.data }, { on := 21, ground := Ground.guard }], guard := some (21, true) }) (v := undef) rfl (by kernel_rfl) (by kernel_rfl) (by kernel_rfl) (fun _ _ _ h => h) (Or.inr ⟨by rfl, rfl⟩) (by assumption) ?_
  try simp only [Act.put, List.setIfInBounds_toArray, List.set_cons_zero, List.set_cons_succ]
  refine wpAnyH_take (i := 29) (oi := { dst := some 78, op := Op.pick (Operand.tmp 70) (Operand.tmp 77) (Operand.const (Value.bool false)), type := 4, pos := _, after := #[{ on := 21, ground := Ground.data }, { on := 28, ground := Ground.data }, { on := 17, ground := Ground.guard }], guard := some (17, false) }) (v := ?_) rfl (by kernel_rfl) (by kernel_rfl) (by kernel_rfl) (fun _ _ _ h => h) (Or.inl ⟨by rfl, ?_⟩) (by assumption) ?_
  rotate_left
  · ((intro w hSw); (try dsimp only at hSw); go_simp; (try with_reducible rfl))
  try simp only [Act.put, List.setIfInBounds_toArray, List.set_cons_zero, List.set_cons_succ]
  refine wpAnyH_take (i := 30) (oi := { dst := some 79, op := Op.pick (Operand.tmp 66) (Operand.const (Value.bool true)) (Operand.tmp 78), type := 4, pos := _, after := #[{ on := 17, ground := Ground.data }, { on := 29, ground := Ground.data }], guard := none }) (v := ?_) rfl (by kernel_rfl) (by kernel_rfl) (by kernel_rfl) (fun _ _ _ h => h) (Or.inl ⟨by rfl, ?_⟩) (by assumption) ?_
  rotate_left
  · ((intro w hSw); (try dsimp only at hSw); go_simp; (try with_reducible rfl))
  try simp only [Act.put, List.setIfInBounds_toArray, List.set_cons_zero, List.set_cons_succ]
  refine wpAnyH_done (by kernel_rfl) ?_ _
  have tK2 : ¬ (key.length : Int) ≤ 64 := by have := HLO.out; omega
  go_wp2_with (first
    | (go_at_call 18; (with_reducible refine (hmacA ka kc key H aa ac w6.heap.size A w6 HH.out rfl (sl_then HB6.out (Nat.le_refl _) HS.out) HK0.out HKC.out HKX.out HK8.out (sl_then HB6.out (Nat.le_refl _) HAS.out) HA0.out HAC.out HAX.out HA8.out (tabR_then HB6.out HT.out) (tabB_then HB6.out HB.out)).mono ?_); rintro e w9 ⟨hb, ho, hc, rfl, q1, q2, q3⟩; have HHC := Lib.hid q1; have HB9 := Lib.hid (below_then HB6.out q3 HB6.out.size); have KB49 := Lib.hid (below_then KB46.out q3 KB46.out.size); have h16 : (16 : Int) ≤ (hc : Int) := (by omega); have hc0 : ¬ hc = 0 := (by omega); clear q1 q2 q3)
    | (go_at_call 13; (with_reducible refine (first w9 (tabR_then HB9.out HT.out) (tabB_then HB9.out HB.out)).mono ?_); rintro e wa ⟨rfl, ba⟩; have HBa := Lib.hid (below_then HB9.out ba HB9.out.size); have KB4a := Lib.hid (below_then KB49.out ba KB49.out.size); have HHa := Lib.hid (cells_then ba (Nat.le_refl _) HHC.out); clear ba)
    | (go_at_call 16; (with_reducible refine (sumA ka kc key wa (sl_then HBa.out (Nat.le_refl _) HS.out) HK0.out HKC.out HKX.out HK9.out (tabR_then HBa.out HT.out) (tabB_then HBa.out HB.out)).mono ?_); rintro e wb ⟨sa, sc, rfl, q1, q2, q3, q4⟩; have HSS := Lib.hid q1; have HSC := Lib.hid q2; have HSZ := Lib.hid q3; have HBb := Lib.hid (below_then HBa.out q4 HBa.out.size); have KB4b := Lib.hid (below_then KB4a.out q4 KB4a.out.size); have HHb := Lib.hid (cells_then q4 (Nat.le_refl _) HHa.out); clear q1 q2 q3 q4)
    | (go_at_call 20; (with_reducible refine (tagA sa 32 sc (sha key) T aa A.length ac wb.heap.size A wb (HST.out HLO.out) (sha_len key).symm rfl rfl HSS.out HSZ.out (by rw [sha_len]; exact HSC.out) (sha_lt key) (by rw [sha_len]; decide) (sl_then HBb.out (Nat.le_refl _) HAS.out) HA0.out HAC.out HAX.out HA8.out (tabR_then HBb.out HT.out) (tabB_then HBb.out HB.out)).mono ?_); rintro e wc ⟨na, nc, rfl, q1, q2, q3, q4⟩; have HNN := Lib.hid q1; have HBc := Lib.hid (below_then (HBb.out.alloc HBb.out.size _) q4 (by have := HBb.out.size; simp; omega)); have KB4c := Lib.hid (below_then (KB4b.out.alloc KB4b.out.size _) q4 (by have := KB4b.out.size; simp; omega)); have HHc := Lib.hid (cells_then q4 (by simp) (cells_alloc HHb.out _)); clear q1 q2 q3 q4)
    | (go_at_call 22; (with_reducible refine (equalT na ta nc tc T wc HNN.out (sl_then KB4c.out (Nat.le_refl _) HT4.out) HTL.out HTX.out).mono ?_); rintro e wd ⟨rfl, bd⟩; have HBd := Lib.hid (below_then HBc.out bd HBc.out.size); have KB4d := Lib.hid (below_then KB4c.out bd KB4c.out.size); have HHd := Lib.hid (cells_then bd (Nat.le_refl _) HHc.out); clear bd)
    | (go_at_call 15; (with_reducible refine (bytesT (some ⟨hb, ho, none⟩) ta hc tc T wd (sl_take HHd.out 16 T HHT.out) (sl_then KB4d.out (Nat.le_refl _) HT4.out) HTL.out HTX.out).mono ?_); rintro e w' ⟨rfl, rfl⟩))
  go_ret
  exact ⟨rfl, HBd.out⟩

set_option maxRecDepth 100000 in
theorem cutsOut (ka : Option Addr) (kn kc : Nat) (aa : Option Addr) (an ac : Nat) (p m : Int) (w : World) (hno : 3000 < kn ∨ 3000 < an ∨ p < 0 ∨ (an : Int) < p ∨ m < 0 ∨ 64 < m) (hT : TabR w) (hB : TabB w) :
    Calls Tryd.prog 4 #[.slice ka kn kc, .slice aa an ac, .int .i64 p, .int .i64 m] w fun e w' => e = .returned (.bool true) ∧ Below w.heap.size w w' := by
  have HT := Lib.hid hT
  have HB := Lib.hid hB
  clear hT hB
  by_cases h0 : 3000 < (kn : Int)
  · clear hno
    go_enter Tryd.func4, Tryd.ntmps4
    go_wp2_with (first
      | (go_at_call 13; (with_reducible refine (first w HT.out HB.out).mono ?_); rintro e w1 ⟨rfl, b1⟩; have HB1 := Lib.hid b1; clear b1)
      | (go_at_call 13; (with_reducible refine (first w1 (tabR_then HB1.out HT.out) (tabB_then HB1.out HB.out)).mono ?_); rintro e w2 ⟨rfl, b2⟩; have HB2 := Lib.hid (below_then HB1.out b2 HB1.out.size); clear b2))
    go_ret
    exact ⟨rfl, HB2.out⟩
  ·
    by_cases h1 : 3000 < (an : Int)
    · clear hno
      go_enter Tryd.func4, Tryd.ntmps4
      go_wp2_with (first
        | (go_at_call 13; (with_reducible refine (first w HT.out HB.out).mono ?_); rintro e w1 ⟨rfl, b1⟩; have HB1 := Lib.hid b1; clear b1)
        | (go_at_call 13; (with_reducible refine (first w1 (tabR_then HB1.out HT.out) (tabB_then HB1.out HB.out)).mono ?_); rintro e w2 ⟨rfl, b2⟩; have HB2 := Lib.hid (below_then HB1.out b2 HB1.out.size); clear b2))
      go_ret
      exact ⟨rfl, HB2.out⟩
    ·
      by_cases h2 : p < 0
      · clear hno
        go_enter Tryd.func4, Tryd.ntmps4
        go_wp2_with (first
          | (go_at_call 13; (with_reducible refine (first w HT.out HB.out).mono ?_); rintro e w1 ⟨rfl, b1⟩; have HB1 := Lib.hid b1; clear b1)
          | (go_at_call 13; (with_reducible refine (first w1 (tabR_then HB1.out HT.out) (tabB_then HB1.out HB.out)).mono ?_); rintro e w2 ⟨rfl, b2⟩; have HB2 := Lib.hid (below_then HB1.out b2 HB1.out.size); clear b2))
        go_ret
        exact ⟨rfl, HB2.out⟩
      ·
        by_cases h3 : (an : Int) < p
        · clear hno
          go_enter Tryd.func4, Tryd.ntmps4
          go_wp2_with (first
            | (go_at_call 13; (with_reducible refine (first w HT.out HB.out).mono ?_); rintro e w1 ⟨rfl, b1⟩; have HB1 := Lib.hid b1; clear b1)
            | (go_at_call 13; (with_reducible refine (first w1 (tabR_then HB1.out HT.out) (tabB_then HB1.out HB.out)).mono ?_); rintro e w2 ⟨rfl, b2⟩; have HB2 := Lib.hid (below_then HB1.out b2 HB1.out.size); clear b2))
          go_ret
          exact ⟨rfl, HB2.out⟩
        ·
          by_cases h4 : m < 0
          · clear hno
            go_enter Tryd.func4, Tryd.ntmps4
            go_wp2_with (first
              | (go_at_call 13; (with_reducible refine (first w HT.out HB.out).mono ?_); rintro e w1 ⟨rfl, b1⟩; have HB1 := Lib.hid b1; clear b1)
              | (go_at_call 13; (with_reducible refine (first w1 (tabR_then HB1.out HT.out) (tabB_then HB1.out HB.out)).mono ?_); rintro e w2 ⟨rfl, b2⟩; have HB2 := Lib.hid (below_then HB1.out b2 HB1.out.size); clear b2))
            go_ret
            exact ⟨rfl, HB2.out⟩
          ·
            by_cases h5 : 64 < m
            · clear hno
              go_enter Tryd.func4, Tryd.ntmps4
              go_wp2_with (first
                | (go_at_call 13; (with_reducible refine (first w HT.out HB.out).mono ?_); rintro e w1 ⟨rfl, b1⟩; have HB1 := Lib.hid b1; clear b1)
                | (go_at_call 13; (with_reducible refine (first w1 (tabR_then HB1.out HT.out) (tabB_then HB1.out HB.out)).mono ?_); rintro e w2 ⟨rfl, b2⟩; have HB2 := Lib.hid (below_then HB1.out b2 HB1.out.size); clear b2))
              go_ret
              exact ⟨rfl, HB2.out⟩
            ·
              omega

theorem walk (a0 : Option Addr) (n0 c0 : Nat) (z0 : List Int) (a1 : Option Addr) (n1 c1 : Nat) (z1 : List Int) (p m : Int) (W : World) (w0 : IsRow .u8 W a0 n0 c0 z0) (w1 : IsRow .u8 W a1 n1 c1 z1) (w2 : (Lit.int .i64 p).wf = true) (w3 : (Lit.int .i64 m).wf = true)
    (h1 : Lib.TabIs Tryd.prog W "tickertape/mac.rounds" .u32 [1116352408, 1899447441, 3049323471, 3921009573, 961987163, 1508970993, 2453635748, 2870763221, 3624381080, 310598401, 607225278, 1426881987, 1925078388, 2162078206, 2614888103, 3248222580, 3835390401, 4022224774, 264347078, 604807628, 770255983, 1249150122, 1555081692, 1996064986, 2554220882, 2821834349, 2952996808, 3210313671, 3336571891, 3584528711, 113926993, 338241895, 666307205, 773529912, 1294757372, 1396182291, 1695183700, 1986661051, 2177026350, 2456956037, 2730485921, 2820302411, 3259730800, 3345764771, 3516065817, 3600352804, 4094571909, 275423344, 430227734, 506948616, 659060556, 883997877, 958139571, 1322822218, 1537002063, 1747873779, 1955562222, 2024104815, 2227730452, 2361852424, 2428436474, 2756734187, 3204031479, 3329325298]) (h2 : Lib.TabIs Tryd.prog W "tickertape/mac.beginning" .u32 [1779033703, 3144134277, 1013904242, 2773480762, 1359893119, 2600822924, 528734635, 1541459225]) :
    Calls Tryd.prog 4 #[.slice a0 n0 c0, .slice a1 n1 c1, .int .i64 p, .int .i64 m] W fun e w' => e = .returned (.bool true) ∧ Below W.heap.size W w' := by
  have hT := tabR_of h1
  have hB := tabB_of h2
  by_cases hno : 3000 < n0 ∨ 3000 < n1 ∨ p < 0 ∨ (n1 : Int) < p ∨ m < 0 ∨ 64 < m
  · exact cutsOut a0 n0 c0 a1 n1 c1 p m W hno hT hB
  · obtain ⟨key, rfl, kl, ks, k0, kcap, _⟩ := row_bytes w0
    obtain ⟨A, rfl, al, aS, az, acap, _⟩ := row_bytes w1
    obtain ⟨p, rfl⟩ := Int.eq_ofNat_of_zero_le (show 0 ≤ p by omega)
    obtain ⟨m, rfl⟩ := Int.eq_ofNat_of_zero_le (show 0 ≤ m by omega)
    by_cases g1 : key.length + m ≤ 64
    · exact cuts0 a0 c0 key a1 c1 A p m W ks k0 kcap kl (by omega) aS az acap al (by omega) (by omega) (by omega) g1 hT hB
    · by_cases g2 : key.length ≤ 64
      · exact cuts1 a0 c0 key a1 c1 A p m W ks k0 kcap kl (by omega) aS az acap al (by omega) (by omega) (by omega) (by omega) g2 hT hB
      · exact cuts2 a0 c0 key a1 c1 A p m W ks k0 kcap kl (by omega) aS az acap al (by omega) (by omega) (by omega) (by omega) hT hB

end Go.Proofs.YtmfkfpgomglplaaDoor.Mu
