/- Records as bytes. -/
import Derived.Test.YtabgelmmjpjejaaDoorRy
set_option linter.unusedVariables false
namespace Go.Proofs.YtabgelmmjpjejaaDoor.Rz
open Go Go.RowKit Kit Crc Var Get Ref3 Copy Bytes Bx Py Py2 Ry


set_option maxRecDepth 100000 in
theorem encNo (k : Int) (s t : Nat) (a : Option Addr) (cap : Nat) (l : List Nat) (w : World) (hm : mayR k s t l.length = false) :
    Calls Tryd.prog 11 #[.agg #[.int .i64 k, .int .u64 (s : Int), .int .u64 (t : Int), .slice a l.length cap]] w (EnP [] 1 w) := by
  have HM := Lib.hid hm
  clear hm
  go_enter Tryd.func11, Tryd.ntmps11
  go_wp2_with (go_at_call 18; (with_reducible refine (mayE k s t a l.length cap l _ false rfl HM.out).mono ?_); rintro e w1 ⟨rfl, b1⟩; have HB1 := Lib.hid (stepB (Below.refl _ w) (.cells #[.int .i64 k, .int .u64 (s : Int), .int .u64 (t : Int), .slice a l.length cap] 25) b1); clear b1)
  go_ret2
  exact ⟨none, 0, rfl, .inl rfl, fun _ => rfl, Nat.le_refl _, (fun x hx => by cases hx), HB1.out⟩
set_option maxRecDepth 100000 in
set_option maxHeartbeats 2000000 in
theorem encYes (K s t : Nat) (a : Option Addr) (cap : Nat) (l : List Nat) (w : World) (hm : mayR (K : Int) s t l.length = true) (hs : Sl w a l) (h0 : a = none → cap = 0) (hcap : l.length ≤ cap) (hl : ∀ c ∈ l, c < 256) (hn : l.length ≤ 900000) (hT : TabC w) :
    Calls Tryd.prog 11 #[.agg #[.int .i64 (K : Int), .int .u64 (s : Int), .int .u64 (t : Int), .slice a l.length cap]] w (EnP (recL K s t l) 0 w) := by
  obtain ⟨hk, hs1, hs2, ht, hl2⟩ := mayR_of hm
  have HM := Lib.hid hm
  have HS := Lib.hid hs
  have HZ := Lib.hid h0
  have HC := Lib.hid hcap
  have HX := Lib.hid hl
  have HN := Lib.hid hn
  have HT := Lib.hid hT
  have HK := Lib.hid (show K < 256 by omega)
  have eK : (K : Int) % 256 = (K : Int) := by omega
  have eL : (l.length : Int) % 18446744073709551616 = (l.length : Int) := by omega
  have H1 := Lib.hid (u64_of hs2)
  have H2 := Lib.hid (u64_of ht)
  have H3 := Lib.hid (show l.length < 18446744073709551616 by omega)
  obtain ⟨A1, hA1⟩ : ∃ A, A = varL s := ⟨_, rfl⟩
  obtain ⟨A2, hA2⟩ : ∃ A, A = varL t := ⟨_, rfl⟩
  obtain ⟨A3, hA3⟩ : ∃ A, A = varL l.length := ⟨_, rfl⟩
  have HA1 := Lib.hid hA1
  have HA2 := Lib.hid hA2
  have HA3 := Lib.hid hA3
  have L1 := Lib.hid (show A1.length ≤ 10 by rw [hA1]; exact varL_ten (u64_of hs2))
  have L2 := Lib.hid (show A2.length ≤ 10 by rw [hA2]; exact varL_ten (u64_of ht))
  have L3 := Lib.hid (show A3.length ≤ 10 by rw [hA3]; exact varL_ten (by omega))
  obtain ⟨R, hR⟩ : ∃ R, R = [K] ++ A1 ++ A2 ++ A3 ++ l := ⟨_, rfl⟩
  have HR := Lib.hid hR
  have HRR := Lib.hid (show R = restL K s t l by rw [hR, hA1, hA2, hA3]; rfl)
  have HRX := Lib.hid (show ∀ c ∈ R, c < 256 by rw [HRR.out]; exact restL_lt HK.out hl)
  have HRN := Lib.hid (show R.length ≤ 900100 by have := L1.out; have := L2.out; have := L3.out; rw [hR]; simp; omega)
  obtain ⟨C, hC⟩ : ∃ C, C = crc R := ⟨_, rfl⟩
  have HCC := Lib.hid hC
  have HCL := Lib.hid (show C < 4294967296 by rw [hC]; exact crc_lt _ HRX.out)
  obtain ⟨Q, hQ⟩ : ∃ Q, Q = fourL (C : Int) := ⟨_, rfl⟩
  have HQQ := Lib.hid hQ
  have HQN := Lib.hid (show Q.length = 4 by rw [hQ]; rfl)
  have HFIN := Lib.hid (show [167, 92] ++ Q ++ R = recL K s t l by rw [hQ, hC, HRR.out]; rfl)
  clear hm hs h0 hcap hl hn hT hk hs1 hs2 ht hl2 hA1 hA2 hA3 hR hC hQ
  go_enter Tryd.func11, Tryd.ntmps11
  go_wp2_with (go_at_call 18; (with_reducible refine (mayE (K : Int) s t a l.length cap l _ true rfl HM.out).mono ?_); rintro e w1 ⟨rfl, b1⟩; have HB1 := Lib.hid (stepB (Below.refl _ w) (.cells #[.int .i64 (K : Int), .int .u64 (s : Int), .int .u64 (t : Int), .slice a l.length cap] 25) b1); obtain ⟨c0, c1, c2, c3⟩ := box1 w _ 25 _ _ _ _ b1; have C1 := Lib.hid c1; have C2 := Lib.hid c2; have C3 := Lib.hid c3; have d1 := past_alloc (o := .cells #[.int .u8 (K : Int)] 5) c1; clear c1 c2 c3 b1)
  have HR0 := Lib.hid (show Rb (w1.alloc (.cells #[.int .u8 (K : Int)] 5)) w1.heap.size (.slice (some ⟨w1.heap.size, 0, none⟩) 1 1) [K] from Bb.own (l := [K]) (heap_alloc_last w1 _) (Nat.le_refl _) (by simp))
  have HQ0 := Lib.hid ((Below.refl w1.heap.size w1).alloc (Nat.le_refl _) (.cells #[.int .u8 (K : Int)] 5))
  have HS1 := Lib.hid (sl_then HB1.out (Nat.le_refl _) HS.out)
  have HT1 := Lib.hid (tabC_then HB1.out (Nat.le_refl _) HT.out)
  clear c0 d1
  generalize w1.alloc (.cells #[.int .u8 (K : Int)] 5) = x0 at *
  obtain ⟨c1, c2, c3⟩ := And.intro (cell_then HQ0.out (Nat.le_refl _) C1.out) (And.intro (cell_then HQ0.out (Nat.le_refl _) C2.out) (cell_then HQ0.out (Nat.le_refl _) C3.out))
  generalize Value.slice (some ⟨w1.heap.size, 0, none⟩) 1 1 = v0 at *
  as_aux_lemma =>
    go_wp2_with (first
      | (go_at_call 36; (with_reducible refine (varK s A1 x0 HA1.out H1.out).mono ?_); rintro e y1 ⟨a1, k1, rfl, s1, z1, _, _, b1⟩; have GQ1 := Lib.hid (below_then HQ0.out b1 HQ0.out.size); have GR1 := Lib.hid (rb_then HR0.out b1 (Nat.le_refl _)); have GS1 := Lib.hid s1; have GZ1 := Lib.hid z1; clear s1 z1 b1)
      | (at_builtin; (refine app_sl rfl _ _ rfl w1.heap.size _ ([K]) rfl GR1.out a1 A1.length k1 A1 rfl rfl GZ1.out GS1.out (by have := L1.out; have := L2.out; have := L3.out; simp; omega) GQ1.out.size ?_; intro v1 x1 o1 b1; have HQ1 := Lib.hid (b1 _ _ (Nat.le_refl _) GQ1.out); have HR1 := Lib.hid o1; clear o1 b1; clear c1 c2 c3; obtain ⟨c1, c2, c3⟩ := And.intro (cell_then HQ1.out (Nat.le_refl _) C1.out) (And.intro (cell_then HQ1.out (Nat.le_refl _) C2.out) (cell_then HQ1.out (Nat.le_refl _) C3.out))))
      | (go_at_call 36; (with_reducible refine (varK t A2 x1 HA2.out H2.out).mono ?_); rintro e y2 ⟨a2, k2, rfl, s2, z2, _, _, b2⟩; have GQ2 := Lib.hid (below_then HQ1.out b2 HQ1.out.size); have GR2 := Lib.hid (rb_then HR1.out b2 (Nat.le_refl _)); have GS2 := Lib.hid s2; have GZ2 := Lib.hid z2; clear s2 z2 b2)
      | (at_builtin; (refine app_sl rfl _ _ rfl w1.heap.size _ ([K] ++ A1) rfl GR2.out a2 A2.length k2 A2 rfl rfl GZ2.out GS2.out (by have := L1.out; have := L2.out; have := L3.out; simp; omega) GQ2.out.size ?_; intro v2 x2 o2 b2; have HQ2 := Lib.hid (b2 _ _ (Nat.le_refl _) GQ2.out); have HR2 := Lib.hid o2; clear o2 b2; clear c1 c2 c3; obtain ⟨c1, c2, c3⟩ := And.intro (cell_then HQ2.out (Nat.le_refl _) C1.out) (And.intro (cell_then HQ2.out (Nat.le_refl _) C2.out) (cell_then HQ2.out (Nat.le_refl _) C3.out))))
      | (go_at_call 36; (with_reducible refine (varK l.length A3 x2 HA3.out H3.out).mono ?_); rintro e y3 ⟨a3, k3, rfl, s3, z3, _, _, b3⟩; have GQ3 := Lib.hid (below_then HQ2.out b3 HQ2.out.size); have GR3 := Lib.hid (rb_then HR2.out b3 (Nat.le_refl _)); have GS3 := Lib.hid s3; have GZ3 := Lib.hid z3; clear s3 z3 b3)
      | (at_builtin; (refine app_sl rfl _ _ rfl w1.heap.size _ ([K] ++ A1 ++ A2) rfl GR3.out a3 A3.length k3 A3 rfl rfl GZ3.out GS3.out (by have := L1.out; have := L2.out; have := L3.out; simp; omega) GQ3.out.size ?_; intro v3 x3 o3 b3; have HQ3 := Lib.hid (b3 _ _ (Nat.le_refl _) GQ3.out); have HR3 := Lib.hid o3; clear o3 b3; clear c1 c2 c3; obtain ⟨c1, c2, c3⟩ := And.intro (cell_then HQ3.out (Nat.le_refl _) C1.out) (And.intro (cell_then HQ3.out (Nat.le_refl _) C2.out) (cell_then HQ3.out (Nat.le_refl _) C3.out))))
      | (at_builtin; (refine app_sl rfl _ _ rfl w1.heap.size _ ([K] ++ A1 ++ A2 ++ A3) rfl HR3.out a l.length cap l rfl rfl HZ.out (sl_then HQ3.out (Nat.le_refl _) HS1.out) (by have := L1.out; have := L2.out; have := L3.out; have := HN.out; simp; omega) HQ3.out.size ?_; intro v4 x4 o4 b4; have HQ4 := Lib.hid (b4 _ _ (Nat.le_refl _) HQ3.out); rw [← HR.out] at o4; obtain ⟨ra, rc, rfl, _, hrs, hr0, _⟩ := rb_sl o4; have HRS := Lib.hid hrs; have HR0 := Lib.hid hr0; clear o4 b4 hrs hr0 c1 c2 c3)))
    have HH0 := Lib.hid (show Rb (x4.alloc (.cells #[.int .u8 167, .int .u8 92] 5)) x4.heap.size (.slice (some ⟨x4.heap.size, 0, none⟩) 2 2) [167, 92] from Bb.own (l := [167, 92]) (heap_alloc_last x4 _) (Nat.le_refl _) (by simp))
    have HQ5 := Lib.hid (HQ4.out.alloc HQ4.out.size (.cells #[.int .u8 167, .int .u8 92] 5))
    have HRS5 := Lib.hid (sl_alloc HRS.out (.cells #[.int .u8 167, .int .u8 92] 5))
    have HB5 := Lib.hid (show x4.heap.size ≤ (x4.alloc (.cells #[.int .u8 167, .int .u8 92] 5)).heap.size by simp)
    have HB4 := Lib.hid HQ4.out.size
    have HRS4 := Lib.hid HRS.out
    have HW5 := Lib.hid ((Below.refl x4.heap.size x4).alloc (Nat.le_refl _) (.cells #[.int .u8 167, .int .u8 92] 5))
    generalize x4.alloc (.cells #[.int .u8 167, .int .u8 92] 5) = x5 at *
    generalize Value.slice (some ⟨x4.heap.size, 0, none⟩) 2 2 = v5 at *
    go_wp2_with (first
      | (go_at_call 38; (with_reducible refine (crcK ra R.length rc R C x5 rfl HCC.out HRX.out (by have := HRN.out; omega) HRS5.out (tabC_then HQ5.out (Nat.le_refl _) HT1.out)).mono ?_); rintro e w' ⟨rfl, rfl⟩)
      | (go_at_call 37; (with_reducible refine (fourK C Q x5 HQQ.out HCL.out).mono ?_); rintro e x6 ⟨fa, fc, rfl, fs, fz, _, _, b6⟩; have HQ6 := Lib.hid (below_then HQ5.out b6 HQ5.out.size); have HH6 := Lib.hid (rb_then HH0.out b6 (Nat.le_refl _)); have HRS6 := Lib.hid (sl_then b6 (Nat.le_refl _) HRS5.out); have HFS := Lib.hid fs; have HFZ := Lib.hid fz; have HB6 := Lib.hid (Nat.le_trans HB5.out b6.size); have HW6 := Lib.hid (below_then HW5.out b6 HW5.out.size); clear b6 fs fz)
      | (at_builtin; (refine app_sl rfl _ _ rfl x4.heap.size _ [167, 92] rfl HH6.out fa Q.length fc Q rfl rfl HFZ.out HFS.out (by have := HQN.out; simp; omega) HB6.out ?_; intro v7 x7 o7 b7; have HQ7 := Lib.hid (b7 _ _ HB4.out HQ6.out); have HRS7 := Lib.hid (sl_then (b7 _ _ (Nat.le_refl _) HW6.out) (Nat.le_refl _) HRS4.out); have HR7 := Lib.hid o7; have HB7 := Lib.hid (b7 _ _ (Nat.le_refl _) HW6.out).size; clear o7 b7))
      | (at_builtin; (refine app_sl rfl _ _ rfl x4.heap.size _ ([167, 92] ++ Q) rfl HR7.out ra R.length rc R rfl rfl HR0.out HRS7.out (by have := HQN.out; have := HRN.out; simp; omega) HB7.out ?_; intro v8 x8 o8 b8; have HQ8 := Lib.hid (b8 _ _ HB4.out HQ7.out); have HR8 := Lib.hid o8; clear o8 b8)))
    go_ret2
    rw [← HFIN.out]
    exact enP_of HR8.out (Nat.le_trans HB1.out.size HB4.out) (below_then HB1.out HQ8.out HB1.out.size)
theorem encG (k : Int) (s t : Nat) (a : Option Addr) (cap m : Nat) (l X : List Nat) (E : Nat) (w : World) (e : m = l.length) (hX : X = encL k s t l) (hE : E = encE k s t l) (hs : Sl w a l) (h0 : a = none → cap = 0) (hcap : l.length ≤ cap) (hl : ∀ c ∈ l, c < 256) (hn : l.length ≤ 900000) (hT : TabC w) :
    Calls Tryd.prog 11 #[.agg #[.int .i64 k, .int .u64 (s : Int), .int .u64 (t : Int), .slice a m cap]] w (EnP X E w) := by
  subst e hX hE
  unfold encL encE
  cases h : mayR k s t l.length with
  | false => exact encNo k s t a cap l w h
  | true =>
    obtain ⟨K, rfl⟩ : ∃ K : Nat, k = (K : Int) := ⟨k.toNat, by have := (mayR_of h).1; omega⟩
    exact encYes K s t a cap l w h hs h0 hcap hl hn hT

end Go.Proofs.YtabgelmmjpjejaaDoor.Rz
