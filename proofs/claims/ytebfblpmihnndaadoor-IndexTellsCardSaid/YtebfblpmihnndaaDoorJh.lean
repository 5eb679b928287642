/- IndexTells: the walk. -/
import Derived.Test.YtebfblpmihnndaaDoorIu
import Derived.Test.YtebfblpmihnndaaDoorIw
import Derived.Test.YtebfblpmihnndaaDoorJg
import Derived.Test.YtebfblpmihnndaaDoorArgB
set_option linter.unusedVariables false
namespace Go.Proofs.YtebfblpmihnndaaDoor.Jh
open Go Go.RowKit Kit Crc Var Get Ref2 Ref3 Copy Bytes Bx Ia Ib Ic Ir Ie Iu Iw Jc Jd Je Ja Jb Jf Jg

set_option maxRecDepth 100000 in
set_option maxHeartbeats 1000000 in
theorem walkLen (a : Option Addr) (len cap : Nat) (a1 : Option Addr) (len1 cap1 : Nat) (time : Int) (W : World) (h : 200 < len ∨ 3000 < len1) (hT : TabC W) :
    Calls Tryd.prog 3 #[.slice a len cap, .slice a1 len1 cap1, .int .u64 time] W fun e w' => e = .returned (.bool true) ∧ Below W.heap.size W w' := by
  have HT := Lib.hid hT
  clear hT
  by_cases h0 : 200 < len
  · clear h
    go_enter Tryd.func3, Tryd.ntmps3
    go_wp2_with (go_at_call 5; (first
      | ((with_reducible refine (firstC W HT.out).mono ?_); rintro e w1 ⟨rfl, hb⟩; have HB1 := Lib.hid hb; have HT1 := Lib.hid (tab_then HT.out hb (Nat.le_refl _)); clear hb)
      | ((with_reducible refine (firstC _ HT1.out).mono ?_); rintro e w2 ⟨rfl, hb⟩; have HB2 := Lib.hid (below_then HB1.out hb HB1.out.size); clear hb)))
    go_ret
    exact ⟨rfl, HB2.out⟩
  · have h1 : 3000 < len1 := by omega
    clear h
    go_enter Tryd.func3, Tryd.ntmps3
    go_wp2_with (go_at_call 5; (first
      | ((with_reducible refine (firstC W HT.out).mono ?_); rintro e w1 ⟨rfl, hb⟩; have HB1 := Lib.hid hb; have HT1 := Lib.hid (tab_then HT.out hb (Nat.le_refl _)); clear hb)
      | ((with_reducible refine (firstC _ HT1.out).mono ?_); rintro e w2 ⟨rfl, hb⟩; have HB2 := Lib.hid (below_then HB1.out hb HB1.out.size); clear hb)))
    go_ret
    exact ⟨rfl, HB2.out⟩
theorem findQ (a : Option Addr) (n cap : Nat) (L : List En) (time : Nat) (F : Int) (hF : findL L time = F) (w : World) (hn : n = L.length) (hm : n ≤ 1000000) (hs : Es w a L) :
    Calls Tryd.prog 13 #[.slice a n cap, .int .u64 (time : Int)] w fun e w' => e = .returned (.int .i64 F) ∧ w = w' := by subst hF; exact findC a n cap L time w hn hm hs
theorem rFindQ (a : Option Addr) (n cap : Nat) (L : List En) (time : Nat) (F : Int) (hF : findL L time = F) (w : World) (hn : n = L.length) (hm : n ≤ 1000000) (hs : Es w a L) :
    Calls Tryd.prog 14 #[.slice a n cap, .int .u64 (time : Int)] w fun e w' => e = .returned (.int .i64 F) ∧ w = w' := by subst hF; exact rFindC a n cap L time w hn hm hs
theorem sameQ (a1 a2 : Option Addr) (n c1 c2 : Nat) (L : List En) (w : World) (h1 : L.length = n) (hm : n ≤ 1000000) (hs1 : Es w a1 L) (hs2 : Es w a2 L) :
    Calls Tryd.prog 10 #[.slice a1 n c1, .slice a2 n c2] w fun e w' => e = .returned (.bool true) ∧ ∃ m, w.drewN m = w' := sameC a1 a2 n n c1 c2 L w h1.symm h1.symm hm hs1 hs2
theorem bytesQ (a1 a2 : Option Addr) (n c1 c2 : Nat) (l : List Nat) (w : World) (e1 : l.length = n) (h1 : Sl w a1 l) (h2 : Sl w a2 l) (m1 : ∀ c ∈ l, c < 256) :
    Calls Tryd.prog 6 #[.slice a1 n c1, .slice a2 n c2] w fun e w' => e = .returned (.bool true) ∧ w = w' := by
  refine (bytesN a1 a2 n n c1 c2 l l w e1.symm e1.symm h1 h2 m1 m1).mono fun e w' h => ?_
  simpa using h
set_option maxRecDepth 100000 in
set_option maxHeartbeats 8000000 in
theorem mainW (a : Option Addr) (len cap : Nat) (L : List En) (a1 : Option Addr) (len1 cap1 : Nat) (l : List Nat) (time : Nat) (W : World) (h : len ≤ 200) (h1 : len1 ≤ 3000) (hL : len = L.length) (hs : Es W a L) (hok : ∀ e ∈ L, EnOk e) (hl : len1 = l.length) (hlt : ∀ c ∈ l, c < 256) (hc : len1 ≤ cap1) (hs1 : Sl W a1 l) (h0 : a1 = none → cap1 = 0) (hT : TabC W) :
    Calls Tryd.prog 3 #[.slice a len cap, .slice a1 len1 cap1, .int .u64 (time : Int)] W fun e w' => e = .returned (.bool true) ∧ Below W.heap.size W w' := by
  have t1 : ¬ (200 < (len : Int)) := by omega
  have t2 : ¬ (200 < len) := by omega
  have t3 : ¬ (3000 < (len1 : Int)) := by omega
  have t4 : ¬ (3000 < len1) := by omega
  have H5 := Lib.hid (fun w1 (hb : Below W.heap.size W w1) => firstC w1 (tab_then hT hb (Nat.le_refl _)))
  have H7 := Lib.hid (fun w1 (hb : Below W.heap.size W w1) => encodeC a len cap L w1 hL h (hs.then_ hb (Nat.le_refl _)) hok (tab_then hT hb (Nat.le_refl _)))
  have H9 := Lib.hid (fun w1 (hb : Below W.heap.size W w1) => plainC a len cap L w1 hL (by omega) (hs.then_ hb (Nat.le_refl _)))
  have H11 := Lib.hid (fun w1 (hb : Below W.heap.size W w1) => decodeC a1 len1 cap1 l w1 hl hlt (by omega) hc (sl_then hb (Nat.le_refl _) hs1) h0 (tab_then hT hb (Nat.le_refl _)))
  have H12 := Lib.hid (fun w1 (hb : Below W.heap.size W w1) => rDecodeC a1 len1 cap1 l w1 hl hlt (by omega) hc (sl_then hb (Nat.le_refl _) hs1) h0)
  have hDl : (decL l).length ≤ 3000 := by have := decF_len (l.length + 1) l 0 (Nat.zero_le _); unfold decL; omega
  have HEB := Lib.hid (encL_lt L)
  have HOK := Lib.hid hok
  obtain ⟨F, hF⟩ : ∃ F, findL L time = F := ⟨_, rfl⟩
  have HF := Lib.hid hF
  have H13 := Lib.hid (fun w1 (hb : Below W.heap.size W w1) => findQ a len cap L time F hF w1 hL (by omega) (hs.then_ hb (Nat.le_refl _)))
  generalize hE : encL L = E at *
  generalize hD : decL l = D at *
  obtain ⟨en, hen⟩ : ∃ n, E.length = n := ⟨_, rfl⟩
  obtain ⟨dn, hdn⟩ : ∃ n, D.length = n := ⟨_, rfl⟩
  have HEN := Lib.hid hen
  have HDN := Lib.hid hdn
  have HD3 := Lib.hid (show dn ≤ 3000 by omega)
  have HLL := Lib.hid hL
  have HL2 := Lib.hid h
  have HE := Lib.hid hE
  clear hs hok hlt hs1 h0 hT hF hE hD hen hdn hDl hL hl hc
  go_enter Tryd.func3, Tryd.ntmps3
  go_wp2_with (first
    | (go_at_call 5; (with_reducible refine (H5.out W (Below.refl _ _)).mono ?_); rintro e w1 ⟨rfl, hb⟩; have HB1 := Lib.hid hb; clear hb)
    | (go_at_call 5; (with_reducible refine (H5.out w1 HB1.out).mono ?_); rintro e w2 ⟨rfl, hb⟩; have HB2 := Lib.hid (below_then HB1.out hb HB1.out.size); clear hb)
    | (go_at_call 7; (with_reducible refine (H7.out w2 HB2.out).mono ?_); rintro e w3 ⟨v3, rfl, hr, hb⟩; have HB3 := Lib.hid (below_then HB2.out hb HB2.out.size); obtain ⟨ra3, rc3, rfl, _, hr3, _, _⟩ := rb_sl hr; rw [HEN.out]; have HR3 := Lib.hid hr3; clear hb hr hr3)
    | (go_at_call 9; (with_reducible refine (H9.out w3 HB3.out).mono ?_); rintro e w4 ⟨v4, rfl, hr, hb⟩; have HB4 := Lib.hid (below_then HB3.out hb HB3.out.size); obtain ⟨a4, c4, rfl, hr4, _, _⟩ := hr.slice; rw [← HLL.out]; have HR4 := Lib.hid hr4; have HS4 := Lib.hid (sl_then hb (Nat.le_refl _) HR3.out); clear hb hr hr4)
    | (go_at_call 8; (with_reducible refine (rEncodeC a4 len c4 L w4 HLL.out HL2.out HR4.out HOK.out).mono ?_); rintro e w5 ⟨v5, rfl, hr, hb⟩; (rw [HE.out] at hr); have HB5 := Lib.hid (below_then HB4.out hb HB4.out.size); obtain ⟨ra5, rc5, rfl, _, hr5, _, _⟩ := rb_sl hr; rw [HEN.out]; have HR5 := Lib.hid hr5; have HS5 := Lib.hid (sl_then hb (Nat.le_refl _) HS4.out); clear hb hr hr5)
    | (go_at_call 6; (with_reducible refine (bytesQ ra3 ra5 en rc3 rc5 E w5 HEN.out HS5.out HR5.out HEB.out).mono ?_); rintro e w' ⟨rfl, rfl⟩)
    | (go_at_call 11; (with_reducible refine (H11.out w5 HB5.out).mono ?_); rintro e w6 ⟨v6, rfl, hr, hb⟩; have HB6 := Lib.hid (below_then HB5.out hb HB5.out.size); obtain ⟨a6, c6, rfl, hr6, _, _⟩ := hr.slice; rw [HDN.out]; have HR6 := Lib.hid hr6; clear hb hr hr6)
    | (go_at_call 9; (with_reducible refine (plainC a6 dn c6 D w6 HDN.out.symm (by have := HD3.out; omega) HR6.out).mono ?_); rintro e w7 ⟨v7, rfl, hr, hb⟩; have HB7 := Lib.hid (below_then HB6.out hb HB6.out.size); obtain ⟨a7, c7, rfl, hr7, _, _⟩ := hr.slice; rw [HDN.out]; have HR7 := Lib.hid hr7; clear hb hr hr7)
    | (go_at_call 12; (with_reducible refine (H12.out w7 HB7.out).mono ?_); rintro e w8 ⟨v8, rfl, hr, hb⟩; have HB8 := Lib.hid (below_then HB7.out hb HB7.out.size); obtain ⟨a8, c8, rfl, hr8, _, _⟩ := hr.slice; rw [HDN.out]; have HR8 := Lib.hid hr8; have HS8 := Lib.hid (HR7.out.then_ hb (Nat.le_refl _)); clear hb hr hr8)
    | (go_at_call 10; (with_reducible refine (sameQ a7 a8 dn c7 c8 D w8 HDN.out (by have := HD3.out; omega) HS8.out HR8.out).mono ?_); rintro e w9 ⟨rfl, m, hm⟩; have HB9 := Lib.hid (show Below W.heap.size W w9 by rw [← hm]; exact below_drewN HB8.out m); clear hm)
    | (go_at_call 13; (with_reducible refine (H13.out w9 HB9.out).mono ?_); rintro e w' ⟨rfl, rfl⟩)
    | (go_at_call 9; (with_reducible refine (H9.out w9 HB9.out).mono ?_); rintro e w10 ⟨v10, rfl, hr, hb⟩; have HB10 := Lib.hid (below_then HB9.out hb HB9.out.size); obtain ⟨a10, c10, rfl, hr10, _, _⟩ := hr.slice; rw [← HLL.out]; have HR10 := Lib.hid hr10; clear hb hr hr10)
    | (go_at_call 14; (with_reducible refine (rFindQ a10 len c10 L time F HF.out w10 HLL.out (by have := HL2.out; omega) HR10.out).mono ?_); rintro e w' ⟨rfl, rfl⟩))
  go_ret
  exact ⟨by simp, HB10.out⟩
/-- bytes that came in. -/
theorem row_sl {w : World} {a : Option Addr} {len cap : Nat} {zs : List Int} (h : IsRow .u8 w a len cap zs) : ∃ l : List Nat, len = l.length ∧ (∀ c ∈ l, c < 256) ∧ len ≤ cap ∧ Sl w a l ∧ (a = none → cap = 0) := by
  have h2 : len ≤ cap ∧ (a = none → cap = 0) := by
    rcases h with ⟨h1, h2, h3, _⟩ | ⟨_, rfl, hlc, _⟩
    · exact ⟨by omega, fun _ => h3⟩
    · exact ⟨hlc, fun h => by cases h⟩
  by_cases h1 : 1 ≤ len
  · obtain ⟨b, o, l, e, hl, hc, hcell⟩ := ArgB.row_cells h h1
    exact ⟨l, hl.symm, hc, h2.1, .inr ⟨b, o, e, hcell⟩, h2.2⟩
  · exact ⟨[], by simp; omega, by simp, h2.1, .inl rfl, h2.2⟩
/-- IndexTells. -/
theorem walk (a : Option Addr) (len cap : Nat) (L : List En) (a1 : Option Addr) (len1 cap1 : Nat) (zs : List Int) (time : Int) (W : World) (hw : IsEnts W a len cap L) (hr : IsRow .u8 W a1 len1 cap1 zs) (ht : (Lit.int .u64 time).wf = true) (hT : Lib.TabIs Tryd.prog W "tickertape/wire.crcSteps" .u32 [0, 498536548, 997073096, 651767980, 1994146192, 1802195444, 1303535960, 1342533948, 3988292384, 4027552580, 3604390888, 3412177804, 2607071920, 2262029012, 2685067896, 3183342108]) :
    Calls Tryd.prog 3 #[.slice a len cap, .slice a1 len1 cap1, .int .u64 time] W fun e w' => e = .returned (.bool true) ∧ Below W.heap.size W w' := by
  obtain ⟨_, _, hl, hs, hok⟩ := hw
  obtain ⟨l, e1, e2, e3, e4, e5⟩ := row_sl hr
  obtain ⟨t, rfl, _⟩ := nat_of ht
  by_cases h : 200 < len ∨ 3000 < len1
  · exact walkLen a len cap a1 len1 cap1 (t : Int) W h (ArgB.tab hT (by kernel_rfl))
  · exact mainW a len cap L a1 len1 cap1 l t W (by omega) (by omega) hl hs hok e1 e2 e3 e4 e5 (ArgB.tab hT (by kernel_rfl))
end Go.Proofs.YtebfblpmihnndaaDoor.Jh
