/- tikref18.EncodeIndex. -/
import Derived.Test.YtebfblpmihnndaaDoorJd
set_option linter.unusedVariables false
namespace Go.Proofs.YtebfblpmihnndaaDoor.Je
open Go Go.RowKit Kit Crc Var Get Ref2 Ref3 Copy Bytes Bx Ia Ib Ic Ir Ie Jc Jd

set_option maxRecDepth 100000 in
set_option maxHeartbeats 4000000 in
theorem rEncodeC (a : Option Addr) (n cap : Nat) (L : List En) (w : World) (hn : n = L.length) (hm : n ≤ 200) (hs : Es w a L) (hok : ∀ e ∈ L, EnOk e) :
    Calls Tryd.prog 8 #[.slice a n cap] w fun x w' => ∃ v, x = .returned v ∧ Rb w' w.heap.size v (encL L) ∧ Below w.heap.size w w' := by
  have HS := Lib.hid hs
  have HN := Lib.hid hn
  have HOK := Lib.hid hok
  have HM := Lib.hid hm
  clear hs hn hok
  go_enter Tryd.func8, Tryd.ntmps8
  go_wp2
  go_loopw [3, 4] (fun s3 s4 wr => ∃ k : Nat, k ≤ n ∧ s4 = .int .i64 k ∧ Hid (Rb wr w.heap.size s3 (encL (L.take k))) ∧ Hid (Below w.heap.size w wr)) (fun _ s4 _ => n - (intOf s4).toNat)
  case atStart => exact ⟨0, Nat.zero_le _, rfl, Lib.hid (rb_nil _ _), Lib.hid (Below.refl _ _)⟩
  case round =>
    obtain ⟨k, hk, rfl, HR, HB⟩ := hrel
    by_cases hlt : k < n
    · have HKk := Lib.hid (show k + 1 ≤ n ∧ n - (k + 1) < n - k by omega)
      have hkL : k < L.length := by rw [← HN.out]; exact hlt
      obtain ⟨b, off, rfl, hc⟩ : ∃ b off, a = some ⟨b, off, none⟩ ∧ EnC w b off L := by
        rcases HS.out with h | h
        · rw [h] at hkL; simp at hkL
        · exact h
      obtain ⟨c0, c1, c2, c3⟩ := (hc.then_ HB.out (Nat.le_refl _)).at_ k _ (List.getElem?_eq_getElem hkL)
      have hen := HOK.out _ (List.getElem_mem hkL)
      have hnx := encL_next hkL
      have HLen := Lib.hid (show (encL (L.take k)).length ≤ 8800 by
        have h1 := encL_len (L := L.take k) fun e he => HOK.out e (List.mem_of_mem_take he)
        rw [List.length_take] at h1; have := HM.out; omega)
      generalize L[k] = e at *
      obtain ⟨es, et, en, ea⟩ := e
      dsimp only at c0 c1 c2 c3
      have HE := Lib.hid hen
      have HNX := Lib.hid hnx
      have HNL := Lib.hid (numL_len hen)
      have hw1 : IntKind.i64.wrap ((k : Int) + 1) = (k : Int) + 1 := IntWalk.i64_in _ (by omega)
      have HLn := Lib.hid (show (encL (L.take k)).length + (fourL ((crc (numL ⟨es, et, en, ea⟩) : Nat) : Int)).length ≤ 1000000 from Nat.le_trans (Nat.add_le_add HLen.out (Nat.le_refl 4)) (by decide))
      have HLm := Lib.hid (show (encL (L.take k) ++ fourL ((crc (numL ⟨es, et, en, ea⟩) : Nat) : Int)).length + (numL ⟨es, et, en, ea⟩).length ≤ 1000000 from by rw [List.length_append]; exact Nat.le_trans (Nat.add_le_add (Nat.add_le_add HLen.out (Nat.le_refl 4)) HNL.out) (by decide))
      have HB1 := Lib.hid (Below.refl wr.heap.size wr)
      have hkI : (k : Int) < (n : Int) := by omega
      have HNUM := Lib.hid (fun w1 => oneC ⟨es, et, en, ea⟩ w1 HE.out)
      have HCR := Lib.hid (crc_lt (numL_lt ⟨es, et, en, ea⟩))
      have HNB := Lib.hid (numL_lt ⟨es, et, en, ea⟩)
      generalize hX : numL ⟨es, et, en, ea⟩ = X at *
      generalize hY : crc X = Y at *
      have HY := Lib.hid hY
      clear hen hnx hX hY hkL hc hk
      go_wp2_with (first
        | (go_at_call 18; (with_reducible refine (HNUM.out _).mono ?_); rintro x w2 ⟨v2, rfl, hr2, hb2⟩; have HB2 := Lib.hid (below_then HB1.out hb2 HB1.out.size); obtain ⟨ra, rc, rfl, _, hrs, hrz, hrg⟩ := rb_sl hr2; have HG := Lib.hid (fun x hx => (hrg x hx).1); clear hrg; have HQ := Lib.hid hrs; have HZz := Lib.hid hrz; have HR2 := Lib.hid (rb_then HR.out HB2.out (Nat.le_refl _)); clear hr2 hb2 hrs hrz c0 c1 c2 c3)
        | (go_at_call 20; (with_reducible refine (rCrcC ra rc X w2 HNB.out (by have := HNL.out; omega) HQ.out).mono ?_); rintro x w' ⟨rfl, rfl⟩; rw [HY.out])
        | (go_at_call 19; (with_reducible refine (four44 (Y : Int) w2 (Int.natCast_nonneg _) (by have := HCR.out; omega)).mono ?_); rintro x w3 ⟨rfl, hw3⟩; have HB3 := Lib.hid (show Below w2.heap.size w2 w3 by rw [← hw3]; exact (Below.refl _ w2).alloc (Nat.le_refl _) _); have HS3 := Lib.hid (show Sl w3 (some ⟨w2.heap.size, 0, none⟩) (fourL (Y : Int)) by rw [← hw3]; exact sl_new w2 _ 5); have HR3 := Lib.hid (rb_then HR2.out HB3.out (Nat.le_refl _)); have HQ3 := Lib.hid (sl_then HB3.out (Nat.le_refl _) HQ.out); have HC3 := Lib.hid (below_then HB.out (below_then HB2.out HB3.out HB2.out.size) HB.out.size); clear hw3)
        | (at_builtin; (refine app_far rfl _ _ rfl w.heap.size _ (encL (L.take k)) rfl HR3.out (some ⟨w2.heap.size, 0, none⟩) _ 4 (fourL (Y : Int)) rfl rfl (fun h => by cases h) HS3.out HLn.out HC3.out.size ?_; intro v4 w4 o4 b4 f4; have HC4 := Lib.hid (b4 _ _ (Nat.le_refl _) HC3.out); have HR4 := Lib.hid o4; have HQ4 := Lib.hid (sl_far HQ3.out f4 (fun x hx => own_lt HR.out (Nat.le_trans HB1.out.size (HG.out x hx)))); clear o4 b4 f4))
        | (at_builtin; (refine app_far rfl _ _ rfl w.heap.size _ (encL (L.take k) ++ fourL (Y : Int)) rfl HR4.out ra _ rc X rfl rfl HZz.out HQ4.out HLm.out HC4.out.size ?_; intro v5 w5 o5 b5 f5; have HC5 := Lib.hid (b5 _ _ (Nat.le_refl _) HC4.out); have HR5 := Lib.hid (show Rb w5 w.heap.size v5 (encL (L.take (k + 1))) by rw [HNX.out]; exact o5); clear o5 b5 f5)))
      first
        | exact ⟨⟨k + 1, HKk.out.1, by go_num, HR5, HC5⟩, by simp only [intOf]; exact HKk.out.2⟩
        | (go_roundw
           · exact ⟨k + 1, HKk.out.1, by go_num, HR5, HC5⟩
           · simp only [intOf]; exact HKk.out.2)
    · obtain rfl : k = n := by omega
      go_wp2
      go_ret
      exact ⟨_, rfl, by have := HR.out; rwa [List.take_of_length_le (by rw [← HN.out]; exact Nat.le_refl _)] at this, HB.out⟩
end Go.Proofs.YtebfblpmihnndaaDoor.Je
