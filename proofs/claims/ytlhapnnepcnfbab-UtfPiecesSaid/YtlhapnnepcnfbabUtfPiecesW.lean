/- tiklaw3.UtfPieces: the walk. -/
import Derived.Test.YtlhapnnepcnfbabUWr
import Derived.Deep.CutRange
set_option linter.unusedVariables false
namespace Go.Proofs.Ytlhapnnepcnfbab.UtfPiecesW
open Go Go.RowKit Words UMath UDec

def OutP (w : World) (e : Ending) (w' : World) : Prop := e = .returned (.bool true) ∧ Below w.heap.size w w'
set_option maxRecDepth 100000 in
theorem out (a : Option Addr) (len cap : Nat) (a2 : Option Addr) (len2 cap2 : Nat) (w : World) (h : 2000 < len ∨ 200 < len2) (hm : len ≤ 9223372036854775807) (hm2 : len2 ≤ 9223372036854775807) : Calls Try.prog 5 #[.slice a len cap, .slice a2 len2 cap2] w (OutP w) := by
  rcases h with h | h
  all_goals
    go_enter Try.func5, Try.ntmps5
    go_wp2_with fail
    refine (first _).mono ?_
    rintro e w1 ⟨rfl, hb1⟩
    go_wp2_with fail
  all_goals
    refine (first _).mono ?_
    rintro e w2 ⟨rfl, hb2⟩
    go_wp2
    go_ret
    exact ⟨rfl, below_next hb1 hb2⟩
/-- a cut: how far it goes. -/
def cutN (q : Int) (n : Nat) : Nat := (min (max q 0) (n : Int)).toNat
/-- what is left of a slice that came in. -/
def Rest (w : World) (s : Value) (l : List Int) : Prop :=
  ∃ a cap, s = .slice a l.length cap ∧ l.length ≤ cap ∧ cap ≤ 9223372036854775807 ∧ Row .u8 w a l ∧ (a = none → cap = 0)
theorem rest_cut {w : World} {ar : Option Addr} {M : List Int} {capr n : Nat} (hr : Row .u8 w ar M) (hc1 : M.length ≤ capr) (hc2 : capr ≤ 9223372036854775807) (hn : n ≤ M.length) (h0 : ar = none → capr = 0) :
    Rest w (.slice (if capr = n then ar else Option.map (fun x => x.add n) ar) (M.length - n) (capr - n)) (M.drop n) := by
  refine ⟨_, capr - n, by rw [List.length_drop], by rw [List.length_drop]; omega, by omega, ?_, ?_⟩
  · by_cases e : M.drop n = []
    · exact .inl e
    · have hlt : n < M.length := by
        rcases Nat.lt_or_ge n M.length with h | h
        · exact h
        · exact absurd (List.drop_eq_nil_of_le h) e
      obtain ⟨b, off, rfl⟩ := hr.addr (by omega)
      rw [if_neg (by omega)]
      show Row .u8 w (some ((⟨b, off, none⟩ : Addr).add n)) (M.drop n)
      rw [add_at]
      exact Row.cut (n := 0) hr hn
  · intro e
    split at e
    · rw [h0 e]; omega
    · cases ar with
      | none => rw [h0 rfl]; omega
      | some x => cases e
set_option maxRecDepth 100000 in
set_option maxHeartbeats 8000000 in
theorem main (a : Option Addr) (l : List Int) (cap : Nat) (a2 : Option Addr) (q : List Int) (cap2 : Nat) (w : World) (hl : l.length ≤ 2000) (hq : q.length ≤ 200) (hcap : l.length ≤ cap) (hcm : cap ≤ 9223372036854775807) (hr : Row .u8 w a l) (hr2 : Row .i64 w a2 q) (hby : ∀ c ∈ l, 0 ≤ c ∧ c ≤ 255) (h0 : a = none → cap = 0) :
    Calls Try.prog 5 #[.slice a l.length cap, .slice a2 q.length cap2] w (OutP w) := by
  obtain ⟨i0, hi, hz0, hz1, hz2⟩ := info_parts info21
  have HR := Lib.hid hr
  have HQ := Lib.hid hr2
  have HB := Lib.hid hby
  clear hr hr2 hby
  go_enter Try.func5, Try.ntmps5
  go_wp2_with fail
  refine (first _).mono ?_
  rintro e w1 ⟨rfl, hb1⟩
  have hP := hb1.size
  go_wp2_with fail
  refine (newC w1).mono ?_
  rintro e w2 ⟨rfl, rfl⟩
  have hd0 : Dw (w1.alloc (.cells #[.int .i32 0, .int .i64 0, .int .i64 0, .int .u8 0, .int .u8 0] 43)) w1.heap.size d0 := Blk.new _ _ _
  have hb2 : Below w.heap.size w (w1.alloc (.cells #[.int .i32 0, .int .i64 0, .int .i64 0, .int .u8 0, .int .u8 0] 43)) := below_al hb1
  have hs2 : (w1.alloc (.cells #[.int .i32 0, .int .i64 0, .int .i64 0, .int .u8 0, .int .u8 0] 43)).heap.size = w1.heap.size + 1 := by simp
  generalize w1.alloc (.cells #[.int .i32 0, .int .i64 0, .int .i64 0, .int .u8 0, .int .u8 0] 43) = w2 at *
  generalize w1.heap.size = P at *
  clear hb1
  go_wp2_with fail
  refine (newC w2).mono ?_
  rintro e w3 ⟨rfl, rfl⟩
  have hx0 : Dw (w2.alloc (.cells #[.int .i32 0, .int .i64 0, .int .i64 0, .int .u8 0, .int .u8 0] 43)) w2.heap.size d0 := Blk.new _ _ _
  have hd1 : Dw (w2.alloc (.cells #[.int .i32 0, .int .i64 0, .int .i64 0, .int .u8 0, .int .u8 0] 43)) P d0 := Blk.alloc hd0 _
  have hb3 : Below w.heap.size w (w2.alloc (.cells #[.int .i32 0, .int .i64 0, .int .i64 0, .int .u8 0, .int .u8 0] 43)) := below_al hb2
  generalize w2.alloc (.cells #[.int .i32 0, .int .i64 0, .int .i64 0, .int .u8 0, .int .u8 0] 43) = w3 at *
  rw [hs2] at hx0 ⊢
  clear hd0 hb2 hs2
  go_wp2_with fail
  refine (writeC (P + 1) d0 a l cap w3 hx0 ok0 (by omega) (HR.out.then_ hb3 (Nat.le_refl _)) HB.out (fun h1 b off e => by have := HR.out.lt' h1 b off e; omega)).mono ?_
  rintro e w4 ⟨v4, rfl, ho4, hx4, hg4⟩
  obtain ⟨aw, capw, rfl, hcapw, hrw, hxw, _⟩ := row_own ho4
  have hB4 : Below w.heap.size w w4 := below_put hb3 hg4 (by omega)
  have hd4 : Dw w4 P d0 := Blk.grown hd1 hg4 (fun e => by injection e with e; omega)
  have hp3 := Blk.lt hx0
  have HXW := Lib.hid (fun x hx => (hxw x hx).1)
  have HRW := Lib.hid hrw
  have HX4 := Lib.hid hx4
  have HB4 := Lib.hid hB4
  have HD4 := Lib.hid hd4
  have hsz4 := hB4.size
  have hp4 := Blk.lt hx4
  clear ho4 hg4 hxw hrw hx4 hx0 hd1 hb3 hB4 hd4
  have hW := write_len d0 l
  have HOK := Lib.hid (ok_write (l := l) ok0 HB.out)
  go_wp2
  go_loopw [8, 9, 10, 11] (fun s8 s9 s10 s11 wr => ∃ k c : Nat, k ≤ q.length + 1 ∧ c ≤ l.length ∧ (k = q.length + 1 → c = l.length) ∧ s10 = .int .i64 (k : Int) ∧ Rest w s9 (l.drop c) ∧
    wr.ownsRow w4.heap.size 21 1 s8 (writeD d0 (l.take c)).1.length (cellsK .i32 (writeD d0 (l.take c)).1) ∧ Dw wr P (writeD d0 (l.take c)).2 ∧ w4.grownBy wr (some P)) (fun _ _ s10 _ _ => q.length + 1 - (intOf s10).toNat)
  case atStart => exact ⟨0, 0, by omega, by omega, by omega, rfl, ⟨a, cap, rfl, hcap, hcm, HR.out, h0⟩, World.ownsRow_nil _ _ _ _, HD4.out, grownBy_refl _ _⟩
  case round =>
    obtain ⟨k, c, hk, hc, hkc, rfl, hrest, hown, hd, hg⟩ := hrel
    obtain ⟨ar, capr, rfl, hc1, hc2, hrr, hr0⟩ := hrest
    have HRR := Lib.hid hrr
    have HR0 := Lib.hid hr0
    have HKC := Lib.hid hkc
    clear hrr hr0 hkc
    have hML : (l.drop c).length ≤ 2000 := by simp; omega
    have hMc : (l.drop c).length + c = l.length := by simp; omega
    by_cases hlt : k ≤ q.length
    · have HW1 := Lib.hid (fun n => write_app d0 (l.take c) ((l.drop c).take n))
      have HT := Lib.hid (fun n => (List.take_add (l := l) (i := c) (j := n)))
      have HDD := Lib.hid (fun n => (List.drop_drop (l := l) (i := n) (j := c)))
      have hok : OkD (writeD d0 (l.take c)).2 := ok_write ok0 (fun x hx => HB.out x (List.mem_of_mem_take hx))
      have hbM : ∀ x ∈ l.drop c, 0 ≤ x ∧ x ≤ 255 := fun x hx => HB.out x (List.mem_of_mem_drop hx)
      have hwl := write_len d0 (l.take c)
      have htl : (l.take c).length ≤ 2000 := by simp; omega
      have HBM := Lib.hid hbM
      clear hbM
      generalize hM : l.drop c = M at *
      have HM := Lib.hid hM
      clear hM
      go_upto_if 46 with fail
      go_cut [11] from 35 to 64 (fun s11 wx => ∃ n : Nat, n ≤ M.length ∧ s11 = .int .i64 (n : Int) ∧ (k = q.length → n = M.length) ∧ wx = wr)
      case first =>
        by_cases hk2 : k < q.length
        · obtain ⟨b2, o2, rfl⟩ := HQ.out.addr (by omega)
          have hB4 := HB4.out
          have hcell : wr.cell? ⟨b2, o2 + k, none⟩ = some (.int .i64 q[k]) := Row.at_ ((HQ.out.then_ hB4 (Nat.le_refl _)).keep hg (fun h1 b off e => by have := HQ.out.lt' h1 b off e; omega)) k hk2
          generalize q[k] = x at hcell
          by_cases hx0 : x ≤ 0
          · go_wp2
            all_goals
              go_meet
              exact ⟨0, Nat.zero_le _, by first | rfl | (congr 1; omega), by omega, rfl⟩
          · obtain ⟨x, rfl⟩ := Int.eq_ofNat_of_zero_le (show 0 ≤ x by omega)
            by_cases hxl : x ≤ M.length
            · go_wp2
              all_goals
                go_meet
                exact ⟨x, hxl, by first | rfl | (congr 1; omega), by omega, rfl⟩
            · go_wp2
              all_goals
                go_meet
                exact ⟨M.length, Nat.le_refl _, by first | rfl | (congr 1; omega), by omega, rfl⟩
        · go_wp2
          go_meet
          exact ⟨M.length, Nat.le_refl _, rfl, fun _ => rfl, rfl⟩
      case rest =>
        obtain ⟨n, hn, rfl, hkn, rfl⟩ := hcut
        have hnl : (M.take n).length = n := by simp; omega
        have hWr := writeC P (writeD d0 (l.take c)).2 ar (M.take n) capr wc hd hok (by omega) (((HRR.out.then_ HB4.out (Nat.le_refl _)).keep hg (fun h1 b off e => by have := HRR.out.lt' h1 b off e; omega)).take_ n) (fun x hx => HBM.out x (List.mem_of_mem_take hx)) (fun h1 b off e => by have := HRR.out.lt' (by omega) b off e; omega)
        rw [hnl] at hWr
        have HWr := Lib.hid hWr
        have hne := own_blk_ne hown hd (by decide)
        have hwn := write_len (writeD d0 (l.take c)).2 (M.take n)
        have HX := Lib.hid (HW1.out n)
        clear hWr
        have HT2 := Lib.hid (HT.out n)
        have HD2 := Lib.hid (HDD.out n)
        have HKN := Lib.hid hkn
        clear hkn
        generalize writeD d0 (l.take c) = r at *
        generalize M.take n = Mn at *
        go_wp2_with fail
        refine HWr.out.mono ?_
        rintro e w5 ⟨v5, rfl, ho5, hd5, hg5⟩
        have hown5 := hown.kept hg5 (.inr hne)
        have hg6 := grownBy_trans hg hg5
        have hsz5 := hg6.size
        generalize writeD r.2 Mn = r2 at *
        rcases own_form ho5 with ⟨hv5, hnl5⟩ | ⟨g5, cap5, rfl, hr5, _, _⟩
        · have HN5 := Lib.hid hnl5
          have HV5 := Lib.hid hv5
          clear hnl5 hv5
          go_wp2_with (at_builtin; refine wpList_append_own_none rfl _ _ 31 rfl w4.heap.size 21 i0 1 Try.underlying31 hi _ _ _ rfl hown5 HV5.out ?_)
          go_roundw
          case rel =>
            refine ⟨k + 1, c + n, by omega, by omega, ?_, by go_num, ?_, ?_, ?_, hg6⟩
            · have := HKN.out; omega
            · rw [← HD2.out]; exact rest_cut HRR.out hc1 hc2 hn HR0.out
            · rw [HT2.out, HX.out]
              show w5.ownsRow w4.heap.size 21 1 _ (r.1 ++ r2.1).length (cellsK .i32 (r.1 ++ r2.1))
              rw [HN5.out, List.append_nil]; exact hown5
            · rw [HT2.out, HX.out]; exact hd5
          case measure => simp [intOf]; omega
        · go_wp2_with (at_builtin; refine wpList_append_own _ rfl _ _ 31 rfl w4.heap.size 21 i0 (.int .i32 0) 1 4 Try.underlying31 hi hz0 hz1 hz2 rfl (by decide) _ _ _ rfl hown5 ⟨g5, 0, none⟩ r2.1.length cap5 (cellsK .i32 r2.1) rfl (by simp [cellsK]) hr5.cells cellsK_one (by unfold maxLen; omega) (by omega) (by omega) ?_; intro v7 w7 hown7 hgrow7 hnil7)
          have hbl : ∀ j, u8.ownBlock = some j → w4.heap.size ≤ j := fun j hj => (hown5.lt j hj).1
          have hg7 : w4.grownBy w7 (some P) := ⟨hgrow7.os.trans hg6.os, hgrow7.tape.trans hg6.tape, hgrow7.output.trans hg6.output, Nat.le_trans hg6.size hgrow7.size, fun i hi hne => (hgrow7.block i (Nat.lt_of_lt_of_le hi hg6.size) (fun e => by have := hbl i e.symm; omega)).trans (hg6.block i hi hne)⟩
          go_roundw
          case rel =>
            refine ⟨k + 1, c + n, by omega, by omega, ?_, by go_num, ?_, ?_, ?_, hg7⟩
            · have := HKN.out; omega
            · rw [← HD2.out]; exact rest_cut HRR.out hc1 hc2 hn HR0.out
            · rw [HT2.out, HX.out]
              show w7.ownsRow w4.heap.size 21 1 _ (r.1 ++ r2.1).length (cellsK .i32 (r.1 ++ r2.1))
              rw [List.length_append, ← cellsK_app]; exact hown7
            · rw [HT2.out, HX.out]; exact Blk.grown hd5 hgrow7 (fun e => hne e.symm)
          case measure => simp [intOf]; omega
    · obtain rfl : k = q.length + 1 := by omega
      obtain rfl : c = l.length := HKC.out rfl
      rw [List.take_of_length_le (Nat.le_refl _)] at hown hd
      obtain ⟨ag, capg, rfl, hcapg, hrg, _, _⟩ := row_own hown
      have hok := ok_h HOK.out
      have hx : Dw wr (P + 1) (writeD d0 l).2 := Blk.grown HX4.out hg (fun e => by injection e with e; omega)
      have hrw : Row .i32 wr aw (writeD d0 l).1 := HRW.out.keep hg (fun h1 b off e => by have := HXW.out _ e; simp at this; omega)
      have hBw : Below w.heap.size w wr := below_put HB4.out hg hP
      generalize writeD d0 l = r at *
      have hp3 : r.2.h ≤ 3 := hok.2.1
      clear hown hok
      go_wp2_with fail
      refine (first _).mono ?_
      rintro e w6 ⟨rfl, hb6⟩
      have hB6 := below_next hBw hb6
      have hrg6 := hrg.then_ hb6 (Nat.le_refl _)
      have hrw6 := hrw.then_ hb6 (Nat.le_refl _)
      have hd6 : Dw w6 P r.2 := Blk.then_ hd hb6
      have hx6 : Dw w6 (P + 1) r.2 := Blk.then_ hx hb6
      clear hb6 hrg hrw hd hx
      go_wp2_with fail
      refine (runesC ag aw capg capw r.1 r.1 w6 (by omega) hrg6 hrw6).mono ?_
      rw [show decide (r.1 = r.1) = true from by simp]
      rintro e w7 ⟨rfl, k7, rfl⟩
      go_wp2_with fail
      refine (pendC P r.2 _ (Blk.drewN hd6 k7)).mono ?_
      rintro e w7 ⟨rfl, rfl⟩
      go_wp2_with fail
      refine (pendC (P + 1) r.2 _ (Blk.drewN hx6 k7)).mono ?_
      rintro e w7 ⟨rfl, rfl⟩
      go_wp2_with fail
      refine (pendC (P + 1) r.2 _ (Blk.drewN hx6 k7)).mono ?_
      rintro e w7 ⟨rfl, rfl⟩
      go_wp2
      go_ret
      exact ⟨rfl, below_drewN hB6 k7⟩
theorem walk (a : Option Addr) (len cap : Nat) (zs : List Int) (a2 : Option Addr) (len2 cap2 : Nat) (zs2 : List Int) (W : World) (w0 : IsRow .u8 W a len cap zs) (w1 : IsRow .i64 W a2 len2 cap2 zs2) :
    Calls Try.prog 5 #[.slice a len cap, .slice a2 len2 cap2] W fun e w' => e = .returned (.bool true) ∧ Below W.heap.size W w' := by
  obtain ⟨l, rfl, hcap, hcm, h0, hi, hwf⟩ := row_in w0
  obtain ⟨q, rfl, hcap2, hcm2, h02, hi2, _⟩ := row_in w1
  by_cases h : 2000 < l.length ∨ 200 < q.length
  · exact out a _ cap a2 _ cap2 W h (by omega) (by omega)
  · exact main a l cap a2 q cap2 W (by omega) (by omega) hcap hcm hi hi2 (fun c hc => wf_u8 (hwf c hc)) h0
end Go.Proofs.Ytlhapnnepcnfbab.UtfPiecesW
