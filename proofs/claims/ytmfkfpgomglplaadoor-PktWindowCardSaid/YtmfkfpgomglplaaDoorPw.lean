/- The walk of PktWindow. -/
import Derived.Test.YtmfkfpgomglplaaDoorPg
import Derived.Test.YtmfkfpgomglplaaDoorAr
set_option linter.unusedVariables false
namespace Go.Proofs.YtmfkfpgomglplaaDoor.Pw
open Go Go.RowKit Kit Mb Sha Ap Mc1 Sc Mx Sb Pd Su Pa Hm Mm Tg Mf Pk Se Wn Op Pf Pg Ar


def ms (last : Nat) (l : List Nat) : Nat := l.foldl max last
theorem ms_next (last : Nat) (l : List Nat) (k : Nat) (h : k < l.length) : ms last (l.take (k + 1)) = max (ms last (l.take k)) l[k] := by
  unfold ms; rw [List.take_succ_eq_append_getElem h, List.foldl_append]; rfl
set_option maxRecDepth 100000 in
set_option maxHeartbeats 2000000 in
theorem walkL (last : Nat) (ad : Option Addr) (cap : Nat) (zs : List Nat) (w : World) (hc : zs = [] ∨ ∃ b off, ad = some ⟨b, off, none⟩ ∧ ∀ i, (h : i < zs.length) → w.cell? ⟨b, off + i, none⟩ = some (.int .u64 ((zs[i] : Nat) : Int))) (hz : zs.length ≤ 300) (hT : TabR w) (hB : TabB w) :
    Calls Tryd.prog 7 #[.int .u64 (last : Int), .slice ad zs.length cap] w fun e w' => e = .returned (.bool true) ∧ Below w.heap.size w w' := by
  have HC := Lib.hid hc
  have HN := Lib.hid hz
  have HT := Lib.hid hT
  have HB := Lib.hid hB
  have hz2 : ¬ 300 < (zs.length : Int) := by omega
  clear hc hz hT hB
  go_enter Tryd.func7, Tryd.ntmps7
  go_wp2_with (first
    | (go_at_call 23; refine (pfirst w HT.out HB.out).mono ?_; rintro e w1 ⟨rfl, b1⟩)
    | (go_at_call 33; refine (newWindowC last w1).mono ?_; rintro e w2 ⟨rfl, hw2, b2⟩; have HW2 := Lib.hid hw2; have HB2 := Lib.hid (below_then b1 b2 b1.size); have HG := Lib.hid (show w.heap.size ≤ w1.heap.size from b1.size); clear hw2 b2 b1))
  generalize w1.heap.size = g at *
  clear hz2
  go_loopw [0, 6] (fun s0 s6 wr => ∃ (k n : Nat), k ≤ zs.length ∧ s6 = .int .i64 (k : Int) ∧ s0 = .int .u64 (n : Int) ∧ Wn wr g n ∧ Below w.heap.size w wr) (fun _ s6 _ => zs.length - (intOf s6).toNat)
  case atStart => exact ⟨0, last, Nat.zero_le _, rfl, rfl, HW2.out, HB2.out⟩
  case round =>
    clear HW2 HB2
    obtain ⟨k, n, hk, rfl, rfl, hW, hBW⟩ := hrel
    have HW := Lib.hid hW
    have HBW := Lib.hid hBW
    have hn := HN.out
    by_cases hlt : k < zs.length
    · obtain ⟨b, off, rfl, HX⟩ : ∃ b off, ad = some ⟨b, off, none⟩ ∧ ∀ i, (h : i < zs.length) → w.cell? ⟨b, off + i, none⟩ = some (.int .u64 ((zs[i] : Nat) : Int)) := by
        rcases HC.out with h | h
        · rw [h] at hlt; simp at hlt
        · exact h
      have HX := Lib.hid HX
      have cx := cell_then hBW (Nat.le_refl _) (HX.out k hlt)
      generalize zs[k] = x at *
      have cs := past_set (w := wr) (p := ⟨g, 0, none⟩) (u := .int .u64 (x : Int)) cx (show b ≠ g by have h1 : b < w.heap.size := World.block_lt_of_cell? w _ (HX.out k hlt); have h2 := HG.out; omega)
      clear hW hBW
      by_cases hx : n < x
      · have HS := Lib.hid (show Wn (wr.setCell ⟨g, 0, none⟩ (.int .u64 (x : Int))) g x from HW.out.set x)
        have HBS := Lib.hid (show Below w.heap.size w (wr.setCell ⟨g, 0, none⟩ (.int .u64 (x : Int))) from HBW.out.setCell HG.out _)
        have x1 : (n : Int) < (x : Int) := by omega
        have x2 : max n x = x := by omega
        have x3 : max (n : Int) (x : Int) = (x : Int) := by omega
        go_wp2_with (first
          | (go_at_call 34; refine (freshC g n x wr true (decide_eq_true hx).symm HW.out).mono ?_; rintro e w' ⟨rfl, rfl⟩)
          | (go_at_call 35; refine (takeNew g n x wr hx HW.out).mono ?_; rintro e w7 ⟨rfl, hw7, rfl⟩; clear hw7)
          | (go_at_call 36; refine (lastC g x _ HS.out).mono ?_; rintro e w' ⟨rfl, rfl⟩))
        go_roundw
        case rel => exact ⟨k + 1, x, by omega, by go_num, rfl, HS.out, HBS.out⟩
        case measure => simp [intOf]; omega
      · have x1 : ¬ (n : Int) < (x : Int) := by omega
        have x2 : max n x = n := by omega
        have x3 : max (n : Int) (x : Int) = (n : Int) := by omega
        clear cs
        go_wp2_with (first
          | (go_at_call 34; refine (freshC g n x wr false (decide_eq_false hx).symm HW.out).mono ?_; rintro e w' ⟨rfl, rfl⟩)
          | (go_at_call 35; refine (takeOld g n x wr hx HW.out).mono ?_; rintro e w' ⟨rfl, rfl⟩)
          | (go_at_call 36; refine (lastC g n wr HW.out).mono ?_; rintro e w' ⟨rfl, rfl⟩))
        go_roundw
        case rel => exact ⟨k + 1, n, by omega, by go_num, rfl, HW.out, HBW.out⟩
        case measure => simp [intOf]; omega
    · clear hW hBW
      go_wp2_with (go_at_call 23; refine (pfirst wr (tabR_then HBW.out HT.out) (tabB_then HBW.out HB.out)).mono ?_; rintro e w9 ⟨rfl, b9⟩)
      go_ret
      exact ⟨rfl, below_then HBW.out b9 HBW.out.size⟩
set_option maxRecDepth 100000 in
theorem walkLong (last : Nat) (ad : Option Addr) (n cap : Nat) (w : World) (hn : 300 < n) (hT : TabR w) (hB : TabB w) :
    Calls Tryd.prog 7 #[.int .u64 (last : Int), .slice ad n cap] w fun e w' => e = .returned (.bool true) ∧ Below w.heap.size w w' := by
  have HT := Lib.hid hT
  have HB := Lib.hid hB
  have hz2 : 300 < (n : Int) := by omega
  clear hn hT hB
  go_enter Tryd.func7, Tryd.ntmps7
  go_wp2_with (first
    | (go_at_call 23; (with_reducible refine (pfirst w HT.out HB.out).mono ?_); rintro e w1 ⟨rfl, b1⟩; have HB1 := Lib.hid b1; clear b1)
    | (go_at_call 33; refine (newWindowC last w1).mono ?_; rintro e w2 ⟨rfl, hw2, b2⟩; have HB2 := Lib.hid (below_then HB1.out b2 HB1.out.size); clear hw2 b2)
    | (go_at_call 23; (with_reducible refine (pfirst w2 (tabR_then HB2.out HT.out) (tabB_then HB2.out HB.out)).mono ?_); rintro e w3 ⟨rfl, b3⟩; have HB3 := Lib.hid (below_then HB2.out b3 HB2.out.size); clear b3))
  go_ret
  exact ⟨rfl, HB3.out⟩
theorem walk (a0 : Int) (a : Option Addr) (len cap : Nat) (zs : List Int) (W : World) (w0 : (Lit.int .u64 a0).wf = true) (w1 : IsRow .u64 W a len cap zs)
    (h1 : Lib.TabIs Tryd.prog W "tickertape/mac.rounds" .u32 [1116352408, 1899447441, 3049323471, 3921009573, 961987163, 1508970993, 2453635748, 2870763221, 3624381080, 310598401, 607225278, 1426881987, 1925078388, 2162078206, 2614888103, 3248222580, 3835390401, 4022224774, 264347078, 604807628, 770255983, 1249150122, 1555081692, 1996064986, 2554220882, 2821834349, 2952996808, 3210313671, 3336571891, 3584528711, 113926993, 338241895, 666307205, 773529912, 1294757372, 1396182291, 1695183700, 1986661051, 2177026350, 2456956037, 2730485921, 2820302411, 3259730800, 3345764771, 3516065817, 3600352804, 4094571909, 275423344, 430227734, 506948616, 659060556, 883997877, 958139571, 1322822218, 1537002063, 1747873779, 1955562222, 2024104815, 2227730452, 2361852424, 2428436474, 2756734187, 3204031479, 3329325298]) (h2 : Lib.TabIs Tryd.prog W "tickertape/mac.beginning" .u32 [1779033703, 3144134277, 1013904242, 2773480762, 1359893119, 2600822924, 528734635, 1541459225]) :
    Calls Tryd.prog 7 #[.int .u64 a0, .slice a len cap] W fun e w' => e = .returned (.bool true) ∧ Below W.heap.size W w' := by
  obtain ⟨n0, n1⟩ := inU w0
  obtain ⟨n, rfl⟩ := Int.eq_ofNat_of_zero_le n0
  by_cases hl : 300 < len
  · exact walkLong n a len cap W hl (tabR_of h1) (tabB_of h2)
  · obtain ⟨l, rfl, _, hc⟩ := row_nums w1
    exact walkL n a cap l W hc (by omega) (tabR_of h1) (tabB_of h2)

end Go.Proofs.YtmfkfpgomglplaaDoor.Pw
