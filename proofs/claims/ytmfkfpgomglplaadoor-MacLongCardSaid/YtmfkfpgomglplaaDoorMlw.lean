/- MacLong: the law's walk. -/
import Derived.Test.YtmfkfpgomglplaaDoorMl
set_option linter.unusedVariables false
namespace Go.Proofs.YtmfkfpgomglplaaDoor.Mlw
open Go Go.RowKit Kit Mb Sha Ap Mc1 Sc Mx Sb Pd Su Pa Hm Mm Tg Mf Pk Se Op Ar Mz Dq Db Ds Dh Ms Pv Ml


set_option maxRecDepth 100000 in
theorem longOut (ka : Option Addr) (kn kc : Nat) (aa : Option Addr) (an ac : Nat) (ca : Option Addr) (cn cc : Nat) (at_ x : Int) (w : World) (hno : 1000 < kn ∨ 2000 < an ∨ 40 < cn ∨ at_ < 0 ∨ x = 0) (hT : TabR w) (hB : TabB w) :
    Calls Tryd.prog 5 #[.slice ka kn kc, .slice aa an ac, .slice ca cn cc, .int .i64 at_, .int .u8 x] w fun e w' => e = .returned (.bool true) ∧ Below w.heap.size w w' := by
  have HT := Lib.hid hT
  have HB := Lib.hid hB
  clear hT hB
  by_cases h0 : 1000 < (kn : Int)
  · clear hno
    go_enter Tryd.func5, Tryd.ntmps5
    go_wp2_with (first
      | (go_at_call 13; (with_reducible refine (first w HT.out HB.out).mono ?_); rintro e w1 ⟨rfl, b1⟩; have HB1 := Lib.hid b1; clear b1)
      | (go_at_call 13; (with_reducible refine (first w1 (tabR_then HB1.out HT.out) (tabB_then HB1.out HB.out)).mono ?_); rintro e w2 ⟨rfl, b2⟩; have HB2 := Lib.hid (below_then HB1.out b2 HB1.out.size); clear b2))
    go_ret
    exact ⟨rfl, HB2.out⟩
  ·
    by_cases h1 : 2000 < (an : Int)
    · clear hno
      go_enter Tryd.func5, Tryd.ntmps5
      go_wp2_with (first
        | (go_at_call 13; (with_reducible refine (first w HT.out HB.out).mono ?_); rintro e w1 ⟨rfl, b1⟩; have HB1 := Lib.hid b1; clear b1)
        | (go_at_call 13; (with_reducible refine (first w1 (tabR_then HB1.out HT.out) (tabB_then HB1.out HB.out)).mono ?_); rintro e w2 ⟨rfl, b2⟩; have HB2 := Lib.hid (below_then HB1.out b2 HB1.out.size); clear b2))
      go_ret
      exact ⟨rfl, HB2.out⟩
    ·
      by_cases h2 : 40 < (cn : Int)
      · clear hno
        go_enter Tryd.func5, Tryd.ntmps5
        go_wp2_with (first
          | (go_at_call 13; (with_reducible refine (first w HT.out HB.out).mono ?_); rintro e w1 ⟨rfl, b1⟩; have HB1 := Lib.hid b1; clear b1)
          | (go_at_call 13; (with_reducible refine (first w1 (tabR_then HB1.out HT.out) (tabB_then HB1.out HB.out)).mono ?_); rintro e w2 ⟨rfl, b2⟩; have HB2 := Lib.hid (below_then HB1.out b2 HB1.out.size); clear b2))
        go_ret
        exact ⟨rfl, HB2.out⟩
      ·
        by_cases h3 : at_ < 0
        · clear hno
          go_enter Tryd.func5, Tryd.ntmps5
          go_wp2_with (first
            | (go_at_call 13; (with_reducible refine (first w HT.out HB.out).mono ?_); rintro e w1 ⟨rfl, b1⟩; have HB1 := Lib.hid b1; clear b1)
            | (go_at_call 13; (with_reducible refine (first w1 (tabR_then HB1.out HT.out) (tabB_then HB1.out HB.out)).mono ?_); rintro e w2 ⟨rfl, b2⟩; have HB2 := Lib.hid (below_then HB1.out b2 HB1.out.size); clear b2))
          go_ret
          exact ⟨rfl, HB2.out⟩
        ·
          obtain rfl : x = 0 := by omega
          clear hno
          go_enter Tryd.func5, Tryd.ntmps5
          go_wp2_with (first
            | (go_at_call 13; (with_reducible refine (first w HT.out HB.out).mono ?_); rintro e w1 ⟨rfl, b1⟩; have HB1 := Lib.hid b1; clear b1)
            | (go_at_call 13; (with_reducible refine (first w1 (tabR_then HB1.out HT.out) (tabB_then HB1.out HB.out)).mono ?_); rintro e w2 ⟨rfl, b2⟩; have HB2 := Lib.hid (below_then HB1.out b2 HB1.out.size); clear b2))
          go_ret
          exact ⟨rfl, HB2.out⟩

theorem walk (a0 : Option Addr) (n0 c0 : Nat) (z0 : List Int) (a1 : Option Addr) (n1 c1 : Nat) (z1 : List Int) (a2 : Option Addr) (n2 c2 : Nat) (z2 : List Int) (at_ x : Int) (W : World) (w0 : IsRow .u8 W a0 n0 c0 z0) (w1 : IsRow .u8 W a1 n1 c1 z1) (w2 : IsRow .i64 W a2 n2 c2 z2) (w3 : (Lit.int .i64 at_).wf = true) (w4 : (Lit.int .u8 x).wf = true)
    (h1 : Lib.TabIs Tryd.prog W "tickertape/mac.rounds" .u32 [1116352408, 1899447441, 3049323471, 3921009573, 961987163, 1508970993, 2453635748, 2870763221, 3624381080, 310598401, 607225278, 1426881987, 1925078388, 2162078206, 2614888103, 3248222580, 3835390401, 4022224774, 264347078, 604807628, 770255983, 1249150122, 1555081692, 1996064986, 2554220882, 2821834349, 2952996808, 3210313671, 3336571891, 3584528711, 113926993, 338241895, 666307205, 773529912, 1294757372, 1396182291, 1695183700, 1986661051, 2177026350, 2456956037, 2730485921, 2820302411, 3259730800, 3345764771, 3516065817, 3600352804, 4094571909, 275423344, 430227734, 506948616, 659060556, 883997877, 958139571, 1322822218, 1537002063, 1747873779, 1955562222, 2024104815, 2227730452, 2361852424, 2428436474, 2756734187, 3204031479, 3329325298]) (h2 : Lib.TabIs Tryd.prog W "tickertape/mac.beginning" .u32 [1779033703, 3144134277, 1013904242, 2773480762, 1359893119, 2600822924, 528734635, 1541459225]) :
    Calls Tryd.prog 5 #[.slice a0 n0 c0, .slice a1 n1 c1, .slice a2 n2 c2, .int .i64 at_, .int .u8 x] W fun e W' => e = .returned (.bool true) ∧ Below W.heap.size W W' := by
  have hT := tabR_of h1
  have hB := tabB_of h2
  have hi := inI w3
  have hx := in8 w4
  by_cases hno : 1000 < n0 ∨ 2000 < n1 ∨ 40 < n2 ∨ at_ < 0 ∨ x = 0
  · exact longOut a0 n0 c0 a1 n1 c1 a2 n2 c2 at_ x W hno hT hB
  · obtain ⟨key, rfl, kl, ks, k0, kcap, _⟩ := row_bytes w0
    obtain ⟨A, rfl, al, aS, az, acap, _⟩ := row_bytes w1
    obtain ⟨zs, rfl, _, hz, _⟩ := row_ints w2
    obtain ⟨m, rfl⟩ := Int.eq_ofNat_of_zero_le (show 0 ≤ at_ by omega)
    obtain ⟨y, rfl⟩ := Int.eq_ofNat_of_zero_le (show 0 ≤ x by omega)
    exact longIn a0 c0 key a1 c1 A a2 c2 zs m y W ks k0 kcap kl (by omega) aS az acap al (by omega) hz (by omega) (by omega) (by omega) (by omega) hT hB

end Go.Proofs.YtmfkfpgomglplaaDoor.Mlw
