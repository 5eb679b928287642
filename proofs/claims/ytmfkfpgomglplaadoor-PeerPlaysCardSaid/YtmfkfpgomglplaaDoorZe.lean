/- PeerPlays: every argument. -/
import Derived.Test.YtmfkfpgomglplaaDoorZd
set_option linter.unusedVariables false
namespace Go.Proofs.YtmfkfpgomglplaaDoor.Ze
open Go Go.RowKit Kit Mb Sha Ap Mc1 Sc Mx Sb Pd Su Pa Hm Mm Tg Mf Pk Se Wn Op Pe Ps Pt Oq Pu Ar Ya


theorem walk (a0 : Option Addr) (n0 c0 : Nat) (z0 : List Int) (d v u : Int) (a4 : Option Addr) (n4 c4 : Nat) (F : Nat → Zc.OV) (W : World)
    (w0 : IsRow .u8 W a0 n0 c0 z0) (w1 : (Lit.int .i64 d).wf = true) (w2 : (Lit.int .i64 v).wf = true) (w3 : (Lit.int .u64 u).wf = true) (w4 : Zc.IsOps W a4 n4 F ∧ n4 ≤ maxLen)
    (h1 : Lib.TabIs Tryd.prog W "tickertape/mac.rounds" .u32 [1116352408, 1899447441, 3049323471, 3921009573, 961987163, 1508970993, 2453635748, 2870763221, 3624381080, 310598401, 607225278, 1426881987, 1925078388, 2162078206, 2614888103, 3248222580, 3835390401, 4022224774, 264347078, 604807628, 770255983, 1249150122, 1555081692, 1996064986, 2554220882, 2821834349, 2952996808, 3210313671, 3336571891, 3584528711, 113926993, 338241895, 666307205, 773529912, 1294757372, 1396182291, 1695183700, 1986661051, 2177026350, 2456956037, 2730485921, 2820302411, 3259730800, 3345764771, 3516065817, 3600352804, 4094571909, 275423344, 430227734, 506948616, 659060556, 883997877, 958139571, 1322822218, 1537002063, 1747873779, 1955562222, 2024104815, 2227730452, 2361852424, 2428436474, 2756734187, 3204031479, 3329325298]) (h2 : Lib.TabIs Tryd.prog W "tickertape/mac.beginning" .u32 [1779033703, 3144134277, 1013904242, 2773480762, 1359893119, 2600822924, 528734635, 1541459225]) :
    Calls Tryd.prog 10 #[.slice a0 n0 c0, .int .i64 d, .int .i64 v, .int .u64 u, .slice a4 n4 c4] W fun e w' => e = .returned (.bool true) ∧ Below W.heap.size W w' := by
  obtain ⟨key, rfl, kl, ks, k0, kcap, _⟩ := row_bytes w0
  obtain ⟨out, rfl⟩ := Int.eq_ofNat_of_zero_le (inU w3).1
  exact Zd.main a0 c0 key d v out a4 n4 c4 F W ks k0 kl w4.1 (by have := w4.2; unfold maxLen at this; omega) (tabR_of h1) (tabB_of h2)

end Go.Proofs.YtmfkfpgomglplaaDoor.Ze
