/- SegBack: every argument. -/
import Derived.Test.YtabgelmmjpjejaaDoorUc
import Derived.Test.YtabgelmmjpjejaaDoorSw
set_option linter.unusedVariables false
namespace Go.Proofs.YtabgelmmjpjejaaDoor.Ud
open Go Go.RowKit Kit Crc Var Get Ref3 Copy Bytes Bx Py Py2 Ry Rz Dn Df Dd Da Dc Rs Rf Rg Ar Bg Np Go.Proofs.YtabgelmmjpjejaaDoor.Nm Hd Ho Sn Rh Sr Sf So Sp Sq Sl2 Sl3 Sx Sv Ss Sy Sz Uc


/-- there and back, and beginnings: every argument. -/
theorem walk (n f : Int) (a : Option Addr) (len cap : Nat) (F : Nat → RV) (cut : Int) (W : World) {p0 p1 : Prop} (_ : p0) (hf : (Lit.int .u64 f).wf = true) (hr : IsRecs W a len cap F) (_ : p1) (hP : Lib.TabIs Tryd.prog W "internal/strconv.uint64pow10" .u64 [1, 10, 100, 1000, 10000, 100000, 1000000, 10000000, 100000000, 1000000000, 10000000000, 100000000000, 1000000000000, 10000000000000, 100000000000000, 1000000000000000, 10000000000000000, 100000000000000000, 1000000000000000000, 10000000000000000000]) (hC : Lib.TabIs Tryd.prog W "tickertape/wire.crcSteps" .u32 [0, 498536548, 997073096, 651767980, 1994146192, 1802195444, 1303535960, 1342533948, 3988292384, 4027552580, 3604390888, 3412177804, 2607071920, 2262029012, 2685067896, 3183342108]) (_ : ∃ tp p, W.var? Tryd.prog "strconv.ErrRange" = some #[.iface tp p]) (_ : ∃ tp p, W.var? Tryd.prog "strconv.ErrSyntax" = some #[.iface tp p]) :
    Calls Tryd.prog 7 #[.agg #[.int .i64 n, .int .u64 f], .slice a len cap, .int .i64 cut] W fun e W' => e = .returned (.bool true) ∧ Below W.heap.size W W' := by
  have hT := ArgB.tab hC rfl
  have hP := Sw.tab10 hP
  obtain ⟨f, rfl⟩ := Int.eq_ofNat_of_zero_le (inU hf).1
  obtain ⟨blk, off, k, s, t, ad, c, b, hA, hR⟩ := ra_of hr
  exact main n f a len cap cut W hT hP blk off k s t ad c b hA hR

end Go.Proofs.YtabgelmmjpjejaaDoor.Ud
