/- Names of segments: the walk. -/
import Derived.Test.YtabgelmmjpjejaaDoorSg
import Derived.Test.YtabgelmmjpjejaaDoorArgB
set_option linter.unusedVariables false
namespace Go.Proofs.YtabgelmmjpjejaaDoor.Sw
open Go Go.RowKit Kit Crc Var Get Ref3 Copy Bytes Bx Py Py2 Np Go.Proofs.YtabgelmmjpjejaaDoor.Nm Sg


theorem tab10 {W : World} (h : Lib.TabIs Tryd.prog W "internal/strconv.uint64pow10" .u64 [1, 10, 100, 1000, 10000, 100000, 1000000, 10000000, 100000000, 1000000000, 10000000000, 100000000000, 1000000000000, 10000000000000, 100000000000000, 1000000000000000, 10000000000000000, 100000000000000000, 1000000000000000000, 10000000000000000000]) : TabP W := h
/-- names of segments. -/
theorem walk (a0 a1 : Int) (s : ByteArray) (W : World) {p0 p1 p2 : Prop} (_ : p0) (_ : p1) (_ : p2) (hP : Lib.TabIs Tryd.prog W "internal/strconv.uint64pow10" .u64 [1, 10, 100, 1000, 10000, 100000, 1000000, 10000000, 100000000, 1000000000, 10000000000, 100000000000, 1000000000000, 10000000000000, 100000000000000, 1000000000000000, 10000000000000000, 100000000000000000, 1000000000000000000, 10000000000000000000]) (hC : Lib.TabIs Tryd.prog W "tickertape/wire.crcSteps" .u32 [0, 498536548, 997073096, 651767980, 1994146192, 1802195444, 1303535960, 1342533948, 3988292384, 4027552580, 3604390888, 3412177804, 2607071920, 2262029012, 2685067896, 3183342108]) (hR : ∃ tp p, W.var? Tryd.prog "strconv.ErrRange" = some #[.iface tp p]) (hS : ∃ tp p, W.var? Tryd.prog "strconv.ErrSyntax" = some #[.iface tp p]) :
    Calls Tryd.prog 9 #[.int .i64 a0, .int .i64 a1, .string s] W fun e W' => e = .returned (.bool true) ∧ Below W.heap.size W W' :=
  walkAll a0 a1 s W (ArgB.tab hC rfl) (tab10 hP) ⟨hS, hR⟩

end Go.Proofs.YtabgelmmjpjejaaDoor.Sw
