/- The Reader: what stands next (next, num) and the closure of Num. -/
import Derived.Test.YtellhkcleicfbaaRd
import Derived.Test.YtellhkcleicfbaaRef3
import Derived.Test.YtellhkcleicfbaaWireFirst
import Derived.Deep.QuietTactic
import Derived.BigQuiet
set_option linter.unusedVariables false
namespace Go.Proofs.Ytellhkcleicfbaa.RdA
open Go Go.RowKit Kit Crc Var Get WireFirst Ref3 Rd

variable {w w' w2 : World} {p : Nat} {r : Rdr}
/-- the reader's bytes. -/
structure By (w : World) (r : Rdr) (l : List Nat) : Prop where
  len : r.len = l.length
  sl : Sl w r.a l
  cap : r.len ≤ r.cap
  small : l.length ≤ 9223372036854775000
  byte : ∀ c ∈ l, c < 256
theorem By.then_ {l : List Nat} (h : By w r l) (hb : Below w.heap.size w w') : By w' r l := ⟨h.len, sl_then hb (Nat.le_refl _) h.sl, h.cap, h.small, h.byte⟩
def PanicQ (w : World) (p : Nat) (r : Rdr) (x : Int) (e : Ending) (w' : World) : Prop := e = .panicked [{ v := fault x, recovered := false }] ∧ Rc w' p r ∧ w.grownBy w' (some p)
def NumQ (w : World) (p : Nat) (r : Rdr) (n : Int) (e : Ending) (w' : World) : Prop := e = .returned (.int .u64 n) ∧ Rc w' p r ∧ w.grownBy w' (some p)
set_option maxRecDepth 100000 in
theorem nextBad (l : List Nat) (hp : Rc w p r) (hl : By w r l) (x : Int) (n y : Int) (hg : getA l (r.at_ : Int) = (n, y, x)) (hx : x ≠ 0) :
    Calls Try.prog 42 #[.pointer (some ⟨p, 0, none⟩)] w (PanicQ w p r x) := by
  obtain ⟨q1, q2, q3, q4, q5⟩ := hl
  have HG := Lib.hid (fun w h => get36 r.a r.cap l (r.at_ : Int) w q5 q4 h)
  unfold GetP at HG
  rw [hg, ← q1] at HG
  have HS := Lib.hid q2
  have c0 := hp.c0
  have c1 := hp.c1
  have HP := Lib.hid hp
  have bx : (x != 0) = true := by simpa using hx
  clear hp hg hx q1 q2 q3 q4 q5
  go_enter Try.func42, Try.ntmps42
  go_wp2
  go_quiet ((go_at_call 43; exact Calls.quiet_of_same ((HG.out _ (by exact HS.out)).mono fun _ _ h => ⟨h.1, h.2.symm⟩)))
  go_wp2
  exact ⟨rfl, rfl, HP.out, ⟨rfl, rfl, rfl, Nat.le_refl _, fun _ _ _ => rfl⟩⟩
set_option maxRecDepth 100000 in
theorem nextOk (l : List Nat) (hp : Rc w p r) (hl : By w r l) (n : Int) (y : Nat) (hg : getA l (r.at_ : Int) = (n, (y : Int), 0)) :
    Calls Try.prog 42 #[.pointer (some ⟨p, 0, none⟩)] w (NumQ w p { r with at_ := y } n) := by
  obtain ⟨q1, q2, q3, q4, q5⟩ := hl
  have HG := Lib.hid (fun w h => get36 r.a r.cap l (r.at_ : Int) w q5 q4 h)
  unfold GetP at HG
  rw [hg, ← q1] at HG
  have HS := Lib.hid q2
  have c0 := hp.c0
  have c1 := hp.c1
  have f1 := hp.fz 1
  have HP := Lib.hid (hp.set1 y)
  have HF := Lib.hid (grown_set (i := 1) (u := .int .i64 (y : Int)) (grown_refl w (some p)))
  clear hp hg q1 q2 q3 q4 q5
  go_enter Try.func42, Try.ntmps42
  go_wp2
  go_quiet ((go_at_call 43; exact Calls.quiet_of_same ((HG.out _ (by exact HS.out)).mono fun _ _ h => ⟨h.1, h.2.symm⟩)))
  go_wp2
  go_ret
  have hf := HF.out
  exact ⟨rfl, HP.out, ⟨hf.os, hf.tape, hf.output, hf.size, hf.block⟩⟩
set_option maxRecDepth 100000 in
theorem numBad (most : Nat) (l : List Nat) (hp : Rc w p r) (hl : By w r l) (x : Int) (n y : Int) (hg : getA l (r.at_ : Int) = (n, y, x)) (hx : x ≠ 0) :
    Calls Try.prog 38 #[.pointer (some ⟨p, 0, none⟩), .int .u64 (most : Int)] w (PanicQ w p r x) := by
  have HN := Lib.hid (nextBad l hp hl x n y hg hx)
  clear hp hl hg hx
  go_enter Try.func38, Try.ntmps38
  go_wp2_with fail
  refine HN.out.mono ?_
  rintro e w1 ⟨rfl, h1, h2⟩
  go_wp2
  exact ⟨rfl, rfl, h1, h2⟩
set_option maxRecDepth 100000 in
theorem numBig (most : Nat) (l : List Nat) (hp : Rc w p r) (hl : By w r l) (n y : Nat) (hg : getA l (r.at_ : Int) = ((n : Int), (y : Int), 0)) (hm : most < n) :
    Calls Try.prog 38 #[.pointer (some ⟨p, 0, none⟩), .int .u64 (most : Int)] w (PanicQ w p { r with at_ := y } 1) := by
  have HN := Lib.hid (nextOk l hp hl n y hg)
  have b1 : decide ((most : Int) < (n : Int)) = true := decide_eq_true (by omega)
  have b2 : decide (most < n) = true := decide_eq_true hm
  clear hp hl hg hm
  go_enter Try.func38, Try.ntmps38
  go_wp2_with fail
  refine HN.out.mono ?_
  rintro e w1 ⟨rfl, h1, h2⟩
  go_wp2
  exact ⟨rfl, rfl, h1, h2⟩
set_option maxRecDepth 100000 in
theorem numOk (most : Nat) (l : List Nat) (hp : Rc w p r) (hl : By w r l) (n y : Nat) (hg : getA l (r.at_ : Int) = ((n : Int), (y : Int), 0)) (hm : n ≤ most) :
    Calls Try.prog 38 #[.pointer (some ⟨p, 0, none⟩), .int .u64 (most : Int)] w (NumQ w p { r with at_ := y } (n : Int)) := by
  have HN := Lib.hid (nextOk l hp hl n y hg)
  have b1 : decide ((most : Int) < (n : Int)) = false := decide_eq_false (by omega)
  have b2 : decide (most < n) = false := decide_eq_false (by omega)
  clear hp hl hg hm
  go_enter Try.func38, Try.ntmps38
  go_wp2_with fail
  refine HN.out.mono ?_
  rintro e w1 ⟨rfl, h1, h2⟩
  go_wp2
  go_ret
  exact ⟨rfl, h1, h2⟩
end Go.Proofs.Ytellhkcleicfbaa.RdA
