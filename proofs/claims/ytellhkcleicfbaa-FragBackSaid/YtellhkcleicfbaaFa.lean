/- frag: a part, written (frag.written). -/
import Derived.Test.YtellhkcleicfbaaRdE
import Derived.Test.YtellhkcleicfbaaAp
import Derived.Test.YtellhkcleicfbaaFr
set_option linter.unusedVariables false
namespace Go.Proofs.Ytellhkcleicfbaa.Fa
open Go Go.RowKit Kit Crc Var Get Bytes WireFirst Ref3 Copy Ap Rd RdA Fr

theorem below_one (w : World) (o : Obj) : Below w.heap.size w (w.alloc o) := (Below.refl w.heap.size w).alloc (Nat.le_refl _) o
theorem below_next2 {w w1 w2 : World} (h : Below w.heap.size w w1) (hb : Below w1.heap.size w1 w2) : Below w.heap.size w w2 := below_then h hb h.size
/-- a part's bytes. -/
def partL (id place count : Nat) (body : List Nat) : List Nat := varL id ++ varL place ++ varL count ++ body
theorem part_byte {id place count : Nat} {body : List Nat} (h : ∀ x ∈ body, x < 256) : ∀ x ∈ partL id place count body, x < 256 := by
  intro x hx
  simp only [partL, List.mem_append] at hx
  rcases hx with ((h1 | h1) | h1) | h1
  · exact varL_bytes _ x h1
  · exact varL_bytes _ x h1
  · exact varL_bytes _ x h1
  · exact h x h1
theorem rb_base {w : World} {b1 b2 : Nat} {v : Value} {l : List Nat} (h : Rb w b1 v l) (hb : b2 ≤ b1) : Rb w b2 v l := by
  refine ⟨h.1, ?_⟩
  rcases h.2 with h | ⟨g, cap, cur, h1, h2, rest⟩
  · exact .inl h
  · exact .inr ⟨g, cap, cur, h1, Nat.le_trans hb h2, rest⟩
def RbQ (w : World) (l : List Nat) (e : Ending) (w' : World) : Prop := ∃ v, e = .returned v ∧ Rb w' w.heap.size v l ∧ Below w.heap.size w w'
theorem varR (n : Nat) (h : n < 18446744073709551616) (w : World) : Calls Try.prog 25 #[.int .u64 (n : Int)] w (RbQ w (varL n)) := varC n w h
theorem four_c {w : World} {k : Nat} {x0 x1 x2 x3 : Value} {T : TypeId} (h : w.heap[k]? = some (.cells #[x0, x1, x2, x3] T)) : w.cell? ⟨k, 0, none⟩ = some x0 ∧ w.cell? ⟨k, 1, none⟩ = some x1 ∧ w.cell? ⟨k, 2, none⟩ = some x2 ∧ w.cell? ⟨k, 3, none⟩ = some x3 := by
  refine ⟨?_, ?_, ?_, ?_⟩ <;> simp [World.cell?, h]
set_option maxRecDepth 100000 in
set_option maxHeartbeats 4000000 in
/-- frag.written. -/
theorem writtenC (id place count : Nat) (a : Option Addr) (n cap : Nat) (body : List Nat) (w : World) (hn : n = body.length) (hm : n ≤ 10000) (h0 : a = none → cap = 0) (hs : Sl w a body) (h1 : id < 18446744073709551616) (h2 : place < 1000000) (h3 : count < 1000000) :
    Calls Try.prog 17 #[.agg #[.int .u64 (id : Int), .int .i64 (place : Int), .int .i64 (count : Int), .slice a n cap]] w (RbQ w (partL id place count body)) := by
  have hb := below_one w (.cells #[.int .u64 (id : Int), .int .i64 (place : Int), .int .i64 (count : Int), .slice a n cap] 47)
  have hz := heap_alloc_last w (.cells #[.int .u64 (id : Int), .int .i64 (place : Int), .int .i64 (count : Int), .slice a n cap] 47)
  obtain ⟨c0, c1, c2, c3⟩ := four_c hz
  have HS0 := Lib.hid (sl_then hb (Nat.le_refl _) hs)
  generalize hw0 : w.alloc (.cells #[.int .u64 (id : Int), .int .i64 (place : Int), .int .i64 (count : Int), .slice a n cap] 47) = w0 at *
  have HB := Lib.hid hb
  have HC1 := Lib.hid c1
  have HC2 := Lib.hid c2
  have HC3 := Lib.hid c3
  have HV1 := Lib.hid (varR id h1)
  have HV2 := Lib.hid (varR place (by omega))
  have HV3 := Lib.hid (varR count (by omega))
  have hw1 : IntKind.u64.wrap (place : Int) = (place : Int) := by rw [IntKind.wrap_u64]; omega
  have hw2 : IntKind.u64.wrap (count : Int) = (count : Int) := by rw [IntKind.wrap_u64]; omega
  have HN := Lib.hid hn
  have HA := Lib.hid h0
  have l1 : (varL id).length ≤ 10 := varL_ten h1
  have l2 : (varL place).length ≤ 10 := varL_ten (by omega)
  have l3 : (varL count).length ≤ 10 := varL_ten (by omega)
  have HL2 := Lib.hid (show (varL id).length + (varL place).length ≤ 1000000 by omega)
  have HL3 := Lib.hid (show (varL id ++ varL place).length + (varL count).length ≤ 1000000 by rw [List.length_append]; omega)
  have HL4 := Lib.hid (show (varL id ++ varL place ++ varL count).length + body.length ≤ 1000000 by rw [List.length_append, List.length_append]; omega)
  show Calls Try.prog 17 _ w (RbQ w (varL id ++ varL place ++ varL count ++ body))
  generalize varL id = V1 at *
  generalize varL place = V2 at *
  generalize varL count = V3 at *
  clear hn hm h0 hs h1 h2 h3 hz hb c1 c2 c3 l1 l2 l3
  go_enter Try.func17, Try.ntmps17
  go_wp2_with (first
    | (go_at_call 25; (with_reducible refine (HV1.out w0).mono ?_); rintro e w1 ⟨v1, rfl, hr, hb⟩; have HB1 := Lib.hid hb; have HR1 := Lib.hid hr; have c1 := cell_then hb (Nat.le_refl _) HC1.out; clear hb hr c0)
    | (go_at_call 25; (with_reducible refine (HV2.out w1).mono ?_); rintro e w2 ⟨v2, rfl, hr, hb⟩; obtain ⟨a2, b2, rfl, hc2, hs2, ha2, hx2⟩ := rb_sl hr; have HB2 := Lib.hid (below_next2 HB1.out hb); have HR2 := Lib.hid (rb_then HR1.out hb (Nat.le_refl _)); have HSL2 := Lib.hid hs2; have HA2 := Lib.hid ha2; clear hr hb hs2 hx2 ha2 hc2 c1)
    | (at_builtin; refine app_sl rfl _ _ rfl w0.heap.size _ V1 rfl HR2.out a2 _ b2 V2 rfl rfl HA2.out HSL2.out HL2.out HB2.out.size ?_; intro v3 w3 hr hb; have HR3 := Lib.hid hr; have HB3 := Lib.hid (hb _ _ (Nat.le_refl _) HB2.out); have c2 := cell_then HB3.out (Nat.le_refl _) HC2.out; clear hr hb)
    | (go_at_call 25; (with_reducible refine (HV3.out w3).mono ?_); rintro e w4 ⟨v4, rfl, hr, hb⟩; obtain ⟨a4, b4, rfl, hc4, hs4, ha4, hx4⟩ := rb_sl hr; have HB4 := Lib.hid (below_next2 HB3.out hb); have HR4 := Lib.hid (rb_then HR3.out hb (Nat.le_refl _)); have HSL4 := Lib.hid hs4; have HA4 := Lib.hid ha4; clear hr hb hs4 hx4 ha4 hc4 c2)
    | (at_builtin; refine app_sl rfl _ _ rfl w0.heap.size _ (V1 ++ V2) rfl HR4.out a4 _ b4 V3 rfl rfl HA4.out HSL4.out HL3.out HB4.out.size ?_; intro v5 w5 hr hb; have HR5 := Lib.hid hr; have HB5 := Lib.hid (hb _ _ (Nat.le_refl _) HB4.out); have c3 := cell_then HB5.out (Nat.le_refl _) HC3.out; have HS5 := Lib.hid (sl_then HB5.out (Nat.le_refl _) HS0.out); clear hr hb)
    | (at_builtin; refine app_sl rfl _ _ rfl w0.heap.size _ (V1 ++ V2 ++ V3) rfl HR5.out a _ cap body rfl HN.out HA.out HS5.out HL4.out HB5.out.size ?_; intro v6 w6 hr hb; have HR6 := Lib.hid hr; have HB6 := Lib.hid (hb _ _ (Nat.le_refl _) HB5.out); clear hr hb c3))
  go_ret
  exact ⟨_, rfl, rb_base HR6.out HB.out.size, below_then HB.out HB6.out HB.out.size⟩
end Go.Proofs.Ytellhkcleicfbaa.Fa
