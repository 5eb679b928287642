/- An entry of an index: its numbers as bytes (index.numbers). -/
import Derived.Test.YtebfblpmihnndaaDoorBx
import Derived.Test.YtebfblpmihnndaaDoorRef3
set_option linter.unusedVariables false
namespace Go.Proofs.YtebfblpmihnndaaDoor.Ia
open Go Go.RowKit Kit Crc Var Get Ref3 Copy Bytes Bx

/-- an entry: its number, its time, its segment, its place. -/
structure En where
  s : Nat
  t : Nat
  n : Int
  a : Int
  deriving DecidableEq, Inhabited
/-- its numbers are numbers of those kinds. -/
def EnOk (e : En) : Prop := e.s < 18446744073709551616 ∧ e.t < 18446744073709551616
abbrev evA (e : En) : Value := .agg #[.int .u64 (e.s : Int), .int .u64 (e.t : Int), .int .i64 e.n, .int .i64 e.a]
/-- a number of 64 bits, read without its sign. -/
def uZ (n : Int) : Nat := (n % 18446744073709551616).toNat
theorem uZ_wrap (n : Int) : IntKind.u64.wrap n = (uZ n : Int) := by
  unfold uZ
  rw [Int.toNat_of_nonneg (Int.emod_nonneg _ (by decide))]
  simp [IntKind.wrap, IntKind.signed, IntKind.bits]
theorem uZ_lt (n : Int) : uZ n < 18446744073709551616 := by
  unfold uZ
  have h1 := Int.emod_nonneg n (show (18446744073709551616 : Int) ≠ 0 by decide)
  have h2 := Int.emod_lt_of_pos n (show (0 : Int) < 18446744073709551616 by decide)
  omega
/-- an entry's numbers as bytes. -/
def numL (e : En) : List Nat := [] ++ varL e.s ++ varL e.t ++ varL (uZ e.n) ++ varL (uZ e.a)
theorem numL_lt (e : En) : ∀ c ∈ numL e, c < 256 := by
  intro c hc
  unfold numL at hc
  simp only [List.mem_append, List.not_mem_nil, false_or] at hc
  rcases hc with ((hc | hc) | hc) | hc
  · exact varL_bytes _ c hc
  · exact varL_bytes _ c hc
  · exact varL_bytes _ c hc
  · exact varL_bytes _ c hc
theorem numL_len {e : En} (h : EnOk e) : (numL e).length ≤ 40 := by
  have h1 := varL_ten h.1
  have h2 := varL_ten h.2
  have h3 := varL_ten (uZ_lt e.n)
  have h4 := varL_ten (uZ_lt e.a)
  unfold numL
  simp only [List.length_append, List.length_nil]
  omega
/-- a row of bytes of one's own, made behind a world. -/
def OwB (B : Nat) (w w' : World) (v : Value) (l : List Nat) : Prop := Rb w' B v l ∧ Below B w w'
theorem ix0 (a b c d : Value) (w : World) : (Instr.index 55 (.agg #[a, b, c, d]) (.int .i64 0)).run Tryd.prog w = .ok a w := by kernel_rfl
theorem ix1 (a b c d : Value) (w : World) : (Instr.index 55 (.agg #[a, b, c, d]) (.int .i64 1)).run Tryd.prog w = .ok b w := by kernel_rfl
theorem ix2 (a b c d : Value) (w : World) : (Instr.index 55 (.agg #[a, b, c, d]) (.int .i64 2)).run Tryd.prog w = .ok c w := by kernel_rfl
theorem ix3 (a b c d : Value) (w : World) : (Instr.index 55 (.agg #[a, b, c, d]) (.int .i64 3)).run Tryd.prog w = .ok d w := by kernel_rfl
set_option maxRecDepth 100000 in
set_option maxHeartbeats 4000000 in
theorem numbersC (e : En) (w : World) (h : EnOk e) :
    Calls Tryd.prog 15 #[evA e] w fun x w' => ∃ v, x = .returned v ∧ Rb w' w.heap.size v (numL e) ∧ Below w.heap.size w w' := by
  obtain ⟨s, t, n, a⟩ := e
  obtain ⟨h1, h2⟩ := h
  dsimp only at h1 h2
  have u1 := uZ_wrap n
  have u2 := uZ_wrap a
  have G0 := Lib.hid h1
  have G1 := Lib.hid h2
  have G2 := Lib.hid (uZ_lt n)
  have G3 := Lib.hid (uZ_lt a)
  have HNL := Lib.hid (show numL ⟨s, t, n, a⟩ = [] ++ varL s ++ varL t ++ varL (uZ n) ++ varL (uZ a) from rfl)
  have L0 := Lib.hid (varL_ten h1)
  have L1 := Lib.hid (varL_ten h2)
  have L2 := Lib.hid (varL_ten (uZ_lt n))
  have L3 := Lib.hid (varL_ten (uZ_lt a))
  generalize hx : uZ n = x at *
  generalize hy : uZ a = y at *
  clear h1 h2 hx hy
  have HB0 := Lib.hid (show Below w.heap.size w (w.alloc (.cells #[.int .u64 (s : Int), .int .u64 (t : Int), .int .i64 n, .int .i64 a] 38)) from (Below.refl _ w).alloc (Nat.le_refl _) _)
  generalize hw0 : w.alloc (.cells #[.int .u64 (s : Int), .int .u64 (t : Int), .int .i64 n, .int .i64 a] 38) = w0 at *
  have HO := Lib.hid (show w0.heap[w.heap.size]? = some (.cells #[.int .u64 (s : Int), .int .u64 (t : Int), .int .i64 n, .int .i64 a] 38 (0, 0)) by rw [← hw0]; exact heap_alloc_last w _)
  have c0 : w0.cell? ⟨w.heap.size, 0, none⟩ = some (.int .u64 (s : Int)) := by simp [World.cell?, HO.out]
  have c1 : w0.cell? ⟨w.heap.size, 1, none⟩ = some (.int .u64 (t : Int)) := by simp [World.cell?, HO.out]
  have c2 : w0.cell? ⟨w.heap.size, 2, none⟩ = some (.int .i64 n) := by simp [World.cell?, HO.out]
  have c3 : w0.cell? ⟨w.heap.size, 3, none⟩ = some (.int .i64 a) := by simp [World.cell?, HO.out]
  have HR0 := Lib.hid (rb_nil w0 w.heap.size)
  have kx0 := ix0
  have kx1 := ix1
  have kx2 := ix2
  have kx3 := ix3
  go_enter Tryd.func15, Tryd.ntmps15
  go_wp2
  clear c0 c1 c2 c3 HO
  refine wp_loop_rounds 5 ?_
  rw [rounds_succ]
  go_wp2_with (first
    | (go_at_call 25; (with_reducible refine (varC s _ G0.out).mono ?_); rintro e v0w ⟨v0, rfl, hr0, hb0⟩; have HS0 := Lib.hid hr0; have HC0 := Lib.hid (below_then HB0.out hb0 HB0.out.size); have HT0 := Lib.hid (rb_then HR0.out hb0 (Nat.le_refl _)); obtain ⟨ra0, rc0, rfl, _, hrs0, hrz0, _⟩ := rb_sl (base := _) (v := v0) (l := varL s) hr0; have HQ0 := Lib.hid hrs0; have HZ0 := Lib.hid hrz0; have HLn0 := Lib.hid (show (([] : List Nat)).length + (varL s).length ≤ 1000000 by simp only [List.length_nil]; have := L0.out; have := L1.out; have := L2.out; have := L3.out; omega); clear hr0 hb0 hrs0 hrz0)
    | (at_builtin; (refine app_sl rfl _ _ rfl w.heap.size _ (([] : List Nat)) rfl HT0.out ra0 _ rc0 (varL s) rfl rfl HZ0.out HQ0.out HLn0.out HC0.out.size ?_; intro y0 x0 o0 b0; have HB1 := Lib.hid (b0 _ _ (Nat.le_refl _) HC0.out); have HR1 := Lib.hid o0; clear o0 b0)))
  rw [rounds_succ]
  go_wp2_with (first
    | (go_at_call 25; (with_reducible refine (varC t _ G1.out).mono ?_); rintro e v1w ⟨v1, rfl, hr1, hb1⟩; have HS1 := Lib.hid hr1; have HC1 := Lib.hid (below_then HB1.out hb1 HB1.out.size); have HT1 := Lib.hid (rb_then HR1.out hb1 (Nat.le_refl _)); obtain ⟨ra1, rc1, rfl, _, hrs1, hrz1, _⟩ := rb_sl (base := _) (v := v1) (l := varL t) hr1; have HQ1 := Lib.hid hrs1; have HZ1 := Lib.hid hrz1; have HLn1 := Lib.hid (show (([] : List Nat) ++ varL s).length + (varL t).length ≤ 1000000 by simp only [List.length_append, List.length_nil]; have := L0.out; have := L1.out; have := L2.out; have := L3.out; omega); clear hr1 hb1 hrs1 hrz1)
    | (at_builtin; (refine app_sl rfl _ _ rfl w.heap.size _ (([] : List Nat) ++ varL s) rfl HT1.out ra1 _ rc1 (varL t) rfl rfl HZ1.out HQ1.out HLn1.out HC1.out.size ?_; intro y1 x1 o1 b1; have HB2 := Lib.hid (b1 _ _ (Nat.le_refl _) HC1.out); have HR2 := Lib.hid o1; clear o1 b1)))
  rw [rounds_succ]
  go_wp2_with (first
    | (go_at_call 25; (with_reducible refine (varC x _ G2.out).mono ?_); rintro e v2w ⟨v2, rfl, hr2, hb2⟩; have HS2 := Lib.hid hr2; have HC2 := Lib.hid (below_then HB2.out hb2 HB2.out.size); have HT2 := Lib.hid (rb_then HR2.out hb2 (Nat.le_refl _)); obtain ⟨ra2, rc2, rfl, _, hrs2, hrz2, _⟩ := rb_sl (base := _) (v := v2) (l := varL x) hr2; have HQ2 := Lib.hid hrs2; have HZ2 := Lib.hid hrz2; have HLn2 := Lib.hid (show (([] : List Nat) ++ varL s ++ varL t).length + (varL x).length ≤ 1000000 by simp only [List.length_append, List.length_nil]; have := L0.out; have := L1.out; have := L2.out; have := L3.out; omega); clear hr2 hb2 hrs2 hrz2)
    | (at_builtin; (refine app_sl rfl _ _ rfl w.heap.size _ (([] : List Nat) ++ varL s ++ varL t) rfl HT2.out ra2 _ rc2 (varL x) rfl rfl HZ2.out HQ2.out HLn2.out HC2.out.size ?_; intro y2 x2 o2 b2; have HB3 := Lib.hid (b2 _ _ (Nat.le_refl _) HC2.out); have HR3 := Lib.hid o2; clear o2 b2)))
  rw [rounds_succ]
  go_wp2_with (first
    | (go_at_call 25; (with_reducible refine (varC y _ G3.out).mono ?_); rintro e v3w ⟨v3, rfl, hr3, hb3⟩; have HS3 := Lib.hid hr3; have HC3 := Lib.hid (below_then HB3.out hb3 HB3.out.size); have HT3 := Lib.hid (rb_then HR3.out hb3 (Nat.le_refl _)); obtain ⟨ra3, rc3, rfl, _, hrs3, hrz3, _⟩ := rb_sl (base := _) (v := v3) (l := varL y) hr3; have HQ3 := Lib.hid hrs3; have HZ3 := Lib.hid hrz3; have HLn3 := Lib.hid (show (([] : List Nat) ++ varL s ++ varL t ++ varL x).length + (varL y).length ≤ 1000000 by simp only [List.length_append, List.length_nil]; have := L0.out; have := L1.out; have := L2.out; have := L3.out; omega); clear hr3 hb3 hrs3 hrz3)
    | (at_builtin; (refine app_sl rfl _ _ rfl w.heap.size _ (([] : List Nat) ++ varL s ++ varL t ++ varL x) rfl HT3.out ra3 _ rc3 (varL y) rfl rfl HZ3.out HQ3.out HLn3.out HC3.out.size ?_; intro y3 x3 o3 b3; have HB4 := Lib.hid (b3 _ _ (Nat.le_refl _) HC3.out); have HR4 := Lib.hid o3; clear o3 b3)))
  rw [rounds_succ]
  go_wp2
  go_ret
  exact ⟨_, rfl, by rw [HNL.out]; exact HR4.out, HB4.out⟩
end Go.Proofs.YtebfblpmihnndaaDoor.Ia
