/- The document's bytes of a record. -/
import Derived.Test.YtabgelmmjpjejaaDoorBg
import Derived.Test.YtabgelmmjpjejaaDoorRg
import Derived.Deep.RegionHeld
set_option linter.unusedVariables false
namespace Go.Proofs.YtabgelmmjpjejaaDoor.Rt
open Go Go.RowKit Kit Crc Var Get Ref3 Copy Bytes Bx Py Py2 Ry Rz Dn Rs Rf Rg Bg


theorem dvarK (n : Nat) (X : List Nat) (w : World) (hX : X = varL n) (hn : n < 18446744073709551616) : Calls Tryd.prog 53 #[.int .u64 (n : Int)] w (SlQ X w) := by
  subst hX
  refine (Ref2.rVarC n w hn).mono ?_
  rintro e w' ⟨v, rfl, o, b⟩
  exact slQ_of o b
def preN (a b c : List Nat) : Nat → List Nat
  | 0 => []
  | 1 => a
  | 2 => a ++ b
  | _ => a ++ b ++ c
set_option maxRecDepth 100000 in
set_option maxHeartbeats 2000000 in
/-- three numbers, one behind the other. -/
theorem numsC (g n1 n2 n3 : Nat) (A1 A2 A3 X : List Nat) (w : World) (hg : w.heap[g]? = some (.cells #[.int .u64 (n1 : Int), .int .u64 (n2 : Int), .int .u64 (n3 : Int)] 22 (0, 0))) (h1 : n1 < 18446744073709551616) (h2 : n2 < 18446744073709551616) (h3 : n3 < 18446744073709551616)
    (e1 : A1 = varL n1) (e2 : A2 = varL n2) (e3 : A3 = varL n3) (hX : X = A1 ++ A2 ++ A3) :
    Calls Tryd.prog 39 #[.slice (some ⟨g, 0, none⟩) 3 3] w (SlQ X w) := by
  have HG := Lib.hid hg
  have H1 := Lib.hid h1
  have H2 := Lib.hid h2
  have H3 := Lib.hid h3
  have HA1 := Lib.hid e1
  have HA2 := Lib.hid e2
  have HA3 := Lib.hid e3
  have L1 := Lib.hid (show A1.length ≤ 10 by rw [e1]; exact varL_ten h1)
  have L2 := Lib.hid (show A2.length ≤ 10 by rw [e2]; exact varL_ten h2)
  have L3 := Lib.hid (show A3.length ≤ 10 by rw [e3]; exact varL_ten h3)
  subst hX
  clear hg h1 h2 h3 e1 e2 e3
  go_enter Tryd.func39, Tryd.ntmps39
  go_wp2
  go_loopw [3, 4] (fun s3 s4 wr => ∃ i : Nat, i ≤ 3 ∧ s4 = .int .i64 (i : Int) ∧ Rb wr w.heap.size s3 (preN A1 A2 A3 i) ∧ Below w.heap.size w wr) (fun _ s4 _ => 3 - (intOf s4).toNat)
  case atStart => exact ⟨0, by omega, rfl, rb_nil _ _, Below.refl _ _⟩
  case round =>
    obtain ⟨i, hi, rfl, hR, hB⟩ := hrel
    have HR := Lib.hid hR
    have HB := Lib.hid hB
    have hz := (hB.block _ (Array.getElem?_eq_some_iff.1 HG.out).1).trans HG.out
    have c0 : wr.cell? ⟨g, 0, none⟩ = some (.int .u64 (n1 : Int)) := by rw [cell_of_row wr g 0 _ 22 _ hz]; rfl
    have c1 : wr.cell? ⟨g, 1, none⟩ = some (.int .u64 (n2 : Int)) := by rw [cell_of_row wr g 1 _ 22 _ hz]; rfl
    have c2 : wr.cell? ⟨g, 2, none⟩ = some (.int .u64 (n3 : Int)) := by rw [cell_of_row wr g 2 _ 22 _ hz]; rfl
    clear hR hB hz
    have hc : i = 0 ∨ i = 1 ∨ i = 2 ∨ i = 3 := by omega
    clear hi
    rcases hc with rfl | rfl | rfl | rfl
    · have HRi : Hid (Rb wr w.heap.size u3 ([] : List Nat)) := HR
      clear HR
      go_wp2_with (first
        | (go_at_call 53; (with_reducible refine (dvarK n1 A1 wr HA1.out H1.out).mono ?_); rintro e y ⟨a1, k1, rfl, s1, z1, _, _, b1⟩; have GQ := Lib.hid (below_then HB.out b1 HB.out.size); have GR := Lib.hid (rb_then HRi.out b1 (Nat.le_refl _)); have GS := Lib.hid s1; have GZ := Lib.hid z1; clear s1 z1 b1)
        | (at_builtin; (refine app_sl rfl _ _ rfl w.heap.size _ ([] : List Nat) rfl GR.out a1 A1.length k1 A1 rfl rfl GZ.out GS.out (by have := L1.out; have := L2.out; have := L3.out; simp; omega) GQ.out.size ?_; intro v3 w3 o3 b3; have HQ3 := Lib.hid (b3 _ _ (Nat.le_refl _) GQ.out); have HR3 := Lib.hid o3; clear o3 b3)))
      have HR4 : Hid (Rb w3 w.heap.size v3 (preN A1 A2 A3 1)) := HR3
      go_wp2
      go_roundw
      case rel => exact ⟨1, by omega, by go_num, HR4.out, HQ3.out⟩
      case measure => simp [intOf]
    · have HRi : Hid (Rb wr w.heap.size u3 A1) := HR
      clear HR
      go_wp2_with (first
        | (go_at_call 53; (with_reducible refine (dvarK n2 A2 wr HA2.out H2.out).mono ?_); rintro e y ⟨a1, k1, rfl, s1, z1, _, _, b1⟩; have GQ := Lib.hid (below_then HB.out b1 HB.out.size); have GR := Lib.hid (rb_then HRi.out b1 (Nat.le_refl _)); have GS := Lib.hid s1; have GZ := Lib.hid z1; clear s1 z1 b1)
        | (at_builtin; (refine app_sl rfl _ _ rfl w.heap.size _ A1 rfl GR.out a1 A2.length k1 A2 rfl rfl GZ.out GS.out (by have := L1.out; have := L2.out; have := L3.out; simp; omega) GQ.out.size ?_; intro v3 w3 o3 b3; have HQ3 := Lib.hid (b3 _ _ (Nat.le_refl _) GQ.out); have HR3 := Lib.hid o3; clear o3 b3)))
      have HR4 : Hid (Rb w3 w.heap.size v3 (preN A1 A2 A3 2)) := HR3
      go_wp2
      go_roundw
      case rel => exact ⟨2, by omega, by go_num, HR4.out, HQ3.out⟩
      case measure => simp [intOf]
    · have HRi : Hid (Rb wr w.heap.size u3 (A1 ++ A2)) := HR
      clear HR
      go_wp2_with (first
        | (go_at_call 53; (with_reducible refine (dvarK n3 A3 wr HA3.out H3.out).mono ?_); rintro e y ⟨a1, k1, rfl, s1, z1, _, _, b1⟩; have GQ := Lib.hid (below_then HB.out b1 HB.out.size); have GR := Lib.hid (rb_then HRi.out b1 (Nat.le_refl _)); have GS := Lib.hid s1; have GZ := Lib.hid z1; clear s1 z1 b1)
        | (at_builtin; (refine app_sl rfl _ _ rfl w.heap.size _ (A1 ++ A2) rfl GR.out a1 A3.length k1 A3 rfl rfl GZ.out GS.out (by have := L1.out; have := L2.out; have := L3.out; simp; omega) GQ.out.size ?_; intro v3 w3 o3 b3; have HQ3 := Lib.hid (b3 _ _ (Nat.le_refl _) GQ.out); have HR3 := Lib.hid o3; clear o3 b3)))
      have HR4 : Hid (Rb w3 w.heap.size v3 (preN A1 A2 A3 3)) := HR3
      go_wp2
      go_roundw
      case rel => exact ⟨3, by omega, by go_num, HR4.out, HQ3.out⟩
      case measure => simp [intOf]
    · have HRi : Hid (Rb wr w.heap.size u3 (A1 ++ A2 ++ A3)) := HR
      clear HR
      go_wp2
      go_ret
      exact slQ_of HRi.out HB.out

set_option maxRecDepth 100000 in
theorem dencNo (k : Int) (s t : Nat) (a : Option Addr) (cap : Nat) (l : List Nat) (w : World) (hm : mayR k s t l.length = false) :
    Calls Tryd.prog 12 #[.agg #[.int .i64 k, .int .u64 (s : Int), .int .u64 (t : Int), .slice a l.length cap]] w (EnP [] 1 w) := by
  have HM := Lib.hid hm
  clear hm
  go_enter Tryd.func12, Tryd.ntmps12
  go_wp2_with (go_at_call 19; (with_reducible refine (dmayE k s t a l.length cap l _ false rfl HM.out).mono ?_); rintro e w1 ⟨rfl, b1⟩; have HB1 := Lib.hid (stepB (Below.refl _ w) (.cells #[.int .i64 k, .int .u64 (s : Int), .int .u64 (t : Int), .slice a l.length cap] 31) b1); clear b1)
  go_ret2
  exact ⟨none, 0, rfl, .inl rfl, fun _ => rfl, Nat.le_refl _, (fun x hx => by cases hx), HB1.out⟩

theorem row1 (w : World) (KV : Nat) : Rb (w.alloc (.cells #[.int .u8 (KV : Int)] 5)) w.heap.size (.slice (some ⟨w.heap.size, 0, none⟩) 1 1) [KV] := Bb.own (l := [KV]) (heap_alloc_last w _) (Nat.le_refl _) (by simp)
theorem r13 (w : World) (KV s t n : Nat) : Rb (((w.alloc (.cells #[.int .u8 (KV : Int)] 5)).alloc (.cells #[.int .u64 (s : Int), .int .u64 (t : Int), .int .u64 (n : Int)] 22)).drew) w.heap.size (.slice (some ⟨w.heap.size, 0, none⟩) 1 1) [KV] := rb_alloc (row1 w KV) _
theorem r31 (w : World) (KV s t n : Nat) : Rb (((w.alloc (.cells #[.int .u64 (s : Int), .int .u64 (t : Int), .int .u64 (n : Int)] 22)).alloc (.cells #[.int .u8 (KV : Int)] 5)).drew) w.heap.size (.slice (some ⟨w.heap.size + 1, 0, none⟩) 1 1) [KV] := by
  have h := row1 (w.alloc (.cells #[.int .u64 (s : Int), .int .u64 (t : Int), .int .u64 (n : Int)] 22)) KV
  rw [show (w.alloc (.cells #[.int .u64 (s : Int), .int .u64 (t : Int), .int .u64 (n : Int)] 22)).heap.size = w.heap.size + 1 by simp] at h
  exact rb_base h (by omega)
theorem z13 (w : World) (KV s t n : Nat) : (((w.alloc (.cells #[.int .u8 (KV : Int)] 5)).alloc (.cells #[.int .u64 (s : Int), .int .u64 (t : Int), .int .u64 (n : Int)] 22)).drew).heap[w.heap.size + 1]? = some (.cells #[.int .u64 (s : Int), .int .u64 (t : Int), .int .u64 (n : Int)] 22 (0, 0)) := by
  have h := heap_alloc_last (w.alloc (.cells #[.int .u8 (KV : Int)] 5)) (.cells #[.int .u64 (s : Int), .int .u64 (t : Int), .int .u64 (n : Int)] 22)
  rw [show (w.alloc (.cells #[.int .u8 (KV : Int)] 5)).heap.size = w.heap.size + 1 by simp] at h
  exact h
theorem z31 (w : World) (KV s t n : Nat) : (((w.alloc (.cells #[.int .u64 (s : Int), .int .u64 (t : Int), .int .u64 (n : Int)] 22)).alloc (.cells #[.int .u8 (KV : Int)] 5)).drew).heap[w.heap.size]? = some (.cells #[.int .u64 (s : Int), .int .u64 (t : Int), .int .u64 (n : Int)] 22 (0, 0)) := by
  show ((w.alloc (.cells #[.int .u64 (s : Int), .int .u64 (t : Int), .int .u64 (n : Int)] 22)).alloc (.cells #[.int .u8 (KV : Int)] 5)).heap[w.heap.size]? = _
  rw [Below.heap_alloc _ _ _ (by simp)]
  exact heap_alloc_last w _
theorem z3 (w : World) (s t n : Nat) : ((w.alloc (.cells #[.int .u64 (s : Int), .int .u64 (t : Int), .int .u64 (n : Int)] 22)).drew).heap[w.heap.size]? = some (.cells #[.int .u64 (s : Int), .int .u64 (t : Int), .int .u64 (n : Int)] 22 (0, 0)) := heap_alloc_last w _
theorem wp_app_sl {o : Oper} {a : Act} {K : Act → World → Prop} {Q : Exit → Act → World → Prop} {w : World} (s x : Operand)
    (ho : o.op = .call { callee := .builtin .append, args := #[s, x], argTypes := #[23, 23] }) (base : Nat) (v : Value) (l : List Nat) (hs : a.eval s = v) (hown : Rb w base v l)
    (y : Addr) (n cap : Nat) (m : List Nat) (hx : a.eval x = .slice (some y) n cap) (hn : n = m.length) (hm : Sl w (some y) m) (hlen : l.length + m.length ≤ 1000000) (hbase : base ≤ w.heap.size)
    (h : ∀ v' w', Rb w' base v' (l ++ m) → (∀ B W0, B ≤ base → Below B W0 w → Below B W0 w') → K (a.put o.dst v') w') : o.wp Tryd.prog a w K Q := by
  subst hn
  obtain ⟨i0, hi, hz0, hz1, hz2⟩ := info_parts info5
  refine wp_append_own w s x 23 ho base 5 i0 (.int .u8 0) 1 1 Tryd.underlying23 hi hz0 hz1 hz2 rfl (by decide) v _ _ hs hown y m.length cap (cellsOf m) hx (by simp [cellsOf]) (sl_cells hm) cellsOf_one (by unfold maxLen; omega) (by omega) hbase ?_
  intro v' w' h2 h3 _
  refine h v' w' ?_ (fun B W0 hB hb => hb.grown h3 (Nat.le_trans hB hbase) (fun j hj => Nat.le_trans hB (hown.lt j hj).1))
  rw [cellsOf_app] at h2
  exact rb_of h2 (by simp) rfl

set_option maxRecDepth 100000 in
set_option maxHeartbeats 4000000 in
theorem dencYes (KV s t : Nat) (a : Option Addr) (cap : Nat) (l : List Nat) (w : World) (hm : mayR (KV : Int) s t l.length = true) (hs : Sl w a l) (h0 : a = none → cap = 0) (hl : ∀ c ∈ l, c < 256) (hn : l.length ≤ 900000) :
    Calls Tryd.prog 12 #[.agg #[.int .i64 (KV : Int), .int .u64 (s : Int), .int .u64 (t : Int), .slice a l.length cap]] w (EnP (recL KV s t l) 0 w) := by
  obtain ⟨hk, hs1, hs2, ht, hl2⟩ := mayR_of hm
  have HM := Lib.hid hm
  have HS := Lib.hid hs
  have HZ := Lib.hid h0
  have HK := Lib.hid (show KV < 256 by omega)
  have eK : (KV : Int) % 256 = (KV : Int) := by omega
  have eL : (l.length : Int) % 18446744073709551616 = (l.length : Int) := by omega
  have H1 := Lib.hid (u64_of hs2)
  have H2 := Lib.hid (u64_of ht)
  have H3 := Lib.hid (show l.length < 18446744073709551616 by omega)
  obtain ⟨A1, hA1⟩ : ∃ A, A = varL s := ⟨_, rfl⟩
  obtain ⟨A2, hA2⟩ : ∃ A, A = varL t := ⟨_, rfl⟩
  obtain ⟨A3, hA3⟩ : ∃ A, A = varL l.length := ⟨_, rfl⟩
  obtain ⟨AA, hAA⟩ : ∃ A, A = A1 ++ A2 ++ A3 := ⟨_, rfl⟩
  have HA1 := Lib.hid hA1
  have HA2 := Lib.hid hA2
  have HA3 := Lib.hid hA3
  have HAA := Lib.hid hAA
  have LA : AA.length ≤ 30 ∧ 0 < AA.length := by
    have a1 := varL_ten (u64_of hs2)
    have a2 := varL_ten (u64_of ht)
    have a3 := varL_ten (show l.length < 18446744073709551616 by omega)
    have a4 := varL_pos s
    rw [hAA, hA1, hA2, hA3, List.length_append, List.length_append]; omega
  have HAP := Lib.hid LA.2
  have HLA := Lib.hid (show ([KV] : List Nat).length + AA.length ≤ 1000000 by simp; omega)
  have HLB := Lib.hid (show ([KV] ++ AA).length + l.length ≤ 1000000 by simp; omega)
  obtain ⟨R, hR⟩ : ∃ R, R = [KV] ++ AA ++ l := ⟨_, rfl⟩
  have HR := Lib.hid hR
  have HRR := Lib.hid (show R = restL KV s t l by rw [hR, hAA, hA1, hA2, hA3]; simp [restL])
  have HRX := Lib.hid (show ∀ c ∈ R, c < 256 by rw [HRR.out]; exact restL_lt HK.out hl)
  have HRN := Lib.hid (show R.length ≤ 900100 by rw [hR]; simp; omega)
  have HRN2 := Lib.hid (show R.length ≤ 9223372036854775807 by have := HRN.out; omega)
  obtain ⟨C, hC⟩ : ∃ C, C = crc R := ⟨_, rfl⟩
  have HCC := Lib.hid hC
  have HCL := Lib.hid (show C < 4294967296 by rw [hC]; exact crc_lt _ HRX.out)
  obtain ⟨Q, hQ⟩ : ∃ Q, Q = fourL (C : Int) := ⟨_, rfl⟩
  have HQQ := Lib.hid hQ
  have HQN : Q.length = 4 := by rw [hQ]; rfl
  have HLC := Lib.hid (show ([167, 92] : List Nat).length + Q.length ≤ 1000000 by simp; omega)
  have HLD := Lib.hid (show ([167, 92] ++ Q).length + R.length ≤ 1000000 by have := HRN.out; simp; omega)
  have HFIN := Lib.hid (show [167, 92] ++ Q ++ R = recL KV s t l by rw [hQ, hC, HRR.out]; rfl)
  have CL := Lib.hid (fun W (h : Below (w.alloc (.cells #[.int .i64 (KV : Int), .int .u64 (s : Int), .int .u64 (t : Int), .slice a l.length cap] 31)).heap.size (w.alloc (.cells #[.int .i64 (KV : Int), .int .u64 (s : Int), .int .u64 (t : Int), .slice a l.length cap] 31)) W) => box1 w W 31 _ _ _ _ h)
  have HB0 := Lib.hid ((Below.refl w.heap.size w).alloc (Nat.le_refl _) (.cells #[.int .i64 (KV : Int), .int .u64 (s : Int), .int .u64 (t : Int), .slice a l.length cap] 31))
  clear hm hs h0 hl hn hk hs1 hs2 ht hl2 hA1 hA2 hA3 hAA hR hC hQ LA HQN
  go_enter Tryd.func12, Tryd.ntmps12
  go_wp2_with (go_at_call 19; (with_reducible refine (dmayE (KV : Int) s t a l.length cap l _ true rfl HM.out).mono ?_); rintro e w1 ⟨rfl, b1⟩; have HB1 := Lib.hid (below_then HB0.out b1 HB0.out.size); have HQ1 := Lib.hid b1; clear b1)
  have KS := Lib.hid (show ∀ W, Below w1.heap.size w1 W → W.cell? ⟨w.heap.size, 0, none⟩ = some (.int .i64 (KV : Int)) ∧ W.cell? ⟨w.heap.size, 1, none⟩ = some (.int .u64 (s : Int)) ∧ W.cell? ⟨w.heap.size, 2, none⟩ = some (.int .u64 (t : Int)) ∧ W.cell? ⟨w.heap.size, 3, none⟩ = some (.slice a l.length cap) ∧ Below w1.heap.size w1 W from fun W h => by
    obtain ⟨p0, p1, p2, p3⟩ := CL.out _ (below_then HQ1.out h HQ1.out.size)
    exact ⟨p0, p1, p2, p3, h⟩)
  have KB := Lib.hid (show ∀ W, (W.cell? ⟨w.heap.size, 0, none⟩ = some (.int .i64 (KV : Int)) ∧ W.cell? ⟨w.heap.size, 1, none⟩ = some (.int .u64 (s : Int)) ∧ W.cell? ⟨w.heap.size, 2, none⟩ = some (.int .u64 (t : Int)) ∧ W.cell? ⟨w.heap.size, 3, none⟩ = some (.slice a l.length cap) ∧ Below w1.heap.size w1 W) → Below w1.heap.size w1 W from fun W h => h.2.2.2.2)
  have HS1 := Lib.hid (sl_then HB1.out (Nat.le_refl _) HS.out)
  clear CL HQ1
  have e1 : IntKind.u8.wrap (KV : Int) = (KV : Int) := by rw [IntKind.wrap_u8]; exact eK
  have e2 : IntKind.u64.wrap (l.length : Int) = (l.length : Int) := by rw [IntKind.wrap_u64]; exact eL
  as_aux_lemma =>
    refine wp_region_held_drew (S := (fun W => W.cell? ⟨w.heap.size, 0, none⟩ = some (.int .i64 (KV : Int)) ∧ W.cell? ⟨w.heap.size, 1, none⟩ = some (.int .u64 (s : Int)) ∧ W.cell? ⟨w.heap.size, 2, none⟩ = some (.int .u64 (t : Int)) ∧ W.cell? ⟨w.heap.size, 3, none⟩ = some (.slice a l.length cap) ∧ Below w1.heap.size w1 W)) (by kernel_rfl) ?_ (fun hHeld => ?_)
    · ((try dsimp only); (first | (with_reducible exact KS.out _ hN) | exact KS.out _ (Below.refl _ _).drew | exact KS.out _ (Below.alloc (KB.out _ hHeld) (KB.out _ hHeld).size _)))
    refine wpAnyH_take (i := 0) (oi := { dst := some 8, op := Op.fieldAddr 31 (Operand.tmp 1) 0, type := 0, pos := _, after := #[], guard := none }) (v := ?_) rfl (by kernel_rfl) (by kernel_rfl) (by kernel_rfl) (fun _ _ _ h => h) (Or.inl ⟨by rfl, ?_⟩) (by assumption) ?_
    rotate_left
    · ((intro w hSw); (try dsimp only at hSw); go_simp; (try with_reducible rfl))
    try simp only [Act.put, List.setIfInBounds_toArray, List.set_cons_zero, List.set_cons_succ]
    refine wpAnyH_take (i := 1) (oi := { dst := some 9, op := Op.load 3 (Operand.tmp 8), type := 3, pos := _, after := #[{ on := 0, ground := Ground.data }], guard := none }) (v := ?_) rfl (by kernel_rfl) (by kernel_rfl) (by kernel_rfl) (fun _ _ _ h => h) (Or.inl ⟨by rfl, ?_⟩) (by assumption) ?_
    rotate_left
    · ((intro w hSw); (try dsimp only at hSw); go_simp; (try with_reducible rfl))
    try simp only [Act.put, List.setIfInBounds_toArray, List.set_cons_zero, List.set_cons_succ]
    refine wpAnyH_take (i := 2) (oi := { dst := some 10, op := Op.convert 3 5 (Operand.tmp 9), type := 5, pos := _, after := #[{ on := 1, ground := Ground.data }], guard := none }) (v := ?_) rfl (by kernel_rfl) (by kernel_rfl) (by kernel_rfl) (fun _ _ _ h => h) (Or.inl ⟨by rfl, ?_⟩) (by assumption) ?_
    rotate_left
    · ((intro w hSw); (try dsimp only at hSw); go_simp; (try with_reducible rfl))
    try simp only [Act.put, List.setIfInBounds_toArray, List.set_cons_zero, List.set_cons_succ]
    refine wpAnyH_take (i := 4) (oi := { dst := some 12, op := Op.fieldAddr 31 (Operand.tmp 1) 1, type := 0, pos := _, after := #[], guard := none }) (v := ?_) rfl (by kernel_rfl) (by kernel_rfl) (by kernel_rfl) (fun _ _ _ h => h) (Or.inl ⟨by rfl, ?_⟩) (by assumption) ?_
    rotate_left
    · ((intro w hSw); (try dsimp only at hSw); go_simp; (try with_reducible rfl))
    try simp only [Act.put, List.setIfInBounds_toArray, List.set_cons_zero, List.set_cons_succ]
    refine wpAnyH_take (i := 5) (oi := { dst := some 13, op := Op.load 22 (Operand.tmp 12), type := 22, pos := _, after := #[{ on := 4, ground := Ground.data }], guard := none }) (v := ?_) rfl (by kernel_rfl) (by kernel_rfl) (by kernel_rfl) (fun _ _ _ h => h) (Or.inl ⟨by rfl, ?_⟩) (by assumption) ?_
    rotate_left
    · ((intro w hSw); (try dsimp only at hSw); go_simp; (try with_reducible rfl))
    try simp only [Act.put, List.setIfInBounds_toArray, List.set_cons_zero, List.set_cons_succ]
    refine wpAnyH_take (i := 6) (oi := { dst := some 14, op := Op.fieldAddr 31 (Operand.tmp 1) 2, type := 0, pos := _, after := #[], guard := none }) (v := ?_) rfl (by kernel_rfl) (by kernel_rfl) (by kernel_rfl) (fun _ _ _ h => h) (Or.inl ⟨by rfl, ?_⟩) (by assumption) ?_
    rotate_left
    · ((intro w hSw); (try dsimp only at hSw); go_simp; (try with_reducible rfl))
    try simp only [Act.put, List.setIfInBounds_toArray, List.set_cons_zero, List.set_cons_succ]
    refine wpAnyH_take (i := 7) (oi := { dst := some 15, op := Op.load 22 (Operand.tmp 14), type := 22, pos := _, after := #[{ on := 6, ground := Ground.data }], guard := none }) (v := ?_) rfl (by kernel_rfl) (by kernel_rfl) (by kernel_rfl) (fun _ _ _ h => h) (Or.inl ⟨by rfl, ?_⟩) (by assumption) ?_
    rotate_left
    · ((intro w hSw); (try dsimp only at hSw); go_simp; (try with_reducible rfl))
    try simp only [Act.put, List.setIfInBounds_toArray, List.set_cons_zero, List.set_cons_succ]
    refine wpAnyH_take (i := 8) (oi := { dst := some 16, op := Op.fieldAddr 31 (Operand.tmp 1) 3, type := 0, pos := _, after := #[], guard := none }) (v := ?_) rfl (by kernel_rfl) (by kernel_rfl) (by kernel_rfl) (fun _ _ _ h => h) (Or.inl ⟨by rfl, ?_⟩) (by assumption) ?_
    rotate_left
    · ((intro w hSw); (try dsimp only at hSw); go_simp; (try with_reducible rfl))
    try simp only [Act.put, List.setIfInBounds_toArray, List.set_cons_zero, List.set_cons_succ]
    refine wpAnyH_take (i := 9) (oi := { dst := some 17, op := Op.load 23 (Operand.tmp 16), type := 23, pos := _, after := #[{ on := 8, ground := Ground.data }], guard := none }) (v := ?_) rfl (by kernel_rfl) (by kernel_rfl) (by kernel_rfl) (fun _ _ _ h => h) (Or.inl ⟨by rfl, ?_⟩) (by assumption) ?_
    rotate_left
    · ((intro w hSw); (try dsimp only at hSw); go_simp; (try with_reducible rfl))
    try simp only [Act.put, List.setIfInBounds_toArray, List.set_cons_zero, List.set_cons_succ]
    refine wpAnyH_take (i := 10) (oi := { dst := some 18, op := Op.call { callee := Callee.builtin Builtin.len, args := #[Operand.tmp 17], argTypes := #[23] }, type := 3, pos := _, after := #[{ on := 9, ground := Ground.data }], guard := none }) (v := ?_) rfl (by kernel_rfl) (by kernel_rfl) (by kernel_rfl) (fun _ _ _ h => h) (Or.inl ⟨by rfl, ?_⟩) (by assumption) ?_
    rotate_left
    · ((intro w hSw); (try dsimp only at hSw); go_simp; (try with_reducible rfl))
    try simp only [Act.put, List.setIfInBounds_toArray, List.set_cons_zero, List.set_cons_succ]
    refine wpAnyH_take (i := 11) (oi := { dst := some 19, op := Op.convert 3 22 (Operand.tmp 18), type := 22, pos := _, after := #[{ on := 10, ground := Ground.data }], guard := none }) (v := ?_) rfl (by kernel_rfl) (by kernel_rfl) (by kernel_rfl) (fun _ _ _ h => h) (Or.inl ⟨by rfl, ?_⟩) (by assumption) ?_
    rotate_left
    · ((intro w hSw); (try dsimp only at hSw); go_simp; (try with_reducible rfl))
    try simp only [Act.put, List.setIfInBounds_toArray, List.set_cons_zero, List.set_cons_succ]
    refine wpAnyH_ready (rs := [3, 12]) (by kernel_rfl) (by simp) ?_
    refine (AllReadyH.cons (o := { dst := some 11, op := Op.buildSlice 23 1 #[(0, Operand.tmp 10)], type := 23, pos := _, after := #[{ on := 2, ground := Ground.data }], guard := none }) rfl (fun K hK => ?_) (AllReadyH.cons (o := { dst := some 20, op := Op.buildSlice 79 3 #[(0, Operand.tmp 13), (1, Operand.tmp 15), (2, Operand.tmp 19)], type := 79, pos := _, after := #[{ on := 5, ground := Ground.data }, { on := 7, ground := Ground.data }, { on := 11, ground := Ground.data }], guard := none }) rfl (fun K hK => ?_) AllReadyH.nil))
    · skip
      go_simp
      refine hK.out _ _ ?_ (fun hHeld => ?_)
      · ((try dsimp only); (first | (with_reducible exact KS.out _ hN) | exact KS.out _ (Below.refl _ _).drew | exact KS.out _ (Below.alloc (KB.out _ hHeld) (KB.out _ hHeld).size _)))
      clear hK K
      try simp only [Act.put, List.setIfInBounds_toArray, List.set_cons_zero, List.set_cons_succ]
      refine wpAnyH_ready (rs := [12]) (by kernel_rfl) (by simp) ?_
      refine (AllReadyH.cons (o := { dst := some 20, op := Op.buildSlice 79 3 #[(0, Operand.tmp 13), (1, Operand.tmp 15), (2, Operand.tmp 19)], type := 79, pos := _, after := #[{ on := 5, ground := Ground.data }, { on := 7, ground := Ground.data }, { on := 11, ground := Ground.data }], guard := none }) rfl (fun K hK => ?_) AllReadyH.nil)
      go_simp
      refine hK.out _ _ ?_ (fun hHeld => ?_)
      · ((try dsimp only); (first | (with_reducible exact KS.out _ hN) | exact KS.out _ (Below.refl _ _).drew | exact KS.out _ (Below.alloc (KB.out _ hHeld) (KB.out _ hHeld).size _)))
      clear hK K
      try simp only [Act.put, List.setIfInBounds_toArray, List.set_cons_zero, List.set_cons_succ]
      refine wpAnyH_ready (rs := [13]) (by kernel_rfl) (by simp) ?_
      refine (AllReadyH.cons (o := { dst := some 21, op := Op.call { callee := Callee.value (Operand.func 39), args := #[Operand.tmp 20], argTypes := #[79] }, type := 23, pos := _, after := #[{ on := 12, ground := Ground.data }], guard := none }) rfl (fun K hK => ?_) AllReadyH.nil)
      go_simp
      go_at_call 39
      refine (numsC (w1.heap.size + 1) s t l.length A1 A2 A3 AA _ (z13 w1 KV s t l.length) H1.out H2.out H3.out HA1.out HA2.out HA3.out HAA.out).mono ?_
      rintro e w9 ⟨ea, ec, rfl, he9, _, _, _, b9⟩
      obtain ⟨eb, eo, rfl, _⟩ := sl_at he9 HAP.out
      have HES := Lib.hid he9
      have hN := below_then (KB.out _ hHeld) b9 (KB.out _ hHeld).size
      have HR16 := Lib.hid (rb_then (r13 w1 KV s t l.length) b9 (Nat.le_refl _))
      clear b9 he9
      go_wp2_with fail
      refine hK.out _ _ ?_ (fun hHeld => ?_)
      · ((try dsimp only); (first | (with_reducible exact KS.out _ hN) | exact KS.out _ (Below.refl _ _).drew | exact KS.out _ (Below.alloc (KB.out _ hHeld) (KB.out _ hHeld).size _)))
      clear hK K
      try simp only [Act.put, List.setIfInBounds_toArray, List.set_cons_zero, List.set_cons_succ]
      refine wpAnyH_ready (rs := [14]) (by kernel_rfl) (by simp) ?_
      refine (AllReadyH.cons (o := { dst := some 22, op := Op.call { callee := Callee.builtin Builtin.append, args := #[Operand.tmp 11, Operand.tmp 21], argTypes := #[23, 23] }, type := 23, pos := _, after := #[{ on := 3, ground := Ground.data }, { on := 13, ground := Ground.data }, { on := 13, ground := Ground.chain }], guard := none }) rfl (fun K hK => ?_) AllReadyH.nil)
      refine wp_app_sl (.tmp 11) (.tmp 21) rfl w1.heap.size _ [KV] rfl HR16.out _ AA.length ec AA rfl rfl HES.out HLA.out hN.size ?_
      intro v10 w10 o10 b10
      have hN2 := b10 _ _ (Nat.le_refl _) hN
      clear hN
      have hN := hN2
      clear hN2
      have HO10 := Lib.hid o10
      clear o10 b10
      refine hK.out _ _ ?_ (fun hHeld => ?_)
      · ((try dsimp only); (first | (with_reducible exact KS.out _ hN) | exact KS.out _ (Below.refl _ _).drew | exact KS.out _ (Below.alloc (KB.out _ hHeld) (KB.out _ hHeld).size _)))
      clear hK K
      try simp only [Act.put, List.setIfInBounds_toArray, List.set_cons_zero, List.set_cons_succ]
      refine wpAnyH_take (i := 15) (oi := { dst := some 4, op := Op.assign (Operand.tmp 22), type := 23, pos := _, after := #[{ on := 14, ground := Ground.data }, { on := 14, ground := Ground.chain }, { on := 0, ground := Ground.phase }, { on := 1, ground := Ground.phase }, { on := 2, ground := Ground.phase }, { on := 3, ground := Ground.phase }, { on := 4, ground := Ground.phase }, { on := 5, ground := Ground.phase }, { on := 6, ground := Ground.phase }, { on := 7, ground := Ground.phase }, { on := 8, ground := Ground.phase }, { on := 9, ground := Ground.phase }, { on := 10, ground := Ground.phase }, { on := 11, ground := Ground.phase }, { on := 12, ground := Ground.phase }, { on := 13, ground := Ground.phase }, { on := 14, ground := Ground.phase }], guard := none }) (v := ?_) rfl (by kernel_rfl) (by kernel_rfl) (by kernel_rfl) (fun _ _ _ h => h) (Or.inl ⟨by rfl, ?_⟩) (by assumption) ?_
      rotate_left
      · ((intro w hSw); (try dsimp only at hSw); go_simp; (try with_reducible rfl))
      try simp only [Act.put, List.setIfInBounds_toArray, List.set_cons_zero, List.set_cons_succ]
      refine wpAnyH_done (by kernel_rfl) ?_ _
      have HBN := Lib.hid hN
      obtain ⟨p0, p1, p2, p3, _⟩ := KS.out _ hN
      clear hN HES
      as_aux_lemma =>
        clear p0 p1 p2
        go_wp2_with (at_builtin; refine app_sl rfl _ _ rfl w1.heap.size _ ([KV] ++ AA) rfl HO10.out a l.length cap l rfl rfl HZ.out (sl_then HBN.out (Nat.le_refl _) HS1.out) HLB.out HBN.out.size ?_; intro v4 x4 o4 b4; rw [← HR.out] at o4; have HQ4 := Lib.hid (b4 _ _ (Nat.le_refl _) HBN.out); obtain ⟨ra, rc, rfl, _, hrs, hr0, _⟩ := rb_sl o4; have HRS := Lib.hid hrs; have HR0 := Lib.hid hr0; clear o4 b4 hrs hr0)
        have HH0 := Lib.hid (show Rb (x4.alloc (.cells #[.int .u8 167, .int .u8 92] 5)) x4.heap.size (.slice (some ⟨x4.heap.size, 0, none⟩) 2 2) [167, 92] from Bb.own (l := [167, 92]) (heap_alloc_last x4 _) (Nat.le_refl _) (by simp))
        have HQ5 := Lib.hid (HQ4.out.alloc HQ4.out.size (.cells #[.int .u8 167, .int .u8 92] 5))
        have HRS5 := Lib.hid (sl_alloc HRS.out (.cells #[.int .u8 167, .int .u8 92] 5))
        have HB5 := Lib.hid (show x4.heap.size ≤ (x4.alloc (.cells #[.int .u8 167, .int .u8 92] 5)).heap.size by simp)
        have HB4 := Lib.hid HQ4.out.size
        have HRS4 := Lib.hid HRS.out
        have HW5 := Lib.hid ((Below.refl x4.heap.size x4).alloc (Nat.le_refl _) (.cells #[.int .u8 167, .int .u8 92] 5))
        generalize x4.alloc (.cells #[.int .u8 167, .int .u8 92] 5) = x5 at *
        generalize Value.slice (some ⟨x4.heap.size, 0, none⟩) 2 2 = v5 at *
        go_wp2_with (first
          | (go_at_call 22; (with_reducible refine (dcrcK ra R.length rc R C x5 rfl HCC.out HRX.out HRN2.out HRS5.out).mono ?_); rintro e w' ⟨rfl, rfl⟩)
          | (go_at_call 40; (with_reducible refine (dfourK C Q x5 HQQ.out HCL.out).mono ?_); rintro e x6 ⟨fa, fc, rfl, fs, fz, _, _, b6⟩; have HQ6 := Lib.hid (below_then HQ5.out b6 HQ5.out.size); have HH6 := Lib.hid (rb_then HH0.out b6 (Nat.le_refl _)); have HRS6 := Lib.hid (sl_then b6 (Nat.le_refl _) HRS5.out); have HFS := Lib.hid fs; have HFZ := Lib.hid fz; have HB6 := Lib.hid (Nat.le_trans HB5.out b6.size); have HW6 := Lib.hid (below_then HW5.out b6 HW5.out.size); clear b6 fs fz)
          | (at_builtin; (refine app_sl rfl _ _ rfl x4.heap.size _ [167, 92] rfl HH6.out fa Q.length fc Q rfl rfl HFZ.out HFS.out HLC.out HB6.out ?_; intro v7 x7 o7 b7; have HQ7 := Lib.hid (b7 _ _ HB4.out HQ6.out); have HRS7 := Lib.hid (sl_then (b7 _ _ (Nat.le_refl _) HW6.out) (Nat.le_refl _) HRS4.out); have HR7 := Lib.hid o7; have HB7 := Lib.hid (b7 _ _ (Nat.le_refl _) HW6.out).size; clear o7 b7))
          | (at_builtin; (refine app_sl rfl _ _ rfl x4.heap.size _ ([167, 92] ++ Q) rfl HR7.out ra R.length rc R rfl rfl HR0.out HRS7.out HLD.out HB7.out ?_; intro v8 x8 o8 b8; have HQ8 := Lib.hid (b8 _ _ HB4.out HQ7.out); have HR8 := Lib.hid o8; clear o8 b8)))
        have HXX := Lib.hid (show EnP (recL KV s t l) 0 w (.returned (.tuple #[v8, .int .i64 0])) x8 by rw [← HFIN.out]; exact enP_of HR8.out (Nat.le_trans HB1.out.size HB4.out) (below_then HB1.out HQ8.out HB1.out.size))
        go_ret2
        exact HXX.out
    · skip
      go_simp
      refine hK.out _ _ ?_ (fun hHeld => ?_)
      · ((try dsimp only); (first | (with_reducible exact KS.out _ hN) | exact KS.out _ (Below.refl _ _).drew | exact KS.out _ (Below.alloc (KB.out _ hHeld) (KB.out _ hHeld).size _)))
      clear hK K
      try simp only [Act.put, List.setIfInBounds_toArray, List.set_cons_zero, List.set_cons_succ]
      refine wpAnyH_ready (rs := [3, 13]) (by kernel_rfl) (by simp) ?_
      refine (AllReadyH.cons (o := { dst := some 11, op := Op.buildSlice 23 1 #[(0, Operand.tmp 10)], type := 23, pos := _, after := #[{ on := 2, ground := Ground.data }], guard := none }) rfl (fun K hK => ?_) (AllReadyH.cons (o := { dst := some 21, op := Op.call { callee := Callee.value (Operand.func 39), args := #[Operand.tmp 20], argTypes := #[79] }, type := 23, pos := _, after := #[{ on := 12, ground := Ground.data }], guard := none }) rfl (fun K hK => ?_) AllReadyH.nil))
      · skip
        go_simp
        refine hK.out _ _ ?_ (fun hHeld => ?_)
        · ((try dsimp only); (first | (with_reducible exact KS.out _ hN) | exact KS.out _ (Below.refl _ _).drew | exact KS.out _ (Below.alloc (KB.out _ hHeld) (KB.out _ hHeld).size _)))
        clear hK K
        try simp only [Act.put, List.setIfInBounds_toArray, List.set_cons_zero, List.set_cons_succ]
        refine wpAnyH_ready (rs := [13]) (by kernel_rfl) (by simp) ?_
        refine (AllReadyH.cons (o := { dst := some 21, op := Op.call { callee := Callee.value (Operand.func 39), args := #[Operand.tmp 20], argTypes := #[79] }, type := 23, pos := _, after := #[{ on := 12, ground := Ground.data }], guard := none }) rfl (fun K hK => ?_) AllReadyH.nil)
        go_simp
        go_at_call 39
        refine (numsC w1.heap.size s t l.length A1 A2 A3 AA _ (z31 w1 KV s t l.length) H1.out H2.out H3.out HA1.out HA2.out HA3.out HAA.out).mono ?_
        rintro e w9 ⟨ea, ec, rfl, he9, _, _, _, b9⟩
        obtain ⟨eb, eo, rfl, _⟩ := sl_at he9 HAP.out
        have HES := Lib.hid he9
        have hN := below_then (KB.out _ hHeld) b9 (KB.out _ hHeld).size
        have HR16 := Lib.hid (rb_then (r31 w1 KV s t l.length) b9 (Nat.le_refl _))
        clear b9 he9
        go_wp2_with fail
        refine hK.out _ _ ?_ (fun hHeld => ?_)
        · ((try dsimp only); (first | (with_reducible exact KS.out _ hN) | exact KS.out _ (Below.refl _ _).drew | exact KS.out _ (Below.alloc (KB.out _ hHeld) (KB.out _ hHeld).size _)))
        clear hK K
        try simp only [Act.put, List.setIfInBounds_toArray, List.set_cons_zero, List.set_cons_succ]
        refine wpAnyH_ready (rs := [14]) (by kernel_rfl) (by simp) ?_
        refine (AllReadyH.cons (o := { dst := some 22, op := Op.call { callee := Callee.builtin Builtin.append, args := #[Operand.tmp 11, Operand.tmp 21], argTypes := #[23, 23] }, type := 23, pos := _, after := #[{ on := 3, ground := Ground.data }, { on := 13, ground := Ground.data }, { on := 13, ground := Ground.chain }], guard := none }) rfl (fun K hK => ?_) AllReadyH.nil)
        refine wp_app_sl (.tmp 11) (.tmp 21) rfl w1.heap.size _ [KV] rfl HR16.out _ AA.length ec AA rfl rfl HES.out HLA.out hN.size ?_
        intro v10 w10 o10 b10
        have hN2 := b10 _ _ (Nat.le_refl _) hN
        clear hN
        have hN := hN2
        clear hN2
        have HO10 := Lib.hid o10
        clear o10 b10
        refine hK.out _ _ ?_ (fun hHeld => ?_)
        · ((try dsimp only); (first | (with_reducible exact KS.out _ hN) | exact KS.out _ (Below.refl _ _).drew | exact KS.out _ (Below.alloc (KB.out _ hHeld) (KB.out _ hHeld).size _)))
        clear hK K
        try simp only [Act.put, List.setIfInBounds_toArray, List.set_cons_zero, List.set_cons_succ]
        refine wpAnyH_take (i := 15) (oi := { dst := some 4, op := Op.assign (Operand.tmp 22), type := 23, pos := _, after := #[{ on := 14, ground := Ground.data }, { on := 14, ground := Ground.chain }, { on := 0, ground := Ground.phase }, { on := 1, ground := Ground.phase }, { on := 2, ground := Ground.phase }, { on := 3, ground := Ground.phase }, { on := 4, ground := Ground.phase }, { on := 5, ground := Ground.phase }, { on := 6, ground := Ground.phase }, { on := 7, ground := Ground.phase }, { on := 8, ground := Ground.phase }, { on := 9, ground := Ground.phase }, { on := 10, ground := Ground.phase }, { on := 11, ground := Ground.phase }, { on := 12, ground := Ground.phase }, { on := 13, ground := Ground.phase }, { on := 14, ground := Ground.phase }], guard := none }) (v := ?_) rfl (by kernel_rfl) (by kernel_rfl) (by kernel_rfl) (fun _ _ _ h => h) (Or.inl ⟨by rfl, ?_⟩) (by assumption) ?_
        rotate_left
        · ((intro w hSw); (try dsimp only at hSw); go_simp; (try with_reducible rfl))
        try simp only [Act.put, List.setIfInBounds_toArray, List.set_cons_zero, List.set_cons_succ]
        refine wpAnyH_done (by kernel_rfl) ?_ _
        have HBN := Lib.hid hN
        obtain ⟨p0, p1, p2, p3, _⟩ := KS.out _ hN
        clear hN HES
        as_aux_lemma =>
          clear p0 p1 p2
          go_wp2_with (at_builtin; refine app_sl rfl _ _ rfl w1.heap.size _ ([KV] ++ AA) rfl HO10.out a l.length cap l rfl rfl HZ.out (sl_then HBN.out (Nat.le_refl _) HS1.out) HLB.out HBN.out.size ?_; intro v4 x4 o4 b4; rw [← HR.out] at o4; have HQ4 := Lib.hid (b4 _ _ (Nat.le_refl _) HBN.out); obtain ⟨ra, rc, rfl, _, hrs, hr0, _⟩ := rb_sl o4; have HRS := Lib.hid hrs; have HR0 := Lib.hid hr0; clear o4 b4 hrs hr0)
          have HH0 := Lib.hid (show Rb (x4.alloc (.cells #[.int .u8 167, .int .u8 92] 5)) x4.heap.size (.slice (some ⟨x4.heap.size, 0, none⟩) 2 2) [167, 92] from Bb.own (l := [167, 92]) (heap_alloc_last x4 _) (Nat.le_refl _) (by simp))
          have HQ5 := Lib.hid (HQ4.out.alloc HQ4.out.size (.cells #[.int .u8 167, .int .u8 92] 5))
          have HRS5 := Lib.hid (sl_alloc HRS.out (.cells #[.int .u8 167, .int .u8 92] 5))
          have HB5 := Lib.hid (show x4.heap.size ≤ (x4.alloc (.cells #[.int .u8 167, .int .u8 92] 5)).heap.size by simp)
          have HB4 := Lib.hid HQ4.out.size
          have HRS4 := Lib.hid HRS.out
          have HW5 := Lib.hid ((Below.refl x4.heap.size x4).alloc (Nat.le_refl _) (.cells #[.int .u8 167, .int .u8 92] 5))
          generalize x4.alloc (.cells #[.int .u8 167, .int .u8 92] 5) = x5 at *
          generalize Value.slice (some ⟨x4.heap.size, 0, none⟩) 2 2 = v5 at *
          go_wp2_with (first
            | (go_at_call 22; (with_reducible refine (dcrcK ra R.length rc R C x5 rfl HCC.out HRX.out HRN2.out HRS5.out).mono ?_); rintro e w' ⟨rfl, rfl⟩)
            | (go_at_call 40; (with_reducible refine (dfourK C Q x5 HQQ.out HCL.out).mono ?_); rintro e x6 ⟨fa, fc, rfl, fs, fz, _, _, b6⟩; have HQ6 := Lib.hid (below_then HQ5.out b6 HQ5.out.size); have HH6 := Lib.hid (rb_then HH0.out b6 (Nat.le_refl _)); have HRS6 := Lib.hid (sl_then b6 (Nat.le_refl _) HRS5.out); have HFS := Lib.hid fs; have HFZ := Lib.hid fz; have HB6 := Lib.hid (Nat.le_trans HB5.out b6.size); have HW6 := Lib.hid (below_then HW5.out b6 HW5.out.size); clear b6 fs fz)
            | (at_builtin; (refine app_sl rfl _ _ rfl x4.heap.size _ [167, 92] rfl HH6.out fa Q.length fc Q rfl rfl HFZ.out HFS.out HLC.out HB6.out ?_; intro v7 x7 o7 b7; have HQ7 := Lib.hid (b7 _ _ HB4.out HQ6.out); have HRS7 := Lib.hid (sl_then (b7 _ _ (Nat.le_refl _) HW6.out) (Nat.le_refl _) HRS4.out); have HR7 := Lib.hid o7; have HB7 := Lib.hid (b7 _ _ (Nat.le_refl _) HW6.out).size; clear o7 b7))
            | (at_builtin; (refine app_sl rfl _ _ rfl x4.heap.size _ ([167, 92] ++ Q) rfl HR7.out ra R.length rc R rfl rfl HR0.out HRS7.out HLD.out HB7.out ?_; intro v8 x8 o8 b8; have HQ8 := Lib.hid (b8 _ _ HB4.out HQ7.out); have HR8 := Lib.hid o8; clear o8 b8)))
          have HXX := Lib.hid (show EnP (recL KV s t l) 0 w (.returned (.tuple #[v8, .int .i64 0])) x8 by rw [← HFIN.out]; exact enP_of HR8.out (Nat.le_trans HB1.out.size HB4.out) (below_then HB1.out HQ8.out HB1.out.size))
          go_ret2
          exact HXX.out
      · skip
        go_simp
        go_at_call 39
        refine (numsC w1.heap.size s t l.length A1 A2 A3 AA _ (z3 w1 s t l.length) H1.out H2.out H3.out HA1.out HA2.out HA3.out HAA.out).mono ?_
        rintro e w9 ⟨ea, ec, rfl, he9, _, _, _, b9⟩
        obtain ⟨eb, eo, rfl, _⟩ := sl_at he9 HAP.out
        have HES := Lib.hid he9
        have hN := below_then (KB.out _ hHeld) b9 (KB.out _ hHeld).size
        clear b9 he9
        go_wp2_with fail
        refine hK.out _ _ ?_ (fun hHeld => ?_)
        · ((try dsimp only); (first | (with_reducible exact KS.out _ hN) | exact KS.out _ (Below.refl _ _).drew | exact KS.out _ (Below.alloc (KB.out _ hHeld) (KB.out _ hHeld).size _)))
        clear hK K
        try simp only [Act.put, List.setIfInBounds_toArray, List.set_cons_zero, List.set_cons_succ]
        refine wpAnyH_ready (rs := [3]) (by kernel_rfl) (by simp) ?_
        refine (AllReadyH.cons (o := { dst := some 11, op := Op.buildSlice 23 1 #[(0, Operand.tmp 10)], type := 23, pos := _, after := #[{ on := 2, ground := Ground.data }], guard := none }) rfl (fun K hK => ?_) AllReadyH.nil)
        go_simp
        refine hK.out _ _ ?_ (fun hHeld => ?_)
        · ((try dsimp only); (first | (with_reducible exact KS.out _ hN) | exact KS.out _ (Below.refl _ _).drew | exact KS.out _ (Below.alloc (KB.out _ hHeld) (KB.out _ hHeld).size _)))
        clear hK K
        try simp only [Act.put, List.setIfInBounds_toArray, List.set_cons_zero, List.set_cons_succ]
        refine wpAnyH_ready (rs := [14]) (by kernel_rfl) (by simp) ?_
        refine (AllReadyH.cons (o := { dst := some 22, op := Op.call { callee := Callee.builtin Builtin.append, args := #[Operand.tmp 11, Operand.tmp 21], argTypes := #[23, 23] }, type := 23, pos := _, after := #[{ on := 3, ground := Ground.data }, { on := 13, ground := Ground.data }, { on := 13, ground := Ground.chain }], guard := none }) rfl (fun K hK => ?_) AllReadyH.nil)
        refine wp_app_sl (.tmp 11) (.tmp 21) rfl w1.heap.size _ [KV] rfl (rb_base (row1 w9 KV) hN.size) _ AA.length ec AA rfl rfl (sl_alloc HES.out _) HLA.out (Nat.le_trans hN.size (by simp)) ?_
        intro v10 w10 o10 b10
        have hN2 := b10 _ _ (Nat.le_refl _) (hN.alloc hN.size _)
        clear hN
        have hN := hN2
        clear hN2
        have HO10 := Lib.hid o10
        clear o10 b10
        refine hK.out _ _ ?_ (fun hHeld => ?_)
        · ((try dsimp only); (first | (with_reducible exact KS.out _ hN) | exact KS.out _ (Below.refl _ _).drew | exact KS.out _ (Below.alloc (KB.out _ hHeld) (KB.out _ hHeld).size _)))
        clear hK K
        try simp only [Act.put, List.setIfInBounds_toArray, List.set_cons_zero, List.set_cons_succ]
        refine wpAnyH_take (i := 15) (oi := { dst := some 4, op := Op.assign (Operand.tmp 22), type := 23, pos := _, after := #[{ on := 14, ground := Ground.data }, { on := 14, ground := Ground.chain }, { on := 0, ground := Ground.phase }, { on := 1, ground := Ground.phase }, { on := 2, ground := Ground.phase }, { on := 3, ground := Ground.phase }, { on := 4, ground := Ground.phase }, { on := 5, ground := Ground.phase }, { on := 6, ground := Ground.phase }, { on := 7, ground := Ground.phase }, { on := 8, ground := Ground.phase }, { on := 9, ground := Ground.phase }, { on := 10, ground := Ground.phase }, { on := 11, ground := Ground.phase }, { on := 12, ground := Ground.phase }, { on := 13, ground := Ground.phase }, { on := 14, ground := Ground.phase }], guard := none }) (v := ?_) rfl (by kernel_rfl) (by kernel_rfl) (by kernel_rfl) (fun _ _ _ h => h) (Or.inl ⟨by rfl, ?_⟩) (by assumption) ?_
        rotate_left
        · ((intro w hSw); (try dsimp only at hSw); go_simp; (try with_reducible rfl))
        try simp only [Act.put, List.setIfInBounds_toArray, List.set_cons_zero, List.set_cons_succ]
        refine wpAnyH_done (by kernel_rfl) ?_ _
        have HBN := Lib.hid hN
        obtain ⟨p0, p1, p2, p3, _⟩ := KS.out _ hN
        clear hN HES
        as_aux_lemma =>
          clear p0 p1 p2
          go_wp2_with (at_builtin; refine app_sl rfl _ _ rfl w1.heap.size _ ([KV] ++ AA) rfl HO10.out a l.length cap l rfl rfl HZ.out (sl_then HBN.out (Nat.le_refl _) HS1.out) HLB.out HBN.out.size ?_; intro v4 x4 o4 b4; rw [← HR.out] at o4; have HQ4 := Lib.hid (b4 _ _ (Nat.le_refl _) HBN.out); obtain ⟨ra, rc, rfl, _, hrs, hr0, _⟩ := rb_sl o4; have HRS := Lib.hid hrs; have HR0 := Lib.hid hr0; clear o4 b4 hrs hr0)
          have HH0 := Lib.hid (show Rb (x4.alloc (.cells #[.int .u8 167, .int .u8 92] 5)) x4.heap.size (.slice (some ⟨x4.heap.size, 0, none⟩) 2 2) [167, 92] from Bb.own (l := [167, 92]) (heap_alloc_last x4 _) (Nat.le_refl _) (by simp))
          have HQ5 := Lib.hid (HQ4.out.alloc HQ4.out.size (.cells #[.int .u8 167, .int .u8 92] 5))
          have HRS5 := Lib.hid (sl_alloc HRS.out (.cells #[.int .u8 167, .int .u8 92] 5))
          have HB5 := Lib.hid (show x4.heap.size ≤ (x4.alloc (.cells #[.int .u8 167, .int .u8 92] 5)).heap.size by simp)
          have HB4 := Lib.hid HQ4.out.size
          have HRS4 := Lib.hid HRS.out
          have HW5 := Lib.hid ((Below.refl x4.heap.size x4).alloc (Nat.le_refl _) (.cells #[.int .u8 167, .int .u8 92] 5))
          generalize x4.alloc (.cells #[.int .u8 167, .int .u8 92] 5) = x5 at *
          generalize Value.slice (some ⟨x4.heap.size, 0, none⟩) 2 2 = v5 at *
          go_wp2_with (first
            | (go_at_call 22; (with_reducible refine (dcrcK ra R.length rc R C x5 rfl HCC.out HRX.out HRN2.out HRS5.out).mono ?_); rintro e w' ⟨rfl, rfl⟩)
            | (go_at_call 40; (with_reducible refine (dfourK C Q x5 HQQ.out HCL.out).mono ?_); rintro e x6 ⟨fa, fc, rfl, fs, fz, _, _, b6⟩; have HQ6 := Lib.hid (below_then HQ5.out b6 HQ5.out.size); have HH6 := Lib.hid (rb_then HH0.out b6 (Nat.le_refl _)); have HRS6 := Lib.hid (sl_then b6 (Nat.le_refl _) HRS5.out); have HFS := Lib.hid fs; have HFZ := Lib.hid fz; have HB6 := Lib.hid (Nat.le_trans HB5.out b6.size); have HW6 := Lib.hid (below_then HW5.out b6 HW5.out.size); clear b6 fs fz)
            | (at_builtin; (refine app_sl rfl _ _ rfl x4.heap.size _ [167, 92] rfl HH6.out fa Q.length fc Q rfl rfl HFZ.out HFS.out HLC.out HB6.out ?_; intro v7 x7 o7 b7; have HQ7 := Lib.hid (b7 _ _ HB4.out HQ6.out); have HRS7 := Lib.hid (sl_then (b7 _ _ (Nat.le_refl _) HW6.out) (Nat.le_refl _) HRS4.out); have HR7 := Lib.hid o7; have HB7 := Lib.hid (b7 _ _ (Nat.le_refl _) HW6.out).size; clear o7 b7))
            | (at_builtin; (refine app_sl rfl _ _ rfl x4.heap.size _ ([167, 92] ++ Q) rfl HR7.out ra R.length rc R rfl rfl HR0.out HRS7.out HLD.out HB7.out ?_; intro v8 x8 o8 b8; have HQ8 := Lib.hid (b8 _ _ HB4.out HQ7.out); have HR8 := Lib.hid o8; clear o8 b8)))
          have HXX := Lib.hid (show EnP (recL KV s t l) 0 w (.returned (.tuple #[v8, .int .i64 0])) x8 by rw [← HFIN.out]; exact enP_of HR8.out (Nat.le_trans HB1.out.size HB4.out) (below_then HB1.out HQ8.out HB1.out.size))
          go_ret2
          exact HXX.out
theorem dencG (k : Int) (s t : Nat) (a : Option Addr) (cap m : Nat) (l X : List Nat) (E : Nat) (w : World) (e : m = l.length) (hX : X = encL k s t l) (hE : E = encE k s t l) (hs : Sl w a l) (h0 : a = none → cap = 0) (hl : ∀ c ∈ l, c < 256) (hn : l.length ≤ 900000) :
    Calls Tryd.prog 12 #[.agg #[.int .i64 k, .int .u64 (s : Int), .int .u64 (t : Int), .slice a m cap]] w (EnP X E w) := by
  subst e hX hE
  unfold encL encE
  cases h : mayR k s t l.length with
  | false => exact dencNo k s t a cap l w h
  | true =>
    obtain ⟨K, rfl⟩ : ∃ K : Nat, k = (K : Int) := ⟨k.toNat, by have := (mayR_of h).1; omega⟩
    exact dencYes K s t a cap l w h hs h0 hl hn

end Go.Proofs.YtabgelmmjpjejaaDoor.Rt
