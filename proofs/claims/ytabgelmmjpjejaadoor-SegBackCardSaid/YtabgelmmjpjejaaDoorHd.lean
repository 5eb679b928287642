/- A segment's beginning. -/
import Derived.Test.YtabgelmmjpjejaaDoorNm
import Derived.Test.YtabgelmmjpjejaaDoorBg
import Derived.Lib.SlFresh
set_option linter.unusedVariables false
namespace Go.Proofs.YtabgelmmjpjejaaDoor.Hd
open Go Go.RowKit Kit Crc Var Get Ref3 Copy Bytes Bx Py Py2 Ry Rz Dn Df Dd Da Dc Rs Rf Rg Ar Bg


/-- a slice of bytes behind one that is full. -/
theorem app_full {ops : Array Oper} {rest : List Oper} {o : Oper} {a : Act} {Q : Exit → Act → World → Prop} {w : World} (hgd : o.guard = none) (s x : Operand)
    (ho : o.op = .call { callee := .builtin .append, args := #[s, x], argTypes := #[23, 23] }) (y : Addr) (l : List Nat) (hs : a.eval s = .slice (some y) l.length l.length) (hl : Sl w (some y) l)
    (ad : Addr) (n cap : Nat) (m : List Nat) (hx : a.eval x = .slice (some ad) n cap) (hn : n = m.length) (hm : Sl w (some ad) m) (h0 : 0 < m.length) (hlen : l.length + m.length ≤ 1000000)
    (h : ∀ v' w', Rb w' w.heap.size v' (l ++ m) → (∀ B W0, B ≤ w.heap.size → Below B W0 w → Below B W0 w') → wpList Tryd.prog ops Q rest (a.put o.dst v') w') : wpList Tryd.prog ops Q (o :: rest) a w := by
  subst hn
  obtain ⟨i0, hi, hz0, hz1, hz2⟩ := info_parts info5
  have hsz : ((l.length + m.length : Nat) : Int) ≤ 9223372036854775807 := by omega
  have hmx : l.length + m.length ≤ maxLen := by unfold maxLen; omega
  have e1 : (cellsOf l).length = l.length * i0.size := by rw [hz1]; simp [cellsOf]
  have e2 : (cellsOf m).length = m.length * i0.size := by rw [hz1]; simp [cellsOf]
  have hr := run_append_grow (P := Tryd.prog) w 23 o.type 5 i0 (.int .u8 0) Tryd.underlying23 hi hz0 y l.length l.length (cellsOf l) e1 (sl_cells hl) ad m.length cap (cellsOf m) e2 (sl_cells hm) (by omega) hsz (growslice_fits (by omega) (by rw [hz2]; omega))
  refine Lib.wpList_append_run_sl w hgd s x 23 ho _ _ hs hx hr ?_
  refine h _ _ ?_ ?_
  · refine ⟨by simp [cellsOf], .inr ⟨w.heap.size, _, _, by rw [List.length_append], Nat.le_refl _, heap_alloc_new w.drew _, ?_, ?_, ?_, ?_⟩⟩
    · rw [List.length_append]; exact grownCap_ge w _ _ _
    · exact grownCap_le_maxLen w _ _ _ hmx
    · have hge := grownCap_ge w (l.length + m.length) l.length 5
      simp only [Array.size_append, List.size_toArray, size_zeroCells, e1, e2, hz1]
      show l.length * 1 + m.length * 1 + (grownCap w (l.length + m.length) l.length 5 - (l.length + m.length)) * 1 = _
      omega
    · simp only [Array.toList_append, List.append_assoc]
      rw [← List.append_assoc, ← cellsOf_app]
      rw [show (l ++ m).length * 1 = (cellsOf l ++ cellsOf m).length by simp [cellsOf]]
      exact List.take_left
  · intro B W0 hB hb
    exact ⟨hb.os, hb.tape, hb.output, Nat.le_trans hb.size (by simp), fun k hk => (heap_alloc_old w.drew _ (show k < w.drew.heap.size from Nat.lt_of_lt_of_le hk hB)).trans (hb.block k hk)⟩

theorem sl_row {w : World} {g : Nat} {l : List Nat} {fr : Nat × Nat} (h : w.heap[g]? = some (.cells (cellsOf l).toArray 5 fr)) : Sl w (some ⟨g, 0, none⟩) l :=
  .inr ⟨g, 0, rfl, fun i hi => by rw [Nat.zero_add, cell_of_row w g i _ 5 fr h]; simp [cellsOf, hi]⟩
theorem four_some {w : World} {a : Option Addr} {l : List Nat} (h : Sl w a l) (hl : l.length = 4) : ∃ ad, a = some ad ∧ Sl w (some ad) l := by
  rcases h with rfl | ⟨b, off, rfl, hc⟩
  · simp at hl
  · exact ⟨_, rfl, .inr ⟨b, off, rfl, hc⟩⟩
/-- a segment's beginning. -/
def hdF (n f : Nat) : List Nat := [84, 84, 83, 49] ++ fourL (n : Int) ++ fourL ((f / 4294967296 : Nat) : Int) ++ fourL ((f % 4294967296 : Nat) : Int)
def hdL (n f : Nat) : List Nat := hdF n f ++ fourL ((crc (hdF n f) : Nat) : Int)
theorem hdF_lt (n f : Nat) : ∀ c ∈ hdF n f, c < 256 := by
  intro c hc
  simp only [hdF, List.mem_append, List.mem_cons, List.not_mem_nil, or_false] at hc
  rcases hc with (((rfl | rfl | rfl | rfl) | h) | h) | h
  · decide
  · decide
  · decide
  · decide
  · exact four_bytes _ c h
  · exact four_bytes _ c h
  · exact four_bytes _ c h
theorem hdL_lt (n f : Nat) : ∀ c ∈ hdL n f, c < 256 := by
  intro c hc
  rcases List.mem_append.1 hc with h | h
  · exact hdF_lt n f c h
  · exact four_bytes _ c h
theorem hdF_len (n f : Nat) : (hdF n f).length = 16 := rfl
theorem hdL_len (n f : Nat) : (hdL n f).length = 20 := rfl

set_option maxRecDepth 100000 in
set_option maxHeartbeats 2000000 in
theorem headYes (n f : Nat) (w : World) (h1 : 1 ≤ n) (h2 : n ≤ 999999) (h3 : 1 ≤ f) (h4 : f ≤ 4611686018427387904) (hT : TabC w) :
    Calls Tryd.prog 27 #[.agg #[.int .i64 (n : Int), .int .u64 (f : Int)]] w (EnP (hdL n f) 0 w) := by
  obtain ⟨F1, hF1⟩ : ∃ F, F = f / 4294967296 := ⟨_, rfl⟩
  obtain ⟨F2, hF2⟩ : ∃ F, F = f % 4294967296 := ⟨_, rfl⟩
  obtain ⟨Q1, hQ1⟩ : ∃ Q, Q = fourL (n : Int) := ⟨_, rfl⟩
  obtain ⟨Q2, hQ2⟩ : ∃ Q, Q = fourL (F1 : Int) := ⟨_, rfl⟩
  obtain ⟨Q3, hQ3⟩ : ∃ Q, Q = fourL (F2 : Int) := ⟨_, rfl⟩
  have HF1 := Lib.hid hQ1
  have HF2 := Lib.hid hQ2
  have HF3 := Lib.hid hQ3
  have HL1 := Lib.hid (show n < 4294967296 by omega)
  have HL2 := Lib.hid (show F1 < 4294967296 by omega)
  have HL3 := Lib.hid (show F2 < 4294967296 by omega)
  have n1 : Q1.length = 4 := by rw [hQ1]; rfl
  have n2 : Q2.length = 4 := by rw [hQ2]; rfl
  have n3 : Q3.length = 4 := by rw [hQ3]; rfl
  have HA1 := Lib.hid (show ([84, 84, 83, 49] : List Nat).length + Q1.length ≤ 1000000 by simp; omega)
  have HA2 := Lib.hid (show ([84, 84, 83, 49] ++ Q1).length + Q2.length ≤ 1000000 by simp; omega)
  have HA3 := Lib.hid (show ([84, 84, 83, 49] ++ Q1 ++ Q2).length + Q3.length ≤ 1000000 by simp; omega)
  obtain ⟨X, hX⟩ : ∃ X, X = [84, 84, 83, 49] ++ Q1 ++ Q2 ++ Q3 := ⟨_, rfl⟩
  have HX := Lib.hid hX
  have hXF : X = hdF n f := by rw [hX, hQ1, hQ2, hQ3, hF1, hF2]; rfl
  have HXX := Lib.hid (show ∀ c ∈ X, c < 256 by rw [hXF]; exact hdF_lt n f)
  have HXN := Lib.hid (show X.length ≤ 9223372036854775807 by rw [hXF, hdF_len]; decide)
  obtain ⟨C, hC⟩ : ∃ C, C = crc X := ⟨_, rfl⟩
  have HC := Lib.hid hC
  have HCL := Lib.hid (show C < 4294967296 by rw [hC]; exact crc_lt _ HXX.out)
  obtain ⟨Q4, hQ4⟩ : ∃ Q, Q = fourL (C : Int) := ⟨_, rfl⟩
  have HF4 := Lib.hid hQ4
  have HA4 := Lib.hid (show X.length + Q4.length ≤ 1000000 by rw [hXF, hdF_len, hQ4, fourL_len]; decide)
  have HFIN := Lib.hid (show X ++ Q4 = hdL n f by rw [hQ4, hC, hXF]; rfl)
  have e1 : (n : Int) % 4294967296 = (n : Int) := by omega
  have e2 : (f : Int) / 4294967296 = (F1 : Int) := by omega
  have e3 : (F1 : Int) % 4294967296 = (F1 : Int) := by omega
  have e4 : (f : Int) % 4294967296 = (F2 : Int) := by omega
  have g1 : ¬ (n : Int) < 1 := by omega
  have g2 : ¬ 999999 < (n : Int) := by omega
  have g3 : decide ((f : Int) < 1) = false := decide_eq_false (by omega)
  have g4 : decide (4611686018427387904 < (f : Int)) = false := decide_eq_false (by omega)
  have g5 : decide (f < 1) = false := decide_eq_false (by omega)
  have g6 : decide (4611686018427387904 < f) = false := decide_eq_false (by omega)
  have HB0 := Lib.hid ((Below.refl w.heap.size w).alloc (Nat.le_refl _) (.cells #[.int .i64 (n : Int), .int .u64 (f : Int)] 49))
  have C00 := Lib.hid (show (w.alloc (.cells #[.int .i64 (n : Int), .int .u64 (f : Int)] 49)).cell? ⟨w.heap.size, 0, none⟩ = some (.int .i64 (n : Int)) by rw [cell_of_row _ w.heap.size 0 _ 49 (0, 0) (heap_alloc_last w _)]; rfl)
  have C01 := Lib.hid (show (w.alloc (.cells #[.int .i64 (n : Int), .int .u64 (f : Int)] 49)).cell? ⟨w.heap.size, 1, none⟩ = some (.int .u64 (f : Int)) by rw [cell_of_row _ w.heap.size 1 _ 49 (0, 0) (heap_alloc_last w _)]; rfl)
  have HR00 := Lib.hid (show Sl ((w.alloc (.cells #[.int .i64 (n : Int), .int .u64 (f : Int)] 49)).alloc (.cells #[.int .u8 84, .int .u8 84, .int .u8 83, .int .u8 49] 5 (4, 5))) (some ⟨w.heap.size + 1, 0, none⟩) [84, 84, 83, 49] by
    rw [show w.heap.size + 1 = (w.alloc (.cells #[.int .i64 (n : Int), .int .u64 (f : Int)] 49)).heap.size by simp]
    exact sl_row (l := [84, 84, 83, 49]) (heap_alloc_last (w.alloc (.cells #[.int .i64 (n : Int), .int .u64 (f : Int)] 49)) (.cells #[.int .u8 84, .int .u8 84, .int .u8 83, .int .u8 49] 5 (4, 5))))
  have HT := Lib.hid hT
  have hcv := Joins.run_convert_bytes_const_at (P := Tryd.prog) (w.alloc (.cells #[.int .i64 (n : Int), .int .u64 (f : Int)] 49)) 23 5 #[.int .u8 84, .int .u8 84, .int .u8 83, .int .u8 49] 4 4 (w.heap.size + 1) (by simp) Tryd.underlying23 Tryd.underlying5
  clear hF1 hF2 hQ1 hQ2 hQ3 n1 n2 n3 hX hXF hC hQ4 hT h1 h2 h3 h4
  go_enter Tryd.func27, Tryd.ntmps27
  go_wp2_with fail
  generalize w.alloc (.cells #[.int .i64 (n : Int), .int .u64 (f : Int)] 49) = wb at *
  have HBZ := Lib.hid ((Below.refl wb.heap.size wb).alloc (Nat.le_refl _) (.cells #[.int .u8 84, .int .u8 84, .int .u8 83, .int .u8 49] 5 (4, 5)))
  generalize wb.alloc (.cells #[.int .u8 84, .int .u8 84, .int .u8 83, .int .u8 49] 5 (4, 5)) = x0 at *
  have HQ0 := HBZ
  have HR0 := HR00
  have C0 := C00
  have C1 := C01
  have HTb := Lib.hid (tabC_then HB0.out (Nat.le_refl _) HT.out)
  obtain ⟨c0, c1⟩ := And.intro (cell_then HQ0.out (Nat.le_refl _) C0.out) (cell_then HQ0.out (Nat.le_refl _) C1.out)
  clear C00 C01 HR00 HBZ
  generalize w.heap.size + 1 = gb at *
  go_wp2_with (first
    | (go_at_call 37; (with_reducible refine (fourK n Q1 x0 HF1.out HL1.out).mono ?_); rintro e y1 ⟨a1, k1, rfl, s1, z1, _, _, b1⟩; have GQ1 := Lib.hid (below_then HQ0.out b1 HQ0.out.size); have GR1 := Lib.hid (sl_then b1 (Nat.le_refl _) HR0.out); have GS1 := Lib.hid s1; have GZ1 := Lib.hid z1; clear s1 z1 b1)
    | (at_builtin; (obtain ⟨ad1, rfl, hs1⟩ := four_some GS1.out (by rw [HF1.out]; rfl); refine app_full rfl _ _ rfl ⟨gb, 0, none⟩ [84, 84, 83, 49] rfl GR1.out ad1 Q1.length k1 Q1 rfl rfl hs1 (by rw [HF1.out]; exact Nat.succ_pos 3) HA1.out ?_; intro v1 x1 o1 b1; have HQ1 := Lib.hid (b1 _ _ GQ1.out.size GQ1.out); have HR1 := Lib.hid (show Rb x1 wb.heap.size v1 ([84, 84, 83, 49] ++ Q1) from Joins.ownsRow_le o1 GQ1.out.size); clear o1 b1; clear c0 c1; obtain ⟨c0, c1⟩ := And.intro (cell_then HQ1.out (Nat.le_refl _) C0.out) (cell_then HQ1.out (Nat.le_refl _) C1.out)))
    | (go_at_call 37; (with_reducible refine (fourK F1 Q2 x1 HF2.out HL2.out).mono ?_); rintro e y2 ⟨a2, k2, rfl, s2, z2, _, _, b2⟩; have GQ2 := Lib.hid (below_then HQ1.out b2 HQ1.out.size); have GR2 := Lib.hid (rb_then HR1.out b2 (Nat.le_refl _)); have GS2 := Lib.hid s2; have GZ2 := Lib.hid z2; clear s2 z2 b2)
    | (at_builtin; (refine app_sl rfl _ _ rfl wb.heap.size _ ([84, 84, 83, 49] ++ Q1) rfl GR2.out a2 Q2.length k2 Q2 rfl rfl GZ2.out GS2.out HA2.out GQ2.out.size ?_; intro v2 x2 o2 b2; have HQ2 := Lib.hid (b2 _ _ (Nat.le_refl _) GQ2.out); have HR2 := Lib.hid o2; clear o2 b2; clear c0 c1; obtain ⟨c0, c1⟩ := And.intro (cell_then HQ2.out (Nat.le_refl _) C0.out) (cell_then HQ2.out (Nat.le_refl _) C1.out)))
    | (go_at_call 37; (with_reducible refine (fourK F2 Q3 x2 HF3.out HL3.out).mono ?_); rintro e y3 ⟨a3, k3, rfl, s3, z3, _, _, b3⟩; have GQ3 := Lib.hid (below_then HQ2.out b3 HQ2.out.size); have GR3 := Lib.hid (rb_then HR2.out b3 (Nat.le_refl _)); have GS3 := Lib.hid s3; have GZ3 := Lib.hid z3; clear s3 z3 b3)
    | (at_builtin; (refine app_sl rfl _ _ rfl wb.heap.size _ ([84, 84, 83, 49] ++ Q1 ++ Q2) rfl GR3.out a3 Q3.length k3 Q3 rfl rfl GZ3.out GS3.out HA3.out GQ3.out.size ?_; intro v3 x3 o3 b3; have HQ3 := Lib.hid (b3 _ _ (Nat.le_refl _) GQ3.out); have HR3 := Lib.hid o3; rw [← HX.out] at o3; have HR3' := Lib.hid o3; obtain ⟨ra, rc, rfl, _, hrs, hr0, _⟩ := rb_sl o3; have HRS := Lib.hid hrs; clear hrs hr0; clear o3 b3; clear c0 c1; obtain ⟨c0, c1⟩ := And.intro (cell_then HQ3.out (Nat.le_refl _) C0.out) (cell_then HQ3.out (Nat.le_refl _) C1.out)))
    | (go_at_call 38; (with_reducible refine (crcK ra X.length rc X C x3 rfl HC.out HXX.out HXN.out HRS.out (tabC_then HQ3.out (Nat.le_refl _) HTb.out)).mono ?_); rintro e w' ⟨rfl, rfl⟩)
    | (go_at_call 37; (with_reducible refine (fourK C Q4 x3 HF4.out HCL.out).mono ?_); rintro e y4 ⟨a4, k4, rfl, s4, z4, _, _, b4⟩; have GQ4 := Lib.hid (below_then HQ3.out b4 HQ3.out.size); have GR4 := Lib.hid (rb_then HR3'.out b4 (Nat.le_refl _)); have GS4 := Lib.hid s4; have GZ4 := Lib.hid z4; clear s4 z4 b4)
    | (at_builtin; (refine app_sl rfl _ _ rfl wb.heap.size _ X rfl GR4.out a4 Q4.length k4 Q4 rfl rfl GZ4.out GS4.out HA4.out GQ4.out.size ?_; intro v5 x5 o5 b5; have HQ5 := Lib.hid (b5 _ _ (Nat.le_refl _) GQ4.out); have HR5 := Lib.hid o5; clear o5 b5)))
  go_ret2
  rw [← HFIN.out]
  exact enP_of HR5.out HB0.out.size (below_then HB0.out HQ5.out HB0.out.size)
set_option maxRecDepth 100000 in
theorem headNo (n : Int) (f : Nat) (w : World) (h : n < 1 ∨ 999999 < n ∨ f < 1 ∨ 4611686018427387904 < f) : Calls Tryd.prog 27 #[.agg #[.int .i64 n, .int .u64 (f : Int)]] w fun e w' => e = .returned (.tuple #[.slice none 0 0, .int .i64 1]) ∧ Below w.heap.size w w' := by
  by_cases h1 : n < 1
  · clear h
    go_enter Tryd.func27, Tryd.ntmps27
    go_wp2
    go_ret2
    exact ⟨rfl, (Below.refl _ _).alloc (Nat.le_refl _) _⟩
  by_cases h2 : 999999 < n
  · clear h
    go_enter Tryd.func27, Tryd.ntmps27
    go_wp2
    go_ret2
    exact ⟨rfl, (Below.refl _ _).alloc (Nat.le_refl _) _⟩
  by_cases h3 : f < 1
  · have g3 : decide ((f : Int) < 1) = true := decide_eq_true (by omega)
    have g5 : decide (f < 1) = true := decide_eq_true (by omega)
    clear h h3
    go_enter Tryd.func27, Tryd.ntmps27
    go_wp2
    go_ret2
    exact ⟨rfl, (Below.refl _ _).alloc (Nat.le_refl _) _⟩
  · have g3 : decide ((f : Int) < 1) = false := decide_eq_false (by omega)
    have g5 : decide (f < 1) = false := decide_eq_false (by omega)
    have g4 : decide (4611686018427387904 < (f : Int)) = true := decide_eq_true (by omega)
    have g6 : decide (4611686018427387904 < f) = true := decide_eq_true (by omega)
    clear h h3
    go_enter Tryd.func27, Tryd.ntmps27
    go_wp2
    go_ret2
    exact ⟨rfl, (Below.refl _ _).alloc (Nat.le_refl _) _⟩

end Go.Proofs.YtabgelmmjpjejaaDoor.Hd
