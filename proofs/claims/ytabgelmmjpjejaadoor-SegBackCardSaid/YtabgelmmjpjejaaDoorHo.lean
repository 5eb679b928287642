/- A header in a row of its own. -/
import Derived.Test.YtabgelmmjpjejaaDoorHd
set_option linter.unusedVariables false
namespace Go.Proofs.YtabgelmmjpjejaaDoor.Ho
open Go Go.RowKit Kit Crc Var Get Ref3 Copy Bytes Bx Py Py2 Ry Rz Dn Df Dd Da Dc Rs Rf Rg Ar Bg Hd

/-- what Header answers stands in a row of its own. -/
def OwP (X : List Nat) (w : World) (e : Ending) (w' : World) : Prop := ∃ v base, e = .returned (.tuple #[v, .int .i64 0]) ∧ Rb w' base v X ∧ w.heap.size ≤ base ∧ base ≤ w'.heap.size ∧ Below w.heap.size w w'
set_option maxRecDepth 100000 in
set_option maxHeartbeats 2000000 in
theorem headOwn (n f : Nat) (w : World) (h1 : 1 ≤ n) (h2 : n ≤ 999999) (h3 : 1 ≤ f) (h4 : f ≤ 4611686018427387904) (hT : TabC w) :
    Calls Tryd.prog 27 #[.agg #[.int .i64 (n : Int), .int .u64 (f : Int)]] w (OwP (hdL n f) w) := by
  obtain ⟨F1, hF1⟩ : ∃ F, F = f / 4294967296 := ⟨_, rfl⟩
  obtain ⟨F2, hF2⟩ : ∃ F, F = f % 4294967296 := ⟨_, rfl⟩
  obtain ⟨Q1, hQ1⟩ : ∃ Q, Q = fourL (n : Int) := ⟨_, rfl⟩
  obtain ⟨Q2, hQ2⟩ : ∃ Q, Q = fourL (F1 : Int) := ⟨_, rfl⟩
  obtain ⟨Q3, hQ3⟩ : ∃ Q, Q = fourL (F2 : Int) := ⟨_, rfl⟩
  have HF1 := Lib.hid hQ1
  have HF2 := Lib.hid hQ2
  have HF3 := Lib.hid hQ3
  have HL1 := Lib.hid (show n < 4294967296 by omega)
  have HL2 := Lib.hid (show F1 < 4294967296 by omega)
  have HL3 := Lib.hid (show F2 < 4294967296 by omega)
  have n1 : Q1.length = 4 := by rw [hQ1]; rfl
  have n2 : Q2.length = 4 := by rw [hQ2]; rfl
  have n3 : Q3.length = 4 := by rw [hQ3]; rfl
  have HA1 := Lib.hid (show ([84, 84, 83, 49] : List Nat).length + Q1.length ≤ 1000000 by simp; omega)
  have HA2 := Lib.hid (show ([84, 84, 83, 49] ++ Q1).length + Q2.length ≤ 1000000 by simp; omega)
  have HA3 := Lib.hid (show ([84, 84, 83, 49] ++ Q1 ++ Q2).length + Q3.length ≤ 1000000 by simp; omega)
  obtain ⟨X, hX⟩ : ∃ X, X = [84, 84, 83, 49] ++ Q1 ++ Q2 ++ Q3 := ⟨_, rfl⟩
  have HX := Lib.hid hX
  have hXF : X = hdF n f := by rw [hX, hQ1, hQ2, hQ3, hF1, hF2]; rfl
  have HXX := Lib.hid (show ∀ c ∈ X, c < 256 by rw [hXF]; exact hdF_lt n f)
  have HXN := Lib.hid (show X.length ≤ 9223372036854775807 by rw [hXF, hdF_len]; decide)
  obtain ⟨C, hC⟩ : ∃ C, C = crc X := ⟨_, rfl⟩
  have HC := Lib.hid hC
  have HCL := Lib.hid (show C < 4294967296 by rw [hC]; exact crc_lt _ HXX.out)
  obtain ⟨Q4, hQ4⟩ : ∃ Q, Q = fourL (C : Int) := ⟨_, rfl⟩
  have HF4 := Lib.hid hQ4
  have HA4 := Lib.hid (show X.length + Q4.length ≤ 1000000 by rw [hXF, hdF_len, hQ4, fourL_len]; decide)
  have HFIN := Lib.hid (show X ++ Q4 = hdL n f by rw [hQ4, hC, hXF]; rfl)
  have e1 : (n : Int) % 4294967296 = (n : Int) := by omega
  have e2 : (f : Int) / 4294967296 = (F1 : Int) := by omega
  have e3 : (F1 : Int) % 4294967296 = (F1 : Int) := by omega
  have e4 : (f : Int) % 4294967296 = (F2 : Int) := by omega
  have g1 : ¬ (n : Int) < 1 := by omega
  have g2 : ¬ 999999 < (n : Int) := by omega
  have g3 : decide ((f : Int) < 1) = false := decide_eq_false (by omega)
  have g4 : decide (4611686018427387904 < (f : Int)) = false := decide_eq_false (by omega)
  have g5 : decide (f < 1) = false := decide_eq_false (by omega)
  have g6 : decide (4611686018427387904 < f) = false := decide_eq_false (by omega)
  have HB0 := Lib.hid ((Below.refl w.heap.size w).alloc (Nat.le_refl _) (.cells #[.int .i64 (n : Int), .int .u64 (f : Int)] 49))
  have C00 := Lib.hid (show (w.alloc (.cells #[.int .i64 (n : Int), .int .u64 (f : Int)] 49)).cell? ⟨w.heap.size, 0, none⟩ = some (.int .i64 (n : Int)) by rw [cell_of_row _ w.heap.size 0 _ 49 (0, 0) (heap_alloc_last w _)]; rfl)
  have C01 := Lib.hid (show (w.alloc (.cells #[.int .i64 (n : Int), .int .u64 (f : Int)] 49)).cell? ⟨w.heap.size, 1, none⟩ = some (.int .u64 (f : Int)) by rw [cell_of_row _ w.heap.size 1 _ 49 (0, 0) (heap_alloc_last w _)]; rfl)
  have HR00 := Lib.hid (show Sl ((w.alloc (.cells #[.int .i64 (n : Int), .int .u64 (f : Int)] 49)).alloc (.cells #[.int .u8 84, .int .u8 84, .int .u8 83, .int .u8 49] 5 (4, 5))) (some ⟨w.heap.size + 1, 0, none⟩) [84, 84, 83, 49] by
    rw [show w.heap.size + 1 = (w.alloc (.cells #[.int .i64 (n : Int), .int .u64 (f : Int)] 49)).heap.size by simp]
    exact sl_row (l := [84, 84, 83, 49]) (heap_alloc_last (w.alloc (.cells #[.int .i64 (n : Int), .int .u64 (f : Int)] 49)) (.cells #[.int .u8 84, .int .u8 84, .int .u8 83, .int .u8 49] 5 (4, 5))))
  have HT := Lib.hid hT
  have hcv := Joins.run_convert_bytes_const_at (P := Tryd.prog) (w.alloc (.cells #[.int .i64 (n : Int), .int .u64 (f : Int)] 49)) 23 5 #[.int .u8 84, .int .u8 84, .int .u8 83, .int .u8 49] 4 4 (w.heap.size + 1) (by simp) Tryd.underlying23 Tryd.underlying5
  clear hF1 hF2 hQ1 hQ2 hQ3 n1 n2 n3 hX hXF hC hQ4 hT h1 h2 h3 h4
  go_enter Tryd.func27, Tryd.ntmps27
  go_wp2_with fail
  generalize w.alloc (.cells #[.int .i64 (n : Int), .int .u64 (f : Int)] 49) = wb at *
  have HBZ := Lib.hid ((Below.refl wb.heap.size wb).alloc (Nat.le_refl _) (.cells #[.int .u8 84, .int .u8 84, .int .u8 83, .int .u8 49] 5 (4, 5)))
  generalize wb.alloc (.cells #[.int .u8 84, .int .u8 84, .int .u8 83, .int .u8 49] 5 (4, 5)) = x0 at *
  have HQ0 := HBZ
  have HR0 := HR00
  have C0 := C00
  have C1 := C01
  have HTb := Lib.hid (tabC_then HB0.out (Nat.le_refl _) HT.out)
  obtain ⟨c0, c1⟩ := And.intro (cell_then HQ0.out (Nat.le_refl _) C0.out) (cell_then HQ0.out (Nat.le_refl _) C1.out)
  clear C00 C01 HR00 HBZ
  generalize w.heap.size + 1 = gb at *
  go_wp2_with (first
    | (go_at_call 37; (with_reducible refine (fourK n Q1 x0 HF1.out HL1.out).mono ?_); rintro e y1 ⟨a1, k1, rfl, s1, z1, _, _, b1⟩; have GQ1 := Lib.hid (below_then HQ0.out b1 HQ0.out.size); have GR1 := Lib.hid (sl_then b1 (Nat.le_refl _) HR0.out); have GS1 := Lib.hid s1; have GZ1 := Lib.hid z1; clear s1 z1 b1)
    | (at_builtin; (obtain ⟨ad1, rfl, hs1⟩ := four_some GS1.out (by rw [HF1.out]; rfl); refine app_full rfl _ _ rfl ⟨gb, 0, none⟩ [84, 84, 83, 49] rfl GR1.out ad1 Q1.length k1 Q1 rfl rfl hs1 (by rw [HF1.out]; exact Nat.succ_pos 3) HA1.out ?_; intro v1 x1 o1 b1; have HQ1 := Lib.hid (b1 _ _ GQ1.out.size GQ1.out); have HR1 := Lib.hid (show Rb x1 wb.heap.size v1 ([84, 84, 83, 49] ++ Q1) from Joins.ownsRow_le o1 GQ1.out.size); clear o1 b1; clear c0 c1; obtain ⟨c0, c1⟩ := And.intro (cell_then HQ1.out (Nat.le_refl _) C0.out) (cell_then HQ1.out (Nat.le_refl _) C1.out)))
    | (go_at_call 37; (with_reducible refine (fourK F1 Q2 x1 HF2.out HL2.out).mono ?_); rintro e y2 ⟨a2, k2, rfl, s2, z2, _, _, b2⟩; have GQ2 := Lib.hid (below_then HQ1.out b2 HQ1.out.size); have GR2 := Lib.hid (rb_then HR1.out b2 (Nat.le_refl _)); have GS2 := Lib.hid s2; have GZ2 := Lib.hid z2; clear s2 z2 b2)
    | (at_builtin; (refine app_sl rfl _ _ rfl wb.heap.size _ ([84, 84, 83, 49] ++ Q1) rfl GR2.out a2 Q2.length k2 Q2 rfl rfl GZ2.out GS2.out HA2.out GQ2.out.size ?_; intro v2 x2 o2 b2; have HQ2 := Lib.hid (b2 _ _ (Nat.le_refl _) GQ2.out); have HR2 := Lib.hid o2; clear o2 b2; clear c0 c1; obtain ⟨c0, c1⟩ := And.intro (cell_then HQ2.out (Nat.le_refl _) C0.out) (cell_then HQ2.out (Nat.le_refl _) C1.out)))
    | (go_at_call 37; (with_reducible refine (fourK F2 Q3 x2 HF3.out HL3.out).mono ?_); rintro e y3 ⟨a3, k3, rfl, s3, z3, _, _, b3⟩; have GQ3 := Lib.hid (below_then HQ2.out b3 HQ2.out.size); have GR3 := Lib.hid (rb_then HR2.out b3 (Nat.le_refl _)); have GS3 := Lib.hid s3; have GZ3 := Lib.hid z3; clear s3 z3 b3)
    | (at_builtin; (refine app_sl rfl _ _ rfl wb.heap.size _ ([84, 84, 83, 49] ++ Q1 ++ Q2) rfl GR3.out a3 Q3.length k3 Q3 rfl rfl GZ3.out GS3.out HA3.out GQ3.out.size ?_; intro v3 x3 o3 b3; have HQ3 := Lib.hid (b3 _ _ (Nat.le_refl _) GQ3.out); have HR3 := Lib.hid o3; rw [← HX.out] at o3; have HR3' := Lib.hid o3; obtain ⟨ra, rc, rfl, _, hrs, hr0, _⟩ := rb_sl o3; have HRS := Lib.hid hrs; clear hrs hr0; clear o3 b3; clear c0 c1; obtain ⟨c0, c1⟩ := And.intro (cell_then HQ3.out (Nat.le_refl _) C0.out) (cell_then HQ3.out (Nat.le_refl _) C1.out)))
    | (go_at_call 38; (with_reducible refine (crcK ra X.length rc X C x3 rfl HC.out HXX.out HXN.out HRS.out (tabC_then HQ3.out (Nat.le_refl _) HTb.out)).mono ?_); rintro e w' ⟨rfl, rfl⟩)
    | (go_at_call 37; (with_reducible refine (fourK C Q4 x3 HF4.out HCL.out).mono ?_); rintro e y4 ⟨a4, k4, rfl, s4, z4, _, _, b4⟩; have GQ4 := Lib.hid (below_then HQ3.out b4 HQ3.out.size); have GR4 := Lib.hid (rb_then HR3'.out b4 (Nat.le_refl _)); have GS4 := Lib.hid s4; have GZ4 := Lib.hid z4; clear s4 z4 b4)
    | (at_builtin; (refine app_sl rfl _ _ rfl wb.heap.size _ X rfl GR4.out a4 Q4.length k4 Q4 rfl rfl GZ4.out GS4.out HA4.out GQ4.out.size ?_; intro v5 x5 o5 b5; have HQ5 := Lib.hid (b5 _ _ (Nat.le_refl _) GQ4.out); have HR5 := Lib.hid o5; clear o5 b5)))
  go_ret2
  rw [← HFIN.out]
  exact ⟨v5, wb.heap.size, rfl, HR5.out, HB0.out.size, HQ5.out.size, below_then HB0.out HQ5.out HB0.out.size⟩

end Go.Proofs.YtabgelmmjpjejaaDoor.Ho
