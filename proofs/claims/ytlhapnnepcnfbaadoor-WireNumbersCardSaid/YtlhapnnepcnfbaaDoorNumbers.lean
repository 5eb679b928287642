/- WireNumbers: the walk of the law. -/
import Derived.Test.YtlhapnnepcnfbaaDoorRef3
import Derived.Test.YtlhapnnepcnfbaaDoorArgB
set_option linter.unusedVariables false
namespace Go.Proofs.YtlhapnnepcnfbaaDoor.Numbers
open Go Go.RowKit Kit Crc Var Get Bytes WireFirst Ref2 Ref3

theorem four_bytes (n : Int) : ∀ c ∈ fourL n, c < 256 := by
  intro c hc
  simp [fourL] at hc
  omega
set_option maxRecDepth 100000 in
theorem walkLong (n : Int) (a : Option Addr) (len cap : Nat) (p : Int) (w : World) (hT : TabC w) (h : 2000 < len) (hm : len ≤ 9223372036854775807) :
    Calls Tryd.prog 11 #[.int .u64 n, .slice a len cap, .int .i64 p] w fun e w' => e = .returned (.bool true) ∧ Below w.heap.size w w' := by
  go_enter Tryd.func11, Tryd.ntmps11
  go_wp2_with fail
  refine (first _ hT).mono ?_
  rintro e w1 ⟨rfl, hb1⟩
  have hT1 := tab_then hb1 (Nat.le_refl _) hT
  go_wp2_with fail
  refine (first _ hT1).mono ?_
  rintro e w2 ⟨rfl, hb2⟩
  go_wp2
  go_ret
  exact ⟨rfl, grow_left hb1 hb2⟩
set_option maxRecDepth 100000 in
set_option maxHeartbeats 2000000 in
theorem walkIn (n : Nat) (a : Option Addr) (cap : Nat) (l : List Nat) (p : Int) (w : World) (hT : TabC w) (hn : n < 18446744073709551616) (hl : ∀ c ∈ l, c < 256) (hlen : l.length ≤ 2000) (hs : Sl w a l) :
    Calls Tryd.prog 11 #[.int .u64 n, .slice a l.length cap, .int .i64 p] w fun e w' => e = .returned (.bool true) ∧ Below w.heap.size w w' := by
  have HN := Lib.hid hn
  have HL := Lib.hid hl
  have hb8 := varL_bytes n
  have HB := Lib.hid hb8
  obtain ⟨m, hm⟩ : ∃ m : Int, m = (n : Int) % 4294967296 := ⟨_, rfl⟩
  have hm0 : 0 ≤ m := by omega
  have hm1 : m < 4294967296 := by omega
  have HM := Lib.hid hm
  clear hn hl hb8 hm
  go_enter Tryd.func11, Tryd.ntmps11
  go_wp2_with fail
  refine (first _ hT).mono ?_
  rintro e w1 ⟨rfl, hb1⟩
  have hT1 := tab_then hb1 (Nat.le_refl _) hT
  have hs1 := sl_then hb1 (Nat.le_refl _) hs
  go_wp2_with fail
  refine (get36 a cap l p _ HL.out (by omega) hs1).mono ?_
  rintro e w2 ⟨rfl, rfl⟩
  go_wp2_with fail
  refine (get37 a cap l p _ HL.out (by omega) hs1).mono ?_
  rintro e w2 ⟨rfl, rfl⟩
  generalize getA l p = R
  go_wp2_with fail
  refine (first _ hT1).mono ?_
  rintro e w3 ⟨rfl, hb3⟩
  have hT3 := tab_then hb3 (Nat.le_refl _) hT1
  have hs3 := sl_then hb3 (Nat.le_refl _) hs1
  go_wp2_with fail
  refine (varC n _ HN.out).mono ?_
  rintro e w4 ⟨v4, rfl, own4, hb4⟩
  obtain ⟨a4, c4, rfl, _, sl4, _⟩ := row_sl own4
  go_wp2_with fail
  refine (rVarC n _ HN.out).mono ?_
  rintro e w5 ⟨v5, rfl, own5, hb5⟩
  obtain ⟨a5, c5, rfl, _, sl5, _⟩ := row_sl own5
  go_wp2_with fail
  refine (bytesC a4 a5 c4 c5 (varL n) (varL n) _ (sl_then hb5 (Nat.le_refl _) sl4) sl5 HB.out HB.out).mono ?_
  rw [decide_eq_true rfl]
  rintro e w6 ⟨rfl, rfl⟩
  have hT5 := tab_then hb5 (Nat.le_refl _) (tab_then hb4 (Nat.le_refl _) hT3)
  have hs5 := sl_then hb5 (Nat.le_refl _) (sl_then hb4 (Nat.le_refl _) hs3)
  clear own4 own5 sl4 sl5 hs hs1 hs3
  go_wp2_with fail
  refine (crcC a cap l _ HL.out (by omega) hs5 hT5).mono ?_
  rintro e w6 ⟨rfl, rfl⟩
  go_wp2_with fail
  refine (rCrcC a cap l _ HL.out (by omega) hs5).mono ?_
  rintro e w6 ⟨rfl, rfl⟩
  generalize crc l = C
  go_wp2_with fail
  rw [← HM.out]
  refine (four43 m _ hm0 hm1).mono ?_
  rintro e w6 ⟨rfl, rfl⟩
  go_wp2_with fail
  rw [← HM.out]
  refine (four44 m _ hm0 hm1).mono ?_
  rintro e w6 ⟨rfl, rfl⟩
  go_wp2_with fail
  refine (bytesC (some ⟨w5.heap.size, 0, none⟩) (some ⟨w5.heap.size + 1, 0, none⟩) 4 4 (fourL m) (fourL m) _ (sl_alloc (.inr ⟨_, 0, rfl, cells_new w5 (fourL m)⟩)) (.inr ⟨_, 0, rfl, cells_lit (by simp) rfl⟩) (four_bytes m) (four_bytes m)).mono ?_
  rw [decide_eq_true rfl]
  rintro e w6 ⟨rfl, rfl⟩
  go_wp2
  go_ret
  refine ⟨rfl, ?_⟩
  have h5 : Below w.heap.size w w5 := grow_left (grow_left (grow_left hb1 hb3) hb4) hb5
  have z5 := h5.size
  exact (h5.alloc z5 _).alloc (by simp only [World.size_alloc]; omega) _
theorem in64 {n : Int} (h : (Lit.int .u64 n).wf = true) : 0 ≤ n ∧ n < 18446744073709551616 := by
  simp only [Lit.wf, Bool.and_eq_true, decide_eq_true_eq] at h
  have h1 : IntKind.u64.min = 0 := by decide
  have h2 : IntKind.u64.max = 18446744073709551615 := by decide
  omega
theorem walk (n : Int) (a : Option Addr) (len cap : Nat) (zs : List Int) (p : Int) (W : World) (w0 : (Lit.int .u64 n).wf = true) (w1 : IsRow .u8 W a len cap zs) (w2 : (Lit.int .i64 p).wf = true)
    (hL : Lib.TabIs Tryd.prog W "tickertape/wire.crcSteps" .u32 [0, 498536548, 997073096, 651767980, 1994146192, 1802195444, 1303535960, 1342533948, 3988292384, 4027552580, 3604390888, 3412177804, 2607071920, 2262029012, 2685067896, 3183342108]) :
    Calls Tryd.prog 11 #[.int .u64 n, .slice a len cap, .int .i64 p] W fun e w' => e = .returned (.bool true) ∧ Below W.heap.size W w' := by
  have hT := ArgB.tab hL (by kernel_rfl)
  obtain ⟨n0, n1⟩ := in64 w0
  obtain ⟨n, rfl⟩ := Int.eq_ofNat_of_zero_le n0
  by_cases h : 2000 < len
  · exact walkLong n a len cap p W hT h (ArgB.row_len w1)
  · by_cases h1 : 1 ≤ len
    · obtain ⟨b, o, l, rfl, rfl, hl, hc⟩ := ArgB.row_cells w1 h1
      exact walkIn n _ cap l p W hT (by omega) hl (by omega) (.inr ⟨b, o, rfl, hc⟩)
    · obtain rfl : len = 0 := by omega
      exact walkIn n a cap [] p W hT (by omega) (by simp) (by simp) (.inl rfl)
end Go.Proofs.YtlhapnnepcnfbaaDoor.Numbers
