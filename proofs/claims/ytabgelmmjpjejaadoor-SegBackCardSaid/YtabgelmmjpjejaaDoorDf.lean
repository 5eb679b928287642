/- Reading a record: why not, or what. -/
import Derived.Test.YtabgelmmjpjejaaDoorDn
set_option linter.unusedVariables false
namespace Go.Proofs.YtabgelmmjpjejaaDoor.Df
open Go Go.RowKit Kit Crc Var Get Ref3 Copy Bytes Bx Py Py2 Ry Dn


set_option maxRecDepth 100000 in
theorem dec_s1 (a : Option Addr) (n cap p M : Nat) (w : World) (hM : n = p + M) (h6 : M < 6) (hn : n ≤ 90000) : Calls Tryd.prog 42 #[.slice a n cap, .int .i64 (p : Int)] w (BadP 3 w) := by
  have z1 : (n : Int) - (p : Int) = (M : Int) := by omega
  have k1 : decide ((6 : Int) ≤ (M : Int)) = false := decide_eq_false (by omega)
  have k2 : decide (6 ≤ M) = false := decide_eq_false (by omega)
  have q1 := wr_i M (by omega)
  have q2 := wr_w M (by clear q1; omega)
  clear hM h6 hn
  go_enter Tryd.func42, Tryd.ntmps42
  go_wp2_with (go_at_call 54; (with_reducible refine (needF _ _ _ rfl).mono ?_); rintro e w' ⟨rfl, rfl⟩)
  exact ⟨rfl, rfl, (Below.refl _ _).alloc (Nat.le_refl _) _⟩

set_option maxRecDepth 100000 in
set_option maxHeartbeats 2000000 in
theorem dec_m1 (b off cap : Nat) (l : List Nat) (p M : Nat) (w : World) (hs : Cells w b off l) (hcap : l.length ≤ cap) (hl : ∀ c ∈ l, c < 256) (hn : l.length ≤ 90000) (hM : l.length = p + M) (h6 : 6 ≤ M) (B0 : Nat) (g0 : l[p]? = some B0) (b0 : ¬ B0 = 167) :
    Calls Tryd.prog 42 #[.slice (some ⟨b, off, none⟩) l.length cap, .int .i64 (p : Int)] w (BadP 2 w) := by
  have z1 : (l.length : Int) - (p : Int) = (M : Int) := by omega
  have k1 : decide ((6 : Int) ≤ (M : Int)) = true := decide_eq_true (by omega)
  have k2 : decide (6 ≤ M) = true := decide_eq_true (by omega)
  have y0 : (p : Int) < (l.length : Int) := by omega
  have M5 : M ≤ 100000 := by omega
  have f0 : ((B0 : Int) == 167) = false := by rw [beq_eq_false_iff_ne]; omega
  have f1 : decide ((B0 : Int) = 167) = false := decide_eq_false (by omega)
  have f2 : decide (B0 = 167) = false := decide_eq_false b0
  have c0 : w.cell? ⟨b, off + p, none⟩ = some (.int .u8 (B0 : Int)) := cell_q hs g0
  have HS := Lib.hid (sl_of hs)
  have HL := Lib.hid hl
  have HN := Lib.hid (show l.length ≤ 9223372036854775000 by omega)
  clear hs hM h6 g0 b0
  as_aux_lemma =>
    go_enter Tryd.func42, Tryd.ntmps42
    go_wp2_with fail
    have Z1 := Lib.hid (heap_alloc_last w (.cells #[.int .i64 0, .int .u64 0, .int .u64 0, .slice none 0 0] 25))
    have HB1 := Lib.hid ((Below.refl w.heap.size w).alloc (Nat.le_refl _) (.cells #[.int .i64 0, .int .u64 0, .int .u64 0, .slice none 0 0] 25))
    generalize w.alloc (.cells #[.int .i64 0, .int .u64 0, .int .u64 0, .slice none 0 0] 25) = w1 at *
    replace c0 := cell_then HB1.out (Nat.le_refl _) c0
    as_aux_lemma =>
      have HS1 := Lib.hid (sl_then HB1.out (Nat.le_refl _) HS.out)
      go_wp2_with (first
        | (go_at_call 54; (with_reducible refine (needT _ _ _ rfl).mono ?_); rintro e w' ⟨rfl, rfl⟩)
        | (go_at_call 54; (with_reducible refine (needF _ _ _ rfl).mono ?_); rintro e w' ⟨rfl, rfl⟩))
      exact ⟨rfl, rfl, HB1.out⟩

set_option maxRecDepth 100000 in
set_option maxHeartbeats 2000000 in
theorem dec_m2 (b off cap : Nat) (l : List Nat) (p M : Nat) (w : World) (hs : Cells w b off l) (hcap : l.length ≤ cap) (hl : ∀ c ∈ l, c < 256) (hn : l.length ≤ 90000) (hM : l.length = p + M) (h6 : 6 ≤ M) (g0 : l[p]? = some 167) (B1 : Nat) (g1 : l[p + 1]? = some B1) (b1 : ¬ B1 = 92) :
    Calls Tryd.prog 42 #[.slice (some ⟨b, off, none⟩) l.length cap, .int .i64 (p : Int)] w (BadP 2 w) := by
  have z1 : (l.length : Int) - (p : Int) = (M : Int) := by omega
  have k1 : decide ((6 : Int) ≤ (M : Int)) = true := decide_eq_true (by omega)
  have k2 : decide (6 ≤ M) = true := decide_eq_true (by omega)
  have y0 : (p : Int) < (l.length : Int) := by omega
  have M5 : M ≤ 100000 := by omega
  have y1 : (p : Int) + 1 < (l.length : Int) := by omega
  have f0 : ((B1 : Int) == 92) = false := by rw [beq_eq_false_iff_ne]; omega
  have f1 : decide ((B1 : Int) = 92) = false := decide_eq_false (by omega)
  have f2 : decide (B1 = 92) = false := decide_eq_false b1
  have c0 : w.cell? ⟨b, off + p, none⟩ = some (.int .u8 (167 : Int)) := cell_q hs g0
  have c1 : w.cell? ⟨b, off + (p + 1), none⟩ = some (.int .u8 (B1 : Int)) := cell_q hs g1
  have HS := Lib.hid (sl_of hs)
  have HL := Lib.hid hl
  have HN := Lib.hid (show l.length ≤ 9223372036854775000 by omega)
  clear hs hM h6 g0 g1 b1
  as_aux_lemma =>
    go_enter Tryd.func42, Tryd.ntmps42
    go_wp2_with fail
    have Z1 := Lib.hid (heap_alloc_last w (.cells #[.int .i64 0, .int .u64 0, .int .u64 0, .slice none 0 0] 25))
    have HB1 := Lib.hid ((Below.refl w.heap.size w).alloc (Nat.le_refl _) (.cells #[.int .i64 0, .int .u64 0, .int .u64 0, .slice none 0 0] 25))
    generalize w.alloc (.cells #[.int .i64 0, .int .u64 0, .int .u64 0, .slice none 0 0] 25) = w1 at *
    replace c0 := cell_then HB1.out (Nat.le_refl _) c0
    replace c1 := cell_then HB1.out (Nat.le_refl _) c1
    as_aux_lemma =>
      have HS1 := Lib.hid (sl_then HB1.out (Nat.le_refl _) HS.out)
      go_wp2_with (first
        | (go_at_call 54; (with_reducible refine (needT _ _ _ rfl).mono ?_); rintro e w' ⟨rfl, rfl⟩)
        | (go_at_call 54; (with_reducible refine (needF _ _ _ rfl).mono ?_); rintro e w' ⟨rfl, rfl⟩))
      exact ⟨rfl, rfl, HB1.out⟩

set_option maxRecDepth 100000 in
set_option maxHeartbeats 2000000 in
theorem dec_s2 (b off cap : Nat) (l : List Nat) (p M : Nat) (w : World) (hs : Cells w b off l) (hcap : l.length ≤ cap) (hl : ∀ c ∈ l, c < 256) (hn : l.length ≤ 90000) (hM : l.length = p + M) (h6 : 6 ≤ M) (g0 : l[p]? = some 167) (g1 : l[p + 1]? = some 92) (p2 p6 : Nat) (e2 : p2 = p + 2) (e6 : p6 = p + 6) (h7 : M = 6) :
    Calls Tryd.prog 42 #[.slice (some ⟨b, off, none⟩) l.length cap, .int .i64 (p : Int)] w (BadP 3 w) := by
  have z1 : (l.length : Int) - (p : Int) = (M : Int) := by omega
  have k1 : decide ((6 : Int) ≤ (M : Int)) = true := decide_eq_true (by omega)
  have k2 : decide (6 ≤ M) = true := decide_eq_true (by omega)
  have y0 : (p : Int) < (l.length : Int) := by omega
  have M5 : M ≤ 100000 := by omega
  have y1 : (p : Int) + 1 < (l.length : Int) := by omega
  have z2 : (p : Int) + 2 = (p2 : Int) := by omega
  have z6 : (p : Int) + 6 = (p6 : Int) := by omega
  have r2 : p2 ≤ 100000 := by omega
  have r6 : p6 ≤ 100000 := by omega
  obtain ⟨SU, hSU⟩ : ∃ SU, SU = (l.drop p2).take (p6 - p2) := ⟨_, rfl⟩
  obtain ⟨yA, cA, hA, sA, _⟩ := sub_some (sl_of hs) hcap p2 p6 (by omega) (by omega) SU hSU
  have k3 : decide ((p6 : Int) < (l.length : Int)) = false := decide_eq_false (by omega)
  have k4 : decide (p6 < l.length) = false := decide_eq_false (by omega)
  have c0 : w.cell? ⟨b, off + p, none⟩ = some (.int .u8 (167 : Int)) := cell_q hs g0
  have c1 : w.cell? ⟨b, off + (p + 1), none⟩ = some (.int .u8 (92 : Int)) := cell_q hs g1
  have HS := Lib.hid (sl_of hs)
  have HL := Lib.hid hl
  have HN := Lib.hid (show l.length ≤ 9223372036854775000 by omega)
  have HSA := Lib.hid sA
  clear hs hM h6 g0 g1 e2 e6 hSU sA h7
  as_aux_lemma =>
    go_enter Tryd.func42, Tryd.ntmps42
    go_wp2_with fail
    have Z1 := Lib.hid (heap_alloc_last w (.cells #[.int .i64 0, .int .u64 0, .int .u64 0, .slice none 0 0] 25))
    have HB1 := Lib.hid ((Below.refl w.heap.size w).alloc (Nat.le_refl _) (.cells #[.int .i64 0, .int .u64 0, .int .u64 0, .slice none 0 0] 25))
    generalize w.alloc (.cells #[.int .i64 0, .int .u64 0, .int .u64 0, .slice none 0 0] 25) = w1 at *
    replace c0 := cell_then HB1.out (Nat.le_refl _) c0
    replace c1 := cell_then HB1.out (Nat.le_refl _) c1
    as_aux_lemma =>
      have HS1 := Lib.hid (sl_then HB1.out (Nat.le_refl _) HS.out)
      have HSA1 := Lib.hid (sl_then HB1.out (Nat.le_refl _) HSA.out)
      go_wp2_with (first
        | (go_at_call 54; (with_reducible refine (needT _ _ _ rfl).mono ?_); rintro e w' ⟨rfl, rfl⟩)
        | (go_at_call 54; (with_reducible refine (needF _ _ _ rfl).mono ?_); rintro e w' ⟨rfl, rfl⟩))
      exact ⟨rfl, rfl, HB1.out⟩

set_option maxRecDepth 100000 in
set_option maxHeartbeats 2000000 in
theorem dec_n1 (b off cap : Nat) (l : List Nat) (p M : Nat) (w : World) (hs : Cells w b off l) (hcap : l.length ≤ cap) (hl : ∀ c ∈ l, c < 256) (hn : l.length ≤ 90000) (hM : l.length = p + M) (h6 : 6 ≤ M) (g0 : l[p]? = some 167) (g1 : l[p + 1]? = some 92) (p2 p6 : Nat) (e2 : p2 = p + 2) (e6 : p6 = p + 6) (h7 : 7 ≤ M) (p7 : Nat) (e7 : p7 = p + 7) (KK : Nat) (g6 : l[p6]? = some KK) (x : Nat) (x1 : (getF (l.drop p7) 0 0).2.2 = x) (x2 : x ≠ 0) :
    Calls Tryd.prog 42 #[.slice (some ⟨b, off, none⟩) l.length cap, .int .i64 (p : Int)] w (BadP x w) := by
  have z1 : (l.length : Int) - (p : Int) = (M : Int) := by omega
  have k1 : decide ((6 : Int) ≤ (M : Int)) = true := decide_eq_true (by omega)
  have k2 : decide (6 ≤ M) = true := decide_eq_true (by omega)
  have y0 : (p : Int) < (l.length : Int) := by omega
  have M5 : M ≤ 100000 := by omega
  have y1 : (p : Int) + 1 < (l.length : Int) := by omega
  have z2 : (p : Int) + 2 = (p2 : Int) := by omega
  have z6 : (p : Int) + 6 = (p6 : Int) := by omega
  have r2 : p2 ≤ 100000 := by omega
  have r6 : p6 ≤ 100000 := by omega
  obtain ⟨SU, hSU⟩ : ∃ SU, SU = (l.drop p2).take (p6 - p2) := ⟨_, rfl⟩
  obtain ⟨yA, cA, hA, sA, _⟩ := sub_some (sl_of hs) hcap p2 p6 (by omega) (by omega) SU hSU
  have z7 : (p6 : Int) + 1 = (p7 : Int) := by omega
  have k3 : decide ((p6 : Int) < (l.length : Int)) = true := decide_eq_true (by omega)
  have k4 : decide (p6 < l.length) = true := decide_eq_true (by omega)
  have y6 : (p6 : Int) < (l.length : Int) := by omega
  have r7 : p7 ≤ 100000 := by omega
  have r8 : KK ≤ 100000 := by have := hl KK (List.mem_of_getElem? g6); omega
  have v7 : p7 ≤ l.length := by omega
  have c0 : w.cell? ⟨b, off + p, none⟩ = some (.int .u8 (167 : Int)) := cell_q hs g0
  have c1 : w.cell? ⟨b, off + (p + 1), none⟩ = some (.int .u8 (92 : Int)) := cell_q hs g1
  have c6 : w.cell? ⟨b, off + p6, none⟩ = some (.int .u8 (KK : Int)) := cell_q hs g6
  have HS := Lib.hid (sl_of hs)
  have HL := Lib.hid hl
  have HN := Lib.hid (show l.length ≤ 9223372036854775000 by omega)
  have HSA := Lib.hid sA
  have V7 := Lib.hid v7
  have X1 := Lib.hid x1
  have X2 := Lib.hid x2
  clear hs hM h6 g0 g1 e2 e6 hSU sA h7 e7 g6 v7 x1 x2
  as_aux_lemma =>
    go_enter Tryd.func42, Tryd.ntmps42
    go_wp2_with fail
    have Z1 := Lib.hid (heap_alloc_last w (.cells #[.int .i64 0, .int .u64 0, .int .u64 0, .slice none 0 0] 25))
    have HB1 := Lib.hid ((Below.refl w.heap.size w).alloc (Nat.le_refl _) (.cells #[.int .i64 0, .int .u64 0, .int .u64 0, .slice none 0 0] 25))
    generalize w.alloc (.cells #[.int .i64 0, .int .u64 0, .int .u64 0, .slice none 0 0] 25) = w1 at *
    replace c0 := cell_then HB1.out (Nat.le_refl _) c0
    replace c1 := cell_then HB1.out (Nat.le_refl _) c1
    replace c6 := cell_then HB1.out (Nat.le_refl _) c6
    as_aux_lemma =>
      have HS1 := Lib.hid (sl_then HB1.out (Nat.le_refl _) HS.out)
      have HSA1 := Lib.hid (sl_then HB1.out (Nat.le_refl _) HSA.out)
      go_wp2_with (first
        | (go_at_call 54; (with_reducible refine (needT _ _ _ rfl).mono ?_); rintro e w' ⟨rfl, rfl⟩)
        | (go_at_call 54; (with_reducible refine (needF _ _ _ rfl).mono ?_); rintro e w' ⟨rfl, rfl⟩)
        | (go_at_call 55; (with_reducible refine (numX (some ⟨b, off, none⟩) l.length cap l p7 18446744073709551615 x _ 18446744073709551615 rfl rfl HL.out HN.out (sl_alloc HS1.out _) V7.out X1.out X2.out).mono ?_); rintro e w' ⟨rfl, rfl⟩))
      exact ⟨rfl, rfl, HB1.out.alloc HB1.out.size _⟩

set_option maxRecDepth 100000 in
set_option maxHeartbeats 2000000 in
theorem dec_n2 (b off cap : Nat) (l : List Nat) (p M : Nat) (w : World) (hs : Cells w b off l) (hcap : l.length ≤ cap) (hl : ∀ c ∈ l, c < 256) (hn : l.length ≤ 90000) (hM : l.length = p + M) (h6 : 6 ≤ M) (g0 : l[p]? = some 167) (g1 : l[p + 1]? = some 92) (p2 p6 : Nat) (e2 : p2 = p + 2) (e6 : p6 = p + 6) (h7 : 7 ≤ M) (p7 : Nat) (e7 : p7 = p + 7) (KK : Nat) (g6 : l[p6]? = some KK) (s n1 p8 : Nat) (x3 : getF (l.drop p7) 0 0 = (s, n1, 0)) (d3 : p8 = p7 + n1) (j3 : p8 ≤ l.length) (x : Nat) (x1 : (getF (l.drop p8) 0 0).2.2 = x) (x2 : x ≠ 0) :
    Calls Tryd.prog 42 #[.slice (some ⟨b, off, none⟩) l.length cap, .int .i64 (p : Int)] w (BadP x w) := by
  have z1 : (l.length : Int) - (p : Int) = (M : Int) := by omega
  have k1 : decide ((6 : Int) ≤ (M : Int)) = true := decide_eq_true (by omega)
  have k2 : decide (6 ≤ M) = true := decide_eq_true (by omega)
  have y0 : (p : Int) < (l.length : Int) := by omega
  have M5 : M ≤ 100000 := by omega
  have y1 : (p : Int) + 1 < (l.length : Int) := by omega
  have z2 : (p : Int) + 2 = (p2 : Int) := by omega
  have z6 : (p : Int) + 6 = (p6 : Int) := by omega
  have r2 : p2 ≤ 100000 := by omega
  have r6 : p6 ≤ 100000 := by omega
  obtain ⟨SU, hSU⟩ : ∃ SU, SU = (l.drop p2).take (p6 - p2) := ⟨_, rfl⟩
  obtain ⟨yA, cA, hA, sA, _⟩ := sub_some (sl_of hs) hcap p2 p6 (by omega) (by omega) SU hSU
  have z7 : (p6 : Int) + 1 = (p7 : Int) := by omega
  have k3 : decide ((p6 : Int) < (l.length : Int)) = true := decide_eq_true (by omega)
  have k4 : decide (p6 < l.length) = true := decide_eq_true (by omega)
  have y6 : (p6 : Int) < (l.length : Int) := by omega
  have r7 : p7 ≤ 100000 := by omega
  have r8 : KK ≤ 100000 := by have := hl KK (List.mem_of_getElem? g6); omega
  have v7 : p7 ≤ l.length := by omega
  have c0 : w.cell? ⟨b, off + p, none⟩ = some (.int .u8 (167 : Int)) := cell_q hs g0
  have c1 : w.cell? ⟨b, off + (p + 1), none⟩ = some (.int .u8 (92 : Int)) := cell_q hs g1
  have c6 : w.cell? ⟨b, off + p6, none⟩ = some (.int .u8 (KK : Int)) := cell_q hs g6
  have HS := Lib.hid (sl_of hs)
  have HL := Lib.hid hl
  have HN := Lib.hid (show l.length ≤ 9223372036854775000 by omega)
  have HSA := Lib.hid sA
  have V7 := Lib.hid v7
  have X3 := Lib.hid x3
  have D3 := Lib.hid d3
  have J3 := Lib.hid j3
  have S3 := Lib.hid (show s ≤ 18446744073709551615 by have := getF_lt _ 0 0 s n1 (by omega) (by decide) (fun c hc => hl c (List.mem_of_mem_drop hc)) x3; omega)
  have X1 := Lib.hid x1
  have X2 := Lib.hid x2
  clear hs hM h6 g0 g1 e2 e6 hSU sA h7 e7 g6 v7 x3 d3 j3 x1 x2
  as_aux_lemma =>
    go_enter Tryd.func42, Tryd.ntmps42
    go_wp2_with fail
    have Z1 := Lib.hid (heap_alloc_last w (.cells #[.int .i64 0, .int .u64 0, .int .u64 0, .slice none 0 0] 25))
    have HB1 := Lib.hid ((Below.refl w.heap.size w).alloc (Nat.le_refl _) (.cells #[.int .i64 0, .int .u64 0, .int .u64 0, .slice none 0 0] 25))
    generalize w.alloc (.cells #[.int .i64 0, .int .u64 0, .int .u64 0, .slice none 0 0] 25) = w1 at *
    replace c0 := cell_then HB1.out (Nat.le_refl _) c0
    replace c1 := cell_then HB1.out (Nat.le_refl _) c1
    replace c6 := cell_then HB1.out (Nat.le_refl _) c6
    as_aux_lemma =>
      have HS1 := Lib.hid (sl_then HB1.out (Nat.le_refl _) HS.out)
      have HSA1 := Lib.hid (sl_then HB1.out (Nat.le_refl _) HSA.out)
      go_wp2_with (first
        | (go_at_call 54; (with_reducible refine (needT _ _ _ rfl).mono ?_); rintro e w' ⟨rfl, rfl⟩)
        | (go_at_call 54; (with_reducible refine (needF _ _ _ rfl).mono ?_); rintro e w' ⟨rfl, rfl⟩)
        | (go_at_call 55; (with_reducible refine (numOk (some ⟨b, off, none⟩) l.length cap l p7 18446744073709551615 s n1 _ 18446744073709551615 rfl rfl HL.out HN.out (sl_alloc HS1.out _) V7.out X3.out S3.out p8 D3.out).mono ?_); rintro e w' ⟨rfl, rfl⟩)
        | (go_at_call 55; (with_reducible refine (numX (some ⟨b, off, none⟩) l.length cap l p8 18446744073709551615 x _ 18446744073709551615 rfl rfl HL.out HN.out (sl_alloc HS1.out _) J3.out X1.out X2.out).mono ?_); rintro e w' ⟨rfl, rfl⟩))
      exact ⟨rfl, rfl, HB1.out.alloc HB1.out.size _⟩

set_option maxRecDepth 100000 in
set_option maxHeartbeats 2000000 in
theorem dec_n3 (b off cap : Nat) (l : List Nat) (p M : Nat) (w : World) (hs : Cells w b off l) (hcap : l.length ≤ cap) (hl : ∀ c ∈ l, c < 256) (hn : l.length ≤ 90000) (hM : l.length = p + M) (h6 : 6 ≤ M) (g0 : l[p]? = some 167) (g1 : l[p + 1]? = some 92) (p2 p6 : Nat) (e2 : p2 = p + 2) (e6 : p6 = p + 6) (h7 : 7 ≤ M) (p7 : Nat) (e7 : p7 = p + 7) (KK : Nat) (g6 : l[p6]? = some KK) (s n1 p8 : Nat) (x3 : getF (l.drop p7) 0 0 = (s, n1, 0)) (d3 : p8 = p7 + n1) (j3 : p8 ≤ l.length) (t n2 p9 : Nat) (x4 : getF (l.drop p8) 0 0 = (t, n2, 0)) (d4 : p9 = p8 + n2) (j4 : p9 ≤ l.length) (x : Nat) (x1 : (getF (l.drop p9) 0 0).2.2 = x) (x2 : x ≠ 0) :
    Calls Tryd.prog 42 #[.slice (some ⟨b, off, none⟩) l.length cap, .int .i64 (p : Int)] w (BadP x w) := by
  have z1 : (l.length : Int) - (p : Int) = (M : Int) := by omega
  have k1 : decide ((6 : Int) ≤ (M : Int)) = true := decide_eq_true (by omega)
  have k2 : decide (6 ≤ M) = true := decide_eq_true (by omega)
  have y0 : (p : Int) < (l.length : Int) := by omega
  have M5 : M ≤ 100000 := by omega
  have y1 : (p : Int) + 1 < (l.length : Int) := by omega
  have z2 : (p : Int) + 2 = (p2 : Int) := by omega
  have z6 : (p : Int) + 6 = (p6 : Int) := by omega
  have r2 : p2 ≤ 100000 := by omega
  have r6 : p6 ≤ 100000 := by omega
  obtain ⟨SU, hSU⟩ : ∃ SU, SU = (l.drop p2).take (p6 - p2) := ⟨_, rfl⟩
  obtain ⟨yA, cA, hA, sA, _⟩ := sub_some (sl_of hs) hcap p2 p6 (by omega) (by omega) SU hSU
  have z7 : (p6 : Int) + 1 = (p7 : Int) := by omega
  have k3 : decide ((p6 : Int) < (l.length : Int)) = true := decide_eq_true (by omega)
  have k4 : decide (p6 < l.length) = true := decide_eq_true (by omega)
  have y6 : (p6 : Int) < (l.length : Int) := by omega
  have r7 : p7 ≤ 100000 := by omega
  have r8 : KK ≤ 100000 := by have := hl KK (List.mem_of_getElem? g6); omega
  have v7 : p7 ≤ l.length := by omega
  have c0 : w.cell? ⟨b, off + p, none⟩ = some (.int .u8 (167 : Int)) := cell_q hs g0
  have c1 : w.cell? ⟨b, off + (p + 1), none⟩ = some (.int .u8 (92 : Int)) := cell_q hs g1
  have c6 : w.cell? ⟨b, off + p6, none⟩ = some (.int .u8 (KK : Int)) := cell_q hs g6
  have HS := Lib.hid (sl_of hs)
  have HL := Lib.hid hl
  have HN := Lib.hid (show l.length ≤ 9223372036854775000 by omega)
  have HSA := Lib.hid sA
  have V7 := Lib.hid v7
  have X3 := Lib.hid x3
  have D3 := Lib.hid d3
  have J3 := Lib.hid j3
  have S3 := Lib.hid (show s ≤ 18446744073709551615 by have := getF_lt _ 0 0 s n1 (by omega) (by decide) (fun c hc => hl c (List.mem_of_mem_drop hc)) x3; omega)
  have X4 := Lib.hid x4
  have D4 := Lib.hid d4
  have J4 := Lib.hid j4
  have S4 := Lib.hid (show t ≤ 18446744073709551615 by have := getF_lt _ 0 0 t n2 (by omega) (by decide) (fun c hc => hl c (List.mem_of_mem_drop hc)) x4; omega)
  have X1 := Lib.hid x1
  have X2 := Lib.hid x2
  clear hs hM h6 g0 g1 e2 e6 hSU sA h7 e7 g6 v7 x3 d3 j3 x4 d4 j4 x1 x2
  as_aux_lemma =>
    go_enter Tryd.func42, Tryd.ntmps42
    go_wp2_with fail
    have Z1 := Lib.hid (heap_alloc_last w (.cells #[.int .i64 0, .int .u64 0, .int .u64 0, .slice none 0 0] 25))
    have HB1 := Lib.hid ((Below.refl w.heap.size w).alloc (Nat.le_refl _) (.cells #[.int .i64 0, .int .u64 0, .int .u64 0, .slice none 0 0] 25))
    generalize w.alloc (.cells #[.int .i64 0, .int .u64 0, .int .u64 0, .slice none 0 0] 25) = w1 at *
    replace c0 := cell_then HB1.out (Nat.le_refl _) c0
    replace c1 := cell_then HB1.out (Nat.le_refl _) c1
    replace c6 := cell_then HB1.out (Nat.le_refl _) c6
    as_aux_lemma =>
      have HS1 := Lib.hid (sl_then HB1.out (Nat.le_refl _) HS.out)
      have HSA1 := Lib.hid (sl_then HB1.out (Nat.le_refl _) HSA.out)
      go_wp2_with (first
        | (go_at_call 54; (with_reducible refine (needT _ _ _ rfl).mono ?_); rintro e w' ⟨rfl, rfl⟩)
        | (go_at_call 54; (with_reducible refine (needF _ _ _ rfl).mono ?_); rintro e w' ⟨rfl, rfl⟩)
        | (go_at_call 55; (with_reducible refine (numOk (some ⟨b, off, none⟩) l.length cap l p7 18446744073709551615 s n1 _ 18446744073709551615 rfl rfl HL.out HN.out (sl_alloc HS1.out _) V7.out X3.out S3.out p8 D3.out).mono ?_); rintro e w' ⟨rfl, rfl⟩)
        | (go_at_call 55; (with_reducible refine (numOk (some ⟨b, off, none⟩) l.length cap l p8 18446744073709551615 t n2 _ 18446744073709551615 rfl rfl HL.out HN.out (sl_alloc HS1.out _) J3.out X4.out S4.out p9 D4.out).mono ?_); rintro e w' ⟨rfl, rfl⟩)
        | (go_at_call 55; (with_reducible refine (numX (some ⟨b, off, none⟩) l.length cap l p9 1048576 x _ 1048576 rfl rfl HL.out HN.out (sl_alloc HS1.out _) J4.out X1.out X2.out).mono ?_); rintro e w' ⟨rfl, rfl⟩))
      exact ⟨rfl, rfl, HB1.out.alloc HB1.out.size _⟩

set_option maxRecDepth 100000 in
set_option maxHeartbeats 2000000 in
theorem dec_big (b off cap : Nat) (l : List Nat) (p M : Nat) (w : World) (hs : Cells w b off l) (hcap : l.length ≤ cap) (hl : ∀ c ∈ l, c < 256) (hn : l.length ≤ 90000) (hM : l.length = p + M) (h6 : 6 ≤ M) (g0 : l[p]? = some 167) (g1 : l[p + 1]? = some 92) (p2 p6 : Nat) (e2 : p2 = p + 2) (e6 : p6 = p + 6) (h7 : 7 ≤ M) (p7 : Nat) (e7 : p7 = p + 7) (KK : Nat) (g6 : l[p6]? = some KK) (s n1 p8 : Nat) (x3 : getF (l.drop p7) 0 0 = (s, n1, 0)) (d3 : p8 = p7 + n1) (j3 : p8 ≤ l.length) (t n2 p9 : Nat) (x4 : getF (l.drop p8) 0 0 = (t, n2, 0)) (d4 : p9 = p8 + n2) (j4 : p9 ≤ l.length) (n n3 pA : Nat) (x5 : getF (l.drop p9) 0 0 = (n, n3, 0)) (d5 : pA = p9 + n3) (j5 : pA ≤ l.length) (x6 : 1048576 < n) :
    Calls Tryd.prog 42 #[.slice (some ⟨b, off, none⟩) l.length cap, .int .i64 (p : Int)] w (BadP 2 w) := by
  have z1 : (l.length : Int) - (p : Int) = (M : Int) := by omega
  have k1 : decide ((6 : Int) ≤ (M : Int)) = true := decide_eq_true (by omega)
  have k2 : decide (6 ≤ M) = true := decide_eq_true (by omega)
  have y0 : (p : Int) < (l.length : Int) := by omega
  have M5 : M ≤ 100000 := by omega
  have y1 : (p : Int) + 1 < (l.length : Int) := by omega
  have z2 : (p : Int) + 2 = (p2 : Int) := by omega
  have z6 : (p : Int) + 6 = (p6 : Int) := by omega
  have r2 : p2 ≤ 100000 := by omega
  have r6 : p6 ≤ 100000 := by omega
  obtain ⟨SU, hSU⟩ : ∃ SU, SU = (l.drop p2).take (p6 - p2) := ⟨_, rfl⟩
  obtain ⟨yA, cA, hA, sA, _⟩ := sub_some (sl_of hs) hcap p2 p6 (by omega) (by omega) SU hSU
  have z7 : (p6 : Int) + 1 = (p7 : Int) := by omega
  have k3 : decide ((p6 : Int) < (l.length : Int)) = true := decide_eq_true (by omega)
  have k4 : decide (p6 < l.length) = true := decide_eq_true (by omega)
  have y6 : (p6 : Int) < (l.length : Int) := by omega
  have r7 : p7 ≤ 100000 := by omega
  have r8 : KK ≤ 100000 := by have := hl KK (List.mem_of_getElem? g6); omega
  have v7 : p7 ≤ l.length := by omega
  have c0 : w.cell? ⟨b, off + p, none⟩ = some (.int .u8 (167 : Int)) := cell_q hs g0
  have c1 : w.cell? ⟨b, off + (p + 1), none⟩ = some (.int .u8 (92 : Int)) := cell_q hs g1
  have c6 : w.cell? ⟨b, off + p6, none⟩ = some (.int .u8 (KK : Int)) := cell_q hs g6
  have HS := Lib.hid (sl_of hs)
  have HL := Lib.hid hl
  have HN := Lib.hid (show l.length ≤ 9223372036854775000 by omega)
  have HSA := Lib.hid sA
  have V7 := Lib.hid v7
  have X3 := Lib.hid x3
  have D3 := Lib.hid d3
  have J3 := Lib.hid j3
  have S3 := Lib.hid (show s ≤ 18446744073709551615 by have := getF_lt _ 0 0 s n1 (by omega) (by decide) (fun c hc => hl c (List.mem_of_mem_drop hc)) x3; omega)
  have X4 := Lib.hid x4
  have D4 := Lib.hid d4
  have J4 := Lib.hid j4
  have S4 := Lib.hid (show t ≤ 18446744073709551615 by have := getF_lt _ 0 0 t n2 (by omega) (by decide) (fun c hc => hl c (List.mem_of_mem_drop hc)) x4; omega)
  have X5 := Lib.hid x5
  have D5 := Lib.hid d5
  have J5 := Lib.hid j5
  have X6 := Lib.hid x6
  clear hs hM h6 g0 g1 e2 e6 hSU sA h7 e7 g6 v7 x3 d3 j3 x4 d4 j4 x5 d5 j5 x6
  as_aux_lemma =>
    go_enter Tryd.func42, Tryd.ntmps42
    go_wp2_with fail
    have Z1 := Lib.hid (heap_alloc_last w (.cells #[.int .i64 0, .int .u64 0, .int .u64 0, .slice none 0 0] 25))
    have HB1 := Lib.hid ((Below.refl w.heap.size w).alloc (Nat.le_refl _) (.cells #[.int .i64 0, .int .u64 0, .int .u64 0, .slice none 0 0] 25))
    generalize w.alloc (.cells #[.int .i64 0, .int .u64 0, .int .u64 0, .slice none 0 0] 25) = w1 at *
    replace c0 := cell_then HB1.out (Nat.le_refl _) c0
    replace c1 := cell_then HB1.out (Nat.le_refl _) c1
    replace c6 := cell_then HB1.out (Nat.le_refl _) c6
    as_aux_lemma =>
      have HS1 := Lib.hid (sl_then HB1.out (Nat.le_refl _) HS.out)
      have HSA1 := Lib.hid (sl_then HB1.out (Nat.le_refl _) HSA.out)
      go_wp2_with (first
        | (go_at_call 54; (with_reducible refine (needT _ _ _ rfl).mono ?_); rintro e w' ⟨rfl, rfl⟩)
        | (go_at_call 54; (with_reducible refine (needF _ _ _ rfl).mono ?_); rintro e w' ⟨rfl, rfl⟩)
        | (go_at_call 55; (with_reducible refine (numOk (some ⟨b, off, none⟩) l.length cap l p7 18446744073709551615 s n1 _ 18446744073709551615 rfl rfl HL.out HN.out (sl_alloc HS1.out _) V7.out X3.out S3.out p8 D3.out).mono ?_); rintro e w' ⟨rfl, rfl⟩)
        | (go_at_call 55; (with_reducible refine (numOk (some ⟨b, off, none⟩) l.length cap l p8 18446744073709551615 t n2 _ 18446744073709551615 rfl rfl HL.out HN.out (sl_alloc HS1.out _) J3.out X4.out S4.out p9 D4.out).mono ?_); rintro e w' ⟨rfl, rfl⟩)
        | (go_at_call 55; (with_reducible refine (numBig (some ⟨b, off, none⟩) l.length cap l p9 1048576 n n3 _ 1048576 rfl rfl HL.out HN.out (sl_alloc HS1.out _) J4.out X5.out X6.out).mono ?_); rintro e w' ⟨rfl, rfl⟩))
      exact ⟨rfl, rfl, HB1.out.alloc HB1.out.size _⟩

set_option maxRecDepth 100000 in
set_option maxHeartbeats 2000000 in
theorem dec_s3 (b off cap : Nat) (l : List Nat) (p M : Nat) (w : World) (hs : Cells w b off l) (hcap : l.length ≤ cap) (hl : ∀ c ∈ l, c < 256) (hn : l.length ≤ 90000) (hM : l.length = p + M) (h6 : 6 ≤ M) (g0 : l[p]? = some 167) (g1 : l[p + 1]? = some 92) (p2 p6 : Nat) (e2 : p2 = p + 2) (e6 : p6 = p + 6) (h7 : 7 ≤ M) (p7 : Nat) (e7 : p7 = p + 7) (KK : Nat) (g6 : l[p6]? = some KK) (s n1 p8 : Nat) (x3 : getF (l.drop p7) 0 0 = (s, n1, 0)) (d3 : p8 = p7 + n1) (j3 : p8 ≤ l.length) (t n2 p9 : Nat) (x4 : getF (l.drop p8) 0 0 = (t, n2, 0)) (d4 : p9 = p8 + n2) (j4 : p9 ≤ l.length) (n n3 pA : Nat) (x5 : getF (l.drop p9) 0 0 = (n, n3, 0)) (d5 : pA = p9 + n3) (j5 : pA ≤ l.length) (x6 : n ≤ 1048576) (LL : Nat) (eL : l.length = pA + LL) (x7 : LL < n) :
    Calls Tryd.prog 42 #[.slice (some ⟨b, off, none⟩) l.length cap, .int .i64 (p : Int)] w (BadP 3 w) := by
  have z1 : (l.length : Int) - (p : Int) = (M : Int) := by omega
  have k1 : decide ((6 : Int) ≤ (M : Int)) = true := decide_eq_true (by omega)
  have k2 : decide (6 ≤ M) = true := decide_eq_true (by omega)
  have y0 : (p : Int) < (l.length : Int) := by omega
  have M5 : M ≤ 100000 := by omega
  have y1 : (p : Int) + 1 < (l.length : Int) := by omega
  have z2 : (p : Int) + 2 = (p2 : Int) := by omega
  have z6 : (p : Int) + 6 = (p6 : Int) := by omega
  have r2 : p2 ≤ 100000 := by omega
  have r6 : p6 ≤ 100000 := by omega
  obtain ⟨SU, hSU⟩ : ∃ SU, SU = (l.drop p2).take (p6 - p2) := ⟨_, rfl⟩
  obtain ⟨yA, cA, hA, sA, _⟩ := sub_some (sl_of hs) hcap p2 p6 (by omega) (by omega) SU hSU
  have z7 : (p6 : Int) + 1 = (p7 : Int) := by omega
  have k3 : decide ((p6 : Int) < (l.length : Int)) = true := decide_eq_true (by omega)
  have k4 : decide (p6 < l.length) = true := decide_eq_true (by omega)
  have y6 : (p6 : Int) < (l.length : Int) := by omega
  have r7 : p7 ≤ 100000 := by omega
  have r8 : KK ≤ 100000 := by have := hl KK (List.mem_of_getElem? g6); omega
  have v7 : p7 ≤ l.length := by omega
  have zL : (l.length : Int) - (pA : Int) = (LL : Int) := by omega
  have rL : LL ≤ 100000 := by omega
  have uL : (LL : Int) % 18446744073709551616 = (LL : Int) := by omega
  have k5 : decide ((n : Int) ≤ (LL : Int)) = false := decide_eq_false (by omega)
  have k6 : decide (n ≤ LL) = false := decide_eq_false (by omega)
  have c0 : w.cell? ⟨b, off + p, none⟩ = some (.int .u8 (167 : Int)) := cell_q hs g0
  have c1 : w.cell? ⟨b, off + (p + 1), none⟩ = some (.int .u8 (92 : Int)) := cell_q hs g1
  have c6 : w.cell? ⟨b, off + p6, none⟩ = some (.int .u8 (KK : Int)) := cell_q hs g6
  have HS := Lib.hid (sl_of hs)
  have HL := Lib.hid hl
  have HN := Lib.hid (show l.length ≤ 9223372036854775000 by omega)
  have HSA := Lib.hid sA
  have V7 := Lib.hid v7
  have X3 := Lib.hid x3
  have D3 := Lib.hid d3
  have J3 := Lib.hid j3
  have S3 := Lib.hid (show s ≤ 18446744073709551615 by have := getF_lt _ 0 0 s n1 (by omega) (by decide) (fun c hc => hl c (List.mem_of_mem_drop hc)) x3; omega)
  have X4 := Lib.hid x4
  have D4 := Lib.hid d4
  have J4 := Lib.hid j4
  have S4 := Lib.hid (show t ≤ 18446744073709551615 by have := getF_lt _ 0 0 t n2 (by omega) (by decide) (fun c hc => hl c (List.mem_of_mem_drop hc)) x4; omega)
  have X5 := Lib.hid x5
  have D5 := Lib.hid d5
  have J5 := Lib.hid j5
  have X6 := Lib.hid x6
  clear hs hM h6 g0 g1 e2 e6 hSU sA h7 e7 g6 v7 x3 d3 j3 x4 d4 j4 x5 d5 j5 x6 eL x7
  as_aux_lemma =>
    go_enter Tryd.func42, Tryd.ntmps42
    go_wp2_with fail
    have Z1 := Lib.hid (heap_alloc_last w (.cells #[.int .i64 0, .int .u64 0, .int .u64 0, .slice none 0 0] 25))
    have HB1 := Lib.hid ((Below.refl w.heap.size w).alloc (Nat.le_refl _) (.cells #[.int .i64 0, .int .u64 0, .int .u64 0, .slice none 0 0] 25))
    generalize w.alloc (.cells #[.int .i64 0, .int .u64 0, .int .u64 0, .slice none 0 0] 25) = w1 at *
    replace c0 := cell_then HB1.out (Nat.le_refl _) c0
    replace c1 := cell_then HB1.out (Nat.le_refl _) c1
    replace c6 := cell_then HB1.out (Nat.le_refl _) c6
    as_aux_lemma =>
      have HS1 := Lib.hid (sl_then HB1.out (Nat.le_refl _) HS.out)
      have HSA1 := Lib.hid (sl_then HB1.out (Nat.le_refl _) HSA.out)
      go_wp2_with (first
        | (go_at_call 54; (with_reducible refine (needT _ _ _ rfl).mono ?_); rintro e w' ⟨rfl, rfl⟩)
        | (go_at_call 54; (with_reducible refine (needF _ _ _ rfl).mono ?_); rintro e w' ⟨rfl, rfl⟩)
        | (go_at_call 55; (with_reducible refine (numOk (some ⟨b, off, none⟩) l.length cap l p7 18446744073709551615 s n1 _ 18446744073709551615 rfl rfl HL.out HN.out (sl_alloc HS1.out _) V7.out X3.out S3.out p8 D3.out).mono ?_); rintro e w' ⟨rfl, rfl⟩)
        | (go_at_call 55; (with_reducible refine (numOk (some ⟨b, off, none⟩) l.length cap l p8 18446744073709551615 t n2 _ 18446744073709551615 rfl rfl HL.out HN.out (sl_alloc HS1.out _) J3.out X4.out S4.out p9 D4.out).mono ?_); rintro e w' ⟨rfl, rfl⟩)
        | (go_at_call 55; (with_reducible refine (numOk (some ⟨b, off, none⟩) l.length cap l p9 1048576 n n3 _ 1048576 rfl rfl HL.out HN.out (sl_alloc HS1.out _) J4.out X5.out X6.out pA D5.out).mono ?_); rintro e w' ⟨rfl, rfl⟩))
      exact ⟨rfl, rfl, HB1.out.alloc HB1.out.size _⟩

set_option maxRecDepth 100000 in
set_option maxHeartbeats 2000000 in
theorem dec_sum (b off cap : Nat) (l : List Nat) (p M : Nat) (w : World) (hs : Cells w b off l) (hcap : l.length ≤ cap) (hl : ∀ c ∈ l, c < 256) (hn : l.length ≤ 90000) (hM : l.length = p + M) (h6 : 6 ≤ M) (g0 : l[p]? = some 167) (g1 : l[p + 1]? = some 92) (p2 p6 : Nat) (e2 : p2 = p + 2) (e6 : p6 = p + 6) (h7 : 7 ≤ M) (p7 : Nat) (e7 : p7 = p + 7) (KK : Nat) (g6 : l[p6]? = some KK) (s n1 p8 : Nat) (x3 : getF (l.drop p7) 0 0 = (s, n1, 0)) (d3 : p8 = p7 + n1) (j3 : p8 ≤ l.length) (t n2 p9 : Nat) (x4 : getF (l.drop p8) 0 0 = (t, n2, 0)) (d4 : p9 = p8 + n2) (j4 : p9 ≤ l.length) (n n3 pA : Nat) (x5 : getF (l.drop p9) 0 0 = (n, n3, 0)) (d5 : pA = p9 + n3) (j5 : pA ≤ l.length) (x6 : n ≤ 1048576) (LL : Nat) (eL : l.length = pA + LL) (x7 : n ≤ LL) (E : Nat) (eE : E = pA + n) (x8 : ¬ (l.drop p2).take (p6 - p2) = fourL ((crc ((l.drop p6).take (E - p6)) : Nat) : Int)) (hT : TabC w) :
    Calls Tryd.prog 42 #[.slice (some ⟨b, off, none⟩) l.length cap, .int .i64 (p : Int)] w (BadP 9 w) := by
  have z1 : (l.length : Int) - (p : Int) = (M : Int) := by omega
  have k1 : decide ((6 : Int) ≤ (M : Int)) = true := decide_eq_true (by omega)
  have k2 : decide (6 ≤ M) = true := decide_eq_true (by omega)
  have y0 : (p : Int) < (l.length : Int) := by omega
  have M5 : M ≤ 100000 := by omega
  have y1 : (p : Int) + 1 < (l.length : Int) := by omega
  have z2 : (p : Int) + 2 = (p2 : Int) := by omega
  have z6 : (p : Int) + 6 = (p6 : Int) := by omega
  have r2 : p2 ≤ 100000 := by omega
  have r6 : p6 ≤ 100000 := by omega
  obtain ⟨SU, hSU⟩ : ∃ SU, SU = (l.drop p2).take (p6 - p2) := ⟨_, rfl⟩
  obtain ⟨yA, cA, hA, sA, _⟩ := sub_some (sl_of hs) hcap p2 p6 (by omega) (by omega) SU hSU
  have z7 : (p6 : Int) + 1 = (p7 : Int) := by omega
  have k3 : decide ((p6 : Int) < (l.length : Int)) = true := decide_eq_true (by omega)
  have k4 : decide (p6 < l.length) = true := decide_eq_true (by omega)
  have y6 : (p6 : Int) < (l.length : Int) := by omega
  have r7 : p7 ≤ 100000 := by omega
  have r8 : KK ≤ 100000 := by have := hl KK (List.mem_of_getElem? g6); omega
  have v7 : p7 ≤ l.length := by omega
  have zL : (l.length : Int) - (pA : Int) = (LL : Int) := by omega
  have rL : LL ≤ 100000 := by omega
  have uL : (LL : Int) % 18446744073709551616 = (LL : Int) := by omega
  have k5 : decide ((n : Int) ≤ (LL : Int)) = true := decide_eq_true (by omega)
  have k6 : decide (n ≤ LL) = true := decide_eq_true (by omega)
  have zE : (pA : Int) + (n : Int) = (E : Int) := by omega
  have rE : E ≤ 100000 := by omega
  have rn : n ≤ 100000 := by omega
  have rA : pA ≤ 100000 := by omega
  obtain ⟨D6, hD6⟩ : ∃ D, D = (l.drop p6).take (E - p6) := ⟨_, rfl⟩
  obtain ⟨yB, cB, hB, sB, _⟩ := sub_some (sl_of hs) hcap p6 E (by omega) (by omega) D6 hD6
  obtain ⟨BD, hBD⟩ : ∃ D, D = (l.drop pA).take (E - pA) := ⟨_, rfl⟩
  obtain ⟨yC, cC, hC, sC, lC⟩ := sub_some (sl_of hs) hcap pA E (by omega) (by omega) BD hBD
  obtain ⟨CR, hCR⟩ : ∃ C, C = crc D6 := ⟨_, rfl⟩
  obtain ⟨FF, hFF⟩ : ∃ F, F = fourL (CR : Int) := ⟨_, rfl⟩
  have c0 : w.cell? ⟨b, off + p, none⟩ = some (.int .u8 (167 : Int)) := cell_q hs g0
  have c1 : w.cell? ⟨b, off + (p + 1), none⟩ = some (.int .u8 (92 : Int)) := cell_q hs g1
  have c6 : w.cell? ⟨b, off + p6, none⟩ = some (.int .u8 (KK : Int)) := cell_q hs g6
  have HS := Lib.hid (sl_of hs)
  have HL := Lib.hid hl
  have HN := Lib.hid (show l.length ≤ 9223372036854775000 by omega)
  have HSA := Lib.hid sA
  have V7 := Lib.hid v7
  have X3 := Lib.hid x3
  have D3 := Lib.hid d3
  have J3 := Lib.hid j3
  have S3 := Lib.hid (show s ≤ 18446744073709551615 by have := getF_lt _ 0 0 s n1 (by omega) (by decide) (fun c hc => hl c (List.mem_of_mem_drop hc)) x3; omega)
  have X4 := Lib.hid x4
  have D4 := Lib.hid d4
  have J4 := Lib.hid j4
  have S4 := Lib.hid (show t ≤ 18446744073709551615 by have := getF_lt _ 0 0 t n2 (by omega) (by decide) (fun c hc => hl c (List.mem_of_mem_drop hc)) x4; omega)
  have X5 := Lib.hid x5
  have D5 := Lib.hid d5
  have J5 := Lib.hid j5
  have X6 := Lib.hid x6
  have HSB := Lib.hid sB
  have HSC := Lib.hid sC
  have HCR := Lib.hid hCR
  have HFF := Lib.hid hFF
  have HD6X := Lib.hid (show ∀ c ∈ D6, c < 256 by rw [hD6]; exact fun c hc => hl c (List.mem_of_mem_drop (List.mem_of_mem_take hc)))
  have HD6N := Lib.hid (show D6.length ≤ 9223372036854775807 by rw [hD6]; simp; omega)
  have HCL := Lib.hid (show CR < 4294967296 by rw [hCR, hD6]; exact crc_lt _ (fun c hc => hl c (List.mem_of_mem_drop (List.mem_of_mem_take hc))))
  have HSX := Lib.hid (show ∀ c ∈ SU, c < 256 by rw [hSU]; exact fun c hc => hl c (List.mem_of_mem_drop (List.mem_of_mem_take hc)))
  have HFX := Lib.hid (show ∀ c ∈ FF, c < 256 by rw [hFF]; exact four_bytes _)
  have HBN := Lib.hid (show BD.length ≤ 1000000 by rw [hBD]; simp; omega)
  have HBL := Lib.hid lC
  have HEQ := Lib.hid (show false = decide (SU = FF) from (decide_eq_false (by rw [hSU, hFF, hCR, hD6]; exact x8)).symm)
  have HT := Lib.hid hT
  clear hs hM h6 g0 g1 e2 e6 hSU sA h7 e7 g6 v7 x3 d3 j3 x4 d4 j4 x5 d5 j5 x6 eL x7 eE hD6 hBD sB sC lC hCR hFF x8 hT
  as_aux_lemma =>
    go_enter Tryd.func42, Tryd.ntmps42
    go_wp2_with fail
    have Z1 := Lib.hid (heap_alloc_last w (.cells #[.int .i64 0, .int .u64 0, .int .u64 0, .slice none 0 0] 25))
    have HB1 := Lib.hid ((Below.refl w.heap.size w).alloc (Nat.le_refl _) (.cells #[.int .i64 0, .int .u64 0, .int .u64 0, .slice none 0 0] 25))
    generalize w.alloc (.cells #[.int .i64 0, .int .u64 0, .int .u64 0, .slice none 0 0] 25) = w1 at *
    replace c0 := cell_then HB1.out (Nat.le_refl _) c0
    replace c1 := cell_then HB1.out (Nat.le_refl _) c1
    replace c6 := cell_then HB1.out (Nat.le_refl _) c6
    as_aux_lemma =>
      have HS1 := Lib.hid (sl_then HB1.out (Nat.le_refl _) HS.out)
      have HSA1 := Lib.hid (sl_then HB1.out (Nat.le_refl _) HSA.out)
      have HSB1 := Lib.hid (sl_then HB1.out (Nat.le_refl _) HSB.out)
      have HSC1 := Lib.hid (sl_then HB1.out (Nat.le_refl _) HSC.out)
      have HT1 := Lib.hid (tabC_then HB1.out (Nat.le_refl _) HT.out)
      go_wp2_with (first
        | (go_at_call 54; (with_reducible refine (needT _ _ _ rfl).mono ?_); rintro e w' ⟨rfl, rfl⟩)
        | (go_at_call 54; (with_reducible refine (needF _ _ _ rfl).mono ?_); rintro e w' ⟨rfl, rfl⟩)
        | (go_at_call 55; (with_reducible refine (numOk (some ⟨b, off, none⟩) l.length cap l p7 18446744073709551615 s n1 _ 18446744073709551615 rfl rfl HL.out HN.out (sl_alloc HS1.out _) V7.out X3.out S3.out p8 D3.out).mono ?_); rintro e w' ⟨rfl, rfl⟩)
        | (go_at_call 55; (with_reducible refine (numOk (some ⟨b, off, none⟩) l.length cap l p8 18446744073709551615 t n2 _ 18446744073709551615 rfl rfl HL.out HN.out (sl_alloc HS1.out _) J3.out X4.out S4.out p9 D4.out).mono ?_); rintro e w' ⟨rfl, rfl⟩)
        | (go_at_call 55; (with_reducible refine (numOk (some ⟨b, off, none⟩) l.length cap l p9 1048576 n n3 _ 1048576 rfl rfl HL.out HN.out (sl_alloc HS1.out _) J4.out X5.out X6.out pA D5.out).mono ?_); rintro e w' ⟨rfl, rfl⟩)
        | (go_at_call 38; (with_reducible refine (crcK (some yB) D6.length cB D6 CR _ rfl HCR.out HD6X.out HD6N.out (sl_alloc HSB1.out _) (tabC_then ((Below.refl w1.heap.size w1).alloc (Nat.le_refl _) _) (Nat.le_refl _) HT1.out)).mono ?_); rintro e w' ⟨rfl, rfl⟩)
        | (go_at_call 37; (with_reducible refine (fourK CR FF _ HFF.out HCL.out).mono ?_); rintro e w3 ⟨fa, fc, rfl, fs, _, _, _, b3⟩; have HFS := Lib.hid fs; have HB3 := Lib.hid (stepB HB1.out (.cells #[.int .i64 (KK : Int), .int .u64 (s : Int), .int .u64 (t : Int), .slice none 0 0] 25) b3); have HG3 := Lib.hid (show w3.heap[w1.heap.size]? = some (.cells #[.int .i64 (KK : Int), .int .u64 (s : Int), .int .u64 (t : Int), .slice none 0 0] 25 (0, 0)) from (b3.block _ (by simp)).trans (heap_alloc_last w1 _)); have HSA3 := Lib.hid (sl_then b3 (Nat.le_refl _) (sl_alloc HSA1.out _)); have HSC3 := Lib.hid (sl_then b3 (Nat.le_refl _) (sl_alloc HSC1.out _)); have HZ3 := Lib.hid (show w3.heap[w.heap.size]? = _ from (b3.block _ (by have := (Array.getElem?_eq_some_iff.1 Z1.out).1; simp; omega)).trans ((Below.heap_alloc _ _ _ (by have := (Array.getElem?_eq_some_iff.1 Z1.out).1; omega)).trans Z1.out)); clear fs b3)
        | (go_at_call 44; (with_reducible refine (equalK (some yA) fa cA fc SU.length FF.length SU FF _ false rfl rfl HSA3.out HFS.out HSX.out HFX.out HEQ.out).mono ?_); rintro e w' ⟨rfl, rfl⟩))
      exact ⟨rfl, rfl, HB3.out⟩

set_option maxRecDepth 100000 in
set_option maxHeartbeats 2000000 in
theorem dec_may (b off cap : Nat) (l : List Nat) (p M : Nat) (w : World) (hs : Cells w b off l) (hcap : l.length ≤ cap) (hl : ∀ c ∈ l, c < 256) (hn : l.length ≤ 90000) (hM : l.length = p + M) (h6 : 6 ≤ M) (g0 : l[p]? = some 167) (g1 : l[p + 1]? = some 92) (p2 p6 : Nat) (e2 : p2 = p + 2) (e6 : p6 = p + 6) (h7 : 7 ≤ M) (p7 : Nat) (e7 : p7 = p + 7) (KK : Nat) (g6 : l[p6]? = some KK) (s n1 p8 : Nat) (x3 : getF (l.drop p7) 0 0 = (s, n1, 0)) (d3 : p8 = p7 + n1) (j3 : p8 ≤ l.length) (t n2 p9 : Nat) (x4 : getF (l.drop p8) 0 0 = (t, n2, 0)) (d4 : p9 = p8 + n2) (j4 : p9 ≤ l.length) (n n3 pA : Nat) (x5 : getF (l.drop p9) 0 0 = (n, n3, 0)) (d5 : pA = p9 + n3) (j5 : pA ≤ l.length) (x6 : n ≤ 1048576) (LL : Nat) (eL : l.length = pA + LL) (x7 : n ≤ LL) (E : Nat) (eE : E = pA + n) (x8 : (l.drop p2).take (p6 - p2) = fourL ((crc ((l.drop p6).take (E - p6)) : Nat) : Int)) (hT : TabC w) (x9 : mayR (KK : Int) s t n = false) :
    Calls Tryd.prog 42 #[.slice (some ⟨b, off, none⟩) l.length cap, .int .i64 (p : Int)] w (BadP 2 w) := by
  have z1 : (l.length : Int) - (p : Int) = (M : Int) := by omega
  have k1 : decide ((6 : Int) ≤ (M : Int)) = true := decide_eq_true (by omega)
  have k2 : decide (6 ≤ M) = true := decide_eq_true (by omega)
  have y0 : (p : Int) < (l.length : Int) := by omega
  have M5 : M ≤ 100000 := by omega
  have y1 : (p : Int) + 1 < (l.length : Int) := by omega
  have z2 : (p : Int) + 2 = (p2 : Int) := by omega
  have z6 : (p : Int) + 6 = (p6 : Int) := by omega
  have r2 : p2 ≤ 100000 := by omega
  have r6 : p6 ≤ 100000 := by omega
  obtain ⟨SU, hSU⟩ : ∃ SU, SU = (l.drop p2).take (p6 - p2) := ⟨_, rfl⟩
  obtain ⟨yA, cA, hA, sA, _⟩ := sub_some (sl_of hs) hcap p2 p6 (by omega) (by omega) SU hSU
  have z7 : (p6 : Int) + 1 = (p7 : Int) := by omega
  have k3 : decide ((p6 : Int) < (l.length : Int)) = true := decide_eq_true (by omega)
  have k4 : decide (p6 < l.length) = true := decide_eq_true (by omega)
  have y6 : (p6 : Int) < (l.length : Int) := by omega
  have r7 : p7 ≤ 100000 := by omega
  have r8 : KK ≤ 100000 := by have := hl KK (List.mem_of_getElem? g6); omega
  have v7 : p7 ≤ l.length := by omega
  have zL : (l.length : Int) - (pA : Int) = (LL : Int) := by omega
  have rL : LL ≤ 100000 := by omega
  have uL : (LL : Int) % 18446744073709551616 = (LL : Int) := by omega
  have k5 : decide ((n : Int) ≤ (LL : Int)) = true := decide_eq_true (by omega)
  have k6 : decide (n ≤ LL) = true := decide_eq_true (by omega)
  have zE : (pA : Int) + (n : Int) = (E : Int) := by omega
  have rE : E ≤ 100000 := by omega
  have rn : n ≤ 100000 := by omega
  have rA : pA ≤ 100000 := by omega
  obtain ⟨D6, hD6⟩ : ∃ D, D = (l.drop p6).take (E - p6) := ⟨_, rfl⟩
  obtain ⟨yB, cB, hB, sB, _⟩ := sub_some (sl_of hs) hcap p6 E (by omega) (by omega) D6 hD6
  obtain ⟨BD, hBD⟩ : ∃ D, D = (l.drop pA).take (E - pA) := ⟨_, rfl⟩
  obtain ⟨yC, cC, hC, sC, lC⟩ := sub_some (sl_of hs) hcap pA E (by omega) (by omega) BD hBD
  obtain ⟨CR, hCR⟩ : ∃ C, C = crc D6 := ⟨_, rfl⟩
  obtain ⟨FF, hFF⟩ : ∃ F, F = fourL (CR : Int) := ⟨_, rfl⟩
  have c0 : w.cell? ⟨b, off + p, none⟩ = some (.int .u8 (167 : Int)) := cell_q hs g0
  have c1 : w.cell? ⟨b, off + (p + 1), none⟩ = some (.int .u8 (92 : Int)) := cell_q hs g1
  have c6 : w.cell? ⟨b, off + p6, none⟩ = some (.int .u8 (KK : Int)) := cell_q hs g6
  have HS := Lib.hid (sl_of hs)
  have HL := Lib.hid hl
  have HN := Lib.hid (show l.length ≤ 9223372036854775000 by omega)
  have HSA := Lib.hid sA
  have V7 := Lib.hid v7
  have X3 := Lib.hid x3
  have D3 := Lib.hid d3
  have J3 := Lib.hid j3
  have S3 := Lib.hid (show s ≤ 18446744073709551615 by have := getF_lt _ 0 0 s n1 (by omega) (by decide) (fun c hc => hl c (List.mem_of_mem_drop hc)) x3; omega)
  have X4 := Lib.hid x4
  have D4 := Lib.hid d4
  have J4 := Lib.hid j4
  have S4 := Lib.hid (show t ≤ 18446744073709551615 by have := getF_lt _ 0 0 t n2 (by omega) (by decide) (fun c hc => hl c (List.mem_of_mem_drop hc)) x4; omega)
  have X5 := Lib.hid x5
  have D5 := Lib.hid d5
  have J5 := Lib.hid j5
  have X6 := Lib.hid x6
  have HSB := Lib.hid sB
  have HSC := Lib.hid sC
  have HCR := Lib.hid hCR
  have HFF := Lib.hid hFF
  have HD6X := Lib.hid (show ∀ c ∈ D6, c < 256 by rw [hD6]; exact fun c hc => hl c (List.mem_of_mem_drop (List.mem_of_mem_take hc)))
  have HD6N := Lib.hid (show D6.length ≤ 9223372036854775807 by rw [hD6]; simp; omega)
  have HCL := Lib.hid (show CR < 4294967296 by rw [hCR, hD6]; exact crc_lt _ (fun c hc => hl c (List.mem_of_mem_drop (List.mem_of_mem_take hc))))
  have HSX := Lib.hid (show ∀ c ∈ SU, c < 256 by rw [hSU]; exact fun c hc => hl c (List.mem_of_mem_drop (List.mem_of_mem_take hc)))
  have HFX := Lib.hid (show ∀ c ∈ FF, c < 256 by rw [hFF]; exact four_bytes _)
  have HBN := Lib.hid (show BD.length ≤ 1000000 by rw [hBD]; simp; omega)
  have HBL := Lib.hid lC
  have HEQ := Lib.hid (show true = decide (SU = FF) from (decide_eq_true (by rw [hSU, hFF, hCR, hD6]; exact x8)).symm)
  have HT := Lib.hid hT
  have HMY := Lib.hid (show mayR (KK : Int) s t BD.length = false by rw [hBD]; rw [show ((l.drop pA).take (E - pA)).length = n by simp; omega]; exact x9)
  clear hs hM h6 g0 g1 e2 e6 hSU sA h7 e7 g6 v7 x3 d3 j3 x4 d4 j4 x5 d5 j5 x6 eL x7 eE hD6 hBD sB sC lC hCR hFF x8 hT x9
  as_aux_lemma =>
    go_enter Tryd.func42, Tryd.ntmps42
    go_wp2_with fail
    have Z1 := Lib.hid (heap_alloc_last w (.cells #[.int .i64 0, .int .u64 0, .int .u64 0, .slice none 0 0] 25))
    have HB1 := Lib.hid ((Below.refl w.heap.size w).alloc (Nat.le_refl _) (.cells #[.int .i64 0, .int .u64 0, .int .u64 0, .slice none 0 0] 25))
    generalize w.alloc (.cells #[.int .i64 0, .int .u64 0, .int .u64 0, .slice none 0 0] 25) = w1 at *
    replace c0 := cell_then HB1.out (Nat.le_refl _) c0
    replace c1 := cell_then HB1.out (Nat.le_refl _) c1
    replace c6 := cell_then HB1.out (Nat.le_refl _) c6
    as_aux_lemma =>
      have HS1 := Lib.hid (sl_then HB1.out (Nat.le_refl _) HS.out)
      have HSA1 := Lib.hid (sl_then HB1.out (Nat.le_refl _) HSA.out)
      have HSB1 := Lib.hid (sl_then HB1.out (Nat.le_refl _) HSB.out)
      have HSC1 := Lib.hid (sl_then HB1.out (Nat.le_refl _) HSC.out)
      have HT1 := Lib.hid (tabC_then HB1.out (Nat.le_refl _) HT.out)
      go_wp2_with (first
        | (go_at_call 54; (with_reducible refine (needT _ _ _ rfl).mono ?_); rintro e w' ⟨rfl, rfl⟩)
        | (go_at_call 54; (with_reducible refine (needF _ _ _ rfl).mono ?_); rintro e w' ⟨rfl, rfl⟩)
        | (go_at_call 55; (with_reducible refine (numOk (some ⟨b, off, none⟩) l.length cap l p7 18446744073709551615 s n1 _ 18446744073709551615 rfl rfl HL.out HN.out (sl_alloc HS1.out _) V7.out X3.out S3.out p8 D3.out).mono ?_); rintro e w' ⟨rfl, rfl⟩)
        | (go_at_call 55; (with_reducible refine (numOk (some ⟨b, off, none⟩) l.length cap l p8 18446744073709551615 t n2 _ 18446744073709551615 rfl rfl HL.out HN.out (sl_alloc HS1.out _) J3.out X4.out S4.out p9 D4.out).mono ?_); rintro e w' ⟨rfl, rfl⟩)
        | (go_at_call 55; (with_reducible refine (numOk (some ⟨b, off, none⟩) l.length cap l p9 1048576 n n3 _ 1048576 rfl rfl HL.out HN.out (sl_alloc HS1.out _) J4.out X5.out X6.out pA D5.out).mono ?_); rintro e w' ⟨rfl, rfl⟩)
        | (go_at_call 38; (with_reducible refine (crcK (some yB) D6.length cB D6 CR _ rfl HCR.out HD6X.out HD6N.out (sl_alloc HSB1.out _) (tabC_then ((Below.refl w1.heap.size w1).alloc (Nat.le_refl _) _) (Nat.le_refl _) HT1.out)).mono ?_); rintro e w' ⟨rfl, rfl⟩)
        | (go_at_call 37; (with_reducible refine (fourK CR FF _ HFF.out HCL.out).mono ?_); rintro e w3 ⟨fa, fc, rfl, fs, _, _, _, b3⟩; have HFS := Lib.hid fs; have HB3 := Lib.hid (stepB HB1.out (.cells #[.int .i64 (KK : Int), .int .u64 (s : Int), .int .u64 (t : Int), .slice none 0 0] 25) b3); have HG3 := Lib.hid (show w3.heap[w1.heap.size]? = some (.cells #[.int .i64 (KK : Int), .int .u64 (s : Int), .int .u64 (t : Int), .slice none 0 0] 25 (0, 0)) from (b3.block _ (by simp)).trans (heap_alloc_last w1 _)); have HSA3 := Lib.hid (sl_then b3 (Nat.le_refl _) (sl_alloc HSA1.out _)); have HSC3 := Lib.hid (sl_then b3 (Nat.le_refl _) (sl_alloc HSC1.out _)); have HZ3 := Lib.hid (show w3.heap[w.heap.size]? = _ from (b3.block _ (by have := (Array.getElem?_eq_some_iff.1 Z1.out).1; simp; omega)).trans ((Below.heap_alloc _ _ _ (by have := (Array.getElem?_eq_some_iff.1 Z1.out).1; omega)).trans Z1.out)); clear fs b3)
        | (go_at_call 44; (with_reducible refine (equalK (some yA) fa cA fc SU.length FF.length SU FF _ true rfl rfl HSA3.out HFS.out HSX.out HFX.out HEQ.out).mono ?_); rintro e w' ⟨rfl, rfl⟩)
        | (go_at_call 56; (with_reducible refine (cloneC yC BD.length cC BD w3 rfl HBN.out HSC3.out).mono ?_); rintro e w4 ⟨v4, rfl, o4, b4⟩; obtain ⟨ya, yc, rfl, _, _, _, _⟩ := rb_sl o4; have HO4 := Lib.hid o4; have g4 : w4.heap[w1.heap.size]? = some (.cells #[.int .i64 (KK : Int), .int .u64 (s : Int), .int .u64 (t : Int), .slice none 0 0] 25 (0, 0)) := (b4.block _ (Array.getElem?_eq_some_iff.1 HG3.out).1).trans HG3.out; have r4 : w4.heap[w.heap.size]? = some (.cells #[.int .i64 0, .int .u64 0, .int .u64 0, .slice none 0 0] 25 (0, 0)) := (b4.block _ (Array.getElem?_eq_some_iff.1 HZ3.out).1).trans HZ3.out; have g0 : w4.cell? ⟨w1.heap.size, 0, none⟩ = some (.int .i64 (KK : Int)) := (by rw [cell_of_row w4 w1.heap.size 0 _ 25 _ g4]; rfl); have g1 : w4.cell? ⟨w1.heap.size, 1, none⟩ = some (.int .u64 (s : Int)) := (by rw [cell_of_row w4 w1.heap.size 1 _ 25 _ g4]; rfl); have g2 : w4.cell? ⟨w1.heap.size, 2, none⟩ = some (.int .u64 (t : Int)) := (by rw [cell_of_row w4 w1.heap.size 2 _ 25 _ g4]; rfl); have g3 : w4.cell? ⟨w1.heap.size, 3, none⟩ = some (.slice none 0 0) := (by rw [cell_of_row w4 w1.heap.size 3 _ 25 _ g4]; rfl); have gf := frozen_of_row w4 w1.heap.size 3 _ 25 g4; have HG5 := Lib.hid (show (w4.setCell ⟨w1.heap.size, 3, none⟩ (.slice ya BD.length yc)).heap[w1.heap.size]? = some (.cells #[.int .i64 (KK : Int), .int .u64 (s : Int), .int .u64 (t : Int), .slice ya BD.length yc] 25 (0, 0)) from (heap_setCell_same w4 w1.heap.size 3 _ 25 (.slice ya BD.length yc) g4).trans rfl); have HZ5 := Lib.hid (show (w4.setCell ⟨w1.heap.size, 3, none⟩ (.slice ya BD.length yc)).heap[w.heap.size]? = _ from (heap_setCell_other w4 _ _ _ (by have := (Array.getElem?_eq_some_iff.1 Z1.out).1; simp; omega)).trans r4); have HB4 := Lib.hid (below_then HB3.out b4 HB3.out.size); have HS4 := Lib.hid b4.size; clear g4 r4 b4 o4)
        | (go_at_call 18; (with_reducible refine (mayE (KK : Int) s t ya BD.length yc BD _ false rfl HMY.out).mono ?_); rintro e w6 ⟨rfl, b6⟩; have z6 : w6.heap[w1.heap.size]? = some (.cells #[.int .i64 (KK : Int), .int .u64 (s : Int), .int .u64 (t : Int), .slice ya BD.length yc] 25 (0, 0)) := (b6.block _ (Array.getElem?_eq_some_iff.1 HG5.out).1).trans HG5.out; have r6 : w6.heap[w.heap.size]? = some (.cells #[.int .i64 0, .int .u64 0, .int .u64 0, .slice none 0 0] 25 (0, 0)) := (b6.block _ (Array.getElem?_eq_some_iff.1 HZ5.out).1).trans HZ5.out; have HB6 := Lib.hid (below_then (HB4.out.setCell (p := ⟨w1.heap.size, 3, none⟩) HB1.out.size (.slice ya BD.length yc)) b6 (by have := HB4.out.size; simp [World.setCell]; omega)); clear b6 z6 r6))
      exact ⟨rfl, rfl, HB6.out⟩

set_option maxRecDepth 100000 in
set_option maxHeartbeats 2000000 in
theorem dec_ok (b off cap : Nat) (l : List Nat) (p M : Nat) (w : World) (hs : Cells w b off l) (hcap : l.length ≤ cap) (hl : ∀ c ∈ l, c < 256) (hn : l.length ≤ 90000) (hM : l.length = p + M) (h6 : 6 ≤ M) (g0 : l[p]? = some 167) (g1 : l[p + 1]? = some 92) (p2 p6 : Nat) (e2 : p2 = p + 2) (e6 : p6 = p + 6) (h7 : 7 ≤ M) (p7 : Nat) (e7 : p7 = p + 7) (KK : Nat) (g6 : l[p6]? = some KK) (s n1 p8 : Nat) (x3 : getF (l.drop p7) 0 0 = (s, n1, 0)) (d3 : p8 = p7 + n1) (j3 : p8 ≤ l.length) (t n2 p9 : Nat) (x4 : getF (l.drop p8) 0 0 = (t, n2, 0)) (d4 : p9 = p8 + n2) (j4 : p9 ≤ l.length) (n n3 pA : Nat) (x5 : getF (l.drop p9) 0 0 = (n, n3, 0)) (d5 : pA = p9 + n3) (j5 : pA ≤ l.length) (x6 : n ≤ 1048576) (LL : Nat) (eL : l.length = pA + LL) (x7 : n ≤ LL) (E : Nat) (eE : E = pA + n) (x8 : (l.drop p2).take (p6 - p2) = fourL ((crc ((l.drop p6).take (E - p6)) : Nat) : Int)) (hT : TabC w) (x9 : mayR (KK : Int) s t n = true) :
    Calls Tryd.prog 42 #[.slice (some ⟨b, off, none⟩) l.length cap, .int .i64 (p : Int)] w (OkP KK s t ((l.drop pA).take (E - pA)) E w) := by
  have z1 : (l.length : Int) - (p : Int) = (M : Int) := by omega
  have k1 : decide ((6 : Int) ≤ (M : Int)) = true := decide_eq_true (by omega)
  have k2 : decide (6 ≤ M) = true := decide_eq_true (by omega)
  have y0 : (p : Int) < (l.length : Int) := by omega
  have M5 : M ≤ 100000 := by omega
  have y1 : (p : Int) + 1 < (l.length : Int) := by omega
  have z2 : (p : Int) + 2 = (p2 : Int) := by omega
  have z6 : (p : Int) + 6 = (p6 : Int) := by omega
  have r2 : p2 ≤ 100000 := by omega
  have r6 : p6 ≤ 100000 := by omega
  obtain ⟨SU, hSU⟩ : ∃ SU, SU = (l.drop p2).take (p6 - p2) := ⟨_, rfl⟩
  obtain ⟨yA, cA, hA, sA, _⟩ := sub_some (sl_of hs) hcap p2 p6 (by omega) (by omega) SU hSU
  have z7 : (p6 : Int) + 1 = (p7 : Int) := by omega
  have k3 : decide ((p6 : Int) < (l.length : Int)) = true := decide_eq_true (by omega)
  have k4 : decide (p6 < l.length) = true := decide_eq_true (by omega)
  have y6 : (p6 : Int) < (l.length : Int) := by omega
  have r7 : p7 ≤ 100000 := by omega
  have r8 : KK ≤ 100000 := by have := hl KK (List.mem_of_getElem? g6); omega
  have v7 : p7 ≤ l.length := by omega
  have zL : (l.length : Int) - (pA : Int) = (LL : Int) := by omega
  have rL : LL ≤ 100000 := by omega
  have uL : (LL : Int) % 18446744073709551616 = (LL : Int) := by omega
  have k5 : decide ((n : Int) ≤ (LL : Int)) = true := decide_eq_true (by omega)
  have k6 : decide (n ≤ LL) = true := decide_eq_true (by omega)
  have zE : (pA : Int) + (n : Int) = (E : Int) := by omega
  have rE : E ≤ 100000 := by omega
  have rn : n ≤ 100000 := by omega
  have rA : pA ≤ 100000 := by omega
  obtain ⟨D6, hD6⟩ : ∃ D, D = (l.drop p6).take (E - p6) := ⟨_, rfl⟩
  obtain ⟨yB, cB, hB, sB, _⟩ := sub_some (sl_of hs) hcap p6 E (by omega) (by omega) D6 hD6
  obtain ⟨BD, hBD⟩ : ∃ D, D = (l.drop pA).take (E - pA) := ⟨_, rfl⟩
  obtain ⟨yC, cC, hC, sC, lC⟩ := sub_some (sl_of hs) hcap pA E (by omega) (by omega) BD hBD
  obtain ⟨CR, hCR⟩ : ∃ C, C = crc D6 := ⟨_, rfl⟩
  obtain ⟨FF, hFF⟩ : ∃ F, F = fourL (CR : Int) := ⟨_, rfl⟩
  have c0 : w.cell? ⟨b, off + p, none⟩ = some (.int .u8 (167 : Int)) := cell_q hs g0
  have c1 : w.cell? ⟨b, off + (p + 1), none⟩ = some (.int .u8 (92 : Int)) := cell_q hs g1
  have c6 : w.cell? ⟨b, off + p6, none⟩ = some (.int .u8 (KK : Int)) := cell_q hs g6
  have HS := Lib.hid (sl_of hs)
  have HL := Lib.hid hl
  have HN := Lib.hid (show l.length ≤ 9223372036854775000 by omega)
  have HSA := Lib.hid sA
  have V7 := Lib.hid v7
  have X3 := Lib.hid x3
  have D3 := Lib.hid d3
  have J3 := Lib.hid j3
  have S3 := Lib.hid (show s ≤ 18446744073709551615 by have := getF_lt _ 0 0 s n1 (by omega) (by decide) (fun c hc => hl c (List.mem_of_mem_drop hc)) x3; omega)
  have X4 := Lib.hid x4
  have D4 := Lib.hid d4
  have J4 := Lib.hid j4
  have S4 := Lib.hid (show t ≤ 18446744073709551615 by have := getF_lt _ 0 0 t n2 (by omega) (by decide) (fun c hc => hl c (List.mem_of_mem_drop hc)) x4; omega)
  have X5 := Lib.hid x5
  have D5 := Lib.hid d5
  have J5 := Lib.hid j5
  have X6 := Lib.hid x6
  have HSB := Lib.hid sB
  have HSC := Lib.hid sC
  have HCR := Lib.hid hCR
  have HFF := Lib.hid hFF
  have HD6X := Lib.hid (show ∀ c ∈ D6, c < 256 by rw [hD6]; exact fun c hc => hl c (List.mem_of_mem_drop (List.mem_of_mem_take hc)))
  have HD6N := Lib.hid (show D6.length ≤ 9223372036854775807 by rw [hD6]; simp; omega)
  have HCL := Lib.hid (show CR < 4294967296 by rw [hCR, hD6]; exact crc_lt _ (fun c hc => hl c (List.mem_of_mem_drop (List.mem_of_mem_take hc))))
  have HSX := Lib.hid (show ∀ c ∈ SU, c < 256 by rw [hSU]; exact fun c hc => hl c (List.mem_of_mem_drop (List.mem_of_mem_take hc)))
  have HFX := Lib.hid (show ∀ c ∈ FF, c < 256 by rw [hFF]; exact four_bytes _)
  have HBN := Lib.hid (show BD.length ≤ 1000000 by rw [hBD]; simp; omega)
  have HBL := Lib.hid lC
  have HEQ := Lib.hid (show true = decide (SU = FF) from (decide_eq_true (by rw [hSU, hFF, hCR, hD6]; exact x8)).symm)
  have HT := Lib.hid hT
  have HMY := Lib.hid (show mayR (KK : Int) s t BD.length = true by rw [hBD]; rw [show ((l.drop pA).take (E - pA)).length = n by simp; omega]; exact x9)
  rw [← hBD]
  clear hs hM h6 g0 g1 e2 e6 hSU sA h7 e7 g6 v7 x3 d3 j3 x4 d4 j4 x5 d5 j5 x6 eL x7 eE hD6 hBD sB sC lC hCR hFF x8 hT x9
  as_aux_lemma =>
    go_enter Tryd.func42, Tryd.ntmps42
    go_wp2_with fail
    have Z1 := Lib.hid (heap_alloc_last w (.cells #[.int .i64 0, .int .u64 0, .int .u64 0, .slice none 0 0] 25))
    have HB1 := Lib.hid ((Below.refl w.heap.size w).alloc (Nat.le_refl _) (.cells #[.int .i64 0, .int .u64 0, .int .u64 0, .slice none 0 0] 25))
    generalize w.alloc (.cells #[.int .i64 0, .int .u64 0, .int .u64 0, .slice none 0 0] 25) = w1 at *
    replace c0 := cell_then HB1.out (Nat.le_refl _) c0
    replace c1 := cell_then HB1.out (Nat.le_refl _) c1
    replace c6 := cell_then HB1.out (Nat.le_refl _) c6
    as_aux_lemma =>
      have HS1 := Lib.hid (sl_then HB1.out (Nat.le_refl _) HS.out)
      have HSA1 := Lib.hid (sl_then HB1.out (Nat.le_refl _) HSA.out)
      have HSB1 := Lib.hid (sl_then HB1.out (Nat.le_refl _) HSB.out)
      have HSC1 := Lib.hid (sl_then HB1.out (Nat.le_refl _) HSC.out)
      have HT1 := Lib.hid (tabC_then HB1.out (Nat.le_refl _) HT.out)
      go_wp2_with (first
        | (go_at_call 54; (with_reducible refine (needT _ _ _ rfl).mono ?_); rintro e w' ⟨rfl, rfl⟩)
        | (go_at_call 54; (with_reducible refine (needF _ _ _ rfl).mono ?_); rintro e w' ⟨rfl, rfl⟩)
        | (go_at_call 55; (with_reducible refine (numOk (some ⟨b, off, none⟩) l.length cap l p7 18446744073709551615 s n1 _ 18446744073709551615 rfl rfl HL.out HN.out (sl_alloc HS1.out _) V7.out X3.out S3.out p8 D3.out).mono ?_); rintro e w' ⟨rfl, rfl⟩)
        | (go_at_call 55; (with_reducible refine (numOk (some ⟨b, off, none⟩) l.length cap l p8 18446744073709551615 t n2 _ 18446744073709551615 rfl rfl HL.out HN.out (sl_alloc HS1.out _) J3.out X4.out S4.out p9 D4.out).mono ?_); rintro e w' ⟨rfl, rfl⟩)
        | (go_at_call 55; (with_reducible refine (numOk (some ⟨b, off, none⟩) l.length cap l p9 1048576 n n3 _ 1048576 rfl rfl HL.out HN.out (sl_alloc HS1.out _) J4.out X5.out X6.out pA D5.out).mono ?_); rintro e w' ⟨rfl, rfl⟩)
        | (go_at_call 38; (with_reducible refine (crcK (some yB) D6.length cB D6 CR _ rfl HCR.out HD6X.out HD6N.out (sl_alloc HSB1.out _) (tabC_then ((Below.refl w1.heap.size w1).alloc (Nat.le_refl _) _) (Nat.le_refl _) HT1.out)).mono ?_); rintro e w' ⟨rfl, rfl⟩)
        | (go_at_call 37; (with_reducible refine (fourK CR FF _ HFF.out HCL.out).mono ?_); rintro e w3 ⟨fa, fc, rfl, fs, _, _, _, b3⟩; have HFS := Lib.hid fs; have HB3 := Lib.hid (stepB HB1.out (.cells #[.int .i64 (KK : Int), .int .u64 (s : Int), .int .u64 (t : Int), .slice none 0 0] 25) b3); have HG3 := Lib.hid (show w3.heap[w1.heap.size]? = some (.cells #[.int .i64 (KK : Int), .int .u64 (s : Int), .int .u64 (t : Int), .slice none 0 0] 25 (0, 0)) from (b3.block _ (by simp)).trans (heap_alloc_last w1 _)); have HSA3 := Lib.hid (sl_then b3 (Nat.le_refl _) (sl_alloc HSA1.out _)); have HSC3 := Lib.hid (sl_then b3 (Nat.le_refl _) (sl_alloc HSC1.out _)); have HZ3 := Lib.hid (show w3.heap[w.heap.size]? = _ from (b3.block _ (by have := (Array.getElem?_eq_some_iff.1 Z1.out).1; simp; omega)).trans ((Below.heap_alloc _ _ _ (by have := (Array.getElem?_eq_some_iff.1 Z1.out).1; omega)).trans Z1.out)); clear fs b3)
        | (go_at_call 44; (with_reducible refine (equalK (some yA) fa cA fc SU.length FF.length SU FF _ true rfl rfl HSA3.out HFS.out HSX.out HFX.out HEQ.out).mono ?_); rintro e w' ⟨rfl, rfl⟩)
        | (go_at_call 56; (with_reducible refine (cloneC yC BD.length cC BD w3 rfl HBN.out HSC3.out).mono ?_); rintro e w4 ⟨v4, rfl, o4, b4⟩; obtain ⟨ya, yc, rfl, _, _, _, _⟩ := rb_sl o4; have HO4 := Lib.hid o4; have g4 : w4.heap[w1.heap.size]? = some (.cells #[.int .i64 (KK : Int), .int .u64 (s : Int), .int .u64 (t : Int), .slice none 0 0] 25 (0, 0)) := (b4.block _ (Array.getElem?_eq_some_iff.1 HG3.out).1).trans HG3.out; have r4 : w4.heap[w.heap.size]? = some (.cells #[.int .i64 0, .int .u64 0, .int .u64 0, .slice none 0 0] 25 (0, 0)) := (b4.block _ (Array.getElem?_eq_some_iff.1 HZ3.out).1).trans HZ3.out; have g0 : w4.cell? ⟨w1.heap.size, 0, none⟩ = some (.int .i64 (KK : Int)) := (by rw [cell_of_row w4 w1.heap.size 0 _ 25 _ g4]; rfl); have g1 : w4.cell? ⟨w1.heap.size, 1, none⟩ = some (.int .u64 (s : Int)) := (by rw [cell_of_row w4 w1.heap.size 1 _ 25 _ g4]; rfl); have g2 : w4.cell? ⟨w1.heap.size, 2, none⟩ = some (.int .u64 (t : Int)) := (by rw [cell_of_row w4 w1.heap.size 2 _ 25 _ g4]; rfl); have g3 : w4.cell? ⟨w1.heap.size, 3, none⟩ = some (.slice none 0 0) := (by rw [cell_of_row w4 w1.heap.size 3 _ 25 _ g4]; rfl); have gf := frozen_of_row w4 w1.heap.size 3 _ 25 g4; have HG5 := Lib.hid (show (w4.setCell ⟨w1.heap.size, 3, none⟩ (.slice ya BD.length yc)).heap[w1.heap.size]? = some (.cells #[.int .i64 (KK : Int), .int .u64 (s : Int), .int .u64 (t : Int), .slice ya BD.length yc] 25 (0, 0)) from (heap_setCell_same w4 w1.heap.size 3 _ 25 (.slice ya BD.length yc) g4).trans rfl); have HZ5 := Lib.hid (show (w4.setCell ⟨w1.heap.size, 3, none⟩ (.slice ya BD.length yc)).heap[w.heap.size]? = _ from (heap_setCell_other w4 _ _ _ (by have := (Array.getElem?_eq_some_iff.1 Z1.out).1; simp; omega)).trans r4); have HB4 := Lib.hid (below_then HB3.out b4 HB3.out.size); have HS4 := Lib.hid b4.size; clear g4 r4 b4 o4)
        | (go_at_call 18; (with_reducible refine (mayE (KK : Int) s t ya BD.length yc BD _ true rfl HMY.out).mono ?_); rintro e w6 ⟨rfl, b6⟩; have z6 : w6.heap[w1.heap.size]? = some (.cells #[.int .i64 (KK : Int), .int .u64 (s : Int), .int .u64 (t : Int), .slice ya BD.length yc] 25 (0, 0)) := (b6.block _ (Array.getElem?_eq_some_iff.1 HG5.out).1).trans HG5.out; have r6 : w6.heap[w.heap.size]? = some (.cells #[.int .i64 0, .int .u64 0, .int .u64 0, .slice none 0 0] 25 (0, 0)) := (b6.block _ (Array.getElem?_eq_some_iff.1 HZ5.out).1).trans HZ5.out; have u0 : w6.cell? ⟨w1.heap.size, 0, none⟩ = some (.int .i64 (KK : Int)) := (by rw [cell_of_row w6 w1.heap.size 0 _ 25 _ z6]; rfl); have u1 : w6.cell? ⟨w1.heap.size, 1, none⟩ = some (.int .u64 (s : Int)) := (by rw [cell_of_row w6 w1.heap.size 1 _ 25 _ z6]; rfl); have u2 : w6.cell? ⟨w1.heap.size, 2, none⟩ = some (.int .u64 (t : Int)) := (by rw [cell_of_row w6 w1.heap.size 2 _ 25 _ z6]; rfl); have u3 : w6.cell? ⟨w1.heap.size, 3, none⟩ = some (.slice ya BD.length yc) := (by rw [cell_of_row w6 w1.heap.size 3 _ 25 _ z6]; rfl); have d0 : w6.cell? ⟨w.heap.size, 0, none⟩ = some (.int .i64 0) := (by rw [cell_of_row w6 w.heap.size 0 _ 25 _ r6]; rfl); have df0 := frozen_of_row w6 w.heap.size 0 _ 25 r6; have d1 : w6.cell? ⟨w.heap.size, 1, none⟩ = some (.int .u64 0) := (by rw [cell_of_row w6 w.heap.size 1 _ 25 _ r6]; rfl); have df1 := frozen_of_row w6 w.heap.size 1 _ 25 r6; have d2 : w6.cell? ⟨w.heap.size, 2, none⟩ = some (.int .u64 0) := (by rw [cell_of_row w6 w.heap.size 2 _ 25 _ r6]; rfl); have df2 := frozen_of_row w6 w.heap.size 2 _ 25 r6; have d3 : w6.cell? ⟨w.heap.size, 3, none⟩ = some (.slice none 0 0) := (by rw [cell_of_row w6 w.heap.size 3 _ 25 _ r6]; rfl); have df3 := frozen_of_row w6 w.heap.size 3 _ 25 r6; have HR6 := Lib.hid r6; have HO6 := Lib.hid (rb_then (rb_setCell HO4.out (p := ⟨w1.heap.size, 3, none⟩) (Array.getElem?_eq_some_iff.1 HG3.out).1 (.slice ya BD.length yc)) b6 (Nat.le_refl _)); have HB6 := Lib.hid (below_then (HB4.out.setCell (p := ⟨w1.heap.size, 3, none⟩) HB1.out.size (.slice ya BD.length yc)) b6 (by have := HB4.out.size; simp [World.setCell]; omega)); clear b6 z6 r6))
      have Zf := pk_store HR6.out (.int .i64 (KK : Int)) (.int .u64 (s : Int)) (.int .u64 (t : Int)) (.slice ya BD.length yc)
      have BF := Lib.hid (show Below w.heap.size w ((((w6.setCell ⟨w.heap.size, 0, none⟩ (.int .i64 (KK : Int))).setCell ⟨w.heap.size, 1, none⟩ (.int .u64 (s : Int))).setCell ⟨w.heap.size, 2, none⟩ (.int .u64 (t : Int))).setCell ⟨w.heap.size, 3, none⟩ (.slice ya BD.length yc)) from (((HB6.out.setCell (Nat.le_refl _) _).setCell (Nat.le_refl _) _).setCell (Nat.le_refl _) _).setCell (Nat.le_refl _) _)
      have hlr := (Array.getElem?_eq_some_iff.1 HZ3.out).1
      have RF := Lib.hid (show Rb ((((w6.setCell ⟨w.heap.size, 0, none⟩ (.int .i64 (KK : Int))).setCell ⟨w.heap.size, 1, none⟩ (.int .u64 (s : Int))).setCell ⟨w.heap.size, 2, none⟩ (.int .u64 (t : Int))).setCell ⟨w.heap.size, 3, none⟩ (.slice ya BD.length yc)) w3.heap.size (.slice ya BD.length yc) BD from rb_setCell (rb_setCell (rb_setCell (rb_setCell HO6.out hlr _) hlr _) hlr _) hlr _)
      generalize ((((w6.setCell ⟨w.heap.size, 0, none⟩ (.int .i64 (KK : Int))).setCell ⟨w.heap.size, 1, none⟩ (.int .u64 (s : Int))).setCell ⟨w.heap.size, 2, none⟩ (.int .u64 (t : Int))).setCell ⟨w.heap.size, 3, none⟩ (.slice ya BD.length yc)) = WF at *
      have q0 : WF.cell? ⟨w.heap.size, 0, none⟩ = some (.int .i64 (KK : Int)) := by rw [cell_of_row WF w.heap.size 0 _ 25 _ Zf]; rfl
      have q1 : WF.cell? ⟨w.heap.size, 1, none⟩ = some (.int .u64 (s : Int)) := by rw [cell_of_row WF w.heap.size 1 _ 25 _ Zf]; rfl
      have q2 : WF.cell? ⟨w.heap.size, 2, none⟩ = some (.int .u64 (t : Int)) := by rw [cell_of_row WF w.heap.size 2 _ 25 _ Zf]; rfl
      have q3 : WF.cell? ⟨w.heap.size, 3, none⟩ = some (.slice ya BD.length yc) := by rw [cell_of_row WF w.heap.size 3 _ 25 _ Zf]; rfl
      obtain ⟨a2, c2', e2', x1', x2', x3', x4'⟩ := rb_sl RF.out
      injection e2' with e3 e4 e5
      subst e3 e5
      exact bodyPost_ret (v := .tuple #[.agg #[.int .i64 (KK : Int), .int .u64 (s : Int), .int .u64 (t : Int), .slice ya BD.length yc], .int .i64 (E : Int)]) (by simp [results, Tryd.results42, go_sem, q0, q1, q2, q3]) rfl ⟨ya, yc, rfl, x2', x3', x1', fun x hx => Nat.le_trans HB3.out.size (x4' x hx).1, BF.out⟩

end Go.Proofs.YtabgelmmjpjejaaDoor.Df
