/- The document's reading of a record: m1, m2, s2, n1, n2, n3, big, s3, sum. -/
import Derived.Test.YtabgelmmjpjejaaDoorRw
import Derived.BigQuiet
import Derived.Deep.RegionHeld
set_option linter.unusedVariables false
namespace Go.Proofs.YtabgelmmjpjejaaDoor.Rd1
open Go Go.RowKit Kit Crc Var Get Ref3 Copy Bytes Bx Py Py2 Ry Dn Df Dd Da Dc Rs Rf Rg Bg Rt Rw


set_option maxRecDepth 100000 in
set_option maxHeartbeats 4000000 in
theorem ddec_m1 (b off cap : Nat) (l : List Nat) (p M : Nat) (w : World) (hs : Cells w b off l) (hcap : l.length ≤ cap) (hl : ∀ c ∈ l, c < 256) (hn : l.length ≤ 90000) (hM : l.length = p + M) (h6 : 6 ≤ M) (B0 : Nat) (g0 : l[p]? = some B0) (b0 : ¬ B0 = 167) :
    Calls Tryd.prog 15 #[.slice (some ⟨b, off, none⟩) l.length cap, .int .i64 (p : Int)] w (DeP (bad 2) 0 w) := by
  have z1 : (l.length : Int) - (p : Int) = (M : Int) := by omega
  have k1 : decide ((6 : Int) ≤ (M : Int)) = true := decide_eq_true (by omega)
  have k2 : decide (6 ≤ M) = true := decide_eq_true (by omega)
  have y0 : (p : Int) < (l.length : Int) := by omega
  have M5 : M ≤ 100000 := by omega
  have f0 : ((B0 : Int) == 167) = false := by rw [beq_eq_false_iff_ne]; omega
  have f1 : decide ((B0 : Int) = 167) = false := decide_eq_false (by omega)
  have f2 : decide (B0 = 167) = false := decide_eq_false b0
  have gd1 : ¬ (p : Int) < 0 := by omega
  have gd2 : ¬ (l.length : Int) < (p : Int) := by omega
  have gd3 : decide ((M : Int) < 6) = false := decide_eq_false (by omega)
  have gd4 : decide (M < 6) = false := decide_eq_false (by omega)
  have f3 : ((B0 : Int) != 167) = true := by rw [bne_iff_ne]; omega
  have c0 : w.cell? ⟨b, off + p, none⟩ = some (.int .u8 (B0 : Int)) := cell_q hs g0
  have HS := Lib.hid (sl_of hs)
  have HL := Lib.hid hl
  have HN := Lib.hid (show l.length ≤ 9223372036854775000 by omega)
  replace c0 := past_alloc (o := .cells #[.int .i64 0, .int .u64 0, .int .u64 0, .slice none 0 0] 31) c0
  clear hs hM h6 g0 b0
  as_aux_lemma =>
    go_enter Tryd.func15, Tryd.ntmps15
    go_wp2_with fail
    exact bodyPost_ret (v := .tuple #[.agg #[.int .i64 0, .int .u64 0, .int .u64 0, .slice none 0 0], .int .i64 0, .int .i64 2]) (by simp [results, Tryd.results15, go_sem]) rfl ⟨none, 0, rfl, .inl rfl, fun _ => rfl, Nat.le_refl _, (fun x hx => by cases hx), (Below.refl _ w).alloc (Nat.le_refl _) _⟩

set_option maxRecDepth 100000 in
set_option maxHeartbeats 4000000 in
theorem ddec_m2 (b off cap : Nat) (l : List Nat) (p M : Nat) (w : World) (hs : Cells w b off l) (hcap : l.length ≤ cap) (hl : ∀ c ∈ l, c < 256) (hn : l.length ≤ 90000) (hM : l.length = p + M) (h6 : 6 ≤ M) (g0 : l[p]? = some 167) (B1 : Nat) (g1 : l[p + 1]? = some B1) (b1 : ¬ B1 = 92) :
    Calls Tryd.prog 15 #[.slice (some ⟨b, off, none⟩) l.length cap, .int .i64 (p : Int)] w (DeP (bad 2) 0 w) := by
  have z1 : (l.length : Int) - (p : Int) = (M : Int) := by omega
  have k1 : decide ((6 : Int) ≤ (M : Int)) = true := decide_eq_true (by omega)
  have k2 : decide (6 ≤ M) = true := decide_eq_true (by omega)
  have y0 : (p : Int) < (l.length : Int) := by omega
  have M5 : M ≤ 100000 := by omega
  have y1 : (p : Int) + 1 < (l.length : Int) := by omega
  have f0 : ((B1 : Int) == 92) = false := by rw [beq_eq_false_iff_ne]; omega
  have f1 : decide ((B1 : Int) = 92) = false := decide_eq_false (by omega)
  have f2 : decide (B1 = 92) = false := decide_eq_false b1
  have gd1 : ¬ (p : Int) < 0 := by omega
  have gd2 : ¬ (l.length : Int) < (p : Int) := by omega
  have gd3 : decide ((M : Int) < 6) = false := decide_eq_false (by omega)
  have gd4 : decide (M < 6) = false := decide_eq_false (by omega)
  have f3 : ((B1 : Int) != 92) = true := by rw [bne_iff_ne]; omega
  have c0 : w.cell? ⟨b, off + p, none⟩ = some (.int .u8 (167 : Int)) := cell_q hs g0
  have c1 : w.cell? ⟨b, off + (p + 1), none⟩ = some (.int .u8 (B1 : Int)) := cell_q hs g1
  have HS := Lib.hid (sl_of hs)
  have HL := Lib.hid hl
  have HN := Lib.hid (show l.length ≤ 9223372036854775000 by omega)
  replace c0 := past_alloc (o := .cells #[.int .i64 0, .int .u64 0, .int .u64 0, .slice none 0 0] 31) c0
  replace c1 := past_alloc (o := .cells #[.int .i64 0, .int .u64 0, .int .u64 0, .slice none 0 0] 31) c1
  clear hs hM h6 g0 g1 b1
  as_aux_lemma =>
    go_enter Tryd.func15, Tryd.ntmps15
    go_wp2_with fail
    exact bodyPost_ret (v := .tuple #[.agg #[.int .i64 0, .int .u64 0, .int .u64 0, .slice none 0 0], .int .i64 0, .int .i64 2]) (by simp [results, Tryd.results15, go_sem]) rfl ⟨none, 0, rfl, .inl rfl, fun _ => rfl, Nat.le_refl _, (fun x hx => by cases hx), (Below.refl _ w).alloc (Nat.le_refl _) _⟩

set_option maxRecDepth 100000 in
set_option maxHeartbeats 4000000 in
theorem ddec_s2 (b off cap : Nat) (l : List Nat) (p M : Nat) (w : World) (hs : Cells w b off l) (hcap : l.length ≤ cap) (hl : ∀ c ∈ l, c < 256) (hn : l.length ≤ 90000) (hM : l.length = p + M) (h6 : 6 ≤ M) (g0 : l[p]? = some 167) (g1 : l[p + 1]? = some 92) (p2 p6 : Nat) (e2 : p2 = p + 2) (e6 : p6 = p + 6) (h7 : M = 6) :
    Calls Tryd.prog 15 #[.slice (some ⟨b, off, none⟩) l.length cap, .int .i64 (p : Int)] w (DeP (bad 3) 0 w) := by
  have z1 : (l.length : Int) - (p : Int) = (M : Int) := by omega
  have k1 : decide ((6 : Int) ≤ (M : Int)) = true := decide_eq_true (by omega)
  have k2 : decide (6 ≤ M) = true := decide_eq_true (by omega)
  have y0 : (p : Int) < (l.length : Int) := by omega
  have M5 : M ≤ 100000 := by omega
  have y1 : (p : Int) + 1 < (l.length : Int) := by omega
  have z2 : (p : Int) + 2 = (p2 : Int) := by omega
  have z6 : (p : Int) + 6 = (p6 : Int) := by omega
  have r2 : p2 ≤ 100000 := by omega
  have r6 : p6 ≤ 100000 := by omega
  obtain ⟨SU, hSU⟩ : ∃ SU, SU = (l.drop p2).take (p6 - p2) := ⟨_, rfl⟩
  obtain ⟨yA, cA, hA, sA, _⟩ := sub_some (sl_of hs) hcap p2 p6 (by omega) (by omega) SU hSU
  have k3 : decide ((p6 : Int) < (l.length : Int)) = false := decide_eq_false (by omega)
  have k4 : decide (p6 < l.length) = false := decide_eq_false (by omega)
  have gd1 : ¬ (p : Int) < 0 := by omega
  have gd2 : ¬ (l.length : Int) < (p : Int) := by omega
  have gd3 : decide ((M : Int) < 6) = false := decide_eq_false (by omega)
  have gd4 : decide (M < 6) = false := decide_eq_false (by omega)
  have gd5 : decide ((M : Int) < 7) = true := decide_eq_true (by omega)
  have gd6 : decide (M < 7) = true := decide_eq_true (by omega)
  have c0 : w.cell? ⟨b, off + p, none⟩ = some (.int .u8 (167 : Int)) := cell_q hs g0
  have c1 : w.cell? ⟨b, off + (p + 1), none⟩ = some (.int .u8 (92 : Int)) := cell_q hs g1
  have HS := Lib.hid (sl_of hs)
  have HL := Lib.hid hl
  have HN := Lib.hid (show l.length ≤ 9223372036854775000 by omega)
  have HSA := Lib.hid sA
  replace c0 := past_alloc (o := .cells #[.int .i64 0, .int .u64 0, .int .u64 0, .slice none 0 0] 31) c0
  replace c1 := past_alloc (o := .cells #[.int .i64 0, .int .u64 0, .int .u64 0, .slice none 0 0] 31) c1
  clear hs hM h6 g0 g1 e2 e6 hSU sA h7
  as_aux_lemma =>
    go_enter Tryd.func15, Tryd.ntmps15
    go_wp2_with fail
    exact bodyPost_ret (v := .tuple #[.agg #[.int .i64 0, .int .u64 0, .int .u64 0, .slice none 0 0], .int .i64 0, .int .i64 3]) (by simp [results, Tryd.results15, go_sem]) rfl ⟨none, 0, rfl, .inl rfl, fun _ => rfl, Nat.le_refl _, (fun x hx => by cases hx), (Below.refl _ w).alloc (Nat.le_refl _) _⟩

set_option maxRecDepth 100000 in
set_option maxHeartbeats 4000000 in
theorem ddec_n1 (b off cap : Nat) (l : List Nat) (p M : Nat) (w : World) (hs : Cells w b off l) (hcap : l.length ≤ cap) (hl : ∀ c ∈ l, c < 256) (hn : l.length ≤ 90000) (hM : l.length = p + M) (h6 : 6 ≤ M) (g0 : l[p]? = some 167) (g1 : l[p + 1]? = some 92) (p2 p6 : Nat) (e2 : p2 = p + 2) (e6 : p6 = p + 6) (h7 : 7 ≤ M) (p7 : Nat) (e7 : p7 = p + 7) (KK : Nat) (g6 : l[p6]? = some KK) (x : Nat) (x1 : (getF (l.drop p7) 0 0).2.2 = x) (x2 : x ≠ 0) :
    Calls Tryd.prog 15 #[.slice (some ⟨b, off, none⟩) l.length cap, .int .i64 (p : Int)] w (DeP (bad x) 0 w) := by
  have z1 : (l.length : Int) - (p : Int) = (M : Int) := by omega
  have k1 : decide ((6 : Int) ≤ (M : Int)) = true := decide_eq_true (by omega)
  have k2 : decide (6 ≤ M) = true := decide_eq_true (by omega)
  have y0 : (p : Int) < (l.length : Int) := by omega
  have M5 : M ≤ 100000 := by omega
  have y1 : (p : Int) + 1 < (l.length : Int) := by omega
  have z2 : (p : Int) + 2 = (p2 : Int) := by omega
  have z6 : (p : Int) + 6 = (p6 : Int) := by omega
  have r2 : p2 ≤ 100000 := by omega
  have r6 : p6 ≤ 100000 := by omega
  obtain ⟨SU, hSU⟩ : ∃ SU, SU = (l.drop p2).take (p6 - p2) := ⟨_, rfl⟩
  obtain ⟨yA, cA, hA, sA, _⟩ := sub_some (sl_of hs) hcap p2 p6 (by omega) (by omega) SU hSU
  have z7 : (p6 : Int) + 1 = (p7 : Int) := by omega
  have k3 : decide ((p6 : Int) < (l.length : Int)) = true := decide_eq_true (by omega)
  have k4 : decide (p6 < l.length) = true := decide_eq_true (by omega)
  have y6 : (p6 : Int) < (l.length : Int) := by omega
  have r7 : p7 ≤ 100000 := by omega
  have r8 : KK ≤ 100000 := by have := hl KK (List.mem_of_getElem? g6); omega
  have v7 : p7 ≤ l.length := by omega
  have gd1 : ¬ (p : Int) < 0 := by omega
  have gd2 : ¬ (l.length : Int) < (p : Int) := by omega
  have gd3 : decide ((M : Int) < 6) = false := decide_eq_false (by omega)
  have gd4 : decide (M < 6) = false := decide_eq_false (by omega)
  have gd5 : decide ((M : Int) < 7) = false := decide_eq_false (by omega)
  have gd6 : decide (M < 7) = false := decide_eq_false (by omega)
  have z8 : (p : Int) + 7 = (p7 : Int) := by omega
  have HP8 := Lib.hid (show l.length ≤ 9223372036854775000 by omega)
  have c0 : w.cell? ⟨b, off + p, none⟩ = some (.int .u8 (167 : Int)) := cell_q hs g0
  have c1 : w.cell? ⟨b, off + (p + 1), none⟩ = some (.int .u8 (92 : Int)) := cell_q hs g1
  have c6 : w.cell? ⟨b, off + p6, none⟩ = some (.int .u8 (KK : Int)) := cell_q hs g6
  have HS := Lib.hid (sl_of hs)
  have HL := Lib.hid hl
  have HN := Lib.hid (show l.length ≤ 9223372036854775000 by omega)
  have HSA := Lib.hid sA
  have V7 := Lib.hid v7
  have X1 := Lib.hid x1
  have X2 := Lib.hid x2
  replace c0 := past_alloc (o := .cells #[.int .i64 0, .int .u64 0, .int .u64 0, .slice none 0 0] 31) c0
  replace c1 := past_alloc (o := .cells #[.int .i64 0, .int .u64 0, .int .u64 0, .slice none 0 0] 31) c1
  replace c6 := past_alloc (o := .cells #[.int .i64 0, .int .u64 0, .int .u64 0, .slice none 0 0] 31) c6
  clear hs hM h6 g0 g1 e2 e6 hSU sA h7 e7 g6 v7 x1 x2
  as_aux_lemma =>
    go_enter Tryd.func15, Tryd.ntmps15
    go_wp2_with fail
    refine wp_loop_rounds 4 ?_
    rw [rounds_succ]
    have x3 : ((x : Int) != 0) = true := by have := X2.out; rw [bne_iff_ne]; omega
    go_wp2_with (go_at_call 43; (with_reducible refine (dgetX (some ⟨b, off, none⟩) l.length cap l p7 x _ rfl HL.out HN.out (sl_alloc (sl_alloc HS.out _) _) V7.out X1.out).mono ?_); rintro e w' ⟨xA, xB, rfl, rfl⟩)
    exact bodyPost_ret (v := .tuple #[.agg #[.int .i64 0, .int .u64 0, .int .u64 0, .slice none 0 0], .int .i64 0, .int .i64 (x : Int)]) (by simp [results, Tryd.results15, go_sem]) rfl ⟨none, 0, rfl, .inl rfl, fun _ => rfl, Nat.le_refl _, (fun x hx => by cases hx), ((Below.refl _ w).alloc (Nat.le_refl _) _).alloc (by simp) _⟩

set_option maxRecDepth 100000 in
set_option maxHeartbeats 4000000 in
theorem ddec_n2 (b off cap : Nat) (l : List Nat) (p M : Nat) (w : World) (hs : Cells w b off l) (hcap : l.length ≤ cap) (hl : ∀ c ∈ l, c < 256) (hn : l.length ≤ 90000) (hM : l.length = p + M) (h6 : 6 ≤ M) (g0 : l[p]? = some 167) (g1 : l[p + 1]? = some 92) (p2 p6 : Nat) (e2 : p2 = p + 2) (e6 : p6 = p + 6) (h7 : 7 ≤ M) (p7 : Nat) (e7 : p7 = p + 7) (KK : Nat) (g6 : l[p6]? = some KK) (s n1 p8 : Nat) (x3 : getF (l.drop p7) 0 0 = (s, n1, 0)) (d3 : p8 = p7 + n1) (j3 : p8 ≤ l.length) (x : Nat) (x1 : (getF (l.drop p8) 0 0).2.2 = x) (x2 : x ≠ 0) :
    Calls Tryd.prog 15 #[.slice (some ⟨b, off, none⟩) l.length cap, .int .i64 (p : Int)] w (DeP (bad x) 0 w) := by
  have z1 : (l.length : Int) - (p : Int) = (M : Int) := by omega
  have k1 : decide ((6 : Int) ≤ (M : Int)) = true := decide_eq_true (by omega)
  have k2 : decide (6 ≤ M) = true := decide_eq_true (by omega)
  have y0 : (p : Int) < (l.length : Int) := by omega
  have M5 : M ≤ 100000 := by omega
  have y1 : (p : Int) + 1 < (l.length : Int) := by omega
  have z2 : (p : Int) + 2 = (p2 : Int) := by omega
  have z6 : (p : Int) + 6 = (p6 : Int) := by omega
  have r2 : p2 ≤ 100000 := by omega
  have r6 : p6 ≤ 100000 := by omega
  obtain ⟨SU, hSU⟩ : ∃ SU, SU = (l.drop p2).take (p6 - p2) := ⟨_, rfl⟩
  obtain ⟨yA, cA, hA, sA, _⟩ := sub_some (sl_of hs) hcap p2 p6 (by omega) (by omega) SU hSU
  have z7 : (p6 : Int) + 1 = (p7 : Int) := by omega
  have k3 : decide ((p6 : Int) < (l.length : Int)) = true := decide_eq_true (by omega)
  have k4 : decide (p6 < l.length) = true := decide_eq_true (by omega)
  have y6 : (p6 : Int) < (l.length : Int) := by omega
  have r7 : p7 ≤ 100000 := by omega
  have r8 : KK ≤ 100000 := by have := hl KK (List.mem_of_getElem? g6); omega
  have v7 : p7 ≤ l.length := by omega
  have gd1 : ¬ (p : Int) < 0 := by omega
  have gd2 : ¬ (l.length : Int) < (p : Int) := by omega
  have gd3 : decide ((M : Int) < 6) = false := decide_eq_false (by omega)
  have gd4 : decide (M < 6) = false := decide_eq_false (by omega)
  have gd5 : decide ((M : Int) < 7) = false := decide_eq_false (by omega)
  have gd6 : decide (M < 7) = false := decide_eq_false (by omega)
  have z8 : (p : Int) + 7 = (p7 : Int) := by omega
  have HP8 := Lib.hid (show l.length ≤ 9223372036854775000 by omega)
  have c0 : w.cell? ⟨b, off + p, none⟩ = some (.int .u8 (167 : Int)) := cell_q hs g0
  have c1 : w.cell? ⟨b, off + (p + 1), none⟩ = some (.int .u8 (92 : Int)) := cell_q hs g1
  have c6 : w.cell? ⟨b, off + p6, none⟩ = some (.int .u8 (KK : Int)) := cell_q hs g6
  have HS := Lib.hid (sl_of hs)
  have HL := Lib.hid hl
  have HN := Lib.hid (show l.length ≤ 9223372036854775000 by omega)
  have HSA := Lib.hid sA
  have V7 := Lib.hid v7
  have X3 := Lib.hid x3
  have D3 := Lib.hid d3
  have J3 := Lib.hid j3
  have S3 := Lib.hid (show s ≤ 18446744073709551615 by have := getF_lt _ 0 0 s n1 (by omega) (by decide) (fun c hc => hl c (List.mem_of_mem_drop hc)) x3; omega)
  have X1 := Lib.hid x1
  have X2 := Lib.hid x2
  replace c0 := past_alloc (o := .cells #[.int .i64 0, .int .u64 0, .int .u64 0, .slice none 0 0] 31) c0
  replace c1 := past_alloc (o := .cells #[.int .i64 0, .int .u64 0, .int .u64 0, .slice none 0 0] 31) c1
  replace c6 := past_alloc (o := .cells #[.int .i64 0, .int .u64 0, .int .u64 0, .slice none 0 0] 31) c6
  clear hs hM h6 g0 g1 e2 e6 hSU sA h7 e7 g6 v7 x3 d3 j3 x1 x2
  as_aux_lemma =>
    go_enter Tryd.func15, Tryd.ntmps15
    go_wp2_with fail
    refine wp_loop_rounds 4 ?_
    rw [rounds_succ]
    go_wp2_with (go_at_call 43; (with_reducible refine (dgetOk (some ⟨b, off, none⟩) l.length cap l p7 s n1 _ rfl HL.out HN.out (sl_alloc (sl_alloc HS.out _) _) V7.out X3.out p8 D3.out).mono ?_); rintro e w' ⟨rfl, rfl⟩)
    rw [rounds_succ]
    have x3 : ((x : Int) != 0) = true := by have := X2.out; rw [bne_iff_ne]; omega
    go_wp2_with (go_at_call 43; (with_reducible refine (dgetX (some ⟨b, off, none⟩) l.length cap l p8 x _ rfl HL.out HN.out (sl_alloc (sl_alloc HS.out _) _) J3.out X1.out).mono ?_); rintro e w' ⟨xA, xB, rfl, rfl⟩)
    exact bodyPost_ret (v := .tuple #[.agg #[.int .i64 0, .int .u64 0, .int .u64 0, .slice none 0 0], .int .i64 0, .int .i64 (x : Int)]) (by simp [results, Tryd.results15, go_sem]) rfl ⟨none, 0, rfl, .inl rfl, fun _ => rfl, Nat.le_refl _, (fun x hx => by cases hx), ((Below.refl _ w).alloc (Nat.le_refl _) _).alloc (by simp) _⟩

set_option maxRecDepth 100000 in
set_option maxHeartbeats 4000000 in
theorem ddec_n3 (b off cap : Nat) (l : List Nat) (p M : Nat) (w : World) (hs : Cells w b off l) (hcap : l.length ≤ cap) (hl : ∀ c ∈ l, c < 256) (hn : l.length ≤ 90000) (hM : l.length = p + M) (h6 : 6 ≤ M) (g0 : l[p]? = some 167) (g1 : l[p + 1]? = some 92) (p2 p6 : Nat) (e2 : p2 = p + 2) (e6 : p6 = p + 6) (h7 : 7 ≤ M) (p7 : Nat) (e7 : p7 = p + 7) (KK : Nat) (g6 : l[p6]? = some KK) (s n1 p8 : Nat) (x3 : getF (l.drop p7) 0 0 = (s, n1, 0)) (d3 : p8 = p7 + n1) (j3 : p8 ≤ l.length) (t n2 p9 : Nat) (x4 : getF (l.drop p8) 0 0 = (t, n2, 0)) (d4 : p9 = p8 + n2) (j4 : p9 ≤ l.length) (x : Nat) (x1 : (getF (l.drop p9) 0 0).2.2 = x) (x2 : x ≠ 0) :
    Calls Tryd.prog 15 #[.slice (some ⟨b, off, none⟩) l.length cap, .int .i64 (p : Int)] w (DeP (bad x) 0 w) := by
  have z1 : (l.length : Int) - (p : Int) = (M : Int) := by omega
  have k1 : decide ((6 : Int) ≤ (M : Int)) = true := decide_eq_true (by omega)
  have k2 : decide (6 ≤ M) = true := decide_eq_true (by omega)
  have y0 : (p : Int) < (l.length : Int) := by omega
  have M5 : M ≤ 100000 := by omega
  have y1 : (p : Int) + 1 < (l.length : Int) := by omega
  have z2 : (p : Int) + 2 = (p2 : Int) := by omega
  have z6 : (p : Int) + 6 = (p6 : Int) := by omega
  have r2 : p2 ≤ 100000 := by omega
  have r6 : p6 ≤ 100000 := by omega
  obtain ⟨SU, hSU⟩ : ∃ SU, SU = (l.drop p2).take (p6 - p2) := ⟨_, rfl⟩
  obtain ⟨yA, cA, hA, sA, _⟩ := sub_some (sl_of hs) hcap p2 p6 (by omega) (by omega) SU hSU
  have z7 : (p6 : Int) + 1 = (p7 : Int) := by omega
  have k3 : decide ((p6 : Int) < (l.length : Int)) = true := decide_eq_true (by omega)
  have k4 : decide (p6 < l.length) = true := decide_eq_true (by omega)
  have y6 : (p6 : Int) < (l.length : Int) := by omega
  have r7 : p7 ≤ 100000 := by omega
  have r8 : KK ≤ 100000 := by have := hl KK (List.mem_of_getElem? g6); omega
  have v7 : p7 ≤ l.length := by omega
  have gd1 : ¬ (p : Int) < 0 := by omega
  have gd2 : ¬ (l.length : Int) < (p : Int) := by omega
  have gd3 : decide ((M : Int) < 6) = false := decide_eq_false (by omega)
  have gd4 : decide (M < 6) = false := decide_eq_false (by omega)
  have gd5 : decide ((M : Int) < 7) = false := decide_eq_false (by omega)
  have gd6 : decide (M < 7) = false := decide_eq_false (by omega)
  have z8 : (p : Int) + 7 = (p7 : Int) := by omega
  have HP8 := Lib.hid (show l.length ≤ 9223372036854775000 by omega)
  have c0 : w.cell? ⟨b, off + p, none⟩ = some (.int .u8 (167 : Int)) := cell_q hs g0
  have c1 : w.cell? ⟨b, off + (p + 1), none⟩ = some (.int .u8 (92 : Int)) := cell_q hs g1
  have c6 : w.cell? ⟨b, off + p6, none⟩ = some (.int .u8 (KK : Int)) := cell_q hs g6
  have HS := Lib.hid (sl_of hs)
  have HL := Lib.hid hl
  have HN := Lib.hid (show l.length ≤ 9223372036854775000 by omega)
  have HSA := Lib.hid sA
  have V7 := Lib.hid v7
  have X3 := Lib.hid x3
  have D3 := Lib.hid d3
  have J3 := Lib.hid j3
  have S3 := Lib.hid (show s ≤ 18446744073709551615 by have := getF_lt _ 0 0 s n1 (by omega) (by decide) (fun c hc => hl c (List.mem_of_mem_drop hc)) x3; omega)
  have X4 := Lib.hid x4
  have D4 := Lib.hid d4
  have J4 := Lib.hid j4
  have S4 := Lib.hid (show t ≤ 18446744073709551615 by have := getF_lt _ 0 0 t n2 (by omega) (by decide) (fun c hc => hl c (List.mem_of_mem_drop hc)) x4; omega)
  have X1 := Lib.hid x1
  have X2 := Lib.hid x2
  replace c0 := past_alloc (o := .cells #[.int .i64 0, .int .u64 0, .int .u64 0, .slice none 0 0] 31) c0
  replace c1 := past_alloc (o := .cells #[.int .i64 0, .int .u64 0, .int .u64 0, .slice none 0 0] 31) c1
  replace c6 := past_alloc (o := .cells #[.int .i64 0, .int .u64 0, .int .u64 0, .slice none 0 0] 31) c6
  clear hs hM h6 g0 g1 e2 e6 hSU sA h7 e7 g6 v7 x3 d3 j3 x4 d4 j4 x1 x2
  as_aux_lemma =>
    go_enter Tryd.func15, Tryd.ntmps15
    go_wp2_with fail
    refine wp_loop_rounds 4 ?_
    rw [rounds_succ]
    go_wp2_with (go_at_call 43; (with_reducible refine (dgetOk (some ⟨b, off, none⟩) l.length cap l p7 s n1 _ rfl HL.out HN.out (sl_alloc (sl_alloc HS.out _) _) V7.out X3.out p8 D3.out).mono ?_); rintro e w' ⟨rfl, rfl⟩)
    rw [rounds_succ]
    go_wp2_with (go_at_call 43; (with_reducible refine (dgetOk (some ⟨b, off, none⟩) l.length cap l p8 t n2 _ rfl HL.out HN.out (sl_alloc (sl_alloc HS.out _) _) J3.out X4.out p9 D4.out).mono ?_); rintro e w' ⟨rfl, rfl⟩)
    rw [rounds_succ]
    have x3 : ((x : Int) != 0) = true := by have := X2.out; rw [bne_iff_ne]; omega
    go_wp2_with (go_at_call 43; (with_reducible refine (dgetX (some ⟨b, off, none⟩) l.length cap l p9 x _ rfl HL.out HN.out (sl_alloc (sl_alloc HS.out _) _) J4.out X1.out).mono ?_); rintro e w' ⟨xA, xB, rfl, rfl⟩)
    exact bodyPost_ret (v := .tuple #[.agg #[.int .i64 0, .int .u64 0, .int .u64 0, .slice none 0 0], .int .i64 0, .int .i64 (x : Int)]) (by simp [results, Tryd.results15, go_sem]) rfl ⟨none, 0, rfl, .inl rfl, fun _ => rfl, Nat.le_refl _, (fun x hx => by cases hx), ((Below.refl _ w).alloc (Nat.le_refl _) _).alloc (by simp) _⟩

set_option maxRecDepth 100000 in
set_option maxHeartbeats 4000000 in
theorem ddec_big (b off cap : Nat) (l : List Nat) (p M : Nat) (w : World) (hs : Cells w b off l) (hcap : l.length ≤ cap) (hl : ∀ c ∈ l, c < 256) (hn : l.length ≤ 90000) (hM : l.length = p + M) (h6 : 6 ≤ M) (g0 : l[p]? = some 167) (g1 : l[p + 1]? = some 92) (p2 p6 : Nat) (e2 : p2 = p + 2) (e6 : p6 = p + 6) (h7 : 7 ≤ M) (p7 : Nat) (e7 : p7 = p + 7) (KK : Nat) (g6 : l[p6]? = some KK) (s n1 p8 : Nat) (x3 : getF (l.drop p7) 0 0 = (s, n1, 0)) (d3 : p8 = p7 + n1) (j3 : p8 ≤ l.length) (t n2 p9 : Nat) (x4 : getF (l.drop p8) 0 0 = (t, n2, 0)) (d4 : p9 = p8 + n2) (j4 : p9 ≤ l.length) (n n3 pA : Nat) (x5 : getF (l.drop p9) 0 0 = (n, n3, 0)) (d5 : pA = p9 + n3) (j5 : pA ≤ l.length) (x6 : 1048576 < n) :
    Calls Tryd.prog 15 #[.slice (some ⟨b, off, none⟩) l.length cap, .int .i64 (p : Int)] w (DeP (bad 2) 0 w) := by
  have z1 : (l.length : Int) - (p : Int) = (M : Int) := by omega
  have k1 : decide ((6 : Int) ≤ (M : Int)) = true := decide_eq_true (by omega)
  have k2 : decide (6 ≤ M) = true := decide_eq_true (by omega)
  have y0 : (p : Int) < (l.length : Int) := by omega
  have M5 : M ≤ 100000 := by omega
  have y1 : (p : Int) + 1 < (l.length : Int) := by omega
  have z2 : (p : Int) + 2 = (p2 : Int) := by omega
  have z6 : (p : Int) + 6 = (p6 : Int) := by omega
  have r2 : p2 ≤ 100000 := by omega
  have r6 : p6 ≤ 100000 := by omega
  obtain ⟨SU, hSU⟩ : ∃ SU, SU = (l.drop p2).take (p6 - p2) := ⟨_, rfl⟩
  obtain ⟨yA, cA, hA, sA, _⟩ := sub_some (sl_of hs) hcap p2 p6 (by omega) (by omega) SU hSU
  have z7 : (p6 : Int) + 1 = (p7 : Int) := by omega
  have k3 : decide ((p6 : Int) < (l.length : Int)) = true := decide_eq_true (by omega)
  have k4 : decide (p6 < l.length) = true := decide_eq_true (by omega)
  have y6 : (p6 : Int) < (l.length : Int) := by omega
  have r7 : p7 ≤ 100000 := by omega
  have r8 : KK ≤ 100000 := by have := hl KK (List.mem_of_getElem? g6); omega
  have v7 : p7 ≤ l.length := by omega
  have gd1 : ¬ (p : Int) < 0 := by omega
  have gd2 : ¬ (l.length : Int) < (p : Int) := by omega
  have gd3 : decide ((M : Int) < 6) = false := decide_eq_false (by omega)
  have gd4 : decide (M < 6) = false := decide_eq_false (by omega)
  have gd5 : decide ((M : Int) < 7) = false := decide_eq_false (by omega)
  have gd6 : decide (M < 7) = false := decide_eq_false (by omega)
  have z8 : (p : Int) + 7 = (p7 : Int) := by omega
  have HP8 := Lib.hid (show l.length ≤ 9223372036854775000 by omega)
  have gd7 : decide ((1048576 : Int) < (n : Int)) = true := decide_eq_true (by omega)
  have gd8 : decide (1048576 < n) = true := decide_eq_true (by omega)
  have c0 : w.cell? ⟨b, off + p, none⟩ = some (.int .u8 (167 : Int)) := cell_q hs g0
  have c1 : w.cell? ⟨b, off + (p + 1), none⟩ = some (.int .u8 (92 : Int)) := cell_q hs g1
  have c6 : w.cell? ⟨b, off + p6, none⟩ = some (.int .u8 (KK : Int)) := cell_q hs g6
  have HS := Lib.hid (sl_of hs)
  have HL := Lib.hid hl
  have HN := Lib.hid (show l.length ≤ 9223372036854775000 by omega)
  have HSA := Lib.hid sA
  have V7 := Lib.hid v7
  have X3 := Lib.hid x3
  have D3 := Lib.hid d3
  have J3 := Lib.hid j3
  have S3 := Lib.hid (show s ≤ 18446744073709551615 by have := getF_lt _ 0 0 s n1 (by omega) (by decide) (fun c hc => hl c (List.mem_of_mem_drop hc)) x3; omega)
  have X4 := Lib.hid x4
  have D4 := Lib.hid d4
  have J4 := Lib.hid j4
  have S4 := Lib.hid (show t ≤ 18446744073709551615 by have := getF_lt _ 0 0 t n2 (by omega) (by decide) (fun c hc => hl c (List.mem_of_mem_drop hc)) x4; omega)
  have X5 := Lib.hid x5
  have D5 := Lib.hid d5
  have J5 := Lib.hid j5
  have X6 := Lib.hid x6
  replace c0 := past_alloc (o := .cells #[.int .i64 0, .int .u64 0, .int .u64 0, .slice none 0 0] 31) c0
  replace c1 := past_alloc (o := .cells #[.int .i64 0, .int .u64 0, .int .u64 0, .slice none 0 0] 31) c1
  replace c6 := past_alloc (o := .cells #[.int .i64 0, .int .u64 0, .int .u64 0, .slice none 0 0] 31) c6
  clear hs hM h6 g0 g1 e2 e6 hSU sA h7 e7 g6 v7 x3 d3 j3 x4 d4 j4 x5 d5 j5 x6
  as_aux_lemma =>
    go_enter Tryd.func15, Tryd.ntmps15
    go_wp2_with fail
    refine wp_loop_rounds 4 ?_
    rw [rounds_succ]
    go_wp2_with (go_at_call 43; (with_reducible refine (dgetOk (some ⟨b, off, none⟩) l.length cap l p7 s n1 _ rfl HL.out HN.out (sl_alloc (sl_alloc HS.out _) _) V7.out X3.out p8 D3.out).mono ?_); rintro e w' ⟨rfl, rfl⟩)
    rw [rounds_succ]
    go_wp2_with (go_at_call 43; (with_reducible refine (dgetOk (some ⟨b, off, none⟩) l.length cap l p8 t n2 _ rfl HL.out HN.out (sl_alloc (sl_alloc HS.out _) _) J3.out X4.out p9 D4.out).mono ?_); rintro e w' ⟨rfl, rfl⟩)
    rw [rounds_succ]
    go_wp2_with (go_at_call 43; (with_reducible refine (dgetOk (some ⟨b, off, none⟩) l.length cap l p9 n n3 _ rfl HL.out HN.out (sl_alloc (sl_alloc HS.out _) _) J4.out X5.out pA D5.out).mono ?_); rintro e w' ⟨rfl, rfl⟩)
    rw [rounds_succ]
    go_wp2_with fail
    exact bodyPost_ret (v := .tuple #[.agg #[.int .i64 0, .int .u64 0, .int .u64 0, .slice none 0 0], .int .i64 0, .int .i64 2]) (by simp [results, Tryd.results15, go_sem]) rfl ⟨none, 0, rfl, .inl rfl, fun _ => rfl, Nat.le_refl _, (fun x hx => by cases hx), ((Below.refl _ w).alloc (Nat.le_refl _) _).alloc (by simp) _⟩

set_option maxRecDepth 100000 in
set_option maxHeartbeats 4000000 in
theorem ddec_s3 (b off cap : Nat) (l : List Nat) (p M : Nat) (w : World) (hs : Cells w b off l) (hcap : l.length ≤ cap) (hl : ∀ c ∈ l, c < 256) (hn : l.length ≤ 90000) (hM : l.length = p + M) (h6 : 6 ≤ M) (g0 : l[p]? = some 167) (g1 : l[p + 1]? = some 92) (p2 p6 : Nat) (e2 : p2 = p + 2) (e6 : p6 = p + 6) (h7 : 7 ≤ M) (p7 : Nat) (e7 : p7 = p + 7) (KK : Nat) (g6 : l[p6]? = some KK) (s n1 p8 : Nat) (x3 : getF (l.drop p7) 0 0 = (s, n1, 0)) (d3 : p8 = p7 + n1) (j3 : p8 ≤ l.length) (t n2 p9 : Nat) (x4 : getF (l.drop p8) 0 0 = (t, n2, 0)) (d4 : p9 = p8 + n2) (j4 : p9 ≤ l.length) (n n3 pA : Nat) (x5 : getF (l.drop p9) 0 0 = (n, n3, 0)) (d5 : pA = p9 + n3) (j5 : pA ≤ l.length) (x6 : n ≤ 1048576) (LL : Nat) (eL : l.length = pA + LL) (x7 : LL < n) :
    Calls Tryd.prog 15 #[.slice (some ⟨b, off, none⟩) l.length cap, .int .i64 (p : Int)] w (DeP (bad 3) 0 w) := by
  have z1 : (l.length : Int) - (p : Int) = (M : Int) := by omega
  have k1 : decide ((6 : Int) ≤ (M : Int)) = true := decide_eq_true (by omega)
  have k2 : decide (6 ≤ M) = true := decide_eq_true (by omega)
  have y0 : (p : Int) < (l.length : Int) := by omega
  have M5 : M ≤ 100000 := by omega
  have y1 : (p : Int) + 1 < (l.length : Int) := by omega
  have z2 : (p : Int) + 2 = (p2 : Int) := by omega
  have z6 : (p : Int) + 6 = (p6 : Int) := by omega
  have r2 : p2 ≤ 100000 := by omega
  have r6 : p6 ≤ 100000 := by omega
  obtain ⟨SU, hSU⟩ : ∃ SU, SU = (l.drop p2).take (p6 - p2) := ⟨_, rfl⟩
  obtain ⟨yA, cA, hA, sA, _⟩ := sub_some (sl_of hs) hcap p2 p6 (by omega) (by omega) SU hSU
  have z7 : (p6 : Int) + 1 = (p7 : Int) := by omega
  have k3 : decide ((p6 : Int) < (l.length : Int)) = true := decide_eq_true (by omega)
  have k4 : decide (p6 < l.length) = true := decide_eq_true (by omega)
  have y6 : (p6 : Int) < (l.length : Int) := by omega
  have r7 : p7 ≤ 100000 := by omega
  have r8 : KK ≤ 100000 := by have := hl KK (List.mem_of_getElem? g6); omega
  have v7 : p7 ≤ l.length := by omega
  have zL : (l.length : Int) - (pA : Int) = (LL : Int) := by omega
  have rL : LL ≤ 100000 := by omega
  have uL : (LL : Int) % 18446744073709551616 = (LL : Int) := by omega
  have k5 : decide ((n : Int) ≤ (LL : Int)) = false := decide_eq_false (by omega)
  have k6 : decide (n ≤ LL) = false := decide_eq_false (by omega)
  have gd1 : ¬ (p : Int) < 0 := by omega
  have gd2 : ¬ (l.length : Int) < (p : Int) := by omega
  have gd3 : decide ((M : Int) < 6) = false := decide_eq_false (by omega)
  have gd4 : decide (M < 6) = false := decide_eq_false (by omega)
  have gd5 : decide ((M : Int) < 7) = false := decide_eq_false (by omega)
  have gd6 : decide (M < 7) = false := decide_eq_false (by omega)
  have z8 : (p : Int) + 7 = (p7 : Int) := by omega
  have HP8 := Lib.hid (show l.length ≤ 9223372036854775000 by omega)
  have gd7 : decide ((1048576 : Int) < (n : Int)) = false := decide_eq_false (by omega)
  have gd8 : decide (1048576 < n) = false := decide_eq_false (by omega)
  have gd9 : decide ((LL : Int) < (n : Int)) = true := decide_eq_true (by omega)
  have gdA : decide (LL < n) = true := decide_eq_true (by omega)
  have c0 : w.cell? ⟨b, off + p, none⟩ = some (.int .u8 (167 : Int)) := cell_q hs g0
  have c1 : w.cell? ⟨b, off + (p + 1), none⟩ = some (.int .u8 (92 : Int)) := cell_q hs g1
  have c6 : w.cell? ⟨b, off + p6, none⟩ = some (.int .u8 (KK : Int)) := cell_q hs g6
  have HS := Lib.hid (sl_of hs)
  have HL := Lib.hid hl
  have HN := Lib.hid (show l.length ≤ 9223372036854775000 by omega)
  have HSA := Lib.hid sA
  have V7 := Lib.hid v7
  have X3 := Lib.hid x3
  have D3 := Lib.hid d3
  have J3 := Lib.hid j3
  have S3 := Lib.hid (show s ≤ 18446744073709551615 by have := getF_lt _ 0 0 s n1 (by omega) (by decide) (fun c hc => hl c (List.mem_of_mem_drop hc)) x3; omega)
  have X4 := Lib.hid x4
  have D4 := Lib.hid d4
  have J4 := Lib.hid j4
  have S4 := Lib.hid (show t ≤ 18446744073709551615 by have := getF_lt _ 0 0 t n2 (by omega) (by decide) (fun c hc => hl c (List.mem_of_mem_drop hc)) x4; omega)
  have X5 := Lib.hid x5
  have D5 := Lib.hid d5
  have J5 := Lib.hid j5
  have X6 := Lib.hid x6
  replace c0 := past_alloc (o := .cells #[.int .i64 0, .int .u64 0, .int .u64 0, .slice none 0 0] 31) c0
  replace c1 := past_alloc (o := .cells #[.int .i64 0, .int .u64 0, .int .u64 0, .slice none 0 0] 31) c1
  replace c6 := past_alloc (o := .cells #[.int .i64 0, .int .u64 0, .int .u64 0, .slice none 0 0] 31) c6
  clear hs hM h6 g0 g1 e2 e6 hSU sA h7 e7 g6 v7 x3 d3 j3 x4 d4 j4 x5 d5 j5 x6 eL x7
  as_aux_lemma =>
    go_enter Tryd.func15, Tryd.ntmps15
    go_wp2_with fail
    refine wp_loop_rounds 4 ?_
    rw [rounds_succ]
    go_wp2_with (go_at_call 43; (with_reducible refine (dgetOk (some ⟨b, off, none⟩) l.length cap l p7 s n1 _ rfl HL.out HN.out (sl_alloc (sl_alloc HS.out _) _) V7.out X3.out p8 D3.out).mono ?_); rintro e w' ⟨rfl, rfl⟩)
    rw [rounds_succ]
    go_wp2_with (go_at_call 43; (with_reducible refine (dgetOk (some ⟨b, off, none⟩) l.length cap l p8 t n2 _ rfl HL.out HN.out (sl_alloc (sl_alloc HS.out _) _) J3.out X4.out p9 D4.out).mono ?_); rintro e w' ⟨rfl, rfl⟩)
    rw [rounds_succ]
    go_wp2_with (go_at_call 43; (with_reducible refine (dgetOk (some ⟨b, off, none⟩) l.length cap l p9 n n3 _ rfl HL.out HN.out (sl_alloc (sl_alloc HS.out _) _) J4.out X5.out pA D5.out).mono ?_); rintro e w' ⟨rfl, rfl⟩)
    rw [rounds_succ]
    go_wp2_with fail
    exact bodyPost_ret (v := .tuple #[.agg #[.int .i64 0, .int .u64 0, .int .u64 0, .slice none 0 0], .int .i64 0, .int .i64 3]) (by simp [results, Tryd.results15, go_sem]) rfl ⟨none, 0, rfl, .inl rfl, fun _ => rfl, Nat.le_refl _, (fun x hx => by cases hx), ((Below.refl _ w).alloc (Nat.le_refl _) _).alloc (by simp) _⟩

set_option maxRecDepth 100000 in
set_option maxHeartbeats 4000000 in
theorem ddec_sum (b off cap : Nat) (l : List Nat) (p M : Nat) (w : World) (hs : Cells w b off l) (hcap : l.length ≤ cap) (hl : ∀ c ∈ l, c < 256) (hn : l.length ≤ 90000) (hM : l.length = p + M) (h6 : 6 ≤ M) (g0 : l[p]? = some 167) (g1 : l[p + 1]? = some 92) (p2 p6 : Nat) (e2 : p2 = p + 2) (e6 : p6 = p + 6) (h7 : 7 ≤ M) (p7 : Nat) (e7 : p7 = p + 7) (KK : Nat) (g6 : l[p6]? = some KK) (s n1 p8 : Nat) (x3 : getF (l.drop p7) 0 0 = (s, n1, 0)) (d3 : p8 = p7 + n1) (j3 : p8 ≤ l.length) (t n2 p9 : Nat) (x4 : getF (l.drop p8) 0 0 = (t, n2, 0)) (d4 : p9 = p8 + n2) (j4 : p9 ≤ l.length) (n n3 pA : Nat) (x5 : getF (l.drop p9) 0 0 = (n, n3, 0)) (d5 : pA = p9 + n3) (j5 : pA ≤ l.length) (x6 : n ≤ 1048576) (LL : Nat) (eL : l.length = pA + LL) (x7 : n ≤ LL) (E : Nat) (eE : E = pA + n) (x8 : ¬ (l.drop p2).take (p6 - p2) = fourL ((crc ((l.drop p6).take (E - p6)) : Nat) : Int))  :
    Calls Tryd.prog 15 #[.slice (some ⟨b, off, none⟩) l.length cap, .int .i64 (p : Int)] w (DeP (bad 9) 0 w) := by
  have z1 : (l.length : Int) - (p : Int) = (M : Int) := by omega
  have k1 : decide ((6 : Int) ≤ (M : Int)) = true := decide_eq_true (by omega)
  have k2 : decide (6 ≤ M) = true := decide_eq_true (by omega)
  have y0 : (p : Int) < (l.length : Int) := by omega
  have M5 : M ≤ 100000 := by omega
  have y1 : (p : Int) + 1 < (l.length : Int) := by omega
  have z2 : (p : Int) + 2 = (p2 : Int) := by omega
  have z6 : (p : Int) + 6 = (p6 : Int) := by omega
  have r2 : p2 ≤ 100000 := by omega
  have r6 : p6 ≤ 100000 := by omega
  obtain ⟨SU, hSU⟩ : ∃ SU, SU = (l.drop p2).take (p6 - p2) := ⟨_, rfl⟩
  obtain ⟨yA, cA, hA, sA, _⟩ := sub_some (sl_of hs) hcap p2 p6 (by omega) (by omega) SU hSU
  have z7 : (p6 : Int) + 1 = (p7 : Int) := by omega
  have k3 : decide ((p6 : Int) < (l.length : Int)) = true := decide_eq_true (by omega)
  have k4 : decide (p6 < l.length) = true := decide_eq_true (by omega)
  have y6 : (p6 : Int) < (l.length : Int) := by omega
  have r7 : p7 ≤ 100000 := by omega
  have r8 : KK ≤ 100000 := by have := hl KK (List.mem_of_getElem? g6); omega
  have v7 : p7 ≤ l.length := by omega
  have zL : (l.length : Int) - (pA : Int) = (LL : Int) := by omega
  have rL : LL ≤ 100000 := by omega
  have uL : (LL : Int) % 18446744073709551616 = (LL : Int) := by omega
  have k5 : decide ((n : Int) ≤ (LL : Int)) = true := decide_eq_true (by omega)
  have k6 : decide (n ≤ LL) = true := decide_eq_true (by omega)
  have zE : (pA : Int) + (n : Int) = (E : Int) := by omega
  have rE : E ≤ 100000 := by omega
  have rn : n ≤ 100000 := by omega
  have rA : pA ≤ 100000 := by omega
  obtain ⟨D6, hD6⟩ : ∃ D, D = (l.drop p6).take (E - p6) := ⟨_, rfl⟩
  obtain ⟨yB, cB, hB, sB, _⟩ := sub_some (sl_of hs) hcap p6 E (by omega) (by omega) D6 hD6
  obtain ⟨BD, hBD⟩ : ∃ D, D = (l.drop pA).take (E - pA) := ⟨_, rfl⟩
  obtain ⟨yC, cC, hC, sC, lC⟩ := sub_some (sl_of hs) hcap pA E (by omega) (by omega) BD hBD
  obtain ⟨CR, hCR⟩ : ∃ C, C = crc D6 := ⟨_, rfl⟩
  obtain ⟨FF, hFF⟩ : ∃ F, F = fourL (CR : Int) := ⟨_, rfl⟩
  have gd1 : ¬ (p : Int) < 0 := by omega
  have gd2 : ¬ (l.length : Int) < (p : Int) := by omega
  have gd3 : decide ((M : Int) < 6) = false := decide_eq_false (by omega)
  have gd4 : decide (M < 6) = false := decide_eq_false (by omega)
  have gd5 : decide ((M : Int) < 7) = false := decide_eq_false (by omega)
  have gd6 : decide (M < 7) = false := decide_eq_false (by omega)
  have z8 : (p : Int) + 7 = (p7 : Int) := by omega
  have HP8 := Lib.hid (show l.length ≤ 9223372036854775000 by omega)
  have gd7 : decide ((1048576 : Int) < (n : Int)) = false := decide_eq_false (by omega)
  have gd8 : decide (1048576 < n) = false := decide_eq_false (by omega)
  have gd9 : decide ((LL : Int) < (n : Int)) = false := decide_eq_false (by omega)
  have gdA : decide (LL < n) = false := decide_eq_false (by omega)
  have c0 : w.cell? ⟨b, off + p, none⟩ = some (.int .u8 (167 : Int)) := cell_q hs g0
  have c1 : w.cell? ⟨b, off + (p + 1), none⟩ = some (.int .u8 (92 : Int)) := cell_q hs g1
  have c6 : w.cell? ⟨b, off + p6, none⟩ = some (.int .u8 (KK : Int)) := cell_q hs g6
  have HS := Lib.hid (sl_of hs)
  have HL := Lib.hid hl
  have HN := Lib.hid (show l.length ≤ 9223372036854775000 by omega)
  have HSA := Lib.hid sA
  have V7 := Lib.hid v7
  have X3 := Lib.hid x3
  have D3 := Lib.hid d3
  have J3 := Lib.hid j3
  have S3 := Lib.hid (show s ≤ 18446744073709551615 by have := getF_lt _ 0 0 s n1 (by omega) (by decide) (fun c hc => hl c (List.mem_of_mem_drop hc)) x3; omega)
  have X4 := Lib.hid x4
  have D4 := Lib.hid d4
  have J4 := Lib.hid j4
  have S4 := Lib.hid (show t ≤ 18446744073709551615 by have := getF_lt _ 0 0 t n2 (by omega) (by decide) (fun c hc => hl c (List.mem_of_mem_drop hc)) x4; omega)
  have X5 := Lib.hid x5
  have D5 := Lib.hid d5
  have J5 := Lib.hid j5
  have X6 := Lib.hid x6
  have HSB := Lib.hid sB
  have HSC := Lib.hid sC
  have HCR := Lib.hid hCR
  have HFF := Lib.hid hFF
  have HD6X := Lib.hid (show ∀ c ∈ D6, c < 256 by rw [hD6]; exact fun c hc => hl c (List.mem_of_mem_drop (List.mem_of_mem_take hc)))
  have HD6N := Lib.hid (show D6.length ≤ 9223372036854775807 by rw [hD6]; simp; omega)
  have HCL := Lib.hid (show CR < 4294967296 by rw [hCR, hD6]; exact crc_lt _ (fun c hc => hl c (List.mem_of_mem_drop (List.mem_of_mem_take hc))))
  have HSX := Lib.hid (show ∀ c ∈ SU, c < 256 by rw [hSU]; exact fun c hc => hl c (List.mem_of_mem_drop (List.mem_of_mem_take hc)))
  have HFX := Lib.hid (show ∀ c ∈ FF, c < 256 by rw [hFF]; exact four_bytes _)
  have HBN := Lib.hid (show BD.length ≤ 1000000 by rw [hBD]; simp; omega)
  have HBL := Lib.hid lC
  have HEQN := Lib.hid (show ¬ SU = fourL ((CR : Nat) : Int) by rw [hSU, hCR, hD6]; exact x8)
  have HSL := Lib.hid (show SU.length = 4 by rw [hSU]; simp; omega)
  replace c0 := past_alloc (o := .cells #[.int .i64 0, .int .u64 0, .int .u64 0, .slice none 0 0] 31) c0
  replace c1 := past_alloc (o := .cells #[.int .i64 0, .int .u64 0, .int .u64 0, .slice none 0 0] 31) c1
  replace c6 := past_alloc (o := .cells #[.int .i64 0, .int .u64 0, .int .u64 0, .slice none 0 0] 31) c6
  clear hs hM h6 g0 g1 e2 e6 hSU sA h7 e7 g6 v7 x3 d3 j3 x4 d4 j4 x5 d5 j5 x6 eL x7 eE hD6 hBD sB sC lC hCR hFF x8
  as_aux_lemma =>
    go_enter Tryd.func15, Tryd.ntmps15
    go_wp2_with fail
    refine wp_loop_rounds 4 ?_
    rw [rounds_succ]
    go_wp2_with (go_at_call 43; (with_reducible refine (dgetOk (some ⟨b, off, none⟩) l.length cap l p7 s n1 _ rfl HL.out HN.out (sl_alloc (sl_alloc HS.out _) _) V7.out X3.out p8 D3.out).mono ?_); rintro e w' ⟨rfl, rfl⟩)
    rw [rounds_succ]
    go_wp2_with (go_at_call 43; (with_reducible refine (dgetOk (some ⟨b, off, none⟩) l.length cap l p8 t n2 _ rfl HL.out HN.out (sl_alloc (sl_alloc HS.out _) _) J3.out X4.out p9 D4.out).mono ?_); rintro e w' ⟨rfl, rfl⟩)
    rw [rounds_succ]
    go_wp2_with (go_at_call 43; (with_reducible refine (dgetOk (some ⟨b, off, none⟩) l.length cap l p9 n n3 _ rfl HL.out HN.out (sl_alloc (sl_alloc HS.out _) _) J4.out X5.out pA D5.out).mono ?_); rintro e w' ⟨rfl, rfl⟩)
    rw [rounds_succ]
    go_wp2_with fail
    have HBW := Lib.hid (show Below w.heap.size w ((w.alloc (.cells #[.int .i64 0, .int .u64 0, .int .u64 0, .slice none 0 0] 31)).alloc (.cells #[.int .u64 (s : Int), .int .u64 (t : Int), .int .u64 (n : Int)] 85)) from ((Below.refl _ w).alloc (Nat.le_refl _) _).alloc (by simp) _)
    have HZ1 := Lib.hid (show ((w.alloc (.cells #[.int .i64 0, .int .u64 0, .int .u64 0, .slice none 0 0] 31)).alloc (.cells #[.int .u64 (s : Int), .int .u64 (t : Int), .int .u64 (n : Int)] 85)).heap[w.heap.size]? = some (.cells #[.int .i64 0, .int .u64 0, .int .u64 0, .slice none 0 0] 31 (0, 0)) from (Below.heap_alloc _ _ _ (by simp)).trans (heap_alloc_last w _))
    have HZ2 := Lib.hid (show ((w.alloc (.cells #[.int .i64 0, .int .u64 0, .int .u64 0, .slice none 0 0] 31)).alloc (.cells #[.int .u64 (s : Int), .int .u64 (t : Int), .int .u64 (n : Int)] 85)).heap[w.heap.size + 1]? = some (.cells #[.int .u64 (s : Int), .int .u64 (t : Int), .int .u64 (n : Int)] 85 (0, 0)) by have h := heap_alloc_last (w.alloc (.cells #[.int .i64 0, .int .u64 0, .int .u64 0, .slice none 0 0] 31)) (.cells #[.int .u64 (s : Int), .int .u64 (t : Int), .int .u64 (n : Int)] 85); rw [show (w.alloc (.cells #[.int .i64 0, .int .u64 0, .int .u64 0, .slice none 0 0] 31)).heap.size = w.heap.size + 1 by simp] at h; exact h)
    have q6 := past_alloc (o := .cells #[.int .u64 (s : Int), .int .u64 (t : Int), .int .u64 (n : Int)] 85) c6
    clear c0 c1 c6
    as_aux_lemma =>
      generalize ((w.alloc (.cells #[.int .i64 0, .int .u64 0, .int .u64 0, .slice none 0 0] 31)).alloc (.cells #[.int .u64 (s : Int), .int .u64 (t : Int), .int .u64 (n : Int)] 85)) = wz at *
      have HSBz := Lib.hid (sl_then HBW.out (Nat.le_refl _) HSB.out)
      have HSCz := Lib.hid (sl_then HBW.out (Nat.le_refl _) HSC.out)
      have HSAz := Lib.hid (sl_then HBW.out (Nat.le_refl _) HSA.out)
      obtain ⟨NV, hNV⟩ : ∃ n, n = numL SU := ⟨_, rfl⟩
      have HNV := Lib.hid hNV
      have jN : (NV : Int) % 4294967296 = (NV : Int) := by have := num_lt HSL.out HSX.out; rw [hNV]; omega
      have jW : IntKind.u32.wrap (NV : Int) = (NV : Int) := by rw [IntKind.wrap_u32]; exact jN
      have jE : ((CR : Int) != (NV : Int)) = true := by rw [hNV]; exact num_ne HSL.out HSX.out HEQN.out
      clear hNV
      go_big_quiet (first
        | (go_at_call 22; with_reducible exact Calls.quiet_of_same ((dcrcK (some yB) D6.length cB D6 CR _ rfl HCR.out HD6X.out HD6N.out (sl_drewN HSBz.out _)).mono fun _ _ h => ⟨h.1, h.2.symm⟩))
        | (go_at_call 23; with_reducible exact Calls.quiet_of_same ((bigN (some yA) SU.length cA SU NV _ rfl HSL.out HSX.out HNV.out (sl_drewN HSAz.out _)).mono fun _ _ h => ⟨h.1, h.2.symm⟩)))
      have HBV := Lib.hid (below_drewN HBW.out nq)
      have HV1 := Lib.hid (show (wz.drewN nq).heap[w.heap.size]? = some (.cells #[.int .i64 0, .int .u64 0, .int .u64 0, .slice none 0 0] 31 (0, 0)) from HZ1.out)
      have HV2 := Lib.hid (show (wz.drewN nq).heap[w.heap.size + 1]? = some (.cells #[.int .u64 (s : Int), .int .u64 (t : Int), .int .u64 (n : Int)] 85 (0, 0)) from HZ2.out)
      have HSCv := Lib.hid (sl_drewN HSCz.out nq)
      have C6 := Lib.hid (past_drewN nq q6)
      clear q6 jN jW
      as_aux_lemma =>
        generalize wz.drewN nq = wv at *
        have d0 : wv.cell? ⟨w.heap.size, 0, none⟩ = some (.int .i64 0) := by rw [cell_of_row wv w.heap.size 0 _ 31 _ HV1.out]; rfl
        have df0 := frozen_of_row wv w.heap.size 0 _ 31 HV1.out
        have d1 : wv.cell? ⟨w.heap.size, 1, none⟩ = some (.int .u64 0) := by rw [cell_of_row wv w.heap.size 1 _ 31 _ HV1.out]; rfl
        have df1 := frozen_of_row wv w.heap.size 1 _ 31 HV1.out
        have d2 : wv.cell? ⟨w.heap.size, 2, none⟩ = some (.int .u64 0) := by rw [cell_of_row wv w.heap.size 2 _ 31 _ HV1.out]; rfl
        have df2 := frozen_of_row wv w.heap.size 2 _ 31 HV1.out
        have d3 : wv.cell? ⟨w.heap.size, 3, none⟩ = some (.slice none 0 0) := by rw [cell_of_row wv w.heap.size 3 _ 31 _ HV1.out]; rfl
        have df3 := frozen_of_row wv w.heap.size 3 _ 31 HV1.out
        go_wp2
        have HR11 := HV1
        have Zf := pk31 HR11.out (.int .i64 0) (.int .u64 0) (.int .u64 0) (.slice none 0 0)
        have BF := Lib.hid (show Below w.heap.size w ((((wv.setCell ⟨w.heap.size, 0, none⟩ (.int .i64 0)).setCell ⟨w.heap.size, 1, none⟩ (.int .u64 0)).setCell ⟨w.heap.size, 2, none⟩ (.int .u64 0)).setCell ⟨w.heap.size, 3, none⟩ (.slice none 0 0)) from (((HBV.out.setCell (Nat.le_refl _) _).setCell (Nat.le_refl _) _).setCell (Nat.le_refl _) _).setCell (Nat.le_refl _) _)
        generalize ((((wv.setCell ⟨w.heap.size, 0, none⟩ (.int .i64 0)).setCell ⟨w.heap.size, 1, none⟩ (.int .u64 0)).setCell ⟨w.heap.size, 2, none⟩ (.int .u64 0)).setCell ⟨w.heap.size, 3, none⟩ (.slice none 0 0)) = WF at *
        have q0 : WF.cell? ⟨w.heap.size, 0, none⟩ = some (.int .i64 0) := by rw [cell_of_row WF w.heap.size 0 _ 31 _ Zf]; rfl
        have q1 : WF.cell? ⟨w.heap.size, 1, none⟩ = some (.int .u64 0) := by rw [cell_of_row WF w.heap.size 1 _ 31 _ Zf]; rfl
        have q2 : WF.cell? ⟨w.heap.size, 2, none⟩ = some (.int .u64 0) := by rw [cell_of_row WF w.heap.size 2 _ 31 _ Zf]; rfl
        have q3 : WF.cell? ⟨w.heap.size, 3, none⟩ = some (.slice none 0 0) := by rw [cell_of_row WF w.heap.size 3 _ 31 _ Zf]; rfl
        exact bodyPost_ret (v := .tuple #[.agg #[.int .i64 0, .int .u64 0, .int .u64 0, .slice none 0 0], .int .i64 0, .int .i64 9]) (by simp [results, Tryd.results15, go_sem, q0, q1, q2, q3]) rfl ⟨none, 0, rfl, .inl rfl, fun _ => rfl, Nat.le_refl _, (fun x hx => by cases hx), BF.out⟩

end Go.Proofs.YtabgelmmjpjejaaDoor.Rd1
