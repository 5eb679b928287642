/- The words "speed a/b": cmd.Parse. -/
import Derived.Test.YthihkbnkbajglaaGreatDoorDc
import Derived.Test.YthihkbnkbajglaaGreatDoorFi
import Derived.Test.YthihkbnkbajglaaGreatDoorLy2
import Derived.Test.YthihkbnkbajglaaGreatDoorFl
import Derived.Deep.OwnRows
set_option linter.unusedVariables false
namespace Go.Proofs.YthihkbnkbajglaaGreatDoor.Pw
open Go Go.RowKit Kit Nums Scale2 Ly Ly2 Fi Wd Fl

def TabP (w : World) : Prop := Lib.TabIs Tryz.prog w "internal/strconv.uint64pow10" .u64 Lib.pow10Tab
theorem tabP_then {W w1 : World} (hb : Below W.heap.size W w1) (h : TabP W) : TabP w1 := by
  unfold TabP Lib.TabIs at *
  exact Joins.var_stays (g := 2) (by kernel_rfl) h hb (Nat.le_refl _)
theorem itoaB (n : Nat) (hn : n ≤ 9999) (w : World) (hT : TabP w) : Calls Tryz.prog 114 #[.int .i64 (n : Int)] w fun e w' => e = .returned (.string (bs (Lib.decDigits n))) ∧ Below w.heap.size w w' := by
  refine (itoaM (n : Int) (by omega) (by omega) w hT).mono ?_
  rintro e w' ⟨rfl, k, os, rfl⟩
  refine ⟨?_, Lib.below_grow w.heap.size w (Nat.le_refl _) k os⟩
  have : Lib.itoa (n : Int) = Lib.decDigits n := by unfold Lib.itoa; rw [if_neg (by omega)]; rfl
  rw [this]; rfl
set_option maxRecDepth 100000 in
theorem shortG (n : Nat) (hn : n ≤ 9999) (w : World) (hT : TabP w) :
    Calls Tryz.prog 94 #[.string (bs (Lib.decDigits n))] w fun e w' => e = .returned (.tuple #[.int .i64 (n : Int), .bool true]) ∧ Below w.heap.size w w' := by
  have hl := dec_len hn
  have hs : (bs (Lib.decDigits n)).size ≤ 4 := by rw [bs_size]; exact hl
  have HA := Lib.hid (atoiC (bs (Lib.decDigits n)) (n : Int) (by omega) (by rw [bs_data]; exact dec_atoi n) w)
  have HI := Lib.hid (fun w (h : TabP w) => itoaB n hn w h)
  have b2 : decide ((n : Int) < 0) = false := by simp
  have HT := Lib.hid hT
  generalize bs (Lib.decDigits n) = s at *
  have b3 : decide ((4 : Int) < (s.size : Int)) = false := decide_eq_false (by omega)
  clear hl hT
  go_enter Tryz.func94, Tryz.ntmps94
  go_wp2_with fail
  refine HA.out.mono ?_
  rintro e w1 ⟨rfl, t, hw1⟩
  have hb1 : Below w.heap.size w w1 := by rw [hw1]; exact Lib.bytesWorld_below w 5 t
  have HB := Lib.hid hb1
  have HT1 := Lib.hid (tabP_then hb1 HT.out)
  clear hw1 hb1
  go_wp2_with (first
    | (go_at_call 114; refine (HI.out _ HT1.out).mono ?_; rintro e w2 ⟨rfl, hb2⟩; have HB2 := Lib.hid (nextB HB.out hb2); clear hb2))
  all_goals go_ret2
  all_goals exact ⟨rfl, HB2.out⟩
theorem fracG (a b : Nat) (ha : a ≤ 9999) (h1 : 1 ≤ b) (h2 : b ≤ 9999) (w : World) (hT : TabP w) :
    Calls Tryz.prog 71 #[.string (bs (Lib.decDigits a)), .string (bs (Lib.decDigits b))] w fun e w' => e = .returned (.tuple #[.float .f64 (quoV a b), .int .i64 0]) ∧ Below w.heap.size w w' := by
  have HA := Lib.hid (fun w h => shortG a ha w h)
  have HB := Lib.hid (fun w h => shortG b h2 w h)
  have HT := Lib.hid hT
  have HQ := Lib.hid (fun w => quo_run a b h1 h2 w)
  have hb0 : ((b : Int) == 0) = false := by rw [beq_eq_false_iff_ne]; omega
  generalize quoV a b = Q at *
  clear hT ha h1 h2
  go_enter Tryz.func71, Tryz.ntmps71
  go_wp2_with fail
  refine (HA.out _ HT.out).mono ?_
  rintro e w1 ⟨rfl, hb1⟩
  have HT1 := Lib.hid (tabP_then hb1 HT.out)
  go_wp2_with fail
  refine (HB.out _ HT1.out).mono ?_
  rintro e w2 ⟨rfl, hb2⟩
  have hq := HQ.out w2
  go_wp2
  go_ret2
  exact ⟨rfl, nextB hb1 hb2⟩
theorem fr_drop (a b : Nat) : (bs (fr a b)).extract ((Lib.decDigits a).length + 1) ((Lib.decDigits a).length + 1 + (Lib.decDigits b).length) = bs (Lib.decDigits b) := by
  have h := bs_drop (Lib.decDigits a ++ [47]) (Lib.decDigits b)
  have e1 : Lib.decDigits a ++ [47] ++ Lib.decDigits b = fr a b := by simp [fr]
  have e2 : (Lib.decDigits a ++ [47]).length = (Lib.decDigits a).length + 1 := by simp
  rw [e1, e2, bs_size] at h
  have e3 : (fr a b).length = (Lib.decDigits a).length + 1 + (Lib.decDigits b).length := by simp [fr]; omega
  rwa [e3] at h
set_option maxRecDepth 100000 in
theorem icutG (a b : Nat) (ha : a ≤ 9999) (hb : b ≤ 9999) (w : World) : Calls Tryz.prog 93 #[.string (bs (fr a b)), .string ⟨#[47]⟩] w fun e w' => e = .returned (.tuple #[.string (bs (Lib.decDigits a)), .string (bs (Lib.decDigits b)), .bool true]) ∧ Below w.heap.size w w' := by
  have hi : Lib.indexByte (bs (fr a b)).data.toList 47 = ((Lib.decDigits a).length : Int) := by rw [bs_data]; exact index_at 47 _ _ (no_slash a)
  have HI : Hid (∀ w : World, Calls Tryz.prog 112 #[.string (bs (fr a b)), .string ⟨#[47]⟩] w fun e w' => e = .returned (.int .i64 ((Lib.decDigits a).length : Int)) ∧ w' = w) := Lib.hid (fun w => by have := indexC (bs (fr a b)) 47 w; rwa [hi] at this)
  have hz : (bs (fr a b)).size = (Lib.decDigits a).length + 1 + (Lib.decDigits b).length := by rw [bs_size, fr]; simp; omega
  have E1 : (bs (fr a b)).extract 0 (Lib.decDigits a).length = bs (Lib.decDigits a) := bs_take _ _
  have E2 := fr_drop a b
  have hmax := dec_len ha
  clear hi ha hb
  generalize bs (fr a b) = S at *
  generalize bs (Lib.decDigits a) = A at *
  generalize bs (Lib.decDigits b) = B at *
  generalize (Lib.decDigits a).length = n at *
  generalize (Lib.decDigits b).length = m at *
  have h1 : (n : Int) ≤ (S.size : Int) := by omega
  have h2 : ((n : Int) + 1) ≤ (S.size : Int) := by omega
  have hw : IntKind.i64.wrap ((n : Int) + 1) = (n : Int) + 1 := by rw [IntKind.wrap_i64]; omega
  clear hmax
  go_enter Tryz.func93, Tryz.ntmps93
  go_wp2_with (first
    | (go_at_call 112; refine (HI.out _).mono ?_; rintro e w2 ⟨rfl, rfl⟩))
  go_region
  go_wp2
  go_ret3
  exact ⟨by first | rfl | rw [E2], (Below.refl _ _).drew⟩
theorem cutG (a b : Nat) (ha : a ≤ 9999) (hb : b ≤ 9999) (w : World) : Calls Tryz.prog 70 #[.string (bs (fr a b)), .string ⟨#[47]⟩] w fun e w' => e = .returned (.tuple #[.string (bs (Lib.decDigits a)), .string (bs (Lib.decDigits b)), .bool true]) ∧ Below w.heap.size w w' := by
  have HI := Lib.hid (fun w => icutG a b ha hb w)
  generalize bs (fr a b) = S at *
  generalize bs (Lib.decDigits a) = A at *
  generalize bs (Lib.decDigits b) = B at *
  clear ha hb
  go_enter Tryz.func70, Tryz.ntmps70
  go_wp2_with fail
  refine (HI.out _).mono ?_
  rintro e w2 ⟨rfl, hb⟩
  have HB := Lib.hid hb
  clear hb
  go_wp2
  go_ret3
  exact ⟨rfl, HB.out⟩
theorem speedG (a b : Nat) (ha : a ≤ 9999) (h1 : 1 ≤ b) (h2 : b ≤ 9999) (w : World) (hT : TabP w) :
    Calls Tryz.prog 46 #[.string (bs (fr a b))] w fun e w' => e = .returned (.tuple #[.float .f64 (quoV a b), .int .i64 0]) ∧ Below w.heap.size w w' := by
  have HC := Lib.hid (fun w => cutG a b ha h2 w)
  have HF := Lib.hid (fun w h => fracG a b ha h1 h2 w h)
  have HT := Lib.hid hT
  have e0 : ((bs (fr a b)).toList == [110, 97, 110]) = false := by rw [bs_list]; exact fr_not a b 110 _ (by decide)
  have e1 : ((bs (fr a b)).toList == [105, 110, 102]) = false := by rw [bs_list]; exact fr_not a b 105 _ (by decide)
  have e2 : ((bs (fr a b)).toList == [45, 105, 110, 102]) = false := by rw [bs_list]; exact fr_not a b 45 _ (by decide)
  have e3 : ((bs (fr a b)).toList == [45, 48]) = false := by rw [bs_list]; exact fr_not a b 45 _ (by decide)
  clear ha h1 h2 hT
  generalize bs (fr a b) = S at *
  generalize bs (Lib.decDigits a) = A at *
  generalize bs (Lib.decDigits b) = B at *
  generalize quoV a b = Q at *
  go_enter Tryz.func46, Tryz.ntmps46
  go_wp2_with (first
    | (go_at_call 70; refine (HC.out _).mono ?_; rintro e w2 ⟨rfl, ha⟩; have HA := Lib.hid ha; have HT2 := Lib.hid (tabP_then ha HT.out); clear ha)
    | (go_at_call 71; refine (HF.out _ HT2.out).mono ?_; rintro e w3 ⟨rfl, hb⟩; have HB := Lib.hid hb; clear hb))
  go_ret2
  exact ⟨rfl, nextB HA.out HB.out⟩
set_option maxRecDepth 100000 in
theorem parseG (a b : Nat) (ha : a ≤ 9999) (h1 : 1 ≤ b) (h2 : b ≤ 9999) (w : World) (hT : TabP w) :
    Calls Tryz.prog 16 #[.string (bs (sp a b))] w fun e w' => e = .returned (.tuple #[.agg #[.int .i64 5, .int .u64 0, .float .f64 (quoV a b)], .int .i64 0]) ∧ Below w.heap.size w w' := by
  have HK : Hid (∀ w : World, Calls Tryz.prog 44 #[.string (bs (sp a b)), .string ⟨#[115, 101, 101, 107, 32]⟩] w fun e w' => e = .returned (.tuple #[.string (bs (sp a b)), .bool false]) ∧ w' = w) := Lib.hid (fun w => by
    have h := cutPC (bs (sp a b)) pSeek w
    rw [bs_data, show pSeek.data.toList = [115, 101, 101, 107, 32] from rfl, (sp_seek a b).1, (sp_seek a b).2] at h
    exact h)
  have HP : Hid (∀ w : World, Calls Tryz.prog 44 #[.string (bs (sp a b)), .string ⟨#[115, 112, 101, 101, 100, 32]⟩] w fun e w' => e = .returned (.tuple #[.string (bs (fr a b)), .bool true]) ∧ w' = w) := Lib.hid (fun w => by
    have h := cutPC (bs (sp a b)) pSpeed w
    rw [bs_data, show pSpeed.data.toList = [115, 112, 101, 101, 100, 32] from rfl, (sp_speed a b).1, (sp_speed a b).2] at h
    exact h)
  have HS := Lib.hid (fun w h => speedG a b ha h1 h2 w h)
  have HT := Lib.hid (fun w2 (hb : Below w.heap.size w w2) => tabP_then hb hT)
  have e0 : ((bs (sp a b)).toList == [108, 105, 118, 101]) = false := by rw [bs_list]; exact sp_not a b 108 _ (by decide)
  have e1 : ((bs (sp a b)).toList == [112, 97, 117, 115, 101]) = false := by rw [bs_list]; exact sp_not a b 112 _ (by decide)
  have e2 : ((bs (sp a b)).toList == [112, 108, 97, 121]) = false := by rw [bs_list]; exact sp_not a b 112 _ (by decide)
  have hsf := stF
  clear ha h1 h2 hT
  generalize bs (sp a b) = S at *
  generalize bs (fr a b) = R at *
  generalize quoV a b = Q at *
  have HT2 := Lib.hid (HT.out _ (((Below.refl w.heap.size w).alloc (Nat.le_refl _) (.cells #[.int .i64 0, .int .u64 0, .float .f64 0] 33)).alloc (by simp) (.cells #[.int .i64 5, .int .u64 0, .float .f64 0] 33)))
  go_enter Tryz.func16, Tryz.ntmps16
  go_wp2_with (first
    | (go_at_call 44; with_reducible refine (HK.out _).mono ?_; rintro e w2 ⟨rfl, rfl⟩)
    | (go_at_call 44; with_reducible refine (HP.out _).mono ?_; rintro e w2 ⟨rfl, rfl⟩)
    | fail)
  refine (HS.out _ HT2.out).mono ?_
  rintro e w3 ⟨rfl, hb⟩
  obtain ⟨hA, hB, hw⟩ := two_then hb
  have HW := Lib.hid hw
  clear hb hw
  have a0 : w3.cell? ⟨w.heap.size, 0, none⟩ = some (.int .i64 0) := by simp [World.cell?, hA]
  have a1 : w3.cell? ⟨w.heap.size, 1, none⟩ = some (.int .u64 0) := by simp [World.cell?, hA]
  have a2 : w3.cell? ⟨w.heap.size, 2, none⟩ = some (.float .f64 0) := by simp [World.cell?, hA]
  have b0 : w3.cell? ⟨w.heap.size + 1, 0, none⟩ = some (.int .i64 5) := by simp [World.cell?, hB]
  have b1 : w3.cell? ⟨w.heap.size + 1, 1, none⟩ = some (.int .u64 0) := by simp [World.cell?, hB]
  have b2 : w3.cell? ⟨w.heap.size + 1, 2, none⟩ = some (.float .f64 0) := by simp [World.cell?, hB]
  have fA : ∀ i, w3.frozen? ⟨w.heap.size, i, none⟩ = false := fun i => by simp [World.frozen?, hA]
  have fB : ∀ i, w3.frozen? ⟨w.heap.size + 1, i, none⟩ = false := fun i => by simp [World.frozen?, hB]
  have ne : w.heap.size + 1 ≠ w.heap.size := by omega
  clear hA hB
  go_wp2
  refine bodyPost_ret (v := .tuple #[.agg #[.int .i64 5, .int .u64 0, .float .f64 Q], .int .i64 0]) (by simp [results, Tryz.results16, go_sem, a0, a1, a2]) rfl ⟨rfl, ?_⟩
  exact (((HW.out.setCell (Nat.le_succ _) _).setCell (Nat.le_refl _) _).setCell (Nat.le_refl _) _).setCell (Nat.le_refl _) _
end Go.Proofs.YthihkbnkbajglaaGreatDoor.Pw
