/- The words of the chapter's examples. -/
import Derived.Test.YthihkbnkbajglaaGreatDoorLy
import Derived.Test.YthihkbnkbajglaaGreatDoorRate0
import Derived.Lib.AppendIntMem
import Derived.Lib.AtoiErrMem
set_option linter.unusedVariables false
namespace Go.Proofs.YthihkbnkbajglaaGreatDoor.Fi
open Go Go.RowKit Kit Ly

theorem nextB {w W W1 : World} (h : Below w.heap.size w W) (k : Below W.heap.size W W1) : Below w.heap.size w W1 := below_then h k h.size
set_option maxRecDepth 100000 in
theorem shortC (s : ByteArray) (n : Nat) (h : Lib.atoi s.data.toList = some (n : Int)) (hn : n < 100) (hs : s.size ≤ 4) (hd : (⟨(Lib.decDigits n).toArray⟩ : ByteArray) = s) (w : World) :
    Calls Tryz.prog 94 #[.string s] w fun e w' => e = .returned (.tuple #[.int .i64 (n : Int), .bool true]) ∧ Below w.heap.size w w' := by
  have HA := Lib.hid (atoiC s (n : Int) (by omega) h w)
  have b1 : ((n : Int) < 0) = False := by simp
  have b2 : decide ((n : Int) < 0) = false := by simp
  have b3 : decide ((4 : Int) < (s.size : Int)) = false := decide_eq_false (by omega)
  have HI : Hid (∀ w : World, Calls Tryz.prog 114 #[.int .i64 (n : Int)] w fun e w' => e = .returned (.string s) ∧ w' = w) := Lib.hid (fun w => by have := itoaC n hn w; rwa [hd] at this)
  clear h hd
  go_enter Tryz.func94, Tryz.ntmps94
  go_wp2_with fail
  refine HA.out.mono ?_
  rintro e w1 ⟨rfl, t, rfl⟩
  have HB := Lib.hid (Lib.bytesWorld_below w 5 t)
  generalize Lib.bytesWorld w 5 t = w1 at *
  go_wp2_with (first
    | (go_at_call 114; refine (HI.out _).mono ?_; rintro e w2 ⟨rfl, rfl⟩))
  all_goals go_ret2
  all_goals exact ⟨rfl, HB.out⟩
def l3 : ByteArray := ⟨#[51]⟩
def l2 : ByteArray := ⟨#[50]⟩
def l0 : ByteArray := ⟨#[48]⟩
theorem short3 (w : World) : Calls Tryz.prog 94 #[.string l3] w fun e w' => e = .returned (.tuple #[.int .i64 3, .bool true]) ∧ Below w.heap.size w w' := shortC l3 3 (by decide) (by decide) (by decide) (by kernel_rfl) w
theorem short2 (w : World) : Calls Tryz.prog 94 #[.string l2] w fun e w' => e = .returned (.tuple #[.int .i64 2, .bool true]) ∧ Below w.heap.size w w' := shortC l2 2 (by decide) (by decide) (by decide) (by kernel_rfl) w
theorem short0 (w : World) : Calls Tryz.prog 94 #[.string l0] w fun e w' => e = .returned (.tuple #[.int .i64 0, .bool true]) ∧ Below w.heap.size w w' := shortC l0 0 (by decide) (by decide) (by decide) (by kernel_rfl) w
theorem quo32 (w : World) : (binOp .quo 31 (.float .f64 (floatOfInt .f64 3)) (.float .f64 (floatOfInt .f64 2))).run Tryz.prog w = .ok (.float .f64 4609434218613702656) w := run_float_arith (P := Tryz.prog) w .quo 31 .f64 _ _ 4609434218613702656 (by decide +kernel)
theorem frac32 (w : World) : Calls Tryz.prog 71 #[.string l3, .string l2] w fun e w' => e = .returned (.tuple #[.float .f64 4609434218613702656, .int .i64 0]) ∧ Below w.heap.size w w' := by
  have H3 := Lib.hid short3
  have H2 := Lib.hid short2
  go_enter Tryz.func71, Tryz.ntmps71
  go_wp2_with fail
  refine (H3.out _).mono ?_
  rintro e w1 ⟨rfl, hb1⟩
  go_wp2_with fail
  refine (H2.out _).mono ?_
  rintro e w2 ⟨rfl, hb2⟩
  have hq := quo32 w2
  go_wp2
  go_ret2
  exact ⟨rfl, nextB hb1 hb2⟩
theorem frac30 (w : World) : Calls Tryz.prog 71 #[.string l3, .string l0] w fun e w' => e = .returned (.tuple #[.float .f64 0, .int .i64 1]) ∧ Below w.heap.size w w' := by
  have H3 := Lib.hid short3
  have H0 := Lib.hid short0
  go_enter Tryz.func71, Tryz.ntmps71
  go_wp2_with fail
  refine (H3.out _).mono ?_
  rintro e w1 ⟨rfl, hb1⟩
  go_wp2_with fail
  refine (H0.out _).mono ?_
  rintro e w2 ⟨rfl, hb2⟩
  go_wp2
  go_ret2
  exact ⟨rfl, nextB hb1 hb2⟩
def l32 : ByteArray := ⟨#[51, 47, 50]⟩
def l30 : ByteArray := ⟨#[51, 47, 48]⟩
set_option maxRecDepth 100000 in
theorem icut32 (w : World) : Calls Tryz.prog 93 #[.string l32, .string ⟨#[47]⟩] w fun e w' => e = .returned (.tuple #[.string l3, .string l2, .bool true]) ∧ Below w.heap.size w w' := by
  have HI : Hid (∀ w : World, Calls Tryz.prog 112 #[.string l32, .string ⟨#[47]⟩] w fun e w' => e = .returned (.int .i64 1) ∧ w' = w) := Lib.hid (fun w => by have := indexC l32 47 w; rwa [show Lib.indexByte l32.data.toList 47 = 1 from by decide] at this)
  have h1 : (1 : Int) ≤ (l32.size : Int) := by decide
  have h2 : (2 : Int) ≤ (l32.size : Int) := by decide
  go_enter Tryz.func93, Tryz.ntmps93
  go_wp2_with (first
    | (go_at_call 112; refine (HI.out _).mono ?_; rintro e w2 ⟨rfl, rfl⟩))
  go_region
  go_wp2
  go_ret3
  exact ⟨rfl, (Below.refl _ _).drew⟩
theorem cut32 (w : World) : Calls Tryz.prog 70 #[.string l32, .string ⟨#[47]⟩] w fun e w' => e = .returned (.tuple #[.string l3, .string l2, .bool true]) ∧ Below w.heap.size w w' := by
  have HI := Lib.hid icut32
  go_enter Tryz.func70, Tryz.ntmps70
  go_wp2_with (first
    | (go_at_call 93; refine (HI.out _).mono ?_; rintro e w2 ⟨rfl, hb⟩; have HB := Lib.hid hb; clear hb))
  go_ret3
  exact ⟨rfl, HB.out⟩
set_option maxRecDepth 100000 in
theorem icut30 (w : World) : Calls Tryz.prog 93 #[.string l30, .string ⟨#[47]⟩] w fun e w' => e = .returned (.tuple #[.string l3, .string l0, .bool true]) ∧ Below w.heap.size w w' := by
  have HI : Hid (∀ w : World, Calls Tryz.prog 112 #[.string l30, .string ⟨#[47]⟩] w fun e w' => e = .returned (.int .i64 1) ∧ w' = w) := Lib.hid (fun w => by have := indexC l30 47 w; rwa [show Lib.indexByte l30.data.toList 47 = 1 from by decide] at this)
  have h1 : (1 : Int) ≤ (l30.size : Int) := by decide
  have h2 : (2 : Int) ≤ (l30.size : Int) := by decide
  go_enter Tryz.func93, Tryz.ntmps93
  go_wp2_with (first
    | (go_at_call 112; refine (HI.out _).mono ?_; rintro e w2 ⟨rfl, rfl⟩))
  go_region
  go_wp2
  go_ret3
  exact ⟨rfl, (Below.refl _ _).drew⟩
theorem cut30 (w : World) : Calls Tryz.prog 70 #[.string l30, .string ⟨#[47]⟩] w fun e w' => e = .returned (.tuple #[.string l3, .string l0, .bool true]) ∧ Below w.heap.size w w' := by
  have HI := Lib.hid icut30
  go_enter Tryz.func70, Tryz.ntmps70
  go_wp2_with (first
    | (go_at_call 93; refine (HI.out _).mono ?_; rintro e w2 ⟨rfl, hb⟩; have HB := Lib.hid hb; clear hb))
  go_ret3
  exact ⟨rfl, HB.out⟩
theorem speed32 (w : World) : Calls Tryz.prog 46 #[.string l32] w fun e w' => e = .returned (.tuple #[.float .f64 4609434218613702656, .int .i64 0]) ∧ Below w.heap.size w w' := by
  have HC := Lib.hid cut32
  have HF := Lib.hid frac32
  have e0 : (l32.toList == [110, 97, 110]) = false := by decide +kernel
  have e1 : (l32.toList == [105, 110, 102]) = false := by decide +kernel
  have e2 : (l32.toList == [45, 105, 110, 102]) = false := by decide +kernel
  have e3 : (l32.toList == [45, 48]) = false := by decide +kernel
  go_enter Tryz.func46, Tryz.ntmps46
  go_wp2_with (first
    | (go_at_call 70; refine (HC.out _).mono ?_; rintro e w2 ⟨rfl, ha⟩; have HA := Lib.hid ha; clear ha)
    | (go_at_call 71; refine (HF.out _).mono ?_; rintro e w3 ⟨rfl, hb⟩; have HB := Lib.hid hb; clear hb))
  go_ret2
  exact ⟨rfl, nextB HA.out HB.out⟩
theorem speed30 (w : World) : Calls Tryz.prog 46 #[.string l30] w fun e w' => e = .returned (.tuple #[.float .f64 0, .int .i64 1]) ∧ Below w.heap.size w w' := by
  have HC := Lib.hid cut30
  have HF := Lib.hid frac30
  have e0 : (l30.toList == [110, 97, 110]) = false := by decide +kernel
  have e1 : (l30.toList == [105, 110, 102]) = false := by decide +kernel
  have e2 : (l30.toList == [45, 105, 110, 102]) = false := by decide +kernel
  have e3 : (l30.toList == [45, 48]) = false := by decide +kernel
  go_enter Tryz.func46, Tryz.ntmps46
  go_wp2_with (first
    | (go_at_call 70; refine (HC.out _).mono ?_; rintro e w2 ⟨rfl, ha⟩; have HA := Lib.hid ha; clear ha)
    | (go_at_call 71; refine (HF.out _).mono ?_; rintro e w3 ⟨rfl, hb⟩; have HB := Lib.hid hb; clear hb))
  go_ret2
  exact ⟨rfl, nextB HA.out HB.out⟩
theorem stF (a : Addr) (m : Mode) (w : World) (b : Nat) : (store a (.float .f64 b) m).run Tryz.prog w = stored Tryz.prog w a (.float .f64 b) m := run_store Tryz.prog w a _ m rfl
theorem two_then {w w3 : World} {o1 o2 : Obj} (hb : Below ((w.alloc o1).alloc o2).heap.size ((w.alloc o1).alloc o2) w3) :
    w3.heap[w.heap.size]? = some o1 ∧ w3.heap[w.heap.size + 1]? = some o2 ∧ Below w.heap.size w w3 := by
  have z1 : (w.alloc o1).heap.size = w.heap.size + 1 := by simp
  have z2 : ((w.alloc o1).alloc o2).heap.size = w.heap.size + 1 + 1 := by simp
  refine ⟨(hb.block _ (by omega)).trans ((((Below.refl (w.alloc o1).heap.size (w.alloc o1)).alloc (Nat.le_refl _) o2).block w.heap.size (by omega)).trans (heap_alloc_new w o1)), (hb.block _ (by omega)).trans (by rw [← z1]; exact heap_alloc_new (w.alloc o1) o2), ?_⟩
  exact below_then (((Below.refl w.heap.size w).alloc (Nat.le_refl _) o1).alloc (by omega) o2) hb (by omega)
def s32 : ByteArray := ⟨#[115, 112, 101, 101, 100, 32, 51, 47, 50]⟩
def s30 : ByteArray := ⟨#[115, 112, 101, 101, 100, 32, 51, 47, 48]⟩
def pSeek : ByteArray := ⟨#[115, 101, 101, 107, 32]⟩
def pSpeed : ByteArray := ⟨#[115, 112, 101, 101, 100, 32]⟩
set_option maxRecDepth 100000 in
theorem parse32 (w : World) : Calls Tryz.prog 16 #[.string s32] w fun e w' => e = .returned (.tuple #[.agg #[.int .i64 5, .int .u64 0, .float .f64 4609434218613702656], .int .i64 0]) ∧ Below w.heap.size w w' := by
  have HK : Hid (∀ w : World, Calls Tryz.prog 44 #[.string s32, .string ⟨#[115, 101, 101, 107, 32]⟩] w fun e w' => e = .returned (.tuple #[.string s32, .bool false]) ∧ w' = w) := Lib.hid (fun w => cutPC s32 pSeek w)
  have HP : Hid (∀ w : World, Calls Tryz.prog 44 #[.string s32, .string ⟨#[115, 112, 101, 101, 100, 32]⟩] w fun e w' => e = .returned (.tuple #[.string l32, .bool true]) ∧ w' = w) := Lib.hid (fun w => cutPC s32 pSpeed w)
  have HS := Lib.hid speed32
  have e0 : (s32.toList == [108, 105, 118, 101]) = false := by decide +kernel
  have e1 : (s32.toList == [112, 97, 117, 115, 101]) = false := by decide +kernel
  have e2 : (s32.toList == [112, 108, 97, 121]) = false := by decide +kernel
  have hsf := stF
  go_enter Tryz.func16, Tryz.ntmps16
  go_wp2_with (first
    | (go_at_call 44; with_reducible refine (HK.out _).mono ?_; rintro e w2 ⟨rfl, rfl⟩)
    | (go_at_call 44; with_reducible refine (HP.out _).mono ?_; rintro e w2 ⟨rfl, rfl⟩)
    | fail)
  refine (HS.out _).mono ?_
  rintro e w3 ⟨rfl, hb⟩
  obtain ⟨hA, hB, hw⟩ := two_then hb
  have HW := Lib.hid hw
  clear hb hw
  have a0 : w3.cell? ⟨w.heap.size, 0, none⟩ = some (.int .i64 0) := by simp [World.cell?, hA]
  have a1 : w3.cell? ⟨w.heap.size, 1, none⟩ = some (.int .u64 0) := by simp [World.cell?, hA]
  have a2 : w3.cell? ⟨w.heap.size, 2, none⟩ = some (.float .f64 0) := by simp [World.cell?, hA]
  have b0 : w3.cell? ⟨w.heap.size + 1, 0, none⟩ = some (.int .i64 5) := by simp [World.cell?, hB]
  have b1 : w3.cell? ⟨w.heap.size + 1, 1, none⟩ = some (.int .u64 0) := by simp [World.cell?, hB]
  have b2 : w3.cell? ⟨w.heap.size + 1, 2, none⟩ = some (.float .f64 0) := by simp [World.cell?, hB]
  have fA : ∀ i, w3.frozen? ⟨w.heap.size, i, none⟩ = false := fun i => by simp [World.frozen?, hA]
  have fB : ∀ i, w3.frozen? ⟨w.heap.size + 1, i, none⟩ = false := fun i => by simp [World.frozen?, hB]
  have ne : w.heap.size + 1 ≠ w.heap.size := by omega
  clear hA hB
  go_wp2
  refine bodyPost_ret (v := .tuple #[.agg #[.int .i64 5, .int .u64 0, .float .f64 4609434218613702656], .int .i64 0]) (by simp [results, Tryz.results16, go_sem, a0, a1, a2]) rfl ⟨rfl, ?_⟩
  exact (((HW.out.setCell (Nat.le_succ _) _).setCell (Nat.le_refl _) _).setCell (Nat.le_refl _) _).setCell (Nat.le_refl _) _
set_option maxRecDepth 100000 in
theorem parse30 (w : World) : Calls Tryz.prog 16 #[.string s30] w fun e w' => e = .returned (.tuple #[.agg #[.int .i64 0, .int .u64 0, .float .f64 0], .int .i64 1]) ∧ Below w.heap.size w w' := by
  have HK : Hid (∀ w : World, Calls Tryz.prog 44 #[.string s30, .string ⟨#[115, 101, 101, 107, 32]⟩] w fun e w' => e = .returned (.tuple #[.string s30, .bool false]) ∧ w' = w) := Lib.hid (fun w => cutPC s30 pSeek w)
  have HP : Hid (∀ w : World, Calls Tryz.prog 44 #[.string s30, .string ⟨#[115, 112, 101, 101, 100, 32]⟩] w fun e w' => e = .returned (.tuple #[.string l30, .bool true]) ∧ w' = w) := Lib.hid (fun w => cutPC s30 pSpeed w)
  have HS := Lib.hid speed30
  have e0 : (s30.toList == [108, 105, 118, 101]) = false := by decide +kernel
  have e1 : (s30.toList == [112, 97, 117, 115, 101]) = false := by decide +kernel
  have e2 : (s30.toList == [112, 108, 97, 121]) = false := by decide +kernel
  have hsf := stF
  go_enter Tryz.func16, Tryz.ntmps16
  go_wp2_with (first
    | (go_at_call 44; with_reducible refine (HK.out _).mono ?_; rintro e w2 ⟨rfl, rfl⟩)
    | (go_at_call 44; with_reducible refine (HP.out _).mono ?_; rintro e w2 ⟨rfl, rfl⟩)
    | fail)
  refine (HS.out _).mono ?_
  rintro e w3 ⟨rfl, hb⟩
  obtain ⟨hA, hB, hw⟩ := two_then hb
  have HW := Lib.hid hw
  clear hb hw
  have a0 : w3.cell? ⟨w.heap.size, 0, none⟩ = some (.int .i64 0) := by simp [World.cell?, hA]
  have a1 : w3.cell? ⟨w.heap.size, 1, none⟩ = some (.int .u64 0) := by simp [World.cell?, hA]
  have a2 : w3.cell? ⟨w.heap.size, 2, none⟩ = some (.float .f64 0) := by simp [World.cell?, hA]
  have b0 : w3.cell? ⟨w.heap.size + 1, 0, none⟩ = some (.int .i64 5) := by simp [World.cell?, hB]
  have b1 : w3.cell? ⟨w.heap.size + 1, 1, none⟩ = some (.int .u64 0) := by simp [World.cell?, hB]
  have b2 : w3.cell? ⟨w.heap.size + 1, 2, none⟩ = some (.float .f64 0) := by simp [World.cell?, hB]
  have fA : ∀ i, w3.frozen? ⟨w.heap.size, i, none⟩ = false := fun i => by simp [World.frozen?, hA]
  have fB : ∀ i, w3.frozen? ⟨w.heap.size + 1, i, none⟩ = false := fun i => by simp [World.frozen?, hB]
  have ne : w.heap.size + 1 ≠ w.heap.size := by omega
  clear hA hB
  go_wp2
  refine bodyPost_ret (v := .tuple #[.agg #[.int .i64 0, .int .u64 0, .float .f64 0], .int .i64 1]) (by simp [results, Tryz.results16, go_sem, a0, a1, a2]) rfl ⟨rfl, ?_⟩
  exact (((HW.out.setCell (Nat.le_succ _) _).setCell (Nat.le_refl _) _).setCell (Nat.le_refl _) _).setCell (Nat.le_refl _) _

end Go.Proofs.YthihkbnkbajglaaGreatDoor.Fi
