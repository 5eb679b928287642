/- mac.schedule. -/
import Derived.Test.YtmfkfpgomglplaaDoorMc1
import Derived.Laws.CopyOwn
import Derived.RegionTactic
import Derived.ChangeAlike
import Derived.BigRegion
set_option linter.unusedVariables false
namespace Go.Proofs.YtmfkfpgomglplaaDoor.Sc
open Go Go.RowKit Kit Mb Sha Mc1


/-- the words of a schedule so far: k of them, then noughts. -/
def wl (m : List Nat) (k : Nat) : List Int := (List.range 64).map fun i => if i < k then wd m i else 0
def rowW (l : List Int) : Array Value := (l.map (Value.int .u32)).toArray
theorem wl_len (m : List Nat) (k : Nat) : (wl m k).length = 64 := by simp [wl]
theorem wl_at (m : List Nat) (k i : Nat) (h : i < 64) : (wl m k).getD i 0 = if i < k then wd m i else 0 := by
  rw [List.getD_eq_getElem?_getD]; simp [wl, h]
theorem wl_set (m : List Nat) (k : Nat) (h : k < 64) : (wl m k).set k (wd m k) = wl m (k + 1) := by
  apply List.ext_getElem
  · simp [wl]
  · intro i h1 h2
    simp only [wl, List.getElem_set, List.getElem_map, List.getElem_range]
    split
    · rename_i e; subst e; rw [if_pos (by omega)]
    · rename_i e
      by_cases hk : i < k
      · rw [if_pos hk, if_pos (by omega)]
      · rw [if_neg hk, if_neg (by omega)]
theorem rowW_size (l : List Int) : (rowW l).size = l.length := by simp [rowW]
theorem rowW_at (l : List Int) (i : Nat) (h : i < l.length) : (rowW l)[i]? = some (.int .u32 (l.getD i 0)) := by
  rw [List.getD_eq_getElem?_getD]; simp [rowW, h]
theorem rowW_set (l : List Int) (i : Nat) (x : Int) : (rowW l).setIfInBounds i (.int .u32 x) = rowW (l.set i x) := by
  simp [rowW, List.map_set]
/-- a block of words. -/
def Wb (w : World) (g : Nat) (t : TypeId) (l : List Int) : Prop := w.heap[g]? = some (.cells (rowW l) t (0, 0))
theorem Wb.cell {w : World} {g : Nat} {t : TypeId} {l : List Int} (h : Wb w g t l) (i : Nat) (hi : i < l.length) : w.cell? ⟨g, i, none⟩ = some (.int .u32 (l.getD i 0)) := by
  rw [cell_of_row w g i _ t _ h, rowW_at l i hi]
theorem Wb.free {w : World} {g : Nat} {t : TypeId} {l : List Int} (h : Wb w g t l) (i : Nat) : w.frozen? ⟨g, i, none⟩ = false := frozen_of_row w g i _ t h
theorem Wb.set {w : World} {g : Nat} {t : TypeId} {l : List Int} (h : Wb w g t l) (i : Nat) (x : Int) : Wb (w.setCell ⟨g, i, none⟩ (.int .u32 x)) g t (l.set i x) := by
  unfold Wb; rw [heap_setCell_same w g i _ t _ h, rowW_set]
theorem Wb.other {w : World} {g b i : Nat} {t : TypeId} {l : List Int} {v : Value} (h : Wb w g t l) (hb : g ≠ b) : Wb (w.setCell ⟨b, i, none⟩ v) g t l := by
  unfold Wb; rw [heap_setCell_other w _ _ _ hb]; exact h
theorem nw_is (a x c y : Int) : nw a x c y = (a + bits .xor .u32 (bits .xor .u32 (turnW x 7) (turnW x 18)) (x / 8) + c + bits .xor .u32 (bits .xor .u32 (turnW y 17) (turnW y 19)) (y / 1024)) % 4294967296 := rfl
theorem rowW_one (l : List Int) : (rowW l).all (·.oneCell') = true := by
  rw [Array.all_eq_true_iff_forall_mem]
  intro v hv
  simp only [rowW, List.mem_toArray, List.mem_map] at hv
  obtain ⟨x, _, rfl⟩ := hv
  rfl
/-- what the loops keep. -/
def Rl (w : World) (m : List Nat) (k : Nat) (wr : World) : Prop := Wb wr (w.heap.size + 1) 94 (wl m k) ∧ Wb wr w.heap.size 94 (wl m 0) ∧ Below w.heap.size w wr
theorem wl_zero (m : List Nat) : rowW (wl m 0) = rowW (List.replicate 64 0) := by
  congr 1
set_option maxRecDepth 100000 in
set_option maxHeartbeats 1000000 in
theorem scheduleC (b off cap : Nat) (m : List Nat) (w : World) (hl : ∀ c ∈ m, c < 256) (hm : m.length = 64) (hc : Cells w b off m) (hcap : 64 ≤ cap) :
    Calls Tryd.prog 58 #[.slice (some ⟨b, off, none⟩) 64 cap] w fun e w' => e = .returned (.agg (rowW (wl m 64))) ∧ Below w.heap.size w w' := by
  have hbl : b < w.heap.size := World.block_lt_of_cell? w _ (hc 0 (by omega))
  have HL := Lib.hid hl
  have HC := Lib.hid hc
  have HM := Lib.hid hm
  clear hl hc hm
  go_enter Tryd.func58, Tryd.ntmps58
  go_wp2
  go_loopw [11] (fun s11 wr => ∃ k : Nat, k ≤ 16 ∧ s11 = .int .i64 (k : Int) ∧ Rl w m k wr) (fun s11 _ => 16 - (intOf s11).toNat)
  case atStart =>
    refine ⟨0, by omega, rfl, ?_, ?_, ?_⟩
    · show ((w.heap.push _).push _)[w.heap.size + 1]? = _
      rw [wl_zero, Array.getElem?_push, if_pos (by simp)]; rfl
    · show ((w.heap.push _).push _)[w.heap.size]? = _
      rw [wl_zero, Array.getElem?_push, if_neg (by simp), Array.getElem?_push, if_pos rfl]; rfl
    · exact ((Below.refl _ _).alloc (Nat.le_refl _) _).alloc (by simp) _
  case round =>
    obtain ⟨k, hk, rfl, hR⟩ := hrel
    by_cases hlt : k < 16
    · have cm : ∀ j, j < 64 → wr.cell? ⟨b, off + j, none⟩ = some (.int .u8 ((m.getD j 0 : Nat) : Int)) := by
        intro j hj
        have := HC.out j (by rw [HM.out]; exact hj)
        rw [List.getD_eq_getElem?_getD, List.getElem?_eq_getElem (by rw [HM.out]; exact hj)]
        exact (hR.2.2.cell (p := ⟨b, off + j, none⟩) hbl).trans this
      have bm : ∀ j, m.getD j 0 < 256 := by
        intro j
        rw [List.getD_eq_getElem?_getD]
        cases h : m[j]? with
        | none => decide
        | some v => exact HL.out v (List.mem_of_getElem? h)
      have c0 : wr.cell? ⟨b, off + 4 * k, none⟩ = some (.int .u8 ((m.getD (4 * k) 0 : Nat) : Int)) := cm (4 * k) (by omega)
      have c1 : wr.cell? ⟨b, off + 4 * k + 1, none⟩ = some (.int .u8 ((m.getD (4 * k + 1) 0 : Nat) : Int)) := by have := cm (4 * k + 1) (by omega); rwa [← Nat.add_assoc] at this
      have c2 : wr.cell? ⟨b, off + 4 * k + 2, none⟩ = some (.int .u8 ((m.getD (4 * k + 2) 0 : Nat) : Int)) := by have := cm (4 * k + 2) (by omega); rwa [← Nat.add_assoc] at this
      have c3 : wr.cell? ⟨b, off + 4 * k + 3, none⟩ = some (.int .u8 ((m.getD (4 * k + 3) 0 : Nat) : Int)) := by have := cm (4 * k + 3) (by omega); rwa [← Nat.add_assoc] at this
      have cw : wr.cell? ⟨w.heap.size + 1, k, none⟩ = some (.int .u32 ((wl m k).getD k 0)) := hR.1.cell k (by rw [wl_len]; omega)
      have fw1 : wr.frozen? ⟨w.heap.size + 1, k, none⟩ = false := hR.1.free k
      have l0 := bm (4 * k)
      have l1 := bm (4 * k + 1)
      have l2 := bm (4 * k + 2)
      have l3 := bm (4 * k + 3)
      have hwd : wd m k = ((((m.getD (4 * k) 0 * 256 + m.getD (4 * k + 1) 0) * 256 + m.getD (4 * k + 2) 0) * 256 + m.getD (4 * k + 3) 0 : Nat) : Int) := wd_lo m k hlt
      clear cm bm
      generalize m.getD (4 * k) 0 = x0 at *
      generalize m.getD (4 * k + 1) 0 = x1 at *
      generalize m.getD (4 * k + 2) 0 = x2 at *
      generalize m.getD (4 * k + 3) 0 = x3 at *
      have e0 : (x0 : Int) * 16777216 % 4294967296 = (x0 : Int) * 16777216 := by omega
      have e1 : (x1 : Int) * 65536 % 4294967296 = (x1 : Int) * 65536 := by omega
      have e2 : (x2 : Int) * 256 % 4294967296 = (x2 : Int) * 256 := by omega
      have e3 : (x3 : Int) % 4294967296 = (x3 : Int) := by omega
      have E := four x0 x1 x2 x3 l0 l1 l2 l3
      rw [← hwd] at E
      have nR : Hid (Rl w m (k + 1) (wr.setCell ⟨w.heap.size + 1, k, none⟩ (.int .u32 (wd m k))).drew) := Lib.hid (by
        have h1 := hR.1.set k (wd m k)
        rw [wl_set m k (by omega)] at h1
        refine ⟨h1, hR.2.1.other (by omega), ?_⟩
        exact (hR.2.2.setCell (p := ⟨w.heap.size + 1, k, none⟩) (by simp) (.int .u32 (wd m k))).drew)
      clear hR hwd l0 l1 l2 l3
      generalize wd m k = X at *
      generalize (wl m k).getD k 0 = Y at *
      have el : 4 * k + 4 - 4 * k = 4 := by omega
      go_wp2
      go_region
      go_wp2
      go_roundw
      case rel => exact ⟨k + 1, by omega, by go_num, nR.out⟩
      case measure => simp [intOf]; omega
    · have k16 : k = 16 := by omega
      have HR := Lib.hid (show Rl w m 16 wr by rw [← k16]; exact hR)
      have kge : ¬ (k : Int) < 16 := by omega
      obtain ⟨k0, hk0⟩ : ∃ k0 : Nat, k0 = k := ⟨_, rfl⟩
      subst hk0
      clear hR k16
      go_wp2
      obtain ⟨wo, rfl⟩ : ∃ wo : World, wo = wr := ⟨_, rfl⟩
      go_loopw [6] (fun s6 wr => ∃ k : Nat, 16 ≤ k ∧ k ≤ 64 ∧ s6 = .int .i64 (k : Int) ∧ Rl w m k wr) (fun s6 _ => 64 - (intOf s6).toNat)
      case atStart => exact ⟨16, by omega, by omega, rfl, HR.out⟩
      case round =>
        obtain ⟨k, hk0, hk, rfl, hR⟩ := hrel
        by_cases hlt : k < 64
        · have cm : ∀ j, j < k → wr.cell? ⟨w.heap.size + 1, j, none⟩ = some (.int .u32 (wd m j)) := by
            intro j hj
            rw [hR.1.cell j (by rw [wl_len]; omega), wl_at m k j (by omega), if_pos hj]
          have c15 := cm (k - 15) (by omega)
          have c2 := cm (k - 2) (by omega)
          have c16 := cm (k - 16) (by omega)
          have c7 := cm (k - 7) (by omega)
          have cw : wr.cell? ⟨w.heap.size + 1, k, none⟩ = some (.int .u32 ((wl m k).getD k 0)) := hR.1.cell k (by rw [wl_len]; omega)
          have fw1 : wr.frozen? ⟨w.heap.size + 1, k, none⟩ = false := hR.1.free k
          have hwd : wd m k = nw (wd m (k - 16)) (wd m (k - 15)) (wd m (k - 7)) (wd m (k - 2)) := by
            have := wd_hi m (k - 16)
            rw [show k - 16 + 16 = k by omega, show k - 16 + 1 = k - 15 by omega, show k - 16 + 9 = k - 7 by omega, show k - 16 + 14 = k - 2 by omega] at this
            exact this
          have nR : Hid (Rl w m (k + 1) (wr.setCell ⟨w.heap.size + 1, k, none⟩ (.int .u32 (wd m k))).drew.drew) := Lib.hid (by
            have h1 := hR.1.set k (wd m k)
            rw [wl_set m k (by omega)] at h1
            refine ⟨h1, hR.2.1.other (by omega), ?_⟩
            exact (hR.2.2.setCell (p := ⟨w.heap.size + 1, k, none⟩) (by simp) (.int .u32 (wd m k))).drew.drew)
          clear hR cm
          generalize wd m k = X at *
          generalize (wl m k).getD k 0 = Y at *
          generalize wd m (k - 15) = a at *
          generalize wd m (k - 2) = b2 at *
          generalize wd m (k - 16) = c at *
          generalize wd m (k - 7) = d at *
          have i15 : ((k : Int) - 15).toNat = k - 15 := by omega
          have i2 : ((k : Int) - 2).toNat = k - 2 := by omega
          have i16 : ((k : Int) - 16).toNat = k - 16 := by omega
          have i7 : ((k : Int) - 7).toNat = k - 7 := by omega
          go_wp2
          go_region
          go_wp2_with (go_at_call 59; refine (rotM _ _ (by decide) _).mono ?_; rintro e w' ⟨rfl, rfl⟩)
          rw [nw_is] at hwd
          generalize bits .xor .u32 (bits .xor .u32 (turnW a 7) (turnW a 18)) (a / 8) = S9 at *
          generalize bits .xor .u32 (bits .xor .u32 (turnW b2 17) (turnW b2 19)) (b2 / 1024) = S10 at *
          have hwd2 := hwd.symm
          clear hwd
          go_region
          go_wp2
          go_roundw
          case rel => exact ⟨k + 1, by omega, by omega, by go_num, nR.out⟩
          case measure => simp [intOf]; omega
        · obtain rfl : k = 64 := by omega
          have hs : (Tryd.prog.info? 94).map (·.size) = some (rowW (wl m 64)).size := by rw [rowW_size, wl_len]; kernel_rfl
          have hold : (rowW (wl m 0)).size = (rowW (wl m 64)).size := by rw [rowW_size, rowW_size, wl_len, wl_len]
          have A1 := hR.1
          have A2 := hR.2.1
          have A3 := Lib.hid hR.2.2
          have h1 := rowW_one (wl m 64)
          clear hR HR
          unfold Wb at A1 A2
          generalize hRR : rowW (wl m 64) = R at *
          have HRR := Lib.hid hRR
          clear hRR
          go_wp2_with (first | (refine wpList_load_row rfl 94 (.tmp 3) rfl (w.heap.size + 1) rfl 94 _ (0, 0) _ A1 Tryd.underlying94 rfl hs ?_) | (refine wpList_plain rfl fun _ hK => wp_store_row 94 (.tmp 2) (.tmp 89) rfl w.heap.size R rfl rfl 94 _ A2 hs hold h1 (hK _ _ ?_)))
          have A4 := A3.out
          refine bodyPost_ret (v := .agg R) (results_cell_row (fn := Tryd.f58) rfl _ _ w.heap.size 94 R (0, 0) _ rfl (setRow_heap wr w.heap.size _ R 94 _ A2) Tryd.underlying94 rfl hs) rfl ⟨by rw [HRR.out], below_setRow A4 (Nat.le_refl _) _⟩

end Go.Proofs.YtmfkfpgomglplaaDoor.Sc
