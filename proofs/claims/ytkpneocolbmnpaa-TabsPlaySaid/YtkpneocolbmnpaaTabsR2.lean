/- The document's own stops (tikref6.Stops): contracts of List, Turn, Prev. -/
import Derived.Test.YtkpneocolbmnpaaTabsR
set_option linter.unusedVariables false
namespace Go.Proofs.Ytkpneocolbmnpaa.TabsR
open Go Go.RowKit Kit Ints TabsMath Tabs

theorem own_setB {w : World} {base e n g cap k : Nat} {u : Value} {xs : List Value} (h : w.ownsRow base e 1 (.slice (some ⟨g, 0, none⟩) n cap) n xs) : (w.setCell ⟨g, k, none⟩ u).ownsRow base e 1 (.slice (some ⟨g, 0, none⟩) n cap) n (xs.set k u) := by
  refine ⟨by simpa using h.1, ?_⟩
  rcases h.2 with ⟨hv, _⟩ | ⟨g', cap', cur, hv, hb, hg, hnc, hmx, hcs, htake⟩
  · cases hv
  · injection hv with h1 h2 h3
    injection h1 with h1
    injection h1 with h1
    subst h1 h3
    exact .inr ⟨g, cap, cur.setIfInBounds k u, rfl, hb, by simp [World.setCell, Array.getElem?_modify, hg], hnc, hmx, by simpa using hcs, by rw [← htake]; simp [List.take_set]⟩
/-- what Turn leaves: but for the stops' own block (base and up) all is as it was. -/
def TurnP (w : World) (p base : Nat) (l : List Bool) (col : Int) (v : Bool) (e : Ending) (w' : World) : Prop :=
  e = .returned (.bool (inB l col)) ∧ Sr w' p base (if inB l col then l.set col.toNat v else l) ∧ (∀ B, B ≤ base → Below B w w') ∧ (∃ g cur, base ≤ g ∧ w.heap[g]? = some (.cells cur 4 (0, 0)) ∧ w.grownBy w' (some g))
set_option maxRecDepth 100000 in
theorem turnR (p base : Nat) (l : List Bool) (col : Int) (v : Bool) (w : World) (h : Sr w p base l) (h0 : 0 < l.length) (hl : l.length ≤ 200) : Calls Try.prog 30 #[.pointer (some ⟨p, 0, none⟩), .int .i64 col, .bool v] w (TurnP w p base l col v) := by
  have hr := h
  obtain ⟨g, cap, hp, ho, c0, f0, hcb, hfb, hbg, hgs, hpg, _, hcl, hcm⟩ := h.open_ h0
  have HGG : Hid (∃ cur, w.heap[g]? = some (.cells cur 4 (0, 0))) := Lib.hid (by
    rcases ho.2 with ⟨hv, _⟩ | ⟨g', cap', cur, hv, _, hg, _⟩
    · cases hv
    · injection hv with h1
      injection h1 with h1
      injection h1 with h1
      subst h1
      exact ⟨cur, hg⟩)
  by_cases hc : 0 ≤ col ∧ col < l.length
  · have HI := Lib.hid (show inB l col = true by unfold inB; simpa using hc)
    obtain ⟨i, rfl⟩ := Int.eq_ofNat_of_zero_le hc.1
    have hi : i < l.length := by omega
    have cb := hcb i hi
    have fb := hfb i
    have HS : Hid (Sr (w.setCell ⟨g, i, none⟩ (.bool v)) p base (l.set i v)) := Lib.hid (by
      refine ⟨.slice (some ⟨g, 0, none⟩) l.length cap, (Below.heap_setCell w ⟨g, i, none⟩ (.bool v) p hpg).trans hp, ?_⟩
      have := own_setB (k := i) (u := .bool v) ho
      rw [List.length_set]
      rw [show cellsB (l.set i v) = (cellsB l).set i (.bool v) from by simp [cellsB]]
      exact this)
    clear hcb hfb hr ho hp
    go_enter Try.func30, Try.ntmps30
    go_wp2
    go_ret
    refine ⟨?_, ?_, fun B hB => (Below.refl _ _).setCell (p := ⟨g, i, none⟩) (Nat.le_trans hB hbg) _, g, HGG.out.choose, hbg, HGG.out.choose_spec, grownBy_set w g i _⟩
    · rw [HI.out]; rfl
    · rw [HI.out]; exact HS.out
  · have HI := Lib.hid (show inB l col = false by unfold inB; simpa using hc)
    have HR := Lib.hid hr
    clear hcb hfb hr ho hp
    have hcases : col < 0 ∨ (l.length : Int) ≤ col := by omega
    clear hc
    rcases hcases with hc | hc
    all_goals
      go_enter Try.func30, Try.ntmps30
      go_wp2
      go_ret
      exact ⟨by rw [HI.out]; rfl, by rw [HI.out]; exact HR.out, fun B hB => Below.refl _ _, g, HGG.out.choose, hbg, HGG.out.choose_spec, grownBy_refl _ _⟩
set_option maxRecDepth 100000 in
set_option maxHeartbeats 1000000 in
theorem listR (p base : Nat) (l : List Bool) (w : World) (h : Sr w p base l) (h0 : 0 < l.length) (hl : l.length ≤ 200) : Calls Try.prog 37 #[.pointer (some ⟨p, 0, none⟩)] w (ListP w (stops l)) := by
  obtain ⟨i0, hi, hz0, hz1, hz2⟩ := info_parts info3
  obtain ⟨g, cap, hp, _, c0, _, hcb, _, _, hgs, _, _, hcl, hcm⟩ := h.open_ h0
  have HP := Lib.hid c0
  have HC := Lib.hid hcb
  clear h hcb hp c0
  go_enter Try.func37, Try.ntmps37
  go_wp2
  go_loopw [3, 4] (fun s3 s11 wr => ∃ k : Nat, k ≤ l.length ∧ s11 = .int .i64 (k : Int) ∧ wr.ownsRow w.heap.size 3 1 s3 (stopsU l k).length (cellsI (stopsU l k)) ∧ Below w.heap.size w wr) (fun _ s11 _ => l.length - (intOf s11).toNat)
  case atStart => exact ⟨0, Nat.zero_le _, rfl, World.ownsRow_nil _ _ _ _, Below.refl _ _⟩
  case round =>
    obtain ⟨k, hk, rfl, hown, hb⟩ := hrel
    have c0 := cell_then hb (Nat.le_refl _) HP.out
    by_cases hlt : k < l.length
    · have hc := cell_then hb (Nat.le_refl _) (HC.out k hlt)
      have hlen := stopsU_len l k
      cases hv : l.getD k false
      · rw [hv] at hc
        have hS := Lib.hid (stopsU_no hv)
        clear hv
        go_wp2
        go_roundw
        case rel => exact ⟨k + 1, by omega, by go_num, by rw [hS.out]; exact hown, hb⟩
        case measure => simp [intOf]; omega
      · rw [hv] at hc
        have hS := Lib.hid (stopsU_yes hv)
        clear hv
        go_wp2_with (at_builtin; refine wpList_append_own _ rfl _ _ 34 rfl w.heap.size 3 i0 (.int .i64 0) 1 8 Try.underlying34 hi hz0 hz1 hz2 rfl (by decide) _ _ _ rfl (World.ownsRow.alloc hown _) ⟨wr.heap.size, 0, none⟩ 1 1 [.int .i64 (k : Int)] rfl rfl (cell_one_new _ _ _) (fun x hx => by simp at hx; subst hx; rfl) (by unfold maxLen; omega) (by omega) (by simp only [World.size_alloc]; have := hb.size; omega) ?_; intro v2 w2 hown2 hgrow2 hnil2)
        have hb2 : Below w.heap.size wr w2 := ((Below.refl _ _).alloc hb.size _).grown hgrow2 (by have := hb.size; simp; omega) (fun j hj => (hown.lt j hj).1)
        go_roundw
        case rel =>
          refine ⟨k + 1, by omega, by go_num, ?_, hb.trans hb2⟩
          rw [hS.out, List.length_append, ← cellsI_app]; exact hown2
        case measure => simp [intOf]; omega
    · obtain rfl : k = l.length := by omega
      obtain ⟨a, cap, rfl, hcap, hI, _⟩ := row_any hown
      go_wp2
      go_ret
      exact ⟨a, cap, rfl, hcap, hI, hb⟩
set_option maxRecDepth 100000 in
set_option maxHeartbeats 1000000 in
theorem prevR (p base : Nat) (l : List Bool) (col n : Int) (w : World) (h : Sr w p base l) (h0 : 0 < l.length) (hl : l.length ≤ 200) (hn : n ≤ 9223372036854775807) :
    Calls Try.prog 41 #[.pointer (some ⟨p, 0, none⟩), .int .i64 col, .int .i64 n] w fun e w' => e = .returned (.int .i64 (prevZ l col n)) ∧ w = w' := by
  obtain ⟨g, cap, _, _, c0, _, hcb, _, _, _, _, _, hcl, hcm⟩ := h.open_ h0
  have HC := Lib.hid hcb
  clear hcb h
  obtain ⟨R, hR⟩ : ∃ R : Nat, R = prevG l (clampN col (l.length - 1) - 1) (max n 1).toNat := ⟨_, rfl⟩
  have HR := Lib.hid hR
  rw [show prevZ l col n = (R : Int) from by rw [prevZ_def, hR]]
  clear hR
  have HK : ∃ (k0 : Int) (m0 : Nat), 1 ≤ m0 ∧ (m0 : Int) ≤ 9223372036854775807 ∧ (m0 : Int) = max n 1 ∧ -1 ≤ k0 ∧ k0 < l.length ∧ k0 = min (max col 0) ((l.length : Int) - 1) - 1 ∧ Hid (R = prevG l k0.toNat m0) := by
    refine ⟨(clampN col (l.length - 1) : Int) - 1, (max n 1).toNat, by omega, by omega, by omega, by omega, by unfold clampN; omega, by unfold clampN; omega, ?_⟩
    rw [show ((clampN col (l.length - 1) : Int) - 1).toNat = clampN col (l.length - 1) - 1 by omega]; exact HR
  obtain ⟨k0, m0, hm1, hm2, hm3, hk1, hk2, hk3, HR0⟩ := HK
  clear HR
  have HM := Lib.hid hm3
  have HK := Lib.hid hk3
  clear hm3 hk3
  go_enter Try.func41, Try.ntmps41
  go_wp2
  all_goals
    go_loop [2, 7] (fun s2 s8 => ∃ (m : Nat) (k : Int), 1 ≤ m ∧ (m : Int) ≤ 9223372036854775807 ∧ -1 ≤ k ∧ k < l.length ∧ s2 = .int .i64 (m : Int) ∧ s8 = .int .i64 k ∧ Hid (R = prevG l k.toNat m)) (fun _ s8 => (intOf s8 + 1).toNat)
    case atStart => (have e1 := HM.out; have e2 := HK.out; exact ⟨m0, k0, hm1, hm2, hk1, hk2, by (congr 1; omega), by (congr 1; omega), HR0⟩)
    case round =>
      obtain ⟨m, k, hm1, hm2, hk, hkl, rfl, rfl, hG⟩ := hrel
      by_cases hge : 0 ≤ k
      · obtain ⟨j, rfl⟩ := Int.eq_ofNat_of_zero_le hge
        have hc := HC.out j (by omega)
        rw [Int.toNat_natCast] at hG
        have hto := Lib.hid (show ((j : Int) - 1).toNat = j - 1 by omega)
        by_cases hj : 0 < j
        · cases hv : l.getD j false
          · rw [hv] at hc
            have hG' := Lib.hid (hG.out.trans (prevG_no hj hv))
            clear hG hv
            go_wp2
            go_round
            case rel => exact ⟨m, (j : Int) - 1, hm1, hm2, by omega, by omega, rfl, rfl, by rw [hto.out]; exact hG'⟩
            case measure => (simp [intOf]; try omega)
          · rw [hv] at hc
            by_cases h1 : m = 1
            · subst h1
              have hG' := Lib.hid (hG.out.trans (prevG_one hj hv))
              clear hG hv
              go_wp2
              go_ret
              exact ⟨ret_int (by rw [hG'.out]), rfl⟩
            · have hG' := Lib.hid (hG.out.trans (prevG_yes hj hv (by omega)))
              have hm0 : ((m : Int) - 1 == 0) = false := by simp; omega
              clear hG hv
              go_wp2
              go_round
              case rel => exact ⟨m - 1, (j : Int) - 1, by omega, by omega, by omega, by omega, by (congr 1; omega), rfl, by rw [hto.out]; exact hG'⟩
              case measure => (simp [intOf]; try omega)
        · have hj0 : Hid (j = 0) := Lib.hid (by omega)
          have hG' : Hid (R = 0) := Lib.hid (by rw [hG.out, hj0.out, prevG])
          have HZ : Hid (∀ m', R = prevG l ((j : Int) - 1).toNat m') := Lib.hid (fun m' => by rw [hto.out, hG'.out, hj0.out, prevG])
          clear hG hj
          cases hv : l.getD j false
          · rw [hv] at hc
            clear hv
            go_wp2
            go_round
            case rel => exact ⟨m, (j : Int) - 1, hm1, hm2, by omega, by omega, rfl, rfl, Lib.hid (HZ.out m)⟩
            case measure => (simp [intOf]; try omega)
          · rw [hv] at hc
            clear hv
            by_cases h1 : m = 1
            · subst h1
              go_wp2
              go_ret
              exact ⟨ret_int (by rw [hG'.out, hj0.out]), rfl⟩
            · have hm0 : ((m : Int) - 1 == 0) = false := by simp; omega
              go_wp2
              go_round
              case rel => exact ⟨m - 1, (j : Int) - 1, by omega, by omega, by omega, by omega, by (congr 1; omega), rfl, Lib.hid (HZ.out (m - 1))⟩
              case measure => (simp [intOf]; try omega)
      · have hs : k.toNat = 0 := by omega
        rw [hs] at hG
        have hG' := Lib.hid (hG.out.trans (by rw [prevG]))
        clear hG hs
        go_wp2
        go_ret
        exact ⟨ret_int (by rw [hG'.out]; rfl), rfl⟩
end Go.Proofs.Ytkpneocolbmnpaa.TabsR
