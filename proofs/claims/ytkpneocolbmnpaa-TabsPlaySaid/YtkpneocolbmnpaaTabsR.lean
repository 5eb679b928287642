/- The document's own stops (tikref6.Stops): contracts of Turn, List, Next, Prev. -/
import Derived.Test.YtkpneocolbmnpaaTabs4
set_option linter.unusedVariables false
namespace Go.Proofs.Ytkpneocolbmnpaa.TabsR
open Go Go.RowKit Kit Ints TabsMath Tabs

def cellsB (l : List Bool) : List Value := l.map Value.bool
/-- the document's stops at p: a row of its own. -/
def Sr (w : World) (p base : Nat) (l : List Bool) : Prop :=
  ∃ v, w.heap[p]? = some (.cells #[v] 56 (0, 0)) ∧ w.ownsRow base 4 1 v l.length (cellsB l)
theorem Sr.open_ {w : World} {p base : Nat} {l : List Bool} (h : Sr w p base l) (h0 : 0 < l.length) :
    ∃ g cap, w.heap[p]? = some (.cells #[.slice (some ⟨g, 0, none⟩) l.length cap] 56 (0, 0)) ∧ w.ownsRow base 4 1 (.slice (some ⟨g, 0, none⟩) l.length cap) l.length (cellsB l) ∧
      w.cell? ⟨p, 0, none⟩ = some (.slice (some ⟨g, 0, none⟩) l.length cap) ∧ w.frozen? ⟨p, 0, none⟩ = false ∧ (∀ i, i < l.length → w.cell? ⟨g, i, none⟩ = some (.bool (l.getD i false))) ∧
      (∀ i, w.frozen? ⟨g, i, none⟩ = false) ∧ base ≤ g ∧ g < w.heap.size ∧ p ≠ g ∧ p < w.heap.size ∧ l.length ≤ cap ∧ cap ≤ 9223372036854775807 := by
  obtain ⟨v, hp, ho⟩ := h
  have ho' := ho
  rcases ho.2 with ⟨_, hn⟩ | ⟨g, cap, cur, rfl, hb, hg, hnc, hmx, hcs, htake⟩
  · omega
  · refine ⟨g, cap, hp, ho, by simp [World.cell?, hp], by simp [World.frozen?, hp], ?_, fun i => by simp [World.frozen?, hg], hb, lt_of_block hg, ?_, lt_of_block hp, hnc, by unfold maxLen at hmx; omega⟩
    · intro i hi
      have := ho'.cells (g := g) rfl i (.bool (l.getD i false)) (by simp [cellsB, hi])
      have hadd : (⟨g, 0, none⟩ : Addr).add i = ⟨g, i, none⟩ := by unfold Addr.add; split <;> simp_all
      rw [hadd] at this; exact this
    · rintro rfl
      rw [hp] at hg
      injection hg with hg
      injection hg with h1 h2 h3
      cases h2
theorem Sr.then_ {w w' : World} {p base : Nat} {l : List Bool} (h : Sr w p base l) (hb : Below w.heap.size w w') : Sr w' p base l := by
  obtain ⟨v, hp, hn, ho⟩ := h
  refine ⟨v, (hb.block p (lt_of_block hp)).trans hp, hn, ?_⟩
  rcases ho with h2 | ⟨g, cap, cur, hv, hg, hh, r⟩
  · exact .inl h2
  · exact .inr ⟨g, cap, cur, hv, hg, (hb.block g (lt_of_block hh)).trans hh, r⟩
set_option maxRecDepth 100000 in
set_option maxHeartbeats 1000000 in
theorem nextR (p base : Nat) (l : List Bool) (col n : Int) (w : World) (h : Sr w p base l) (h0 : 0 < l.length) (hl : l.length ≤ 200) (hn : n ≤ 9223372036854775807) :
    Calls Try.prog 39 #[.pointer (some ⟨p, 0, none⟩), .int .i64 col, .int .i64 n] w fun e w' => e = .returned (.int .i64 (nextZ l col n)) ∧ w = w' := by
  obtain ⟨g, cap, _, _, c0, _, hcb, _, _, _, _, _, hcl, hcm⟩ := h.open_ h0
  have HC := Lib.hid hcb
  clear hcb h
  obtain ⟨R, hR⟩ : ∃ R : Nat, R = nextG l (l.length - 1) (l.length - 1 - (clampN col (l.length - 1) + 1)) (max n 1).toNat (clampN col (l.length - 1) + 1) := ⟨_, rfl⟩
  have HR := Lib.hid hR
  rw [show nextZ l col n = (R : Int) from by rw [nextZ_def, hR]]
  clear hR
  have HK : ∃ k0 m0 : Nat, 1 ≤ m0 ∧ (m0 : Int) ≤ 9223372036854775807 ∧ (m0 : Int) = max n 1 ∧ 1 ≤ k0 ∧ k0 ≤ l.length ∧ (k0 : Int) = min (max col 0) ((l.length : Int) - 1) + 1 ∧ Hid (R = nextG l (l.length - 1) (l.length - 1 - k0) m0 k0) := by
    refine ⟨clampN col (l.length - 1) + 1, (max n 1).toNat, by omega, by omega, by omega, by omega, by unfold clampN; omega, by unfold clampN; omega, HR⟩
  obtain ⟨k0, m0, hm1, hm2, hm3, hk1, hk2, hk3, HR0⟩ := HK
  clear HR
  have HM := Lib.hid hm3
  have HK := Lib.hid hk3
  clear hm3 hk3
  go_enter Try.func39, Try.ntmps39
  go_wp2
  all_goals
    go_loop [2, 7] (fun s2 s8 => ∃ m k : Nat, 1 ≤ m ∧ (m : Int) ≤ 9223372036854775807 ∧ k ≤ l.length ∧ s2 = .int .i64 (m : Int) ∧ s8 = .int .i64 (k : Int) ∧ Hid (R = nextG l (l.length - 1) (l.length - 1 - k) m k)) (fun _ s8 => l.length - (intOf s8).toNat)
    case atStart => (have e1 := HM.out; have e2 := HK.out; exact ⟨m0, k0, hm1, hm2, hk2, by (congr 1; omega), by (congr 1; omega), HR0⟩)
    case round =>
      obtain ⟨m, k, hm1, hm2, hk, rfl, rfl, hG⟩ := hrel
      by_cases hlt : k < l.length
      · have hc := HC.out k hlt
        by_cases hlast : k = l.length - 1
        · have hs : l.length - 1 - k = 0 := by omega
          rw [hs] at hG
          have hG' := Lib.hid (hG.out.trans (by rw [nextG]))
          clear hG hs
          have HZ : Hid (∀ m', R = nextG l (l.length - 1) (l.length - 1 - (k + 1)) m' (k + 1)) := Lib.hid (fun m' => by rw [hG'.out, show l.length - 1 - (k + 1) = 0 by omega, nextG])
          have HLa := Lib.hid hlast
          clear hlast
          cases hv : l.getD k false
          · rw [hv] at hc
            clear hv
            go_wp2
            go_round
            case rel => exact ⟨m, k + 1, hm1, hm2, by omega, rfl, by go_num, Lib.hid (HZ.out m)⟩
            case measure => simp [intOf]; omega
          · rw [hv] at hc
            clear hv
            by_cases h1 : m = 1
            · subst h1
              go_wp2
              go_ret
              exact ⟨ret_int (by rw [hG'.out, ← HLa.out]), rfl⟩
            · have hm0 : ((m : Int) - 1 == 0) = false := by simp; omega
              go_wp2
              go_round
              case rel => exact ⟨m - 1, k + 1, by omega, by omega, by omega, by (congr 1; omega), by go_num, Lib.hid (HZ.out (m - 1))⟩
              case measure => simp [intOf]; omega
        · have hs : l.length - 1 - k = (l.length - 1 - (k + 1)) + 1 := by omega
          rw [hs] at hG
          cases hv : l.getD k false
          · rw [hv] at hc
            have hG' := Lib.hid (hG.out.trans (nextG_no hv))
            clear hG hv hs
            go_wp2
            go_round
            case rel => exact ⟨m, k + 1, hm1, hm2, by omega, rfl, by go_num, hG'⟩
            case measure => simp [intOf]; omega
          · rw [hv] at hc
            by_cases h1 : m = 1
            · subst h1
              have hG' := Lib.hid (hG.out.trans (nextG_one hv))
              clear hG hv hs
              go_wp2
              go_ret
              exact ⟨ret_int (by rw [hG'.out]), rfl⟩
            · have hG' := Lib.hid (hG.out.trans (nextG_yes hv (by omega)))
              have hm0 : ((m : Int) - 1 == 0) = false := by simp; omega
              clear hG hv hs
              go_wp2
              go_round
              case rel => exact ⟨m - 1, k + 1, by omega, by omega, by omega, by (congr 1; omega), by go_num, hG'⟩
              case measure => simp [intOf]; omega
      · have hs : l.length - 1 - k = 0 := by omega
        rw [hs] at hG
        have hG' := Lib.hid (hG.out.trans (by rw [nextG]))
        clear hG hs
        go_wp2
        go_ret
        exact ⟨ret_int (by rw [hG'.out]; omega), rfl⟩
end Go.Proofs.Ytkpneocolbmnpaa.TabsR
