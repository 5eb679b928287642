/- The document's Cells: two rows that hold the same. -/
import Derived.Test.YtfdjmlncdbpkgaaXs
set_option linter.unusedVariables false
namespace Go.Proofs.Ytfdjmlncdbpkgaa.Xt
open Go Go.RowKit Kit Gm Gv Fl Me Cp Sl Gg Gh Gp Gq Gk Xa Xb Xm

set_option maxRecDepth 100000 in
set_option maxHeartbeats 1000000 in
theorem cellsSame (a b n cap1 cap2 : Nat) (L : List Ce) (w : World) (hn : n = L.length) (ha : CS w a L) (hb : CS w b L) (h1 : n ≤ cap1) (h2 : n ≤ cap2) (hm : n ≤ 1000000) :
    Calls Try.prog 17 #[.slice (some ⟨a, 0, none⟩) n cap1, .slice (some ⟨b, 0, none⟩) n cap2] w fun e w' => e = .returned (.bool true) ∧ ∃ k, w.drewN k = w' := by
  have HN := Lib.hid hn
  have HA := Lib.hid ha
  have HB := Lib.hid hb
  clear hn ha hb
  go_enter Try.func17, Try.ntmps17
  go_wp2
  go_loopw [5] (fun s5 wr => ∃ k : Nat, k ≤ n ∧ s5 = .int .i64 k ∧ ∃ m, wr = w.drewN m) (fun s5 _ => n - (intOf s5).toNat)
  case atStart => exact ⟨0, Nat.zero_le _, rfl, 0, rfl⟩
  case round =>
    obtain ⟨k, hk, rfl, m, rfl⟩ := hrel
    by_cases hlt : k < n
    · have hlt2 : k < L.length := by rw [← HN.out]; exact hlt
      obtain ⟨c, hc⟩ : ∃ c, L[k]? = some c := ⟨_, List.getElem?_eq_getElem hlt2⟩
      obtain ⟨x0, x1, x2, x3, x4⟩ := cs_fives (w := w.drewN m) HA.out k c hc
      obtain ⟨y0, y1, y2, y3, y4⟩ := cs_fives (w := w.drewN m) HB.out k c hc
      generalize hwr : w.drewN m = wr at *
      have HW := Lib.hid hwr
      clear hwr hc hlt2
      go_wp2
      go_quiet (fail)
      go_wp2
      exact ⟨⟨k + 1, by omega, by go_num, m + nq, by rw [← HW.out, World.drewN_drewN]⟩, by simp only [intOf]; omega⟩
    · obtain rfl : k = n := by omega
      go_wp2
      go_ret
      exact ⟨rfl, _, rfl⟩
end Go.Proofs.Ytfdjmlncdbpkgaa.Xt
