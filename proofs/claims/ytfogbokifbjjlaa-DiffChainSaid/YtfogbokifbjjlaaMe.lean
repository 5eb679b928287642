/- tikref.Cells: are cells alike? -/
import Derived.Test.YtfogbokifbjjlaaMd
set_option linter.unusedVariables false
namespace Go.Proofs.Ytfogbokifbjjlaa.Me
open Go Go.RowKit Kit Gm Gv Sa Sb La

/-- cells that a slice of any kind shows. -/
def Scn (w : World) (a : Option Addr) (n : Nat) (L : List Ce) : Prop := n = 0 ∨ ∃ b off, a = some ⟨b, off, none⟩ ∧ Sc w b off L
theorem Scn.then_ {w w1 : World} {B : Nat} {a : Option Addr} {n : Nat} {L : List Ce} (h : Scn w a n L) (hb : Below B w w1) (hB : w.heap.size ≤ B) : Scn w1 a n L := by
  rcases h with h | ⟨b, off, e, h⟩
  · exact .inl h
  · exact .inr ⟨b, off, e, h.then_ hb hB⟩
set_option maxRecDepth 100000 in
set_option maxHeartbeats 4000000 in
theorem cellsEq (a1 a2 : Option Addr) (n1 n2 c1 c2 : Nat) (L1 L2 : List Ce) (w : World) (e1 : n1 = L1.length) (e2 : n2 = L2.length) (h1 : Scn w a1 n1 L1) (h2 : Scn w a2 n2 L2) (m1 : n1 ≤ 1000000) :
    Calls Try.prog 25 #[.slice a1 n1 c1, .slice a2 n2 c2] w fun e w' => e = .returned (.bool (decide (L1 = L2))) ∧ ∃ k, w.drewN k = w' := by
  have HN1 := Lib.hid e1
  have HN2 := Lib.hid e2
  by_cases hne : n1 = n2
  · subst hne
    have H1 := Lib.hid (fun m => (show Scn (w.drewN m) a1 n1 L1 from h1))
    have H2 := Lib.hid (fun m => (show Scn (w.drewN m) a2 n1 L2 from h2))
    clear h1 h2 e1 e2
    go_enter Try.func25, Try.ntmps25
    go_wp2
    go_loopw [5] (fun s5 wr => ∃ k : Nat, k ≤ n1 ∧ s5 = .int .i64 k ∧ Hid (L1.take k = L2.take k) ∧ ∃ m, wr = w.drewN m) (fun s5 _ => n1 - (intOf s5).toNat)
    case atStart => exact ⟨0, Nat.zero_le _, rfl, Lib.hid rfl, 0, rfl⟩
    case round =>
      obtain ⟨k, hk, rfl, HT, m, rfl⟩ := hrel
      by_cases hlt : k < n1
      · have hk1 : k < L1.length := by rw [← HN1.out]; exact hlt
        have hk2 : k < L2.length := by rw [← HN2.out]; exact hlt
        obtain ⟨b1, o1, rfl, H1s⟩ : ∃ b off, a1 = some ⟨b, off, none⟩ ∧ Sc (w.drewN m) b off L1 := by
          rcases H1.out m with h | h
          · omega
          · exact h
        obtain ⟨b2, o2, rfl, H2s⟩ : ∃ b off, a2 = some ⟨b, off, none⟩ ∧ Sc (w.drewN m) b off L2 := by
          rcases H2.out m with h | h
          · omega
          · exact h
        obtain ⟨x0, x1, x2, x3, x4⟩ := H1s.at_ k _ (List.getElem?_eq_getElem hk1)
        obtain ⟨y0, y1, y2, y3, y4⟩ := H2s.at_ k _ (List.getElem?_eq_getElem hk2)
        have HA := Lib.hid (show L1.take (k + 1) = L1.take k ++ [L1[k]] by rw [List.take_add_one, List.getElem?_eq_getElem hk1]; rfl)
        have HB := Lib.hid (show L2.take (k + 1) = L2.take k ++ [L2[k]] by rw [List.take_add_one, List.getElem?_eq_getElem hk2]; rfl)
        have HC := Lib.hid (show L1[k] ≠ L2[k] → ¬ L1 = L2 from fun hn he => hn (by subst he; rfl))
        generalize L1[k] = c at *
        generalize L2[k] = d at *
        clear hk1 hk2 H1s H2s
        have HKk := Lib.hid (show k + 1 ≤ n1 ∧ n1 - (k + 1) < n1 - k by omega)
        have hkI : (k : Int) < (n1 : Int) := by omega
        have hw1 : IntKind.i64.wrap ((k : Int) + 1) = (k : Int) + 1 := IntWalk.i64_in _ (by omega)
        generalize hwr : w.drewN m = wr at *
        have HW := Lib.hid hwr
        clear hwr
        by_cases hcd : c = d
        · subst hcd
          go_wp2
          go_quiet (fail)
          go_wp2
          exact ⟨⟨k + 1, HKk.out.1, by go_num, Lib.hid (by rw [HA.out, HB.out, HT.out]), m + nq, by rw [← HW.out, World.drewN_drewN]⟩, by simp only [intOf]; exact HKk.out.2⟩
        · have HF := Lib.hid (HC.out hcd)
          have hne := ce_ne hcd
          obtain ⟨cr, cfl, cfg, cbg, cwd⟩ := c
          obtain ⟨dr, dfl, dfg, dbg, dwd⟩ := d
          dsimp only at x0 x1 x2 x3 x4 y0 y1 y2 y3 y4 hne
          clear hcd
          rcases hne with e | e | e | e | e
          all_goals
            go_wp2
            go_quiet (fail)
            go_wp2
            go_ret
            exact ⟨ret_bool (decide_eq_false HF.out).symm, m + nq, by rw [← HW.out, World.drewN_drewN]⟩
      · obtain rfl : k = n1 := by omega
        have HE := Lib.hid (show L1 = L2 by have := HT.out; rwa [HN1.out, List.take_length, ← HN1.out, HN2.out, List.take_length] at this)
        clear hk hlt
        go_wp2
        go_ret
        exact ⟨ret_bool (decide_eq_true HE.out).symm, m, rfl⟩
  · have HF := Lib.hid (show ¬ L1 = L2 from fun he => hne (by rw [e1, e2, he]))
    have hbn : ((n1 : Int) != (n2 : Int)) = true := by rw [bne_iff_ne]; omega
    clear h1 h2 e1 e2 hne
    go_enter Try.func25, Try.ntmps25
    go_wp2
    go_ret
    exact ⟨ret_bool (decide_eq_false HF.out).symm, 0, rfl⟩
end Go.Proofs.Ytfogbokifbjjlaa.Me
