/- KeyRuns: every argument. -/
import Derived.Test.YtkhmjneaidmppaaMf
set_option linter.unusedVariables false
namespace Go.Proofs.Ytkhmjneaidmppaa.Mg
open Go Go.RowKit Kit Gm Gv Sa Sb Ld Me Mf

set_option maxRecDepth 100000 in
set_option maxHeartbeats 4000000 in
theorem longR (a : Option Addr) (n cap : Nat) (b : Option Addr) (m cap2 : Nat) (W : World) (h : 500 < n ∨ 500 < m) :
    Calls Try.prog 6 #[.slice a n cap, .slice b m cap2] W fun e w' => e = .returned (.bool true) ∧ Below W.heap.size W w' := by
  have hc : (500 : Int) < (n : Int) ∨ (¬ (500 : Int) < (n : Int) ∧ (500 : Int) < (m : Int)) := by omega
  clear h
  rcases hc with h1 | ⟨h1, h2⟩
  all_goals go_enter Try.func6, Try.ntmps6
  all_goals go_wp2_with (first
    | (go_at_call 8; (with_reducible refine (firstC W).mono ?_); rintro e w1 ⟨rfl, hb⟩; have HB1 := Lib.hid hb; clear hb)
    | (go_at_call 8; (with_reducible refine (firstC w1).mono ?_); rintro e w2 ⟨rfl, hb⟩; have HB2 := Lib.hid (below_then HB1.out hb HB1.out.size); clear hb))
  all_goals go_ret
  all_goals exact ⟨rfl, HB2.out⟩
/-- KeyRuns. -/
theorem walk (a : Option Addr) (n cap : Nat) (L : List Ce) (b : Option Addr) (m cap2 : Nat) (zs : List Int) (W : World) (h : Sp.IsCells W a n cap L) (h2 : IsRow .u8 W b m cap2 zs) :
    Calls Try.prog 6 #[.slice a n cap, .slice b m cap2] W fun e w' => e = .returned (.bool true) ∧ Below W.heap.size W w' := by
  by_cases hs : 500 < n ∨ 500 < m
  · exact longR a n cap b m cap2 W hs
  · obtain ⟨hc, _, hn, hS, _⟩ := h
    obtain ⟨M, hm, hM, h8, h0, _⟩ := row_nats h2
    exact mainR a n cap L b m cap2 M W hn hc hS hm.symm hM h8 h0 (by omega) (by omega)
end Go.Proofs.Ytkhmjneaidmppaa.Mg
