/- mac.Tag. -/
import Derived.Test.YtmfkfpgomglplaaDoorHm
import Derived.Test.YtmfkfpgomglplaaDoorMm
set_option linter.unusedVariables false
namespace Go.Proofs.YtmfkfpgomglplaaDoor.Tg
open Go Go.RowKit Kit Mb Sha Ap Mc1 Sc Mx Sb Pd Su Pa Hm Mm


/-- what Tag answers. -/
def TgP (key l : List Nat) (w : World) (e : Ending) (w' : World) : Prop := ∃ v, e = .returned v ∧ Rb w' w.heap.size v (tagL key l) ∧ Below w.heap.size w w'
theorem tgP_mk {key l : List Nat} {w w' : World} {v : Value} (h : Rb w' w.heap.size v (tagL key l)) (hb : Below w.heap.size w w') : TgP key l w (.returned v) w' := ⟨v, rfl, h, hb⟩
theorem sl_at {w : World} {a : Option Addr} {l : List Nat} (h : Sl w a l) (hl : 0 < l.length) : ∃ b off, a = some ⟨b, off, none⟩ ∧ Cells w b off l := by
  rcases h with rfl | h
  · simp at hl
  · exact h
theorem sl_take {w : World} {b off : Nat} {l : List Nat} (h : Cells w b off l) (n : Nat) (m : List Nat) (hm : m = l.take n) : Sl w (some ⟨b, off, none⟩) m := by
  subst hm
  refine .inr ⟨b, off, rfl, fun i hi => ?_⟩
  have hi2 : i < l.length := by simp at hi; omega
  rw [h i hi2]; simp
set_option maxRecDepth 100000 in
theorem tagC (a : Option Addr) (cap : Nat) (l : List Nat) (pa : Option Addr) (pcap : Nat) (ps : List Part) (w : World) (hs : Sl w a l) (h0 : a = none → cap = 0) (hcap : l.length ≤ cap) (hl : ∀ c ∈ l, c < 256) (hlen : l.length ≤ 800000)
    (hps : Pts w pa ps) (hpl : ps.length ≤ 1000000) (hcat : (catP ps).length ≤ 800000) (hT : TabR w) (hB : TabB w) :
    Calls Tryd.prog 20 #[.slice a l.length cap, .slice pa ps.length pcap] w (TgP l (catP ps) w) := by
  have KH := Lib.hid (hmacC a cap l pa pcap ps w hs h0 hcap hl hlen hps hpl hcat hT hB)
  obtain ⟨H, hH⟩ : ∃ H, H = hmac l (catP ps) := ⟨_, rfl⟩
  have HH := Lib.hid hH
  have HL := Lib.hid (show H.length = 32 by rw [hH]; exact hmac_len _ _)
  obtain ⟨T, hT2⟩ : ∃ T, T = tagL l (catP ps) := ⟨_, rfl⟩
  have HTT := Lib.hid (show T = H.take 16 by rw [hT2, hH]; rfl)
  have HTL := Lib.hid (show T.length = 16 by rw [hT2]; exact tagL_len _ _)
  have HT2 := Lib.hid hT2
  clear hs h0 hcap hl hlen hps hpl hcat hT hB hH hT2
  go_enter Tryd.func20, Tryd.ntmps20
  go_wp2_with (first
    | (go_at_call 18; refine KH.out.mono ?_; rintro e w1 ⟨v1, rfl, o1, b1⟩; rw [← HH.out] at o1; obtain ⟨ha, hc, rfl, hcp, hsl, hn0, hx⟩ := rb_sl o1; obtain ⟨hb, ho, rfl, hcl⟩ := sl_at hsl (by rw [HL.out]; omega); have HST := Lib.hid (sl_take hcl 16 T HTT.out); have h16 : (16 : Int) ≤ (hc : Int) := (by rw [HL.out] at hcp; omega); have hc0 : ¬ hc = 0 := (by omega); have HB1 := Lib.hid b1; clear o1 b1 hcp hsl hn0 hx hcl)
    | (at_builtin; refine app_sl rfl _ _ rfl w.heap.size _ [] rfl (rb_nil _ _) (some ⟨hb, ho, none⟩) 16 hc T rfl HTL.out.symm (fun h => by cases h) HST.out (by have := HTL.out; simp; omega) HB1.out.size ?_; intro v2 w2 o2 b2; have q2 := b2 _ _ (Nat.le_refl _) HB1.out))
  have O2 := Lib.hid o2
  have Q2 := Lib.hid q2
  clear o2 b2 q2
  go_ret
  exact tgP_mk (by rw [← HT2.out]; exact O2.out) Q2.out

end Go.Proofs.YtmfkfpgomglplaaDoor.Tg
