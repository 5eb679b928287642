/- The chapter's examples. -/
import Derived.Test.YtmfkfpgomglplaaDoorTg
set_option linter.unusedVariables false
namespace Go.Proofs.YtmfkfpgomglplaaDoor.Mf
open Go Go.RowKit Kit Mb Sha Ap Mc1 Sc Mx Sb Pd Su Pa Hm Mm Tg


def jL : List Nat := [74, 101, 102, 101]
def p1L : List Nat := [119, 104, 97, 116, 32, 100, 111, 32, 121, 97, 32, 119, 97, 110, 116, 32]
def p2L : List Nat := [102, 111, 114, 32, 110, 111, 116, 104, 105, 110, 103, 63]
theorem sl_lit {w : World} {n : Nat} {cs : Array Value} {l : List Nat} {t : TypeId} {fr : Nat × Nat} (hn : n = w.heap.size) (hcs : cs = (cellsOf l).toArray) : Sl (w.alloc (.cells cs t fr)) (some ⟨n, 0, none⟩) l := by
  subst hn hcs
  refine .inr ⟨_, 0, rfl, fun i hi => ?_⟩
  rw [Nat.zero_add, World.cell?_alloc_mark]
  simp [cellsOf, hi]
theorem catP2 (a b : Option Addr) (c d : Nat) (l m : List Nat) : catP [⟨a, c, l⟩, ⟨b, d, m⟩] = l ++ m := by simp [catP]
theorem args_ok (W : World) :
    Sl ((((W.alloc (.cells #[.int .u8 74, .int .u8 101, .int .u8 102, .int .u8 101] 5 (4, 5))).alloc (.cells #[.int .u8 119, .int .u8 104, .int .u8 97, .int .u8 116, .int .u8 32, .int .u8 100, .int .u8 111, .int .u8 32, .int .u8 121, .int .u8 97, .int .u8 32, .int .u8 119, .int .u8 97, .int .u8 110, .int .u8 116, .int .u8 32] 5 (16, 17))).alloc (.cells #[.int .u8 102, .int .u8 111, .int .u8 114, .int .u8 32, .int .u8 110, .int .u8 111, .int .u8 116, .int .u8 104, .int .u8 105, .int .u8 110, .int .u8 103, .int .u8 63] 5 (12, 13))).alloc (.cells #[.slice (some ⟨W.heap.size + 1, 0, none⟩) 16 16, .slice (some ⟨W.heap.size + 1 + 1, 0, none⟩) 12 12] 22)) (some ⟨W.heap.size, 0, none⟩) jL ∧
    Pts ((((W.alloc (.cells #[.int .u8 74, .int .u8 101, .int .u8 102, .int .u8 101] 5 (4, 5))).alloc (.cells #[.int .u8 119, .int .u8 104, .int .u8 97, .int .u8 116, .int .u8 32, .int .u8 100, .int .u8 111, .int .u8 32, .int .u8 121, .int .u8 97, .int .u8 32, .int .u8 119, .int .u8 97, .int .u8 110, .int .u8 116, .int .u8 32] 5 (16, 17))).alloc (.cells #[.int .u8 102, .int .u8 111, .int .u8 114, .int .u8 32, .int .u8 110, .int .u8 111, .int .u8 116, .int .u8 104, .int .u8 105, .int .u8 110, .int .u8 103, .int .u8 63] 5 (12, 13))).alloc (.cells #[.slice (some ⟨W.heap.size + 1, 0, none⟩) 16 16, .slice (some ⟨W.heap.size + 1 + 1, 0, none⟩) 12 12] 22)) (some ⟨W.heap.size + 1 + 1 + 1, 0, none⟩) [⟨some ⟨W.heap.size + 1, 0, none⟩, 16, p1L⟩, ⟨some ⟨W.heap.size + 1 + 1, 0, none⟩, 12, p2L⟩] := by
  refine ⟨sl_alloc (sl_alloc (sl_alloc (sl_lit rfl rfl) _) _) _, .inr ⟨_, 0, rfl, fun i hi => ?_⟩, fun p hp => ?_⟩
  · have hz : W.heap.size + 1 + 1 + 1 = (((W.alloc (.cells #[.int .u8 74, .int .u8 101, .int .u8 102, .int .u8 101] 5 (4, 5))).alloc (.cells #[.int .u8 119, .int .u8 104, .int .u8 97, .int .u8 116, .int .u8 32, .int .u8 100, .int .u8 111, .int .u8 32, .int .u8 121, .int .u8 97, .int .u8 32, .int .u8 119, .int .u8 97, .int .u8 110, .int .u8 116, .int .u8 32] 5 (16, 17))).alloc (.cells #[.int .u8 102, .int .u8 111, .int .u8 114, .int .u8 32, .int .u8 110, .int .u8 111, .int .u8 116, .int .u8 104, .int .u8 105, .int .u8 110, .int .u8 103, .int .u8 63] 5 (12, 13))).heap.size := by simp
    rw [Nat.zero_add, hz, cell_of_row _ _ i _ 22 (0, 0) (heap_alloc_last _ _)]
    have : i = 0 ∨ i = 1 := by simp at hi; omega
    rcases this with rfl | rfl <;> rfl
  · simp only [List.mem_cons, List.not_mem_nil, or_false] at hp
    rcases hp with rfl | rfl
    · exact ⟨sl_alloc (sl_alloc (sl_lit (by simp) rfl) _) _, (fun h => by cases h), by show p1L.length ≤ 16; decide, by show ∀ c ∈ p1L, c < 256; decide⟩
    · exact ⟨sl_alloc (sl_lit (by simp) rfl) _, (fun h => by cases h), by show p2L.length ≤ 12; decide, by show ∀ c ∈ p2L, c < 256; decide⟩
set_option maxRecDepth 100000 in
theorem s0_front : (sha []).take 4 = [227, 176, 196, 66] := by decide +kernel
set_option maxRecDepth 100000 in
theorem h0_front : (hmac jL (p1L ++ p2L)).take 4 = [91, 220, 193, 70] := by decide +kernel
theorem s0_h0 : sha [] ≠ hmac jL (p1L ++ p2L) := fun h => by
  have := s0_front; rw [h, h0_front] at this; exact absurd this (by decide)
theorem bytesD (a1 a2 : Option Addr) (c1 c2 n1 n2 : Nat) (l1 l2 : List Nat) (w : World) (r : Bool) (e1 : n1 = l1.length) (e2 : n2 = l2.length) (h1 : Sl w a1 l1) (h2 : Sl w a2 l2) (m1 : ∀ c ∈ l1, c < 256) (m2 : ∀ c ∈ l2, c < 256) (hr : r = decide (l1 = l2)) :
    Calls Tryd.prog 15 #[.slice a1 n1 c1, .slice a2 n2 c2] w fun e w' => e = .returned (.bool r) ∧ w = w' := by
  subst e1 e2 hr; exact bytesC a1 a2 c1 c2 l1 l2 w h1 h2 m1 m2
theorem equalD (a1 a2 : Option Addr) (c1 c2 : Nat) (l1 l2 : List Nat) (w : World) (r : Bool) (h1 : Sl w a1 l1) (h2 : Sl w a2 l2) (m1 : ∀ c ∈ l1, c < 256) (m2 : ∀ c ∈ l2, c < 256) (hz : l1.length ≤ 9223372036854775000) (hr : r = decide (l1 = l2)) :
    Calls Tryd.prog 22 #[.slice a1 l1.length c1, .slice a2 l2.length c2] w fun e w' => e = .returned (.bool r) ∧ Below w.heap.size w w' := by
  subst hr; exact equalC a1 a2 c1 c2 l1 l2 w h1 h2 m1 m2 hz
theorem below_next2 {w W W1 : World} (h : Below w.heap.size w W) (k : Below W.heap.size W W1) : Below w.heap.size w W1 := below_then h k h.size
set_option maxRecDepth 100000 in
set_option maxHeartbeats 1000000 in
theorem first (w : World) (hT : TabR w) (hB : TabB w) : Calls Tryd.prog 13 #[] w fun e w' => e = .returned (.bool true) ∧ Below w.heap.size w w' := by
  have HT := Lib.hid hT
  have HB := Lib.hid hB
  obtain ⟨S, hS⟩ : ∃ S, S = sha [] := ⟨_, rfl⟩
  obtain ⟨H, hH⟩ : ∃ H, H = hmac jL (p1L ++ p2L) := ⟨_, rfl⟩
  have HSL := Lib.hid (show S.length = 32 by rw [hS]; exact sha_len _)
  have HHL := Lib.hid (show H.length = 32 by rw [hH]; exact hmac_len _ _)
  have HSX := Lib.hid (show ∀ c ∈ S, c < 256 by rw [hS]; exact sha_lt _)
  have HHX := Lib.hid (show ∀ c ∈ H, c < 256 by rw [hH]; exact hmac_lt _ _)
  have HSF := Lib.hid (show [227, 176, 196, 66] = S.take 4 by rw [hS]; exact s0_front.symm)
  have HHF := Lib.hid (show [91, 220, 193, 70] = H.take 4 by rw [hH]; exact h0_front.symm)
  have HNE := Lib.hid (show S ≠ H by rw [hS, hH]; exact s0_h0)
  have t1 : ((S.length : Int) == 32) = true := by rw [beq_iff_eq]; have := HSL.out; omega
  have t2 : ((H.length : Int) == 32) = true := by rw [beq_iff_eq]; have := HHL.out; omega
  have HS := Lib.hid hS
  have HH := Lib.hid hH
  clear hT hB hS hH
  have kc := fun (w : World) (C : Array Value) (n c g : Nat) (hg : g = w.heap.size) => Go.Joins.run_convert_bytes_const_at (P := Tryd.prog) w 22 5 C n c g hg Tryd.underlying22 Tryd.underlying5
  go_enter Tryd.func13, Tryd.ntmps13
  go_wp2_with (first
    | (go_at_call 16; refine (sumC none 0 [] w (.inl rfl) (fun _ => rfl) (by simp) (by simp) (by simp) HT.out HB.out).mono ?_; rintro e w1 ⟨v1, rfl, o1, b1⟩; rw [← HS.out] at o1; obtain ⟨sa, sc, rfl, hcp1, hsl1, hn1, hx1⟩ := rb_sl o1; obtain ⟨sb, so, rfl, hcl1⟩ := sl_at hsl1 (by rw [HSL.out]; omega); have HC1 := Lib.hid hcl1; have g1 : (4 : Int) ≤ (sc : Int) := (by rw [HSL.out] at hcp1; omega); have g2 : ¬ sc = 0 := (by omega); have HB1 := Lib.hid b1; clear o1 b1 hcp1 hsl1 hn1 hx1 hcl1)
    | (go_at_call 18; refine (hmacC _ 4 jL _ 2 [⟨some ⟨w1.heap.size + 1, 0, none⟩, 16, p1L⟩, ⟨some ⟨w1.heap.size + 1 + 1, 0, none⟩, 12, p2L⟩] _ (args_ok w1).1 (fun h => by cases h) (by decide) (by decide) (by decide) (args_ok w1).2 (show 2 ≤ 1000000 by decide) (by rw [catP2]; decide) (tabR_then ((((HB1.out.alloc HB1.out.size _).alloc (by have := HB1.out.size; simp; omega) _).alloc (by have := HB1.out.size; simp; omega) _).alloc (by have := HB1.out.size; simp; omega) _) HT.out) (tabB_then ((((HB1.out.alloc HB1.out.size _).alloc (by have := HB1.out.size; simp; omega) _).alloc (by have := HB1.out.size; simp; omega) _).alloc (by have := HB1.out.size; simp; omega) _) HB.out)).mono ?_; rintro e w2 ⟨v2, rfl, o2, b2⟩; rw [show hmac jL (catP [⟨some ⟨w1.heap.size + 1, 0, none⟩, 16, p1L⟩, ⟨some ⟨w1.heap.size + 1 + 1, 0, none⟩, 12, p2L⟩]) = H by rw [HH.out, catP2]] at o2; obtain ⟨ha, hc, rfl, hcp2, hsl2, hn2, hx2⟩ := rb_sl o2; obtain ⟨hb, ho, rfl, hcl2⟩ := sl_at hsl2 (by rw [HHL.out]; omega); have HC2 := Lib.hid hcl2; have g3 : (4 : Int) ≤ (hc : Int) := (by rw [HHL.out] at hcp2; omega); have g4 : ¬ hc = 0 := (by omega); have HBA := Lib.hid ((((HB1.out.alloc HB1.out.size (.cells #[.int .u8 74, .int .u8 101, .int .u8 102, .int .u8 101] 5 (4, 5))).alloc (by have := HB1.out.size; simp; omega) (.cells #[.int .u8 119, .int .u8 104, .int .u8 97, .int .u8 116, .int .u8 32, .int .u8 100, .int .u8 111, .int .u8 32, .int .u8 121, .int .u8 97, .int .u8 32, .int .u8 119, .int .u8 97, .int .u8 110, .int .u8 116, .int .u8 32] 5 (16, 17))).alloc (by have := HB1.out.size; simp; omega) (.cells #[.int .u8 102, .int .u8 111, .int .u8 114, .int .u8 32, .int .u8 110, .int .u8 111, .int .u8 116, .int .u8 104, .int .u8 105, .int .u8 110, .int .u8 103, .int .u8 63] 5 (12, 13))).alloc (by have := HB1.out.size; simp; omega) (.cells #[.slice (some ⟨w1.heap.size + 1, 0, none⟩) 16 16, .slice (some ⟨w1.heap.size + 1 + 1, 0, none⟩) 12 12] 22)); have HB2 := Lib.hid (below_then HBA.out b2 HBA.out.size); have HC1b := Lib.hid (cells_then b2 (Nat.le_refl _) (cells_alloc (cells_alloc (cells_alloc (cells_alloc HC1.out _) _) _) _)); clear o2 b2 hcp2 hsl2 hn2 hx2 hcl2)
    | (go_at_call 15; (with_reducible refine (bytesD (some ⟨sb, so, none⟩) _ sc 4 4 4 (S.take 4) [227, 176, 196, 66] (w2.alloc (.cells #[.int .u8 227, .int .u8 176, .int .u8 196, .int .u8 66] 5)) true ?_ ?_ ?_ ?_ ?_ ?_ ?_).mono ?_); exact (by rw [List.length_take, HSL.out]; rfl); exact rfl; exact sl_alloc (sl_take HC1b.out 4 _ rfl) _; exact sl_lit rfl rfl; exact fun c hc => HSX.out c (List.mem_of_mem_take hc); exact (by decide); exact (by rw [← HSF.out]; rfl); rintro e w' ⟨rfl, rfl⟩)
    | (go_at_call 15; (with_reducible refine (bytesD (some ⟨hb, ho, none⟩) _ hc 4 4 4 (H.take 4) [91, 220, 193, 70] ((w2.alloc (.cells #[.int .u8 227, .int .u8 176, .int .u8 196, .int .u8 66] 5)).alloc (.cells #[.int .u8 91, .int .u8 220, .int .u8 193, .int .u8 70] 5)) true ?_ ?_ ?_ ?_ ?_ ?_ ?_).mono ?_); exact (by rw [List.length_take, HHL.out]; rfl); exact rfl; exact sl_alloc (sl_alloc (sl_take HC2.out 4 _ rfl) _) _; exact sl_lit (by simp) rfl; exact fun c hc => HHX.out c (List.mem_of_mem_take hc); exact (by decide); exact (by rw [← HHF.out]; rfl); rintro e w' ⟨rfl, rfl⟩)
    | (go_at_call 22; (with_reducible refine (equalD (some ⟨sb, so, none⟩) (some ⟨sb, so, none⟩) sc sc S S _ true ?_ ?_ ?_ ?_ ?_ ?_).mono ?_); exact .inr ⟨_, _, rfl, cells_alloc (cells_alloc HC1b.out _) _⟩; exact .inr ⟨_, _, rfl, cells_alloc (cells_alloc HC1b.out _) _⟩; exact HSX.out; exact HSX.out; exact (by rw [HSL.out]; decide); exact (decide_eq_true rfl).symm; rintro e w5 ⟨rfl, b5⟩)
    | (go_at_call 22; (with_reducible refine (equalD (some ⟨sb, so, none⟩) (some ⟨hb, ho, none⟩) sc hc S H _ false ?_ ?_ ?_ ?_ ?_ ?_).mono ?_); exact .inr ⟨_, _, rfl, cells_then b5 (Nat.le_refl _) (cells_alloc (cells_alloc HC1b.out _) _)⟩; exact .inr ⟨_, _, rfl, cells_then b5 (Nat.le_refl _) (cells_alloc (cells_alloc HC2.out _) _)⟩; exact HSX.out; exact HHX.out; exact (by rw [HSL.out]; decide); exact (decide_eq_false HNE.out).symm; rintro e w6 ⟨rfl, b6⟩))
  go_ret
  have B4 := (HB2.out.alloc HB2.out.size (.cells #[.int .u8 227, .int .u8 176, .int .u8 196, .int .u8 66] 5)).alloc (by have := HB2.out.size; simp; omega) (.cells #[.int .u8 91, .int .u8 220, .int .u8 193, .int .u8 70] 5)
  have B5 := below_then B4 b5 B4.size
  exact ⟨rfl, below_then B5 b6 B5.size⟩

end Go.Proofs.YtmfkfpgomglplaaDoor.Mf
