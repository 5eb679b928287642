/- The chapter's examples of packets. -/
import Derived.Test.YtmfkfpgomglplaaDoorPf
set_option linter.unusedVariables false
namespace Go.Proofs.YtmfkfpgomglplaaDoor.Pg
open Go Go.RowKit Kit Mb Sha Ap Mc1 Sc Mx Sb Pd Su Pa Hm Mm Tg Mf Pk Se Wn Op Pf


theorem openOkG (bb bo bc bn kn : Nat) (b : List Nat) (ka : Option Addr) (kc : Nat) (key : List Nat) (w : World) (E : Nat) (ebn : bn = b.length) (ekn : kn = key.length)
    (hN : b.length = E + 16) (hE : 10 ≤ E) (hlen : b.length ≤ 800000) (hbc : b.length ≤ bc) (hb : Cells w bb bo b) (hbx : ∀ c ∈ b, c < 256)
    (ks : Sl w ka key) (k0 : ka = none → kc = 0) (kcap : key.length ≤ kc) (kl : ∀ c ∈ key, c < 256) (klen : key.length ≤ 800000) (hT : TabR w) (hB : TabB w)
    (hne : tagL key (b.take E) = b.drop E) (D0 D1 NN : Nat) (body : List Nat) (hD0 : D0 = b.getD 0 0) (hD1 : D1 = b.getD 1 0) (hNN : NN = numL ((b.drop 2).take 8)) (hbody : body = (b.drop 10).take (E - 10)) (hmay : mayB (D0 : Int) (D1 : Int) NN (E - 10) = true) :
    Calls Tryd.prog 27 #[.slice ka kn kc, .slice (some ⟨bb, bo, none⟩) bn bc] w (OpP (D0 : Int) (D1 : Int) NN body w) := by
  subst ebn ekn; exact openOk bb bo bc b ka kc key w E hN hE hlen hbc hb hbx ks k0 kcap kl klen hT hB hne D0 D1 NN body hD0 hD1 hNN hbody hmay
theorem openTagG (bb bo bc bn kn : Nat) (b : List Nat) (ka : Option Addr) (kc : Nat) (key : List Nat) (w : World) (E : Nat) (ebn : bn = b.length) (ekn : kn = key.length)
    (hN : b.length = E + 16) (hE : 10 ≤ E) (hlen : b.length ≤ 800000) (hbc : b.length ≤ bc) (hb : Cells w bb bo b) (hbx : ∀ c ∈ b, c < 256)
    (ks : Sl w ka key) (k0 : ka = none → kc = 0) (kcap : key.length ≤ kc) (kl : ∀ c ∈ key, c < 256) (klen : key.length ≤ 800000) (hT : TabR w) (hB : TabB w)
    (hne : tagL key (b.take E) ≠ b.drop E) :
    Calls Tryd.prog 27 #[.slice ka kn kc, .slice (some ⟨bb, bo, none⟩) bn bc] w fun e w' => e = .returned (.tuple #[.agg #[.int .i64 0, .int .i64 0, .int .u64 0, .slice none 0 0], .int .i64 15]) ∧ Below w.heap.size w w' := by
  subst ebn ekn; exact openTag bb bo bc b ka kc key w E hN hE hlen hbc hb hbx ks k0 kcap kl klen hT hB hne
set_option maxRecDepth 100000 in
set_option maxHeartbeats 2000000 in
theorem pfirst (w : World) (hT : TabR w) (hB : TabB w) : Calls Tryd.prog 23 #[] w fun e w' => e = .returned (.bool true) ∧ Below w.heap.size w w' := by
  have kc := fun (w : World) (C : Array Value) (n c g : Nat) (hg : g = w.heap.size) => Go.Joins.run_convert_bytes_const_at (P := Tryd.prog) w 22 5 C n c g hg Tryd.underlying22 Tryd.underlying5
  have HT := Lib.hid hT
  have HB := Lib.hid hB
  obtain ⟨SB, hSB⟩ : ∃ SB, SB = bK := ⟨_, rfl⟩
  have HSB := Lib.hid hSB
  have HSL := Lib.hid (show SB.length = 27 by rw [hSB]; exact bK_len)
  have HSX := Lib.hid (show ∀ c ∈ SB, c < 256 by rw [hSB]; exact bK_lt)
  have t1 : ((SB.length : Int) == 27) = true := by rw [beq_iff_eq]; have := HSL.out; omega
  clear hT hB hSB
  go_enter Tryd.func23, Tryd.ntmps23
  go_wp2_with (first
    | (go_at_call 24; refine (sealC 1 0 7 (some ⟨w.heap.size + 1, 0, none⟩) 1 [5] (some ⟨w.heap.size, 0, none⟩) 1 [107] _ (by decide) (by decide) (by decide) (by decide) (by decide) (by decide) (sl_lit (by simp) rfl) (fun h => by cases h) (by decide) (by decide) (sl_alloc (sl_lit rfl rfl) _) (fun h => by cases h) (by decide) (by decide) (by decide) (tabR_then (((Below.refl _ w).alloc (Nat.le_refl _) _).alloc (by simp) _) HT.out) (tabB_then (((Below.refl _ w).alloc (Nat.le_refl _) _).alloc (by simp) _) HB.out)).mono ?_; rintro e w3 ⟨v3, rfl, o3, b3⟩; rw [show sealL [107] 1 0 7 [5] = SB from HSB.out.symm] at o3; obtain ⟨sa, sc, rfl, hsc, hss, hs0, hsx⟩ := rb_sl o3; obtain ⟨sb, so, rfl, hcl⟩ := sl_at hss (by rw [HSL.out]; omega); have HCL := Lib.hid hcl; have HSC := Lib.hid hsc; have HB3 := Lib.hid (below_then (((Below.refl _ w).alloc (Nat.le_refl _) (.cells #[.int .u8 107] 5 (1, 2))).alloc (by simp) (.cells #[.int .u8 5] 5)) b3 (by simp; omega)); have HK3 := Lib.hid (show Sl w3 (some ⟨w.heap.size, 0, none⟩) [107] from sl_then b3 (Nat.le_refl _) (sl_alloc (sl_lit rfl rfl) _)); clear o3 b3 hsc hss hs0 hsx hcl)
    | (go_at_call 27; (with_reducible refine (openOkG sb so sc SB.length 1 SB (some ⟨w.heap.size, 0, none⟩) 1 [107] w3 11 ?_ ?_ ?_ ?_ ?_ HSC.out HCL.out HSX.out HK3.out ?_ ?_ ?_ ?_ ?_ ?_ ?_ 1 0 7 [5] ?_ ?_ ?_ ?_ ?_).mono ?_); exact rfl; exact rfl; exact HSL.out; exact (by decide); exact (by rw [HSL.out]; decide); exact (fun h => by cases h); exact (by decide); exact (by decide); exact (by decide); exact tabR_then HB3.out HT.out; exact tabB_then HB3.out HB.out; exact (by rw [HSB.out, bK_take, bK_drop]); exact (by rw [HSB.out, bK_at 0 (by decide)]; rfl); exact (by rw [HSB.out, bK_at 1 (by decide)]; rfl); exact (by rw [HSB.out, bK_num]); exact (by rw [HSB.out, bK_body]); exact (by decide); rintro e w4 ⟨v4, rfl, o4, b4⟩; obtain ⟨pa, pc, rfl, hpc, hps, hp0, hpx⟩ := rb_sl o4; have HPS := Lib.hid hps; have HB4 := Lib.hid (below_then HB3.out b4 HB3.out.size); have HCL4 := Lib.hid (cells_then b4 (Nat.le_refl _) HCL.out); clear o4 b4 hpc hps hp0 hpx)
    | (go_at_call 27; refine (openTagG sb so sc SB.length 1 SB (some ⟨w4.heap.size + 1, 0, none⟩) 1 [108] _ 11 rfl rfl HSL.out (by decide) (by rw [HSL.out]; decide) HSC.out (cells_alloc (cells_alloc HCL4.out _) _) HSX.out (sl_lit (by simp) rfl) (fun h => by cases h) (by decide) (by decide) (by decide) (tabR_then ((HB4.out.alloc HB4.out.size _).alloc (by have := HB4.out.size; simp; omega) _) HT.out) (tabB_then ((HB4.out.alloc HB4.out.size _).alloc (by have := HB4.out.size; simp; omega) _) HB.out) (by rw [HSB.out, bK_take, bK_drop]; exact bK_other)).mono ?_; rintro e w5 ⟨rfl, b5⟩; have z5 := (b5.block w4.heap.size (by simp; omega)).trans ((Below.heap_alloc _ _ _ (by simp)).trans (heap_alloc_last w4 _)); have HPS5 := Lib.hid (sl_then b5 (Nat.le_refl _) (sl_alloc (sl_alloc HPS.out _) _)); have HB5 := Lib.hid (below_then ((HB4.out.alloc HB4.out.size _).alloc (by have := HB4.out.size; simp; omega) _) b5 (by have := HB4.out.size; simp; omega)); have Z5 := Lib.hid z5; clear b5 z5)
    | (go_at_call 33; refine (newWindowC 2 _).mono ?_; rintro e w6 ⟨rfl, hw6, b6⟩; have z6 := (b6.block w4.heap.size (by have := (Array.getElem?_eq_some_iff.1 Z5.out).1; simp; omega)).trans ((Below.heap_alloc _ _ _ (Array.getElem?_eq_some_iff.1 Z5.out).1).trans Z5.out); have c2 : w6.cell? ⟨w4.heap.size, 2, none⟩ = some (.int .u64 ((7 : Nat) : Int)) := (by rw [cell_of_row w6 w4.heap.size 2 _ 35 _ z6]; rfl); have c3 : w6.cell? ⟨w4.heap.size, 3, none⟩ = some (.slice pa ([5] : List Nat).length pc) := (by rw [cell_of_row w6 w4.heap.size 3 _ 35 _ z6]; rfl); have HPS6 := Lib.hid (sl_then b6 (Nat.le_refl _) (sl_alloc HPS5.out _)); have HW6 := Lib.hid (show Wn w6 (w5.heap.size + 1) 2 by simpa using hw6); have HB6 := Lib.hid (below_then (HB5.out.alloc HB5.out.size (.cells #[.int .i64 0, .int .i64 0, .int .u64 0, .slice none 0 0] 35)) b6 (by have := HB5.out.size; simp; omega)); clear z6 hw6 b6)
    | (go_at_call 15; refine (bytesD pa (some ⟨w6.heap.size, 0, none⟩) pc 1 _ 1 [5] [5] _ true rfl rfl (sl_alloc HPS6.out _) (sl_lit rfl rfl) (by decide) (by decide) (decide_eq_true rfl).symm).mono ?_; rintro e w' ⟨rfl, rfl⟩)
    | (go_at_call 35; refine (takeNew (w5.heap.size + 1) 2 3 _ (by decide) (Wn.then (B := w6.heap.size) HW6.out (Below.alloc (Below.refl _ _) (Nat.le_refl _) (.cells #[.int .u8 5] 5)) (Nat.le_refl _))).mono ?_; rintro e w7 ⟨rfl, hw7, ew7⟩; have HW7 := Lib.hid hw7; have EW7 := Lib.hid ew7; clear hw7 ew7)
    | (go_at_call 35; refine (takeOld (w5.heap.size + 1) 3 3 _ (by decide) HW7.out).mono ?_; rintro e w8 ⟨rfl, rfl⟩))
  go_ret
  refine ⟨rfl, ?_⟩
  rw [EW7.out]
  exact (HB6.out.alloc HB6.out.size _).setCell (by have := HB5.out.size; simp; omega) _

end Go.Proofs.YtmfkfpgomglplaaDoor.Pg
