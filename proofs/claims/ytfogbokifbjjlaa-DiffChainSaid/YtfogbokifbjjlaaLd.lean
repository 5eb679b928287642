/- What the chapter's examples fix; screens of cells that are nearly all alike (pure). -/
import Derived.Test.YtfogbokifbjjlaaLc
import Derived.Test.YtfogbokifbjjlaaSi
import Derived.Test.YtfogbokifbjjlaaFr
set_option linter.unusedVariables false
namespace Go.Proofs.Ytfogbokifbjjlaa.Ld
open Go Go.RowKit Kit Gm Gv Crc Var Bytes WireFirst Copy Ap Sa Sb Sd Sf La Lb Lc Fr
open Sh (Nw)

theorem rb_sc {w : World} {g : Nat} {L : List Ce} (h : RB w g L) : Sc w g 0 L := fun j hj i hi => by
  rw [Nat.zero_add]; exact h.cell j hj i hi
def EncQ (w : World) (l : List Nat) (e : Ending) (w' : World) : Prop := ∃ a c, e = .returned (.tuple #[.slice a l.length c, .int .i64 0]) ∧ Sl w' a l ∧ Below w.heap.size w w' ∧ ∀ x, a = some x → w.heap.size ≤ x.block
/-- Encode, of a narrow screen without a title. -/
theorem encN (R C g : Nat) (L : List Ce) (w : World) (hR : 1 ≤ R) (hC : 1 ≤ C) (hR2 : R ≤ 60) (hC2 : C ≤ 200) (hN : Nw L) (hq : L.length = R * C) (hr : RB w g L) :
    Calls Try.prog 14 #[.agg #[.int .i64 R, .int .i64 C, .slice (some ⟨g, 0, none⟩) L.length L.length, .int .i64 0, .int .i64 0, .bool false, .string ⟨#[]⟩]] w (EncQ w (encL ⟨R, C, 0, 0, false, ⟨#[]⟩⟩ L)) := by
  have h2 : R * C ≤ 12000 := Nat.mul_le_mul hR2 hC2
  have h := encYes ⟨R, C, 0, 0, false, ⟨#[]⟩⟩ (some ⟨g, 0, none⟩) L.length L.length L w (fun w1 hb => Si.mayN R C 0 0 g 0 L.length L.length false L w1 hR hC hR2 hC2 (by omega) (by omega) rfl ((rb_sc hr).then_ hb (Nat.le_refl _)) hN hq) rfl (by omega) (Nat.zero_le _) (.inr ⟨Nat.le_refl _, g, 0, rfl, rb_sc hr⟩)
  exact h.mono fun e w' ⟨v, h1, h2, h3⟩ => by
    obtain ⟨a, c, rfl, _, hs, _, hx⟩ := rb_sl h2
    exact ⟨a, c, h1, hs, h3, fun x e => (hx x e).1⟩
theorem enc_12 : encL ⟨1, 2, 0, 0, false, ⟨#[]⟩⟩ [blk, blk] = [1, 2, 0, 0, 0, 0, 2, 32, 0, 0, 0, 0] := by
  have h1 : headL ⟨1, 2, 0, 0, false, ⟨#[]⟩⟩ = [1, 2, 0, 0, 0, 0] := by
    simp only [headP, six, un, numB]
    simp [varL_small, List.getD, ByteArray.size]
  have h2 : cellsB [blk, blk] = [2, 32, 0, 0, 0, 0] := by
    rw [cellsB_cons]
    have hr : runL [blk, blk] = 2 := rfl
    rw [hr]
    have : ([blk, blk] : List Ce).drop 2 = [] := rfl
    rw [this, cellsB_nil]
    simp only [oneP, un]
    simp [varL_small]
  unfold encL
  rw [h1, h2]; rfl
theorem nw_blk : Nw [blk, blk] := by
  intro c hc
  simp at hc
  subst hc
  exact ⟨rfl, by decide⟩
theorem sl_lit {w : World} {l : List Nat} {C : Array Value} (hC : C = (cellsOf l).toArray) : Sl (w.alloc (.cells C 5)) (some ⟨w.heap.size, 0, none⟩) l := .inr ⟨_, 0, rfl, by subst hC; exact cells_new w l⟩
set_option maxRecDepth 100000 in
set_option maxHeartbeats 4000000 in
/-- what the chapter's examples fix. -/
theorem firstC (w : World) : Calls Try.prog 12 #[] w fun e w' => e = .returned (.bool true) ∧ Below w.heap.size w w' := by
  have H27 := Lib.hid (show Calls Try.prog 31 #[.int .i64 1, .int .i64 2] w fun e w' => e = .returned (.tuple #[.agg #[.int .i64 1, .int .i64 2, .slice (some ⟨w.heap.size + 1, 0, none⟩) 2 2, .int .i64 0, .int .i64 0, .bool false, .string ⟨#[]⟩], .int .i64 0]) ∧ RB w' (w.heap.size + 1) [blk, blk] ∧ Below w.heap.size w w' from blankYes 1 2 w (by decide))
  obtain ⟨g, hg⟩ : ∃ g, g = w.heap.size + 1 := ⟨_, rfl⟩
  rw [← hg] at H27
  have H10 := Lib.hid (fun w1 (hr : RB w1 g [blk, blk]) => (show Calls Try.prog 14 #[.agg #[.int .i64 1, .int .i64 2, .slice (some ⟨g, 0, none⟩) 2 2, .int .i64 0, .int .i64 0, .bool false, .string ⟨#[]⟩]] w1 (EncQ w1 [1, 2, 0, 0, 0, 0, 2, 32, 0, 0, 0, 0]) from (show encL ⟨((1 : Nat) : Int), ((2 : Nat) : Int), 0, 0, false, ⟨#[]⟩⟩ [blk, blk] = [1, 2, 0, 0, 0, 0, 2, 32, 0, 0, 0, 0] from enc_12) ▸ encN 1 2 g [blk, blk] w1 (by decide) (by decide) (by decide) (by decide) nw_blk rfl hr))
  have HB12 := Lib.hid (fun a1 a2 c1 w1 (h1 : Sl w1 a1 [1, 2, 0, 0, 0, 0, 2, 32, 0, 0, 0, 0]) (h2 : Sl w1 a2 [1, 2, 0, 0, 0, 0, 2, 32, 0, 0, 0, 0]) => (show Calls Try.prog 16 #[.slice a1 12 c1, .slice a2 12 12] w1 fun e w' => e = .returned (.bool true) ∧ w1 = w' from bytesC a1 a2 c1 12 [1, 2, 0, 0, 0, 0, 2, 32, 0, 0, 0, 0] [1, 2, 0, 0, 0, 0, 2, 32, 0, 0, 0, 0] w1 h1 h2 (by decide) (by decide)))
  clear hg
  go_enter Try.func12, Try.ntmps12
  go_wp2_with (first
    | (go_at_call 31; (with_reducible refine H27.out.mono ?_); rintro e w1 ⟨rfl, hr, hb⟩; have HR1 := Lib.hid (hr.alloc (svO ⟨1, 2, 0, 0, false, ⟨#[]⟩⟩ (some ⟨g, 0, none⟩) 2 2)); have HB1 := Lib.hid (below_then hb (below_one w1 (svO ⟨1, 2, 0, 0, false, ⟨#[]⟩⟩ (some ⟨g, 0, none⟩) 2 2)) hb.size); clear hr hb)
    | (go_at_call 14; (with_reducible refine (H10.out _ HR1.out).mono ?_); rintro e w2 ⟨a, c, rfl, hs, hb, hxx⟩; clear hxx; have HS2 := Lib.hid (sl_alloc (o := .cells #[.int .u8 1, .int .u8 2, .int .u8 0, .int .u8 0, .int .u8 0, .int .u8 0, .int .u8 2, .int .u8 32, .int .u8 0, .int .u8 0, .int .u8 0, .int .u8 0] 5) hs); have HS3 := Lib.hid (sl_lit (w := w2) (C := #[.int .u8 1, .int .u8 2, .int .u8 0, .int .u8 0, .int .u8 0, .int .u8 0, .int .u8 2, .int .u8 32, .int .u8 0, .int .u8 0, .int .u8 0, .int .u8 0]) (l := [1, 2, 0, 0, 0, 0, 2, 32, 0, 0, 0, 0]) rfl); have HB2 := Lib.hid (below_then (below_then HB1.out hb HB1.out.size) (below_one w2 (.cells #[.int .u8 1, .int .u8 2, .int .u8 0, .int .u8 0, .int .u8 0, .int .u8 0, .int .u8 2, .int .u8 32, .int .u8 0, .int .u8 0, .int .u8 0, .int .u8 0] 5)) (Nat.le_trans HB1.out.size hb.size)); clear hs hb)
    | (go_at_call 16; (with_reducible refine (HB12.out _ _ _ _ HS2.out HS3.out).mono ?_); rintro e w3 ⟨rfl, rfl⟩))
  go_ret
  exact ⟨rfl, HB2.out⟩
end Go.Proofs.Ytfogbokifbjjlaa.Ld
