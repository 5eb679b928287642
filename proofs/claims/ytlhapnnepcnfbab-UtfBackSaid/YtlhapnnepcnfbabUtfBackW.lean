/- tiklaw3.UtfBack: the walk. -/
import Derived.Test.YtlhapnnepcnfbabUEnc
import Derived.Test.YtlhapnnepcnfbabUBytes
set_option linter.unusedVariables false
namespace Go.Proofs.Ytlhapnnepcnfbab.UtfBackW
open Go Go.RowKit Words UMath UDec

def OutP (w : World) (e : Ending) (w' : World) : Prop := e = .returned (.bool true) ∧ Below w.heap.size w w'
set_option maxRecDepth 100000 in
theorem out (a : Option Addr) (len cap : Nat) (w : World) (h : 2000 < len) (hm : len ≤ 9223372036854775807) : Calls Try.prog 6 #[.slice a len cap] w (OutP w) := by
  go_enter Try.func6, Try.ntmps6
  go_wp2_with fail
  refine (first _).mono ?_
  rintro e w1 ⟨rfl, hb1⟩
  go_wp2_with fail
  refine (first _).mono ?_
  rintro e w2 ⟨rfl, hb2⟩
  go_wp2
  go_ret
  exact ⟨rfl, below_next hb1 hb2⟩
theorem take_map (l : List Int) (k : Nat) (hk : k < l.length) : (l.take (k + 1)).map fixZ = (l.take k).map fixZ ++ [fixZ l[k]] := by
  rw [List.take_succ_eq_append_getElem hk, List.map_append]; rfl
set_option maxRecDepth 100000 in
set_option maxHeartbeats 4000000 in
theorem main (a : Option Addr) (l : List Int) (cap : Nat) (w : World) (hl : l.length ≤ 2000) (hr : Row .i32 w a l) : Calls Try.prog 6 #[.slice a l.length cap] w (OutP w) := by
  obtain ⟨i0, hi, hz0, hz1, hz2⟩ := info_parts info21
  have HR := Lib.hid hr
  clear hr
  go_enter Try.func6, Try.ntmps6
  go_wp2_with fail
  refine (first _).mono ?_
  rintro e w1 ⟨rfl, hb1⟩
  have hP := hb1.size
  go_wp2_with fail
  refine (newC w1).mono ?_
  rintro e w2 ⟨rfl, rfl⟩
  have hd0 : Dw (w1.alloc (.cells #[.int .i32 0, .int .i64 0, .int .i64 0, .int .u8 0, .int .u8 0] 43)) w1.heap.size d0 := Blk.new _ _ _
  have hb2 : Below w.heap.size w (w1.alloc (.cells #[.int .i32 0, .int .i64 0, .int .i64 0, .int .u8 0, .int .u8 0] 43)) := below_al hb1
  generalize w1.alloc (.cells #[.int .i32 0, .int .i64 0, .int .i64 0, .int .u8 0, .int .u8 0] 43) = w2 at *
  generalize w1.heap.size = P at *
  clear hb1
  have hPl := Blk.lt hd0
  have HD0 := Lib.hid hd0
  have HB2 := Lib.hid hb2
  clear hd0 hb2
  go_wp2
  go_loopw [4, 5, 6] (fun s4 s5 s6 wr => ∃ k : Nat, k ≤ l.length ∧ s5 = .int .i64 (k : Int) ∧ wr.ownsRow w2.heap.size 21 1 s4 ((l.take k).map fixZ).length (cellsK .i32 ((l.take k).map fixZ)) ∧ Below w2.heap.size w2 wr) (fun _ s5 _ _ => l.length - (intOf s5).toNat)
  case atStart => exact ⟨0, Nat.zero_le _, rfl, World.ownsRow_nil _ _ _ _, Below.refl _ _⟩
  case round =>
    obtain ⟨k, hk, rfl, hown, hb⟩ := hrel
    by_cases hlt : k < l.length
    · obtain ⟨bb, off, rfl⟩ := HR.out.addr (by omega)
      have hcell := Row.at_ (HR.out.then_ (below_next HB2.out hb) (Nat.le_refl _)) k hlt
      have HS := Lib.hid (take_map l k hlt)
      have hll : ((l.take k).map fixZ).length ≤ 2000 := by simp; omega
      generalize (l.take k).map fixZ = O at *
      generalize l[k] = r at hcell HS
      have hsz := hb.size
      have hcase : (signB r = true ∧ 0 ≤ r ∧ r ≤ 1114111 ∧ r < 55296) ∨ (signB r = true ∧ 0 ≤ r ∧ r ≤ 1114111 ∧ 57343 < r) ∨ (signB r = false ∧ r < 0) ∨ (signB r = false ∧ 1114111 < r) ∨ (signB r = false ∧ 55296 ≤ r ∧ r ≤ 57343) := by
        cases hs : signB r
        · simp [signB] at hs
          have : ¬ (0 ≤ r ∧ r ≤ 1114111 ∧ (r < 55296 ∨ 57343 < r)) := fun h => by
            have := hs h.1 h.2.1; omega
          simp; omega
        · have := sign_in hs; simp; omega
      rcases hcase with ⟨hs, x1, x2, x3⟩ | ⟨hs, x1, x2, x3⟩ | ⟨hs, x1⟩ | ⟨hs, x1⟩ | ⟨hs, x1, x2⟩
      · have HF := Lib.hid (show fixZ r = r by unfold fixZ; rw [hs]; rfl)
        clear hs
        rw [HF.out] at HS
        go_wp2_with (at_builtin; refine wpList_append_own _ rfl _ _ 31 rfl w2.heap.size 21 i0 (.int .i32 0) 1 4 Try.underlying31 hi hz0 hz1 hz2 rfl (by decide) _ _ _ rfl (World.ownsRow.alloc hown _) ⟨wr.heap.size, 0, none⟩ 1 1 [.int .i32 r] rfl rfl (cell_one_new _ _ _) (fun x hx => by simp at hx; subst hx; rfl) (by unfold maxLen; omega) (by omega) (by simp; omega) ?_; intro v2 w3 hown2 hgrow2 hnil2)
        have hb3 : Below w2.heap.size wr w3 := ((Below.refl _ _).alloc hsz _).grown hgrow2 (by simp; omega) (fun j hj => (hown.lt j hj).1)
        go_roundw
        case rel => exact ⟨k + 1, by omega, by go_num, by rw [HS.out, List.length_append, ← cellsK_app]; exact hown2, hb.trans hb3⟩
        case measure => simp [intOf]; omega
      · have HF := Lib.hid (show fixZ r = r by unfold fixZ; rw [hs]; rfl)
        clear hs
        rw [HF.out] at HS
        go_wp2_with (at_builtin; refine wpList_append_own _ rfl _ _ 31 rfl w2.heap.size 21 i0 (.int .i32 0) 1 4 Try.underlying31 hi hz0 hz1 hz2 rfl (by decide) _ _ _ rfl (World.ownsRow.alloc hown _) ⟨wr.heap.size, 0, none⟩ 1 1 [.int .i32 r] rfl rfl (cell_one_new _ _ _) (fun x hx => by simp at hx; subst hx; rfl) (by unfold maxLen; omega) (by omega) (by simp; omega) ?_; intro v2 w3 hown2 hgrow2 hnil2)
        have hb3 : Below w2.heap.size wr w3 := ((Below.refl _ _).alloc hsz _).grown hgrow2 (by simp; omega) (fun j hj => (hown.lt j hj).1)
        go_roundw
        case rel => exact ⟨k + 1, by omega, by go_num, by rw [HS.out, List.length_append, ← cellsK_app]; exact hown2, hb.trans hb3⟩
        case measure => simp [intOf]; omega
      all_goals
        have HF := Lib.hid (show fixZ r = 65533 by unfold fixZ; rw [hs]; rfl)
        clear hs
        rw [HF.out] at HS
        go_wp2_with (at_builtin; refine wpList_append_own _ rfl _ _ 31 rfl w2.heap.size 21 i0 (.int .i32 0) 1 4 Try.underlying31 hi hz0 hz1 hz2 rfl (by decide) _ _ _ rfl (World.ownsRow.alloc hown _) ⟨wr.heap.size, 0, none⟩ 1 1 [.int .i32 65533] rfl rfl (cell_one_new _ _ _) (fun x hx => by simp at hx; subst hx; rfl) (by unfold maxLen; omega) (by omega) (by simp; omega) ?_; intro v2 w3 hown2 hgrow2 hnil2)
        have hb3 : Below w2.heap.size wr w3 := ((Below.refl _ _).alloc hsz _).grown hgrow2 (by simp; omega) (fun j hj => (hown.lt j hj).1)
        go_roundw
        case rel => exact ⟨k + 1, by omega, by go_num, by rw [HS.out, List.length_append, ← cellsK_app]; exact hown2, hb.trans hb3⟩
        case measure => simp [intOf]; omega
    · obtain rfl : k = l.length := by omega
      rw [List.take_of_length_le (Nat.le_refl _)] at hown
      have hWl : (l.map fixZ).length ≤ 2000 := by simpa using hl
      obtain ⟨aw, capw, rfl, hcapw, hrw, hxw, _⟩ := row_own hown
      have HXW := Lib.hid hxw
      clear hxw
      have HRW := Lib.hid hrw
      clear hrw hown
      have hB3 : Below w.heap.size w wr := below_next HB2.out hb
      have hd3 : Dw wr P d0 := Blk.then_ HD0.out hb
      have HE := Lib.hid (read_encL l)
      have HEF := Lib.hid (encL_fix l)
      have HEB := Lib.hid (encL_byte l)
      have heL := encL_len l
      generalize l.map fixZ = O at *
      go_wp2_with fail
      refine (encC a l cap wr (by omega) (HR.out.then_ hB3 (Nat.le_refl _))).mono ?_
      rintro e w4 ⟨v4, rfl, ho4, hb4⟩
      obtain ⟨a4, cap4, rfl, hcap4, hr4, hx4, _⟩ := row_own ho4
      have hd4 : Dw w4 P d0 := Blk.then_ hd3 hb4
      have hB4 := below_next hB3 hb4
      have hrw4 := HRW.out.then_ hb4 (Nat.le_refl _)
      have HX4 := Lib.hid hx4
      have hlt3 := Blk.lt hd3
      generalize encL l = E at *
      clear ho4 hb4 hx4
      go_wp2_with fail
      refine (writeC P d0 a4 E cap4 w4 hd4 ok0 (by omega) hr4 HEB.out (fun b off e => by have := (HX4.out _ e).1; simp at this; omega)).mono ?_
      rintro e w5 ⟨v5, rfl, ho5, hd5, hg5⟩
      rw [HE.out] at ho5 hd5
      obtain ⟨a5, cap5, rfl, hcap5, hr5, hx5, _⟩ := row_own ho5
      have hB5 : Below w.heap.size w w5 := below_put hB4 hg5 hP
      have hr45 : Row .u8 w5 a4 E := hr4.grown hg5 (fun x hx e => by have := (HX4.out _ hx).1; injection e with e; omega)
      have hrw5 : Row .i32 w5 aw O := hrw4.grown hg5 (fun x hx e => by have := (HXW.out _ hx).1; injection e with e; omega)
      clear ho5 hg5 hr4 hrw4 hx5 hd4
      go_wp2_with fail
      refine (first _).mono ?_
      rintro e w6 ⟨rfl, hb6⟩
      have hB6 := below_next hB5 hb6
      have hr6 := hr5.then_ hb6 (Nat.le_refl _)
      have hrw6 := hrw5.then_ hb6 (Nat.le_refl _)
      have hd6 : Dw w6 P d0 := Blk.then_ hd5 hb6
      have hr46 := hr45.then_ hb6 (Nat.le_refl _)
      clear hb6 hr5 hrw5 hd5 hr45
      go_wp2_with fail
      refine (runesC a5 aw cap5 capw O O w6 (by omega) hr6 hrw6).mono ?_
      rw [show decide (O = O) = true from by simp]
      rintro e w7 ⟨rfl, k7, rfl⟩
      go_wp2_with fail
      refine (pendC P d0 _ (Blk.drewN hd6 k7)).mono ?_
      rintro e w7 ⟨rfl, rfl⟩
      go_wp2_with fail
      refine (encC a5 O cap5 _ (by omega) (hr6.drewN k7)).mono ?_
      rintro e w8 ⟨v8, rfl, ho8, hb8⟩
      rw [HEF.out] at ho8
      obtain ⟨a8, cap8, rfl, hcap8, hr8, _, _⟩ := row_own ho8
      have hB8 := below_next (below_drewN hB6 k7) hb8
      have hr48 := (hr46.drewN k7).then_ hb8 (Nat.le_refl _)
      clear ho8 hb8
      go_wp2_with fail
      refine (UBytes.bytesC a8 a4 cap8 cap4 E E w8 hr8 hr48 HEB.out HEB.out).mono ?_
      rw [show decide (E = E) = true from by simp]
      rintro e w9 ⟨rfl, rfl⟩
      go_wp2
      go_ret
      exact ⟨rfl, hB8⟩
theorem walk (a : Option Addr) (len cap : Nat) (zs : List Int) (W : World) (w0 : IsRow .i32 W a len cap zs) : Calls Try.prog 6 #[.slice a len cap] W fun e w' => e = .returned (.bool true) ∧ Below W.heap.size W w' := by
  obtain ⟨l, rfl, hcap, hcm, h0, hi, hwf⟩ := row_in w0
  by_cases h : 2000 < l.length
  · exact out a _ cap W h (by omega)
  · exact main a l cap W (by omega) hi
end Go.Proofs.Ytlhapnnepcnfbab.UtfBackW
