/- tiklaw3.UtfEncodes: the walk. -/
import Derived.Test.YtlhapnnepcnfbabURef
import Derived.Test.YtlhapnnepcnfbabUBytes
set_option linter.unusedVariables false
namespace Go.Proofs.Ytlhapnnepcnfbab.UtfEncodesW
open Go Go.RowKit Words UMath UDec URef

def OutP (w : World) (e : Ending) (w' : World) : Prop := e = .returned (.bool true) ∧ Below w.heap.size w w'
set_option maxRecDepth 100000 in
theorem out (a : Option Addr) (len cap : Nat) (w : World) (h : 2000 < len) (hm : len ≤ 9223372036854775807) : Calls Try.prog 4 #[.slice a len cap] w (OutP w) := by
  go_enter Try.func4, Try.ntmps4
  go_wp2_with fail
  refine (first _).mono ?_
  rintro e w1 ⟨rfl, hb1⟩
  go_wp2_with fail
  refine (first _).mono ?_
  rintro e w2 ⟨rfl, hb2⟩
  go_wp2
  go_ret
  exact ⟨rfl, below_next hb1 hb2⟩
theorem enc_one (r : Int) : encL [r] = encZ r := by simp [encL]
set_option maxRecDepth 100000 in
set_option maxHeartbeats 4000000 in
theorem main (a : Option Addr) (l : List Int) (cap : Nat) (w : World) (hl : l.length ≤ 2000) (hcap : l.length ≤ cap) (hcm : cap ≤ 9223372036854775807) (hr : Row .i32 w a l) : Calls Try.prog 4 #[.slice a l.length cap] w (OutP w) := by
  have HR := Lib.hid hr
  clear hr
  go_enter Try.func4, Try.ntmps4
  go_wp2_with fail
  refine (first _).mono ?_
  rintro e w1 ⟨rfl, hb1⟩
  go_wp2
  go_loopw [3] (fun s3 wr => ∃ k : Nat, k ≤ l.length ∧ s3 = .int .i64 (k : Int) ∧ Below w.heap.size w wr) (fun s3 _ => l.length - (intOf s3).toNat)
  case atStart => exact ⟨0, Nat.zero_le _, rfl, hb1⟩
  case round =>
    obtain ⟨k, hk, rfl, hb⟩ := hrel
    by_cases hlt : k < l.length
    · obtain ⟨b, off, rfl⟩ := HR.out.addr (by omega)
      have hrw : Row .i32 wr (some ⟨b, off, none⟩) l := HR.out.then_ hb (Nat.le_refl _)
      have hcell := Row.at_ hrw k hlt
      have hsz := enc_len l[k]
      have h1 : Row .i32 wr (some ⟨b, off + k, none⟩) [l[k]] := .inr ⟨b, off + k, rfl, fun i hi => by
        obtain rfl : i = 0 := by simpa using hi
        simpa using hcell⟩
      have HE := Lib.hid (enc_one l[k])
      generalize l[k] = r at *
      have hcd : wr.drew.cell? ⟨b, off + k, none⟩ = some (.int .i32 r) := hcell
      have hrd : Row .i32 wr.drew (some ⟨b, off + k, none⟩) [r] := h1
      have hbd : Below w.heap.size w wr.drew := hb.drew
      have HSZ := Lib.hid hsz
      have hne : (((encZ r).length : Int) != ((encZ r).length : Int)) = false := by simp
      have HE4 := Lib.hid (enc_len4 r).2
      clear h1 hsz hrw hcell hb
      have hck : ¬ (cap = k) := by omega
      have g1 : IntKind.i64.wrap ((k : Int) + 1) = (k : Int) + 1 := IntWalk.i64_in _ (by omega)
      have g2 : (0 : Int) ≤ (k : Int) + 1 := by omega
      have g3 : ((k : Int) + 1).toNat = k + 1 := by omega
      have g4 : (k : Int) + 1 ≤ (cap : Int) := by omega
      have g5 : (k : Int) < (l.length : Int) := by omega
      have g6 : (0 : Int) ≤ (k : Int) := by omega
      have g7 : (k : Int) ≤ (k : Int) + 1 := by omega
      have g8 : k + 1 - k = 1 := by omega
      go_wp2_with fail
      go_region_held3 (fun W => W.cell? ⟨b, off + k, none⟩ = some (.int .i32 r) ∧ Row .i32 W (some ⟨b, off + k, none⟩) [r] ∧ Below w.heap.size w W) (first | (go_split_ands; exact ⟨by assumption, by assumption, by assumption⟩) | (go_split_ands; exact ⟨cell_then hb4 (Nat.le_refl _) (by assumption), Row.then_ (by assumption) hb4 (Nat.le_refl _), below_next (by assumption) hb4⟩)) (first | (go_at_call 17; refine (sizeC r _).mono ?_; rw [← HSZ.out]; rintro e w4 ⟨rfl, rfl⟩) | (go_at_call 18; refine (encRefC (some ⟨b, off + k, none⟩) [r] (cap - k) _ (by simp) (by go_split_ands; assumption)).mono ?_; rintro e w4 ⟨v4, rfl, ho4, hb4⟩; rw [HE.out] at ho4; obtain ⟨a4, cap4, rfl, _, _, _, _⟩ := row_own ho4; clear ho4))
      clear g1 g3 g8
      go_wp2
      go_roundw
      case rel => exact ⟨k + 1, by omega, by go_num, by go_split_ands; assumption⟩
      case measure => simp [intOf]; omega
    · obtain rfl : k = l.length := by omega
      go_wp2_with fail
      refine (first _).mono ?_
      rintro e w3 ⟨rfl, hb3⟩
      have hB3 := below_next hb hb3
      go_wp2_with fail
      refine (encC a l cap w3 (by omega) (HR.out.then_ hB3 (Nat.le_refl _))).mono ?_
      rintro e w4 ⟨v4, rfl, ho4, hb4⟩
      obtain ⟨a4, cap4, rfl, _, hr4, _, _⟩ := row_own ho4
      have hB4 := below_next hB3 hb4
      clear ho4 hb4
      go_wp2_with fail
      refine (encRefC a l cap w4 (by omega) (HR.out.then_ hB4 (Nat.le_refl _))).mono ?_
      rintro e w5 ⟨v5, rfl, ho5, hb5⟩
      obtain ⟨a5, cap5, rfl, _, hr5, _, _⟩ := row_own ho5
      have hB5 := below_next hB4 hb5
      have hr45 := hr4.then_ hb5 (Nat.le_refl _)
      clear ho5 hb5 hr4
      have HB := Lib.hid (encL_byte l)
      generalize encL l = E at *
      go_wp2_with fail
      refine (UBytes.bytesC a4 a5 cap4 cap5 E E w5 hr45 hr5 HB.out HB.out).mono ?_
      rw [show decide (E = E) = true from by simp]
      rintro e w6 ⟨rfl, rfl⟩
      go_wp2
      go_ret
      exact ⟨rfl, hB5⟩
theorem walk (a : Option Addr) (len cap : Nat) (zs : List Int) (W : World) (w0 : IsRow .i32 W a len cap zs) : Calls Try.prog 4 #[.slice a len cap] W fun e w' => e = .returned (.bool true) ∧ Below W.heap.size W w' := by
  obtain ⟨l, rfl, hcap, hcm, h0, hi, hwf⟩ := row_in w0
  by_cases h : 2000 < l.length
  · exact out a _ cap W h (by omega)
  · exact main a l cap W (by omega) hcap hcm hi
end Go.Proofs.Ytlhapnnepcnfbab.UtfEncodesW
