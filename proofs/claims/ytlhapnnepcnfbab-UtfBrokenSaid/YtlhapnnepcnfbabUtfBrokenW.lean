/- tiklaw3.UtfBroken: the walk. -/
import Derived.Test.YtlhapnnepcnfbabUEnc
import Derived.Test.YtlhapnnepcnfbabUMath2
set_option linter.unusedVariables false
namespace Go.Proofs.Ytlhapnnepcnfbab.UtfBrokenW
open Go Go.RowKit Words UMath UDec

def OutP (w : World) (e : Ending) (w' : World) : Prop := e = .returned (.bool true) ∧ Below w.heap.size w w'
theorem enc_one (r : Int) : encL [r] = encZ r := by simp [encL]
set_option maxRecDepth 100000 in
set_option maxHeartbeats 2000000 in
theorem out (r cut : Int) (a : Option Addr) (len cap : Nat) (w : World) (hm : len ≤ 9223372036854775807) (h : (encZ r).length < 2 ∨ cut < 1 ∨ ((encZ r).length : Int) ≤ cut ∨ 500 < len) :
    Calls Try.prog 8 #[.int .i32 r, .int .i64 cut, .slice a len cap] w (OutP w) := by
  have HE := Lib.hid (enc_one r)
  have h4 := enc_len4 r
  generalize encZ r = E at *
  rcases h with h | h | h | h
  all_goals
    go_enter Try.func8, Try.ntmps8
    go_wp2_with fail
    refine (first _).mono ?_
    rintro e w1 ⟨rfl, hb1⟩
    go_wp2_with fail
    refine (encC (some ⟨w1.heap.size, 0, none⟩) [r] 1 _ (by simp) (Row.new rfl rfl 21)).mono ?_
    rintro e w2 ⟨v2, rfl, ho2, hb2⟩
    rw [HE.out] at ho2
    have hB2 := below_next (below_al hb1) hb2
    obtain ⟨a2, cap2, rfl, hcap2, hr2, _, _⟩ := row_own ho2
    clear ho2 hb2
    go_wp2_with fail
  all_goals
    refine (first _).mono ?_
    rintro e w3 ⟨rfl, hb3⟩
    go_wp2
    go_ret
    exact ⟨rfl, below_next hB2 hb3⟩
set_option maxRecDepth 100000 in
set_option maxHeartbeats 8000000 in
theorem main (r : Int) (cut : Nat) (a : Option Addr) (l : List Int) (cap : Nat) (w : World) (hl : l.length ≤ 500) (h1 : 1 ≤ cut) (h2 : cut < (encZ r).length) (hr : Row .u8 w a l) (hby : ∀ c ∈ l, 0 ≤ c ∧ c ≤ 255) :
    Calls Try.prog 8 #[.int .i32 r, .int .i64 (cut : Int), .slice a l.length cap] w (OutP w) := by
  have HE := Lib.hid (enc_one r)
  have HEB := Lib.hid (enc_byte r)
  have HR := Lib.hid hr
  have HB := Lib.hid hby
  have HP := Lib.hid (part_enc r cut h1 h2)
  have hok : OkD (writeD d0 ((encZ r).take cut)).2 := ok_write ok0 (fun c hc => enc_byte r c (List.mem_of_mem_take hc))
  have HOK := Lib.hid hok
  have h4 := (enc_len4 r).2
  clear hr hby hok
  generalize encZ r = E at *
  go_enter Try.func8, Try.ntmps8
  go_wp2_with fail
  refine (first _).mono ?_
  rintro e w1 ⟨rfl, hb1⟩
  go_wp2_with fail
  refine (encC (some ⟨w1.heap.size, 0, none⟩) [r] 1 _ (by simp) (Row.new rfl rfl 21)).mono ?_
  rintro e w2 ⟨v2, rfl, ho2, hb2⟩
  rw [HE.out] at ho2
  have hB2 := below_next (below_al hb1) hb2
  obtain ⟨a2, cap2, rfl, hcap2, hr2, _, _⟩ := row_own ho2
  have hsz2 := hB2.size
  have HR2 := Lib.hid hr2
  have HB2 := Lib.hid hB2
  clear ho2 hb2 hb1 hr2 hB2
  go_wp2
  go_loop [8] (fun s8 => ∃ k : Nat, k ≤ l.length ∧ s8 = .int .i64 (k : Int) ∧ Hid (∀ c ∈ l.take k, c ≤ 126)) (fun s8 => l.length - (intOf s8).toNat)
  case atStart => exact ⟨0, Nat.zero_le _, rfl, Lib.hid (by simp)⟩
  case round =>
    obtain ⟨k, hk, rfl, hT⟩ := hrel
    by_cases hlt : k < l.length
    · obtain ⟨bb, off, rfl⟩ := HR.out.addr (by omega)
      have hcell := Row.at_ (HR.out.then_ HB2.out (Nat.le_refl _)) k hlt
      have hstep : l[k] ≤ 126 → ∀ c ∈ l.take (k + 1), c ≤ 126 := fun h c hc => by
        rw [List.take_succ_eq_append_getElem hlt] at hc
        rcases List.mem_append.1 hc with hc | hc
        · exact hT.out c hc
        · simp at hc; rw [hc]; exact h
      have HS := Lib.hid hstep
      clear hstep hT
      generalize l[k] = c at hcell HS
      by_cases hc : c ≤ 126
      · go_wp2
        go_round
        case rel => exact ⟨k + 1, by omega, by go_num, Lib.hid (HS.out hc)⟩
        case measure => simp [intOf]; omega
      · go_wp2_with fail
        refine (first _).mono ?_
        rintro e w3 ⟨rfl, hb3⟩
        go_wp2
        go_ret
        exact ⟨rfl, below_next HB2.out hb3⟩
    · obtain rfl : k = l.length := by omega
      have hT2 : ∀ c ∈ l, 0 ≤ c ∧ c ≤ 126 := fun c hc => ⟨(HB.out c hc).1, hT.out c (by rw [List.take_of_length_le (Nat.le_refl _)]; exact hc)⟩
      have HT := Lib.hid hT2
      clear hT hT2
      go_wp2_with fail
      refine (newC w2).mono ?_
      rintro e w3 ⟨rfl, rfl⟩
      have hd0 : Dw (w2.alloc (.cells #[.int .i32 0, .int .i64 0, .int .i64 0, .int .u8 0, .int .u8 0] 43)) w2.heap.size d0 := Blk.new _ _ _
      have hb3 : Below w2.heap.size w2 (w2.alloc (.cells #[.int .i32 0, .int .i64 0, .int .i64 0, .int .u8 0, .int .u8 0] 43)) := below_one _ _
      generalize w2.alloc (.cells #[.int .i32 0, .int .i64 0, .int .i64 0, .int .u8 0, .int .u8 0] 43) = w3 at *
      have hEl : (E.take cut).length = cut := by simp; omega
      have hWr := writeC w2.heap.size d0 a2 (E.take cut) cap2 w3 hd0 ok0 (by omega) ((HR2.out.then_ hb3 (Nat.le_refl _)).take_ cut) (fun c hc => HEB.out c (List.mem_of_mem_take hc)) (fun h b off e => by have := HR2.out.lt' (by omega) b off e; omega)
      rw [hEl] at hWr
      have HWr := Lib.hid hWr
      clear hWr
      generalize w2.heap.size = P at *
      have hB3 : Below w.heap.size w w3 := HB2.out.trans (hb3.mono hsz2)
      go_wp2_with fail
      refine HWr.out.mono ?_
      rintro e w4 ⟨v4, rfl, ho4, hd4, hg4⟩
      generalize writeD d0 (E.take cut) = rr at *
      obtain ⟨p1, p2, p3⟩ := HP.out
      rw [p1] at ho4
      obtain ⟨a4, cap4, rfl, hcap4, hr4, _, _⟩ := row_own ho4
      have hB4 : Below w.heap.size w w4 := below_put hB3 hg4 hsz2
      have HP2 := Lib.hid p2
      clear ho4 hg4 p1 p2 HP hcap4 hr4
      have hcc : ((cut : Int) != (cut : Int)) = false := by simp
      go_wp2_with fail
      refine (pendC P rr.2 w4 hd4).mono ?_
      rw [HP2.out]
      rintro e w5 ⟨rfl, rfl⟩
      have hWr2 := writeC P rr.2 a l cap w4 hd4 HOK.out (by omega) (HR.out.then_ hB4 (Nat.le_refl _)) HB.out (fun h b off e => by have := HR.out.lt' h b off e; omega)
      have HWr2 := Lib.hid hWr2
      clear hWr2
      by_cases hl0 : l = []
      · subst hl0
        simp only [List.length_nil] at HWr2 ⊢
        go_wp2_with fail
        refine HWr2.out.mono ?_
        rintro e w6 ⟨v6, rfl, ho6, hd6, hg6⟩
        have ho6' : w6.ownsRow w4.heap.size 21 1 v6 ([] : List Int).length (cellsK .i32 []) := ho6
        have hd6' : Dw w6 P rr.2 := hd6
        obtain ⟨a6, cap6, rfl, _, _, _, _⟩ := row_own ho6'
        have hB6 : Below w.heap.size w w6 := below_put hB4 hg6 hsz2
        clear ho6 ho6' hd6 hg6
        go_wp2_with fail
        refine (first _).mono ?_
        rintro e w7 ⟨rfl, hb7⟩
        have hd7 : Dw w7 P rr.2 := Blk.then_ hd6' hb7
        have hB7 := below_next hB6 hb7
        go_wp2_with fail
        refine (flushC P rr.2 w7 hd7 HOK.out).mono ?_
        rintro e w8 ⟨v8, rfl, hd8, hg8, ho8⟩
        rw [show flushL rr.2 = [65533] by unfold flushL; rw [if_neg (by rw [HP2.out]; omega)]] at ho8
        obtain ⟨a8, cap8, rfl, _, _, _, _⟩ := row_own ho8
        have hB8 : Below w.heap.size w w8 := below_put hB7 hg8 hsz2
        clear ho8 hg8
        go_wp2
        go_ret
        exact ⟨rfl, hB8⟩
      · obtain ⟨c, rest, hcr⟩ := List.exists_cons_of_ne_nil hl0
        have HX := Lib.hid (show writeD rr.2 l = (65533 :: l, d0) by
          rw [hcr]; exact ascii_after rr.2 c rest (by rw [HP2.out]; omega) p3 (by rw [← hcr]; exact HT.out))
        have hL1 : 0 < l.length := by rw [hcr]; simp
        clear hcr
        have hne0 : ((l.length : Int) == 0) = false := by rw [beq_eq_false_iff_ne]; omega
        go_wp2_with fail
        refine HWr2.out.mono ?_
        rintro e w6 ⟨v6, rfl, ho6, hd6, hg6⟩
        rw [HX.out] at ho6 hd6
        obtain ⟨a6, cap6, rfl, hcap6, hr6, _, _⟩ := row_own ho6
        have hB6 : Below w.heap.size w w6 := below_put hB4 hg6 hsz2
        obtain ⟨b6, o6, rfl⟩ := hr6.addr (by simp)
        have hc0 : w6.cell? ⟨b6, o6, none⟩ = some (.int .i32 65533) := by have := Row.at_ hr6 0 (by simp); simpa using this
        have HR6 := Lib.hid hr6
        have HB6 := Lib.hid hB6
        clear ho6 hr6 hg6 hB6
        simp only [List.length_cons] at hcap6 ⊢
        have hn2 : ((l.length : Int) + 1 != 1 + (l.length : Int)) = false := by simp; omega
        go_wp2_with fail
        refine (pendC P d0 w6 hd6).mono ?_
        rintro e w7 ⟨rfl, rfl⟩
        have hRb : Row .u8 w6 a l := HR.out.then_ HB6.out (Nat.le_refl _)
        have HRb := Lib.hid hRb
        clear hRb hc0
        have hl5 := hl
        go_wp2
        go_loopw [12] (fun s12 W => ∃ k d : Nat, k ≤ l.length ∧ s12 = .int .i64 (k : Int) ∧ W = w6.drewN d) (fun s12 _ => l.length - (intOf s12).toNat)
        case atStart => exact ⟨0, 0, Nat.zero_le _, rfl, rfl⟩
        case round =>
          obtain ⟨k, d, hk, rfl, rfl⟩ := hrel
          by_cases hlt2 : k < l.length
          · obtain ⟨bb, off, rfl⟩ := HRb.out.addr (by omega)
            have hc1 := Row.at_ HRb.out k hlt2
            have hc2 : w6.cell? ⟨b6, o6 + (k + 1), none⟩ = some (.int .i32 l[k]) := by have := Row.at_ HR6.out (k + 1) (by simp; omega); simpa using this
            have hc3 : w6.cell? ⟨b6, o6 + k + 1, none⟩ = some (.int .i32 l[k]) := by rw [Nat.add_assoc]; exact hc2
            have hb := HB.out l[k] (List.getElem_mem hlt2)
            generalize l[k] = x at *
            obtain ⟨b0, b1⟩ := hb
            have hne : ((x : Int) != x) = false := by simp
            have g1 : IntKind.i64.wrap ((k : Int) + 1) = (k : Int) + 1 := IntWalk.i64_in _ (by omega)
            have g2 : (0 : Int) ≤ (k : Int) + 1 := by omega
            have g3 : ((k : Int) + 1).toNat = k + 1 := by omega
            have g4 : (k : Int) + 1 < (l.length : Int) + 1 := by omega
            have g5 : (k : Int) < (l.length : Int) := by omega
            have g6 : (0 : Int) ≤ (k : Int) := by omega
            have g7 : IntKind.i32.wrap x = x := by rw [IntKind.wrap_i32]; omega
            go_wp2
            go_quiet (fail)
            clear g1 g3
            go_wp2
            go_roundw
            case rel => exact ⟨k + 1, _, by omega, by go_num, rfl⟩
            case measure => simp [intOf]; omega
          · obtain rfl : k = l.length := by omega
            go_wp2_with fail
            refine (first _).mono ?_
            rintro e w8 ⟨rfl, hb8⟩
            go_wp2
            go_ret
            exact ⟨rfl, below_next (below_drewN HB6.out d) hb8⟩
theorem walk (r cut : Int) (a : Option Addr) (len cap : Nat) (zs : List Int) (W : World) (_w0 : (Lit.int .i32 r).wf = true) (_w1 : (Lit.int .i64 cut).wf = true) (w2 : IsRow .u8 W a len cap zs) :
    Calls Try.prog 8 #[.int .i32 r, .int .i64 cut, .slice a len cap] W fun e w' => e = .returned (.bool true) ∧ Below W.heap.size W w' := by
  obtain ⟨l, rfl, hcap, hcm, h0, hi, hwf⟩ := row_in w2
  by_cases h : (encZ r).length < 2 ∨ cut < 1 ∨ ((encZ r).length : Int) ≤ cut ∨ 500 < l.length
  · exact out r cut a _ cap W (by omega) h
  · obtain ⟨c, rfl⟩ := Int.eq_ofNat_of_zero_le (show 0 ≤ cut by omega)
    exact main r c a l cap W (by omega) (by omega) (by omega) hi (fun c hc => wf_u8 (hwf c hc))
end Go.Proofs.Ytlhapnnepcnfbab.UtfBrokenW
