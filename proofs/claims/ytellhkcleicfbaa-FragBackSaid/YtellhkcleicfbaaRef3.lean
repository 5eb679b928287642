/- Numbers out of bytes: the document's own Get, and both at whatever slice and place. -/
import Derived.Test.YtellhkcleicfbaaRef2
import Derived.Test.YtellhkcleicfbaaNums
set_option linter.unusedVariables false
namespace Go.Proofs.Ytellhkcleicfbaa.Ref3
open Go Go.RowKit Kit Crc Var Get Ref2
theorem one127 : IntKind.u64.wrap (bits BinOp.and IntKind.u64 1 127 * 9223372036854775808) = 9223372036854775808 := by decide
theorem or_top {acc : Nat} (hA : acc < 2 ^ 63) : bits .or .u64 (acc : Int) 9223372036854775808 = ((acc + 1 * 2 ^ (7 * 9) : Nat) : Int) := by
  have e : (2 : Nat) ^ 63 = 9223372036854775808 := by decide
  have e2 : (2 : Nat) ^ (7 * 9) = 9223372036854775808 := by decide
  rw [e] at hA
  rw [e2, Nums.or63 (acc : Int) ⟨by omega, by omega⟩ (by simp [Nums.negB]; omega)]
  omega

set_option maxRecDepth 100000 in
set_option maxHeartbeats 4000000 in
theorem rGetRow (b off cap : Nat) (l : List Nat) (p : Nat) (w : World) (hl : ∀ c ∈ l, c < 256) (hm : l.length ≤ 9223372036854775000) (hp : p ≤ l.length) (hc : Cells w b off l) :
    Calls Try.prog 34 #[.slice (some ⟨b, off, none⟩) l.length cap, .int .i64 p] w fun e w' =>
      e = .returned (.tuple #[.int .u64 ((getF (l.drop p) 0 0).1 : Int), .int .i64 (end_ (getF (l.drop p) 0 0) p), .int .i64 ((getF (l.drop p) 0 0).2.2 : Int)]) ∧ w = w' := by
  generalize hR : getF (l.drop p) 0 0 = R
  have HR := Lib.hid hR
  clear hR
  go_enter Try.func34, Try.ntmps34
  go_wp2
  go_loop [7, 8] (fun s7 s8 => Rl R l p s7 s8) (fun _ s8 => 10 - (intOf s8).toNat)
  case atStart => exact ⟨0, 0, by omega, rfl, rfl, by decide, HR.out.symm⟩
  case round =>
    obtain ⟨i, acc, hi, rfl, rfl, hacc, hrest⟩ := hrel
    have HS := Lib.hid hrest
    clear hrest HR
    by_cases hlt : p + i < l.length
    · have hcell := hc (p + i) hlt
      have hb := hl l[p + i] (List.getElem_mem hlt)
      have HD := Lib.hid (drop_cons hlt)
      generalize hcv : l[p + i] = c at hb hcell HD
      have hb64 : c < 18446744073709551616 := by omega
      have eA := and127 c hb64
      clear hcv hb64
      by_cases h9 : i = 9
      · subst h9
        by_cases h1 : 1 < c
        · have HE := Lib.hid (show R = (0, 0, 2) from by rw [HS.out, HD.out, getF_err9 h1])
          clear HS HD
          go_wp2
          go_ret3
          exact ⟨three _ _ _ (by rw [HE.out]; rfl) (by rw [HE.out]; rfl) (by rw [HE.out]; rfl), rfl⟩
        · by_cases hc0 : c = 0
          · subst hc0
            have HE := Lib.hid (show R = (0, 0, 2) from by rw [HS.out, HD.out, getF_zero (by omega)])
            clear HS HD
            go_wp2
            go_ret3
            exact ⟨three _ _ _ (by rw [HE.out]; rfl) (by rw [HE.out]; rfl) (by rw [HE.out]; rfl), rfl⟩
          · obtain rfl : c = 1 := by omega
            have HE := Lib.hid (show R = (acc + 1 * 2 ^ (7 * 9), 10, 0) from by rw [HS.out, HD.out, getF_end (by omega) (by omega) (by omega)])
            have HA := Lib.hid hacc
            clear HS HD hacc
            go_wp2
            go_ret3
            refine ⟨three _ _ _ ?_ (by rw [HE.out, end_, if_pos rfl]; simp; omega) (by rw [HE.out]; rfl), rfl⟩
            rw [HE.out]
            have hA : acc < 2 ^ 63 := HA.out
            show bits .or .u64 (acc : Int) _ = _
            rw [one127]
            exact or_top hA
      · have hi8 : i ≤ 8 := by omega
        have eS := orStep (c := c) hi8 hacc
        by_cases hm8 : 128 ≤ c
        · have HP := Lib.hid (pow_step (c := c) hi8 hacc)
          have HE := Lib.hid (show R = getF (l.drop (p + i + 1)) (i + 1) (acc + c % 128 * 2 ^ (7 * i)) from by rw [HS.out, HD.out, getF_more h9 hm8])
          have hm8' : (128 : Int) ≤ (c : Int) := by omega
          clear HS HD
          generalize acc + c % 128 * 2 ^ (7 * i) = acc' at eS HP HE
          go_wp2
          go_round
          case rel => (repeat apply Exists.intro); exact ⟨⟨i + 1, acc', by omega, rfl, by go_num, HP.out.1, HE.out⟩, by (repeat first | rfl | constructor)⟩
          case measure => simp only [intOf]; omega
        · by_cases hc0 : c = 0
          · subst hc0
            by_cases hi0 : 0 < i
            · have HE := Lib.hid (show R = (0, 0, 2) from by rw [HS.out, HD.out, getF_zero hi0])
              clear HS HD
              go_wp2
              go_ret3
              exact ⟨three _ _ _ (by rw [HE.out]; rfl) (by rw [HE.out]; rfl) (by rw [HE.out]; rfl), rfl⟩
            · obtain rfl : i = 0 := by omega
              obtain rfl : acc = 0 := by omega
              have HE := Lib.hid (show R = (0, 1, 0) from by rw [HS.out, HD.out, getF_end (by omega) (by omega) (by omega)])
              have hcell0 : w.cell? ⟨b, off + p, none⟩ = some (.int .u8 0) := hcell
              have hlt0 : p < l.length := hlt
              have e00 : bits .or .u64 0 0 = 0 := by decide
              clear HS HD eS hcell hlt
              go_wp2
              go_ret3
              exact ⟨three _ _ _ (by rw [HE.out]; decide) (by rw [HE.out, end_, if_pos rfl]; simp) (by rw [HE.out]; rfl), rfl⟩
          · have HE := Lib.hid (show R = (acc + c * 2 ^ (7 * i), i + 1, 0) from by rw [HS.out, HD.out, getF_end (by omega) (by omega) (by omega)])
            have hc128 : c % 128 = c := by omega
            rw [hc128] at eS
            have hcne : ((c : Int) == 0) = false := by simp; omega
            clear HS HD hc128
            generalize acc + c * 2 ^ (7 * i) = acc' at eS HE
            go_wp2
            go_ret3
            exact ⟨three _ _ _ (by rw [HE.out]) (by rw [HE.out, end_, if_pos rfl]; simp; omega) (by rw [HE.out]; rfl), rfl⟩
    · have hd : l.drop (p + i) = [] := List.drop_eq_nil_of_le (by omega)
      have HE := Lib.hid (show R = (0, 0, 3) from by rw [HS.out, hd]; rfl)
      clear hd HS
      go_wp2
      go_ret3
      exact ⟨three _ _ _ (by rw [HE.out]; rfl) (by rw [HE.out]; rfl) (by rw [HE.out]; rfl), rfl⟩

/-- what Get answers, whatever the place. -/
def getA (l : List Nat) (p : Int) : Int × Int × Int :=
  if p < 0 ∨ (l.length : Int) < p then (0, 0, 1) else (((getF (l.drop p.toNat) 0 0).1 : Int), end_ (getF (l.drop p.toNat) 0 0) p.toNat, ((getF (l.drop p.toNat) 0 0).2.2 : Int))
def GetP (l : List Nat) (p : Int) (w : World) (e : Ending) (w' : World) : Prop :=
  e = .returned (.tuple #[.int .u64 (getA l p).1, .int .i64 (getA l p).2.1, .int .i64 (getA l p).2.2]) ∧ w = w'
set_option maxRecDepth 100000 in
theorem out36 (a : Option Addr) (n cap : Nat) (p : Int) (w : World) (hm : n ≤ 9223372036854775000) (h : p < 0 ∨ (n : Int) < p) :
    Calls Try.prog 43 #[.slice a n cap, .int .i64 p] w fun e w' => e = .returned (.tuple #[.int .u64 0, .int .i64 0, .int .i64 1]) ∧ w = w' := by
  go_enter Try.func43, Try.ntmps43
  rcases h with h | h
  · go_wp2
    go_ret3
    exact ⟨rfl, rfl⟩
  · have h0 : ¬ p < 0 := by omega
    go_wp2
    go_ret3
    exact ⟨rfl, rfl⟩
set_option maxRecDepth 100000 in
theorem empty36 (a : Option Addr) (cap : Nat) (w : World) :
    Calls Try.prog 43 #[.slice a 0 cap, .int .i64 0] w fun e w' => e = .returned (.tuple #[.int .u64 0, .int .i64 0, .int .i64 3]) ∧ w = w' := by
  go_enter Try.func43, Try.ntmps43
  go_wp2
  refine wp_loop_rounds 1 ?_
  rw [rounds_succ]
  go_wp2
  go_ret3
  exact ⟨rfl, rfl⟩
theorem get36 (a : Option Addr) (cap : Nat) (l : List Nat) (p : Int) (w : World) (hl : ∀ c ∈ l, c < 256) (hm : l.length ≤ 9223372036854775000) (hc : Sl w a l) :
    Calls Try.prog 43 #[.slice a l.length cap, .int .i64 p] w (GetP l p w) := by
  by_cases hp : p < 0 ∨ (l.length : Int) < p
  · have e : getA l p = (0, 0, 1) := by rw [getA, if_pos hp]
    unfold GetP; rw [e]
    exact out36 a l.length cap p w hm hp
  · obtain ⟨q, rfl⟩ := Int.eq_ofNat_of_zero_le (a := p) (by omega)
    have e : getA l q = (((getF (l.drop q) 0 0).1 : Int), end_ (getF (l.drop q) 0 0) q, ((getF (l.drop q) 0 0).2.2 : Int)) := by rw [getA, if_neg hp]; rfl
    unfold GetP; rw [e]
    rcases hc with rfl | ⟨b, off, rfl, hc⟩
    · obtain rfl : q = 0 := by simp at hp; omega
      exact empty36 a cap w
    · exact getRow b off cap l q w hl hm (by omega) hc
set_option maxRecDepth 100000 in
theorem out37 (a : Option Addr) (n cap : Nat) (p : Int) (w : World) (hm : n ≤ 9223372036854775000) (h : p < 0 ∨ (n : Int) < p) :
    Calls Try.prog 34 #[.slice a n cap, .int .i64 p] w fun e w' => e = .returned (.tuple #[.int .u64 0, .int .i64 0, .int .i64 1]) ∧ w = w' := by
  go_enter Try.func34, Try.ntmps34
  rcases h with h | h
  · go_wp2
    go_ret3
    exact ⟨rfl, rfl⟩
  · have h0 : ¬ p < 0 := by omega
    go_wp2
    go_ret3
    exact ⟨rfl, rfl⟩
set_option maxRecDepth 100000 in
theorem empty37 (a : Option Addr) (cap : Nat) (w : World) :
    Calls Try.prog 34 #[.slice a 0 cap, .int .i64 0] w fun e w' => e = .returned (.tuple #[.int .u64 0, .int .i64 0, .int .i64 3]) ∧ w = w' := by
  go_enter Try.func34, Try.ntmps34
  go_wp2
  refine wp_loop_rounds 1 ?_
  rw [rounds_succ]
  go_wp2
  go_ret3
  exact ⟨rfl, rfl⟩
theorem get37 (a : Option Addr) (cap : Nat) (l : List Nat) (p : Int) (w : World) (hl : ∀ c ∈ l, c < 256) (hm : l.length ≤ 9223372036854775000) (hc : Sl w a l) :
    Calls Try.prog 34 #[.slice a l.length cap, .int .i64 p] w (GetP l p w) := by
  by_cases hp : p < 0 ∨ (l.length : Int) < p
  · have e : getA l p = (0, 0, 1) := by rw [getA, if_pos hp]
    unfold GetP; rw [e]
    exact out37 a l.length cap p w hm hp
  · obtain ⟨q, rfl⟩ := Int.eq_ofNat_of_zero_le (a := p) (by omega)
    have e : getA l q = (((getF (l.drop q) 0 0).1 : Int), end_ (getF (l.drop q) 0 0) q, ((getF (l.drop q) 0 0).2.2 : Int)) := by rw [getA, if_neg hp]; rfl
    unfold GetP; rw [e]
    rcases hc with rfl | ⟨b, off, rfl, hc⟩
    · obtain rfl : q = 0 := by simp at hp; omega
      exact empty37 a cap w
    · exact rGetRow b off cap l q w hl hm (by omega) hc
/-- a number in four bytes, the greatest first. -/
def fourL (n : Int) : List Nat := [(n / 16777216 % 256).toNat, (n / 65536 % 256).toNat, (n / 256 % 256).toNat, (n % 256).toNat]
def FourP (n : Int) (w : World) (e : Ending) (w' : World) : Prop :=
  e = .returned (.slice (some ⟨w.heap.size, 0, none⟩) 4 4) ∧ w.alloc (.cells (cellsOf (fourL n)).toArray 5) = w'
theorem four_bytes (n : Int) : ∀ c ∈ fourL n, c < 256 := by
  intro c hc
  simp [fourL] at hc
  omega
theorem four_cells (n : Int) : (cellsOf (fourL n)).toArray = #[.int .u8 (n / 16777216 % 256), .int .u8 (n / 65536 % 256), .int .u8 (n / 256 % 256), .int .u8 (n % 256)] := by
  have h : ∀ x : Int, ((x % 256).toNat : Int) = x % 256 := fun x => by omega
  simp [cellsOf, fourL, h]
end Go.Proofs.Ytellhkcleicfbaa.Ref3
