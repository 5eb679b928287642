/- pkt.Open over what was sealed. -/
import Derived.Test.YtmfkfpgomglplaaDoorOp
import Derived.Test.YtmfkfpgomglplaaDoorPt
set_option linter.unusedVariables false
namespace Go.Proofs.YtmfkfpgomglplaaDoor.Oq
open Go Go.RowKit Kit Mb Sha Ap Mc1 Sc Mx Sb Pd Su Pa Hm Mm Tg Mf Pk Se Wn Op Pe Ps Pt


theorem be8_num (n : Nat) (h : n < 18446744073709551616) : numL (be8 n) = n := by
  have e4 : ∀ m, numL (be4 m) = m % 4294967296 := by
    intro m; simp only [numL, be4, List.foldl_cons, List.foldl_nil]; omega
  have e8 : ∀ a b c d e f g h : Nat, numL [a, b, c, d, e, f, g, h] = numL [a, b, c, d] * 4294967296 + numL [e, f, g, h] := by
    intro a b c d e f g h; simp only [numL, List.foldl_cons, List.foldl_nil]; omega
  have s : numL (be8 n) = numL (be4 (n / 4294967296)) * 4294967296 + numL (be4 n) := e8 _ _ _ _ _ _ _ _
  rw [s, e4, e4]; omega
theorem pktL_len (D V n : Nat) (l : List Nat) : (pktL D V n l).length = 10 + l.length := by
  have h8 : (be8 n).length = 8 := be8_len _
  unfold pktL frontL; simp [h8]; omega
theorem frontL8 (D V n : Nat) : frontL D V n 8 = [D, V] ++ be8 n := by
  unfold frontL; rw [List.take_of_length_le (by rw [be8_len]; omega)]
theorem pktL_is (D V n : Nat) (l : List Nat) : pktL D V n l = D :: V :: (be8 n ++ l) := by unfold pktL; rw [frontL8]; rfl
theorem sealL_take (key : List Nat) (D V n : Nat) (l : List Nat) : (sealL key D V n l).take (10 + l.length) = pktL D V n l := by
  unfold sealL
  rw [List.take_append_of_le_length (by rw [pktL_len]; omega), List.take_of_length_le (by rw [pktL_len]; omega)]
theorem sealL_drop (key : List Nat) (D V n : Nat) (l : List Nat) : (sealL key D V n l).drop (10 + l.length) = tagL key (pktL D V n l) := by
  unfold sealL
  rw [show 10 + l.length = (pktL D V n l).length from (pktL_len D V n l).symm, List.drop_left]
theorem sealL_at0 (key : List Nat) (D V n : Nat) (l : List Nat) : (sealL key D V n l).getD 0 0 = D := by unfold sealL; rw [pktL_is]; rfl
theorem sealL_at1 (key : List Nat) (D V n : Nat) (l : List Nat) : (sealL key D V n l).getD 1 0 = V := by unfold sealL; rw [pktL_is]; rfl
theorem sealL_num (key : List Nat) (D V n : Nat) (l : List Nat) (h : n < 18446744073709551616) : numL (((sealL key D V n l).drop 2).take 8) = n := by
  unfold sealL; rw [pktL_is]
  show numL ((be8 n ++ l ++ tagL key (D :: V :: (be8 n ++ l))).take 8) = n
  rw [List.append_assoc, List.take_append_of_le_length (by rw [be8_len]; omega), List.take_of_length_le (by rw [be8_len]; omega)]
  exact be8_num n h
theorem sealL_body (key : List Nat) (D V n : Nat) (l : List Nat) : ((sealL key D V n l).drop 10).take (10 + l.length - 10) = l := by
  unfold sealL; rw [pktL_is]
  show ((be8 n ++ l ++ tagL key (D :: V :: (be8 n ++ l))).drop 8).take _ = l
  rw [List.append_assoc, show (8 : Nat) = (be8 n).length from rfl, List.drop_left, List.take_append_of_le_length (by omega), List.take_of_length_le (by omega)]
theorem sealL_lt (key : List Nat) (D V n : Nat) (l : List Nat) (hD : D < 256) (hV : V < 256) (hl : ∀ c ∈ l, c < 256) : ∀ c ∈ sealL key D V n l, c < 256 := by
  intro c hc
  unfold sealL pktL at hc
  rcases List.mem_append.1 hc with h | h
  · rcases List.mem_append.1 h with h | h
    · exact frontL_lt D V n 8 hD hV c h
    · exact hl c h
  · exact tagL_lt _ _ c h
/-- what was sealed is opened. -/
theorem openSeal (ba : Option Addr) (bn bc : Nat) (ka : Option Addr) (kc : Nat) (key : List Nat) (D V n : Nat) (l : List Nat) (w : World)
    (h1 : 1 ≤ D) (h2 : D ≤ 2) (h3 : V < 8) (h4 : 1 ≤ n) (h5 : n ≤ 4611686018427387904) (h6 : l.length ≤ 1200) (hl : ∀ c ∈ l, c < 256)
    (hbn : bn = 26 + l.length) (hbc : 26 + l.length ≤ bc) (hb : Sl w ba (sealL key D V n l))
    (ks : Sl w ka key) (k0 : ka = none → kc = 0) (kcap : key.length ≤ kc) (kl : ∀ c ∈ key, c < 256) (klen : key.length ≤ 800000) (hT : TabR w) (hB : TabB w) :
    Calls Tryd.prog 27 #[.slice ka key.length kc, .slice ba bn bc] w (OpP (D : Int) (V : Int) n l w) := by
  have hlen := sealL_len key D V n l
  obtain ⟨bb, bo, rfl, hc⟩ := sl_at hb (by omega)
  have h := openOk bb bo bc (sealL key D V n l) ka kc key w (10 + l.length) (by omega) (by omega) (by omega) (by omega) hc (sealL_lt key D V n l (by omega) (by omega) hl) ks k0 kcap kl klen hT hB
    (by rw [sealL_take, sealL_drop]) D V n l (sealL_at0 _ _ _ _ _).symm (sealL_at1 _ _ _ _ _).symm (sealL_num key D V n l (by omega)).symm (sealL_body _ _ _ _ _).symm
    (by rw [show 10 + l.length - 10 = l.length by omega]; exact may_yes D V n l h1 h2 h3 h4 h5 h6)
  rw [hlen] at h
  subst hbn
  exact h
/-- what is too short is refused. -/
theorem openShortE (ba : Option Addr) (bn bc : Nat) (ka : Option Addr) (kn kc : Nat) (w : World) (h : bn < 26) :
    Calls Tryd.prog 27 #[.slice ka kn kc, .slice ba bn bc] w fun e w' => e = .returned (.tuple #[.agg #[.int .i64 0, .int .i64 0, .int .u64 0, .slice none 0 0], .int .i64 3]) ∧ Below w.heap.size w w' :=
  openShort ba bn bc ka kn kc w h

end Go.Proofs.YtmfkfpgomglplaaDoor.Oq
