/- The document's Reader: Raw and Text. -/
import Derived.Test.YtlhapnnepcnfbaaDoorRqB
import Derived.Test.YtlhapnnepcnfbaaDoorRdF
set_option linter.unusedVariables false
namespace Go.Proofs.YtlhapnnepcnfbaaDoor.RqC
open Go Go.RowKit Kit Crc Var Get Bytes WireFirst Ref3 Copy Rd RdA RdB RdC RdD RdE RqA RqB
open RdF (textN)

variable {w w' w2 : World} {p : Nat} {r : Rdr}
theorem raw_nil (r2 : Rdr) (hp : Rq w' p r2) (hg : w.grownBy w' (some p)) : RawR w p r2 [] (.returned (.slice none 0 0)) w' := ⟨none, 0, rfl, Nat.le_refl _, .inl rfl, (fun x hx => by cases hx), hp, hg⟩
set_option maxRecDepth 100000 in
theorem rawDone (n : Int) (hp : Rq w p r) (he : r.err ≠ 0) : Calls Tryd.prog 49 #[.pointer (some ⟨p, 0, none⟩), .int .i64 n] w (RawR w p r []) := by
  have HN := Lib.hid (fun w' h1 h2 => @raw_nil w w' p r h1 h2)
  have HP := Lib.hid hp
  have c2 := hp.c2
  have be : (r.err != 0) = true := by simpa using he
  clear hp he
  go_enter Tryd.func49, Tryd.ntmps49
  go_wp2
  go_ret
  exact HN.out _ HP.out (grown_refl _ _)
set_option maxRecDepth 100000 in
theorem rawNegR (n : Int) (hp : Rq w p r) (he : r.err = 0) (h : n < 0) : Calls Tryd.prog 49 #[.pointer (some ⟨p, 0, none⟩), .int .i64 n] w (RawR w p { r with err := 1 } []) := by
  have HN := Lib.hid (fun w' h1 h2 => @raw_nil w w' p { r with err := 1 } h1 h2)
  have HP := Lib.hid (hp.set2 1)
  have HG := Lib.hid (grown_set (i := 2) (u := .int .i64 1) (grown_refl w (some p)))
  have c2 := hp.c2
  rw [he] at c2
  have f2 := hp.fz 2
  have b1 : decide (n < 0) = true := decide_eq_true h
  clear hp he h
  go_enter Tryd.func49, Tryd.ntmps49
  go_wp2
  go_ret
  exact HN.out _ HP.out HG.out
set_option maxRecDepth 100000 in
theorem rawLongR (n : Nat) (hp : Rq w p r) (he : r.err = 0) (h1 : r.at_ ≤ r.len) (h2 : r.len ≤ 9223372036854775807) (h : r.len < r.at_ + n) : Calls Tryd.prog 49 #[.pointer (some ⟨p, 0, none⟩), .int .i64 (n : Int)] w (RawR w p { r with err := 3 } []) := by
  have HN := Lib.hid (fun w' h1 h2 => @raw_nil w w' p { r with err := 3 } h1 h2)
  have HP := Lib.hid (hp.set2 3)
  have HG := Lib.hid (grown_set (i := 2) (u := .int .i64 3) (grown_refl w (some p)))
  have c0 := hp.c0
  have c1 := hp.c1
  have c2 := hp.c2
  rw [he] at c2
  have f2 := hp.fz 2
  have b1 : decide ((n : Int) < 0) = false := decide_eq_false (by omega)
  have b2 : decide ((r.len : Int) - (r.at_ : Int) < (n : Int)) = true := decide_eq_true (by omega)
  have hw : IntKind.i64.wrap ((r.len : Int) - (r.at_ : Int)) = (r.len : Int) - (r.at_ : Int) := IntWalk.i64_in _ (by omega)
  clear hp he h h1 h2
  go_enter Tryd.func49, Tryd.ntmps49
  go_wp2
  go_quiet (fail)
  go_wp2
  go_ret
  exact HN.out _ (by exact HP.out) (grown_draw _ HG.out)
/-- Raw, whatever is asked. -/
theorem rawR (n : Int) (l : List Nat) (hp : Rq w p r) (hl : By w r l) (hle : r.at_ ≤ l.length) (hs : l.length ≤ 1000000) (h0 : r.a = none → r.cap = 0) (hne : 0 < l.length → ∀ x, r.a = some x → x.block ≠ p) :
    Calls Tryd.prog 49 #[.pointer (some ⟨p, 0, none⟩), .int .i64 n] w (RawR w p (rawN l r n).2 (rawN l r n).1) := by
  have hlen := hl.len
  unfold rawN
  by_cases he : r.err = 0
  · rw [if_neg (by simpa using he)]
    by_cases h1 : n < 0
    · rw [if_pos h1]; exact rawNegR n hp he h1
    · rw [if_neg h1]
      obtain ⟨k, rfl⟩ := Int.eq_ofNat_of_zero_le (a := n) (by omega)
      by_cases h2 : (l.length : Int) < (r.at_ : Int) + (k : Int)
      · rw [if_pos h2]; exact rawLongR k hp he (by omega) (by omega) (by omega)
      · rw [if_neg h2]; exact rawFit k l hp hl he (by omega) hs h0 hne
  · rw [if_pos he]; exact rawDone n hp he
def TextR (w : World) (p : Nat) (r : Rdr) (s : ByteArray) (e : Ending) (w' : World) : Prop := e = .returned (.string s) ∧ Rq w' p r ∧ w.grownBy w' (some p)
theorem sl_moved {l : List Nat} (h : By w r l) (hne : 0 < l.length → ∀ x, r.a = some x → x.block ≠ p) (hg : w.grownBy w' (some p)) : By w' r l := by
  refine ⟨h.len, ?_, h.cap, h.small, h.byte⟩
  rcases h.sl with h0 | ⟨b, off, ha, hc⟩
  · exact .inl h0
  · exact .inr ⟨b, off, ha, fun i hi => cell_grown hg (hne (by omega) _ ha) (hc i hi)⟩
set_option maxRecDepth 100000 in
set_option maxHeartbeats 4000000 in
theorem textR (most : Nat) (hm63 : most < 9223372036854775808) (l : List Nat) (hp : Rq w p r) (hl : By w r l) (hle : r.at_ ≤ l.length) (hs : l.length ≤ 1000000) (h0 : r.a = none → r.cap = 0) (hne : 0 < l.length → ∀ x, r.a = some x → x.block ≠ p) :
    Calls Tryd.prog 51 #[.pointer (some ⟨p, 0, none⟩), .int .u64 (most : Int)] w (TextR w p (textN l r (most : Int)).2 (textN l r (most : Int)).1) := by
  have hlen := hl.len
  have HNUM := Lib.hid (numR most l hp hl)
  have c1 := hp.c1
  -- the four ways
  obtain ⟨X, hX⟩ : ∃ X, X = textN l r (most : Int) := ⟨_, rfl⟩
  rw [← hX]
  have hways : (∃ r1 : Rdr, r1.err ≠ 0 ∧ numN l r most = (0, r1) ∧ X = (strL [], r1)) ∨
      (∃ n y : Nat, numN l r most = ((n : Int), { r with at_ := y }) ∧ r.err = 0 ∧ y ≤ l.length ∧ l.length < y + n ∧ X = (strL [], { r with err := 3 })) ∨
      (∃ n y : Nat, numN l r most = ((n : Int), { r with at_ := y }) ∧ r.err = 0 ∧ y + n ≤ l.length ∧ X = (strL ((l.drop y).take n), { r with at_ := y + n })) := by
    unfold textN at hX
    unfold numN
    by_cases he : r.err = 0
    · rw [if_neg (by simpa using he)] at hX ⊢
      by_cases h1 : (getA l r.at_).2.2 = 0
      · obtain ⟨n, y, hg, _, hyl⟩ := getA_ok l r.at_ h1
        rw [hg] at hX ⊢
        simp only [Int.toNat_natCast, ne_eq, not_true_eq_false, if_false] at hX ⊢
        by_cases h2 : (most : Int) < (n : Int)
        · rw [if_pos h2] at hX ⊢
          exact .inl ⟨_, by simp, rfl, hX⟩
        · rw [if_neg h2] at hX ⊢
          by_cases h3 : (l.length : Int) < (y : Int) + (n : Int)
          · rw [if_pos h3] at hX
            exact .inr (.inl ⟨n, y, rfl, he, hyl, by omega, hX⟩)
          · rw [if_neg h3] at hX
            exact .inr (.inr ⟨n, y, rfl, he, by omega, hX⟩)
      · rw [if_pos h1] at hX ⊢
        exact .inl ⟨_, h1, rfl, hX⟩
    · rw [if_pos he] at hX ⊢
      exact .inl ⟨r, he, rfl, hX⟩
  clear hX
  rcases hways with ⟨r1, he1, hn, rfl⟩ | ⟨n, y, hn, he, hyl, hlong, rfl⟩ | ⟨n, y, hn, he, hfit, rfl⟩
  · rw [hn] at HNUM
    have be : (r1.err == 0) = false := by simpa using he1
    have HD := Lib.hid (fun W (h : Rq W p r1) (n : Int) => rawDone n h he1)
    clear hp hl hn he1 hlen
    go_enter Tryd.func51, Tryd.ntmps51
    go_wp2_with fail
    refine HNUM.out.mono ?_
    rintro e w1 ⟨rfl, hq1, hg1⟩
    have k2 := hq1.c2
    have HQ1 := Lib.hid hq1
    have HG1 := Lib.hid hg1
    clear hq1 hg1 c1
    go_wp2_with fail
    go_quiet (fail)
    have HDD := Lib.hid (HD.out (w1.drewN nq) HQ1.out 0)
    go_wp2_with fail
    refine HDD.out.mono ?_
    rintro e w3 ⟨a, cap, rfl, h3, h4, h5, h6, h7⟩
    have hcv := conv_empty a cap w3
    have HG := Lib.hid (grown_trans (grown_draw nq HG1.out) h7)
    clear h3 h4 h5 h7
    go_wp2
    go_ret
    exact ⟨rfl, h6, HG.out⟩
  · rw [hn] at HNUM
    have w1_ : IntKind.i64.wrap ((l.length : Int) - (y : Int)) = (l.length : Int) - (y : Int) := IntWalk.i64_in _ (by omega)
    have w2_ : IntKind.u64.wrap ((l.length : Int) - (y : Int)) = (l.length : Int) - (y : Int) := by rw [IntKind.wrap_u64]; omega
    have d1 : decide ((l.length : Int) - (y : Int) < (n : Int)) = true := decide_eq_true (by omega)
    have HD := Lib.hid (fun W n' (h : Rq W p { r with err := 3 }) => rawDone n' h (by simp))
    have HE := Lib.hid he
    have HLEN := Lib.hid hlen
    clear hp hl hn hyl hlong hs he
    go_enter Tryd.func51, Tryd.ntmps51
    go_wp2_with fail
    refine HNUM.out.mono ?_
    rintro e w1 ⟨rfl, hq1, hg1⟩
    have k0 : w1.cell? ⟨p, 0, none⟩ = some (.slice r.a l.length r.cap) := by have := hq1.c0; rw [← HLEN.out]; exact this
    have k1 : w1.cell? ⟨p, 1, none⟩ = some (.int .i64 (y : Int)) := hq1.c1
    have k2 : w1.cell? ⟨p, 2, none⟩ = some (.int .i64 0) := by have := hq1.c2; simp only at this; rw [HE.out] at this; exact this
    have f1 := hq1.fz 1
    have f2 := hq1.fz 2
    have HQ1 := Lib.hid ((hq1.set2 3).set1 r.at_)
    have HG1 := Lib.hid (grown_set (i := 1) (u := .int .i64 (r.at_ : Int)) (grown_set (i := 2) (u := .int .i64 3) hg1))
    clear hq1 hg1 c1 hlen
    go_wp2_with fail
    go_quiet (fail)
    go_wp2_with fail
    refine (HD.out _ _ (by exact HQ1.out)).mono ?_
    rintro e w3 ⟨a, cap, rfl, h3, h4, h5, h6, h7⟩
    have hcv := conv_empty a cap w3
    have HG := Lib.hid (grown_trans (grown_draw nq HG1.out) h7)
    clear h3 h4 h5 h7
    go_wp2
    go_ret
    exact ⟨rfl, h6, HG.out⟩
  · rw [hn] at HNUM
    have w1_ : IntKind.i64.wrap ((l.length : Int) - (y : Int)) = (l.length : Int) - (y : Int) := IntWalk.i64_in _ (by omega)
    have w2_ : IntKind.u64.wrap ((l.length : Int) - (y : Int)) = (l.length : Int) - (y : Int) := by rw [IntKind.wrap_u64]; omega
    have w3_ : IntKind.i64.wrap (n : Int) = (n : Int) := IntWalk.i64_in _ (by omega)
    have d1 : decide ((l.length : Int) - (y : Int) < (n : Int)) = false := decide_eq_false (by omega)
    have HD := Lib.hid (fun W (hg : w.grownBy W (some p)) (h : Rq W p { r with at_ := y }) => rawFit (r := { r with at_ := y }) n l h (by have h2 := sl_moved hl hne hg; exact ⟨h2.len, h2.sl, h2.cap, h2.small, h2.byte⟩) he hfit hs h0 hne)
    simp only at HD
    have hmm : ((l.drop y).take n).length = n := by rw [List.length_take, List.length_drop]; omega
    generalize (l.drop y).take n = m at *
    have HMM := Lib.hid hmm
    have HE := Lib.hid he
    have HLEN := Lib.hid hlen
    clear hp hl hn hfit hs he hmm
    go_enter Tryd.func51, Tryd.ntmps51
    go_wp2_with fail
    refine HNUM.out.mono ?_
    rintro e w1 ⟨rfl, hq1, hg1⟩
    have k0 : w1.cell? ⟨p, 0, none⟩ = some (.slice r.a l.length r.cap) := by have := hq1.c0; rw [← HLEN.out]; exact this
    have k1 : w1.cell? ⟨p, 1, none⟩ = some (.int .i64 (y : Int)) := hq1.c1
    have k2 : w1.cell? ⟨p, 2, none⟩ = some (.int .i64 0) := by have := hq1.c2; simp only at this; rw [HE.out] at this; exact this
    have HQ1 := Lib.hid hq1
    have HG1 := Lib.hid hg1
    clear hq1 hg1 c1 hlen
    go_wp2_with fail
    go_quiet (fail)
    have HDD := Lib.hid (HD.out (w1.drewN nq) (grown_draw nq HG1.out) HQ1.out)
    go_wp2_with fail
    refine HDD.out.mono ?_
    rintro e w3 ⟨a, cap, rfl, h3, h4, h5, h6, h7⟩
    have hcv := conv_sl a cap m w3 h4
    have HG := Lib.hid (grown_trans (grown_draw nq HG1.out) h7)
    clear h3 h4 h5 h7
    go_wp2
    go_ret
    exact ⟨rfl, h6, HG.out⟩
end Go.Proofs.YtlhapnnepcnfbaaDoor.RqC
