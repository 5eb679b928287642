/- A control that is written with its params. -/
import Derived.Test.YtnaiefjbfpejbaaGc
set_option linter.unusedVariables false
namespace Go.Proofs.Ytnaiefjbfpejbaa.Ha
open Go Go.RowKit Kit Ep Eb Er Ea Es Et Eu Ev Ek Ew Ex Ey Ez Fa Fb Fc Fd Ga Gb Gc


/-- decimal digits, as bytes. -/
def decL (n : Nat) : List Int := if n < 10 then [48 + (n : Int)] else decL (n / 10) ++ [48 + ((n % 10 : Nat) : Int)]
termination_by n
decreasing_by omega
theorem decL_small {n : Nat} (h : n < 10) : decL n = [48 + (n : Int)] := by rw [decL, if_pos h]
theorem decL_more {n : Nat} (h : ¬ n < 10) : decL n = decL (n / 10) ++ [48 + ((n % 10 : Nat) : Int)] := by rw [decL, if_neg h]
theorem decL_dig (n : Nat) : ∀ r ∈ decL n, 48 ≤ r ∧ r ≤ 57 := by
  induction n using Nat.strongRecOn with
  | ind n ih =>
    intro r hr
    by_cases h : n < 10
    · rw [decL_small h] at hr
      have := List.mem_singleton.1 hr
      omega
    · rw [decL_more h] at hr
      rcases List.mem_append.1 hr with hr | hr
      · exact ih (n / 10) (by omega) r hr
      · have := List.mem_singleton.1 hr
        omega
theorem decL_len (n : Nat) : ∀ k, n < 10 ^ (k + 1) → (decL n).length ≤ k + 1 := by
  intro k
  induction k generalizing n with
  | zero => intro h; rw [decL_small (by simpa using h)]; exact Nat.le_refl _
  | succ k ih =>
    intro h
    by_cases h1 : n < 10
    · rw [decL_small h1]; simp
    · rw [decL_more h1, List.length_append, List.length_singleton]
      have := ih (n / 10) (by rw [Nat.pow_succ] at h; omega)
      omega
/-- a parser within a control. -/
def K (pv it : Int) (pa : List Int) (se : Nat) : Ps := ⟨3, false, pv, it, pa, se, []⟩
theorem k_take (pv it : Int) (pa : List Int) (se : Nat) (r : Int) (h1 : 28 ≤ r) : takeM (K pv it pa se) r = inControlM (K pv it pa se) r := by
  unfold takeM
  rw [if_neg (show ¬ r = 24 by omega), if_neg (show ¬ r = 26 by omega), if_neg (show ¬ r = 27 by omega), if_neg (show ¬ (K pv it pa se).st = 1 from fun hh => by cases hh), if_neg (show ¬ (K pv it pa se).st = 2 from fun hh => by cases hh), if_pos (show (K pv it pa se).st = 3 from rfl)]
theorem k_digit (pv : Int) (pa : List Int) (se : Nat) (r : Int) (h : 48 ≤ r ∧ r ≤ 57) : takeM (K pv 0 pa se) r = (digitM (K pv 0 pa se) (r - 48), blankE) := by
  rw [k_take _ _ _ _ _ (by omega)]
  unfold inControlM
  rw [if_neg (show ¬ r < 32 by omega), if_neg (show ¬ r < 48 by omega), if_neg (show ¬ ((K pv 0 pa se).it ≠ 0 ∧ r < 64) from fun hh => hh.1 rfl), if_pos h.2]
theorem k_sep (pv : Int) (pa : List Int) (se : Nat) : takeM (K pv 0 pa se) 59 = (sepM (K pv 0 pa se), blankE) := by
  rw [k_take _ _ _ _ _ (by decide)]
  unfold inControlM
  rw [if_neg (show ¬ (59 : Int) < 32 by decide), if_neg (show ¬ (59 : Int) < 48 by decide), if_neg (show ¬ ((K pv 0 pa se).it ≠ 0 ∧ (59 : Int) < 64) from fun hh => hh.1 rfl), if_neg (show ¬ (59 : Int) ≤ 57 by decide), if_pos (show (59 : Int) ≤ 59 by decide)]
theorem k_priv (r : Int) (h : 60 ≤ r ∧ r ≤ 63) : takeM (K 0 0 [] 0) r = (K r 0 [] 0, blankE) := by
  rw [k_take _ _ _ _ _ (by omega)]
  unfold inControlM
  rw [if_neg (show ¬ r < 32 by omega), if_neg (show ¬ r < 48 by omega), if_neg (show ¬ ((K 0 0 [] 0).it ≠ 0 ∧ r < 64) from fun hh => hh.1 rfl), if_neg (show ¬ r ≤ 57 by omega), if_neg (show ¬ r ≤ 59 by omega), if_pos (show r < 64 by omega)]
  rfl
theorem k_inter (pv : Int) (pa : List Int) (se : Nat) (r : Int) (h : 32 ≤ r ∧ r ≤ 47) : takeM (K pv 0 pa se) r = (K pv r pa se, blankE) := by
  rw [k_take _ _ _ _ _ (by omega)]
  unfold inControlM
  rw [if_neg (show ¬ r < 32 by omega), if_pos (show r < 48 by omega)]
  rfl
theorem k_final (pv it : Int) (pa : List Int) (se : Nat) (r : Int) (h : 64 ≤ r ∧ r ≤ 126) : takeM (K pv it pa se) r = (bg 0, ⟨4, 0, pa, pv, it, r, ⟨#[]⟩⟩) := by
  rw [k_take _ _ _ _ _ (by omega)]
  unfold inControlM
  rw [if_neg (show ¬ r < 32 by omega), if_neg (show ¬ r < 48 by omega), if_neg (show ¬ ((K pv it pa se).it ≠ 0 ∧ r < 64) from fun hh => by have := hh.2; omega), if_neg (show ¬ r ≤ 57 by omega), if_neg (show ¬ r ≤ 59 by omega), if_neg (show ¬ r < 64 by omega), if_pos (show r < 127 by omega)]
  rfl
theorem step_blank {p q : Ps} {r : Int} (h : takeM p r = (q, blankE)) (es : List Ev) : feedS (p, es) r = (q, es) := by
  unfold feedS
  rw [h]
  rfl
/-- digits of one number, at the last param. -/
theorem fold_dec (pv : Int) (W : List Int) (hW : W.length < 16) (n : Nat) : (decL n).foldl feedS (K pv 0 (W ++ [-1]) W.length, []) = (K pv 0 (W ++ [min (n : Int) 9999]) W.length, []) := by
  have hd : ∀ (v : Int) (d : Nat), d < 10 → feedS (K pv 0 (W ++ [v]) W.length, []) (48 + (d : Int)) = (K pv 0 (W ++ [min (max v 0 * 10 + (d : Int)) 9999]) W.length, []) := by
    intro v d hd
    refine step_blank ?_ []
    rw [k_digit _ _ _ _ (by omega)]
    have hf : firstM (K pv 0 (W ++ [v]) W.length) = K pv 0 (W ++ [v]) W.length := by
      unfold firstM
      rw [if_neg (show ¬ (K pv 0 (W ++ [v]) W.length).pa = [] by simp [K])]
    unfold digitM
    rw [hf, if_neg (show ¬ 16 ≤ (K pv 0 (W ++ [v]) W.length).se by simp [K]; omega)]
    simp [K]
    omega
  induction n using Nat.strongRecOn with
  | ind n ih =>
    by_cases h : n < 10
    · rw [decL_small h, List.foldl_cons, List.foldl_nil, hd (-1) n h]
      have : min (max (-1 : Int) 0 * 10 + (n : Int)) 9999 = min (n : Int) 9999 := by omega
      rw [this]
    · rw [decL_more h, List.foldl_append, ih (n / 10) (by omega), List.foldl_cons, List.foldl_nil, hd _ (n % 10) (by omega)]
      have : min (max (min ((n / 10 : Nat) : Int) 9999) 0 * 10 + ((n % 10 : Nat) : Int)) 9999 = min (n : Int) 9999 := by omega
      rw [this]
/-- the first param's digits, where nothing was told. -/
theorem fold_dec0 (pv : Int) (n : Nat) : (decL n).foldl feedS (K pv 0 [] 0, []) = (K pv 0 [min (n : Int) 9999] 0, []) := by
  have h := fold_dec pv [] (by decide) n
  have e : ∀ d : Nat, d < 10 → feedS (K pv 0 [] 0, []) (48 + (d : Int)) = feedS (K pv 0 [-1] 0, []) (48 + (d : Int)) := by
    intro d hd
    have h1 : digitM (K pv 0 [] 0) (48 + (d : Int) - 48) = digitM (K pv 0 [-1] 0) (48 + (d : Int) - 48) := rfl
    rw [step_blank ((k_digit pv [] 0 (48 + (d : Int)) (by omega)).trans (by rw [h1])) [], step_blank (k_digit pv [-1] 0 (48 + (d : Int)) (by omega)) []]
  have hd : ∃ d rest, d < 10 ∧ decL n = (48 + ((d : Nat) : Int)) :: rest := by
    induction n using Nat.strongRecOn with
    | ind n ih =>
      by_cases h : n < 10
      · exact ⟨n, [], h, decL_small h⟩
      · obtain ⟨d, rest, h1, h2⟩ := ih (n / 10) (by omega) (fold_dec pv [] (by decide) (n / 10))
        exact ⟨d, rest ++ [48 + ((n % 10 : Nat) : Int)], h1, by rw [decL_more h, h2]; rfl⟩
  obtain ⟨d, rest, h1, h2⟩ := hd
  rw [h2, List.foldl_cons, e d h1]
  rw [h2, List.foldl_cons] at h
  exact h
/-- what a list of params is written as, and what is told of it. -/
def bodyN (ps : List Int) : Nat → List Int
  | 0 => []
  | i + 1 => bodyN ps i ++ (if 0 < i then [59] else []) ++ (if ps.getD i 0 < 0 then [] else decL (ps.getD i 0).toNat)
def wantN (ps : List Int) : Nat → List Int
  | 0 => []
  | i + 1 => wantN ps i ++ [if ps.getD i 0 < 0 then -1 else min (ps.getD i 0) 9999]
theorem wantN_len (ps : List Int) (i : Nat) : (wantN ps i).length = i := by
  induction i with
  | zero => rfl
  | succ i ih => rw [wantN, List.length_append, ih]; rfl
/-- the params that a control tells. -/
def paN (ps : List Int) (i : Nat) : List Int := if i = 1 ∧ ps.getD 0 0 < 0 then [] else wantN ps i
theorem fold_body (pv : Int) (ps : List Int) : ∀ i, i ≤ 16 → (bodyN ps i).foldl feedS (K pv 0 [] 0, []) = (K pv 0 (paN ps i) (i - 1), []) := by
  intro i
  induction i with
  | zero => intro _; rfl
  | succ i ih =>
    intro hi
    rw [bodyN, List.foldl_append, List.foldl_append, ih (by omega)]
    by_cases h0 : i = 0
    · subst h0
      rw [if_neg (Nat.lt_irrefl 0), List.foldl_nil]
      have e0 : paN ps 0 = [] := rfl
      rw [e0]
      by_cases hn : ps.getD 0 0 < 0
      · rw [if_pos hn, List.foldl_nil, paN, if_pos ⟨rfl, hn⟩]
      · rw [if_neg hn, paN, if_neg (fun hh => hn hh.2), wantN, wantN, if_neg hn, List.nil_append]
        have h := fold_dec0 pv (ps.getD 0 0).toNat
        rw [show (((ps.getD 0 0).toNat : Nat) : Int) = ps.getD 0 0 by omega] at h
        exact h
    · rw [if_pos (Nat.pos_of_ne_zero h0), List.foldl_cons, List.foldl_nil]
      have hw := wantN_len ps i
      have hs : feedS (K pv 0 (paN ps i) (i - 1), []) 59 = (K pv 0 (wantN ps i ++ [-1]) (wantN ps i).length, []) := by
        refine step_blank ?_ []
        rw [k_sep, hw]
        have hf : firstM (K pv 0 (paN ps i) (i - 1)) = K pv 0 (wantN ps i) (i - 1) := by
          unfold firstM
          unfold paN
          by_cases h1 : i = 1 ∧ ps.getD 0 0 < 0
          · rw [if_pos h1]
            obtain ⟨rfl, h2⟩ := h1
            rw [if_pos (show (K pv 0 [] (1 - 1)).pa = [] from rfl), wantN, wantN, if_pos h2]
            rfl
          · rw [if_neg h1, if_neg (show ¬ (K pv 0 (wantN ps i) (i - 1)).pa = [] from fun e => by
              have e2 : wantN ps i = [] := e
              rw [e2] at hw
              exact h0 hw.symm)]
        unfold sepM
        rw [hf, if_pos (show (K pv 0 (wantN ps i) (i - 1)).se + 1 < 16 by show i - 1 + 1 < 16; omega)]
        show (K pv 0 (wantN ps i ++ [-1]) (i - 1 + 1), blankE) = _
        rw [show i - 1 + 1 = i by omega]
      rw [hs]
      have hp : paN ps (i + 1) = wantN ps (i + 1) := by rw [paN, if_neg (fun hh => h0 (by omega))]
      rw [hp, wantN, Nat.add_sub_cancel]
      by_cases hn : ps.getD i 0 < 0
      · rw [if_pos hn, if_pos hn, List.foldl_nil, hw]
      · rw [if_neg hn, if_neg hn]
        have h := fold_dec pv (wantN ps i) (by omega) (ps.getD i 0).toNat
        rw [show (((ps.getD i 0).toNat : Nat) : Int) = ps.getD i 0 by omega] at h
        rw [h, hw]
/-- a whole control. -/
theorem feed_control (ps : List Int) (pv it fi : Int) (hn : ps.length ≤ 16) (hpv : pv = 0 ∨ 60 ≤ pv ∧ pv ≤ 63) (hit : it = 0 ∨ 32 ≤ it ∧ it ≤ 47) (hfi : 64 ≤ fi ∧ fi ≤ 126) :
    feedM (bg 0) ([27, 91] ++ (if pv = 0 then [] else [pv]) ++ bodyN ps ps.length ++ (if it = 0 then [] else [it]) ++ [fi]) = (bg 0, [⟨4, 0, paN ps ps.length, pv, it, fi, ⟨#[]⟩⟩]) := by
  unfold feedM
  rw [List.foldl_append, List.foldl_append, List.foldl_append, List.foldl_append]
  have h1 : ([27, 91] : List Int).foldl feedS (bg 0, []) = (K 0 0 [] 0, []) := rfl
  have h2 : (if pv = 0 then [] else [pv]).foldl feedS (K 0 0 [] 0, []) = (K pv 0 [] 0, []) := by
    by_cases h : pv = 0
    · subst h; rfl
    · rw [if_neg h, List.foldl_cons, List.foldl_nil]
      exact step_blank (k_priv pv (by omega)) []
  have h3 : ∀ pa se, (if it = 0 then [] else [it]).foldl feedS (K pv 0 pa se, []) = (K pv it pa se, []) := by
    intro pa se
    by_cases h : it = 0
    · subst h; rfl
    · rw [if_neg h, List.foldl_cons, List.foldl_nil]
      exact step_blank (k_inter pv pa se it (by omega)) []
  rw [h1, h2, fold_body pv ps ps.length hn, h3, List.foldl_cons, List.foldl_nil]
  unfold feedS
  rw [k_final _ _ _ _ _ hfi]
  rfl

end Go.Proofs.Ytnaiefjbfpejbaa.Ha
