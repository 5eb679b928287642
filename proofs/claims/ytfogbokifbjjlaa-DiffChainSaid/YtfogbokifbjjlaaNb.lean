/- Screens and their texts: what may be, what is read of what was written and back (pure). -/
import Derived.Test.YtfogbokifbjjlaaMd
set_option linter.unusedVariables false
namespace Go.Proofs.Ytfogbokifbjjlaa.Na
open Go Go.RowKit Kit Gm Gv Crc Var Get Bytes WireFirst Ref3 Copy Ap Sa Sb Rd RdA RdB RdC RdF La Lb Lc Ma Mb Md Fr Ti Tk
open Tj (OkAt Mend)

theorem Mend.may {C : Nat} {L : List Ce} (h : Mend C L) : ∀ c ∈ L, MayC c := by
  intro c hc
  obtain ⟨i, hi, rfl⟩ := List.getElem_of_mem hc
  obtain ⟨d, hd, hm, _⟩ := h i hi
  rw [List.getElem?_eq_getElem hi] at hd
  injection hd with hd; rw [hd]; exact hm
/-- what is read is the number's own bytes. -/
theorem pow7' (i : Nat) : 2 ^ (7 * (i + 1)) = 128 * 2 ^ (7 * i) := by rw [show 7 * (i + 1) = 7 * i + 7 by omega, Nat.pow_add]; omega
theorem getF_back : ∀ (l : List Nat), (∀ c ∈ l, c < 256) → ∀ (i acc n k : Nat), getF l i acc = (n, k, 0) →
    ∃ q m, k = i + q ∧ 1 ≤ q ∧ q ≤ l.length ∧ n = acc + m * 2 ^ (7 * i) ∧ l.take q = varL m ∧ (m = 0 → i = 0)
  | [], _, i, acc, n, k, h => by simp [getF] at h
  | c :: l, hl, i, acc, n, k, h => by
    rw [getF] at h
    have hc := hl c (List.mem_cons_self ..)
    split at h
    · simp at h
    · split at h
      · rename_i h1 h2
        obtain ⟨q, m, e1, e2, e3, e4, e5, e6⟩ := getF_back l (fun x hx => hl x (List.mem_cons_of_mem _ hx)) (i + 1) _ n k h
        refine ⟨q + 1, c % 128 + 128 * m, by omega, by omega, by simp; omega, ?_, ?_, ?_⟩
        · rw [e4, pow7', Nat.add_mul]
          rw [show m * (128 * 2 ^ (7 * i)) = 128 * m * 2 ^ (7 * i) by rw [← Nat.mul_assoc, Nat.mul_comm m 128]]
          omega
        · have hm : 1 ≤ m := by rcases Nat.eq_zero_or_pos m with hz | hz; have := e6 hz; omega; exact hz
          rw [varL_more (by omega), List.take_succ_cons, e5]
          rw [show (c % 128 + 128 * m) % 128 + 128 = c by omega, show (c % 128 + 128 * m) / 128 = m by omega]
        · intro hz
          have hm : 1 ≤ m := by rcases Nat.eq_zero_or_pos m with hz | hz; have := e6 hz; omega; exact hz
          omega
      · split at h
        · simp at h
        · rename_i h1 h2 h3
          simp only [Prod.mk.injEq, and_true] at h
          refine ⟨1, c, by omega, by omega, by simp, by omega, by rw [varL_small (by omega)]; simp, by omega⟩
theorem getF_eat {l : List Nat} (hl : ∀ c ∈ l, c < 256) {n k : Nat} (h : getF l 0 0 = (n, k, 0)) : 1 ≤ k ∧ k ≤ l.length ∧ l.take k = varL n := by
  obtain ⟨q, m, e1, e2, e3, e4, e5, _⟩ := getF_back l hl 0 0 n k h
  have : n = m := by rw [e4]; simp
  subst this
  have : k = q := by omega
  subst this
  exact ⟨e2, e3, e5⟩
/-- a place behind which the number n is read. -/
theorem getA_eat {l : List Nat} (hl : ∀ c ∈ l, c < 256) {p : Nat} (h : (getA l (p : Int)).2.2 = 0) : ∃ n : Nat, getA l (p : Int) = ((n : Int), ((p + (varL n).length : Nat) : Int), 0) ∧ l.drop p = varL n ++ l.drop (p + (varL n).length) ∧ p + (varL n).length ≤ l.length := by
  unfold getA at h ⊢
  split at h
  · simp at h
  · rename_i h1
    rw [if_neg h1]
    simp only [Int.toNat_natCast] at h ⊢
    have h2 : (getF (l.drop p) 0 0).2.2 = 0 := by simpa using h
    generalize hg : getF (l.drop p) 0 0 = g at *
    obtain ⟨n, k, e⟩ := g
    dsimp only at h2 h ⊢
    subst h2
    obtain ⟨g1, g2, g3⟩ := getF_eat (l := l.drop p) (fun c hc => hl c (List.mem_of_mem_drop hc)) hg
    have e : (varL n).length = k := by rw [← g3, List.length_take]; omega
    rw [List.length_drop] at g2
    refine ⟨n, ?_, ?_, by rw [e]; omega⟩
    · rw [e]; simp [end_]
    · rw [e, ← g3, ← List.drop_drop, List.take_append_drop]
/-- Num, that went well. -/
theorem num_back {l : List Nat} (hl : ∀ c ∈ l, c < 256) {r : Rdr} {m : Nat} (h : (numN l r m).2.err = 0) : r.err = 0 ∧ ∃ n : Nat, n ≤ m ∧ numN l r m = ((n : Int), { r with at_ := r.at_ + (varL n).length }) ∧ l.drop r.at_ = varL n ++ l.drop (r.at_ + (varL n).length) ∧ r.at_ + (varL n).length ≤ l.length := by
  unfold numN at h ⊢
  split at h
  · rename_i h1; exact absurd h h1
  · rename_i h1
    rw [if_neg h1]
    split at h
    · rename_i h2; exact absurd h h2
    · rename_i h2
      rw [if_neg h2]
      split at h
      · simp at h
      · rename_i h3
        rw [if_neg h3]
        obtain ⟨n, e1, e2, e3⟩ := getA_eat hl (by simpa using h2 : (getA l (r.at_ : Int)).2.2 = 0)
        rw [e1] at h3 ⊢
        dsimp only at h3 ⊢
        exact ⟨by simpa using h1, n, by omega, by rw [Int.toNat_natCast], e2, e3⟩
theorem num_fw (A B : List Nat) (x m : Nat) (hm : x ≤ m) (hx : x < 18446744073709551616) (r : Rdr) (h0 : r.err = 0) (h1 : r.at_ = A.length) : numN (A ++ varL x ++ B) r m = ((x : Int), { r with at_ := A.length + (varL x).length }) := by
  have hg := getA_front A B x hx
  unfold numN
  rw [if_neg (by simpa using h0), h1, hg]
  simp only
  rw [if_neg (by simp), if_neg (by omega)]
  congr 2
theorem num_in (l : List Nat) (r : Rdr) (m : Nat) : ∃ n : Nat, (numN l r m).1 = (n : Int) ∧ n ≤ m := by
  unfold numN
  split
  · exact ⟨0, rfl, Nat.zero_le _⟩
  · split
    · exact ⟨0, rfl, Nat.zero_le _⟩
    · split
      · exact ⟨0, rfl, Nat.zero_le _⟩
      · rename_i h2 h3
        obtain ⟨n, y, e, _⟩ := getA_ok l r.at_ (by simpa using h2)
        rw [e] at h3 ⊢
        exact ⟨n, rfl, by dsimp only at h3; omega⟩
/-- Text, that went well. -/
theorem text_back {l : List Nat} (hl : ∀ c ∈ l, c < 256) {r : Rdr} {m : Nat} (h : (textN l r m).2.err = 0) : r.err = 0 ∧ ∃ t : List Nat, t.length ≤ m ∧ textN l r m = (strL t, { r with at_ := r.at_ + (varL t.length).length + t.length }) ∧ l.drop r.at_ = varL t.length ++ t ++ l.drop (r.at_ + (varL t.length).length + t.length) ∧ r.at_ + (varL t.length).length + t.length ≤ l.length := by
  unfold textN at h ⊢
  split at h
  · rename_i h1; exact absurd h h1
  · rename_i h1
    rw [if_neg h1]
    split at h
    · rename_i h2; exact absurd h h2
    · rename_i h2
      rw [if_neg h2]
      split at h
      · simp at h
      · rename_i h3
        rw [if_neg h3]
        split at h
        · simp at h
        · rename_i h4
          rw [if_neg h4]
          obtain ⟨n, e1, e2, e3⟩ := getA_eat hl (by simpa using h2 : (getA l (r.at_ : Int)).2.2 = 0)
          rw [e1] at h3 h4 ⊢
          dsimp only at h3 h4 ⊢
          simp only [Int.toNat_natCast]
          generalize hp : r.at_ + (varL n).length = p at *
          have hlen : ((l.drop p).take n).length = n := by rw [List.length_take, List.length_drop]; omega
          refine ⟨by simpa using h1, (l.drop p).take n, by omega, by rw [hlen, hp], ?_, by rw [hlen, hp]; omega⟩
          rw [hlen, hp, e2, List.append_assoc, ← List.drop_drop, List.take_append_drop]
theorem text_fw (A t B : List Nat) (m : Nat) (hm : t.length ≤ m) (hx : t.length < 18446744073709551616) (r : Rdr) (h0 : r.err = 0) (h1 : r.at_ = A.length) : textN (A ++ (varL t.length ++ t) ++ B) r m = (strL t, { r with at_ := A.length + (varL t.length ++ t).length }) := by
  have hg := getA_front A (t ++ B) t.length hx
  have e : A ++ (varL t.length ++ t) ++ B = A ++ varL t.length ++ (t ++ B) := by simp only [List.append_assoc]
  rw [e]
  unfold textN
  rw [if_neg (by simpa using h0), h1, hg]
  simp only
  rw [if_neg (by simp), if_neg (by omega), if_neg (by simp; omega)]
  have e2 : ((A.length : Int) + ((varL t.length).length : Nat)).toNat = (A ++ varL t.length).length := by rw [List.length_append]; omega
  rw [e2, Int.toNat_natCast, List.drop_left, List.take_left]
  simp only [List.length_append, Nat.add_assoc]
end Go.Proofs.Ytfogbokifbjjlaa.Na
/- Screens and their texts: what is read of what was written, and back (pure). -/
set_option linter.unusedVariables false
namespace Go.Proofs.Ytfogbokifbjjlaa.Nb
open Go Go.RowKit Kit Gm Gv Crc Var Get Bytes WireFirst Ref3 Copy Ap Sa Sb Rd RdA RdB RdC RdF La Lb Lc Ma Mb Md Fr Ti Tk Na
open Tj (OkAt Mend)

theorem tw_rep (c : Ce) : ∀ (k : Nat) (T : List Ce), (T = [] ∨ T.head? ≠ some c) → ((List.replicate k c ++ T).takeWhile (· == c)).length = k
  | 0, T, h => by
    cases T with
    | nil => rfl
    | cons d T =>
      have hd : (d == c) = false := by
        rw [beq_eq_false_iff_ne]
        rcases h with h | h
        · cases h
        · intro e; exact h (by rw [e]; rfl)
      rw [List.replicate_zero, List.nil_append, List.takeWhile_cons, hd]; rfl
  | k + 1, T, h => by
    rw [List.replicate_succ, List.cons_append, List.takeWhile_cons, beq_self_eq_true, if_pos rfl, List.length_cons, tw_rep c k T h]
theorem cellsB_rep (c : Ce) (k : Nat) (hk : 1 ≤ k) (T : List Ce) (h : T = [] ∨ T.head? ≠ some c) : cellsB (List.replicate k c ++ T) = varL k ++ oneL c ++ cellsB T := by
  obtain ⟨j, rfl⟩ : ∃ j, k = j + 1 := ⟨k - 1, by omega⟩
  have hr : runL (c :: (List.replicate j c ++ T)) = j + 1 := by
    show ((List.replicate j c ++ T).takeWhile (· == c)).length + 1 = j + 1
    rw [tw_rep c j T h]
  rw [List.replicate_succ, List.cons_append, cellsB_cons, hr, List.drop_succ_cons, List.drop_append, List.length_replicate, Nat.sub_self, List.drop_zero]
  simp
/-- six numbers that were read. -/
theorem rst_back {l : List Nat} (hl : ∀ c ∈ l, c < 256) {r : Rdr} : ∀ (k : Nat), (rst l r k).err = 0 → r.err = 0 ∧ ∃ ns : List Nat, ns.length = k ∧ (∀ n ∈ ns, n < 18446744073709551616) ∧ (∀ i, (h : i < k) → ∀ n, ns[i]? = some n → rva l r i = (n : Int)) ∧ rst l r k = { r with at_ := r.at_ + (bytesOf ns).length } ∧ l.drop r.at_ = bytesOf ns ++ l.drop (r.at_ + (bytesOf ns).length) ∧ (0 < k → r.at_ + (bytesOf ns).length ≤ l.length)
  | 0, h => ⟨h, [], rfl, by simp, by intro i hi; omega, by simp [rst, bytesOf], by simp [bytesOf], by omega⟩
  | k + 1, h => by
    rw [rst] at h
    obtain ⟨h1, n, hn, e1, e2, e3⟩ := num_back hl h
    obtain ⟨g1, ns, g2, g3, g4, g5, g6, g7⟩ := rst_back hl k h1
    have hM : M64 + 1 = 18446744073709551616 := rfl
    have hb : bytesOf (ns ++ [n]) = bytesOf ns ++ varL n := by simp [bytesOf]
    rw [g5] at e1 e2 e3
    dsimp only at e1 e2 e3
    refine ⟨g1, ns ++ [n], by simp [g2], ?_, ?_, ?_, ?_, ?_⟩
    · intro x hx
      rcases List.mem_append.1 hx with hx | hx
      · exact g3 x hx
      · rw [List.mem_singleton] at hx; omega
    · intro i hi x hx
      by_cases hk : i < k
      · rw [List.getElem?_append_left (by omega)] at hx
        exact g4 i hk x hx
      · obtain rfl : i = k := by omega
        rw [List.getElem?_append_right (by omega), g2, Nat.sub_self] at hx
        simp at hx
        unfold rva
        rw [g5, e1, hx]
    · rw [rst, g5, e1, hb, List.length_append, Nat.add_assoc]
    · rw [hb, g6, e2, List.length_append, List.append_assoc, Nat.add_assoc]
    · intro _; rw [hb, List.length_append]; omega
theorem wrap32_nat {n : Nat} (h : n ≤ 1114111) : un (wrap32 (n : Int)) = n := by
  have : wrap32 (n : Int) = n := by unfold wrap32; omega
  rw [this]; exact un_nat n (by omega)
theorem un_wrap64 {n : Nat} (h : n < 18446744073709551616) : un (wrap64 (n : Int)) = n := by
  unfold un wrap64; omega
/-- a run that was read is written as the same bytes. -/
theorem run_back {l : List Nat} (hl : ∀ c ∈ l, c < 256) {r : Rdr} (h : okRun l r) : r.err = 0 ∧ ∃ k : Nat, k < 18446744073709551616 ∧ rva l r 0 = (k : Int) ∧ MayC (cellR (rva l r)) ∧ rst l r 6 = { r with at_ := r.at_ + (varL k ++ oneL (cellR (rva l r))).length } ∧ l.drop r.at_ = varL k ++ oneL (cellR (rva l r)) ++ l.drop (r.at_ + (varL k ++ oneL (cellR (rva l r))).length) ∧ r.at_ + (varL k ++ oneL (cellR (rva l r))).length ≤ l.length := by
  obtain ⟨h1, h2, h3⟩ := h
  obtain ⟨g1, ns, g2, g3, g4, g5, g6, g7⟩ := rst_back hl 6 h1
  match ns, g2 with
  | [n0, n1, n2, n3, n4, n5], _ =>
    have v0 := g4 0 (by decide) n0 rfl
    have v1 := g4 1 (by decide) n1 rfl
    have v2 := g4 2 (by decide) n2 rfl
    have v3 := g4 3 (by decide) n3 rfl
    have v4 := g4 4 (by decide) n4 rfl
    have v5 := g4 5 (by decide) n5 rfl
    rw [v1] at h2
    have hc : oneL (cellR (rva l r)) = varL n1 ++ varL n2 ++ varL n3 ++ varL n4 ++ varL n5 := by
      unfold cellR
      rw [v1, v2, v3, v4, v5]
      simp only [oneL, oneP]
      rw [wrap32_nat (by omega), un_wrap64 (g3 n2 (by simp)), un_wrap64 (g3 n3 (by simp)), un_wrap64 (g3 n4 (by simp)), un_wrap64 (g3 n5 (by simp))]
    have hb : bytesOf [n0, n1, n2, n3, n4, n5] = varL n0 ++ oneL (cellR (rva l r)) := by
      rw [hc]; simp [bytesOf]
    rw [hb] at g5 g6 g7
    exact ⟨g1, n0, g3 n0 (by simp), v0, h3, g5, g6, g7 (by decide)⟩
/-- runs that were read are written as the same bytes. -/
theorem runs_back {l : List Nat} (hl : ∀ c ∈ l, c < 256) (n : Nat) : ∀ (f : Nat) (r : Rdr) (acc : List Ce) (r' : Rdr) (L : List Ce), runsF l n f r acc = some (r', L) → acc.length ≤ n → n - acc.length < f → r.err = 0 →
    ∃ T, L = acc ++ T ∧ L.length = n ∧ (∀ c ∈ T, MayC c) ∧ r' = { r with at_ := r.at_ + (cellsB T).length } ∧ l.drop r.at_ = cellsB T ++ l.drop (r.at_ + (cellsB T).length) ∧ (T ≠ [] → r.at_ + (cellsB T).length ≤ l.length) ∧ (T = [] ∨ acc = [] ∨ acc.getLast? ≠ T.head?)
  | 0, _, _, _, _, _, _, hf, _ => by omega
  | f + 1, r, acc, r', L, h, ha, hf, h0 => by
    by_cases hn : n ≤ acc.length
    · rw [runs_end hn] at h
      injection h with h; injection h with h1 h2
      subst h1 h2
      exact ⟨[], by simp, by omega, by simp, by simp [cellsB_nil], by simp [cellsB_nil], by simp, .inl rfl⟩
    · obtain ⟨⟨hok, hv0, hv1, hlast⟩, hnx⟩ := runs_step h hn
      obtain ⟨_, k, hk, e1, e2, e3, e4, e5⟩ := run_back hl hok
      rw [e1] at hv0 hv1 hnx
      rw [Int.toNat_natCast] at hnx
      generalize cellR (rva l r) = c at *
      have hx : (acc ++ List.replicate k c).length = acc.length + k := by rw [List.length_append, List.length_replicate]
      obtain ⟨T, t1, t2, t3, t4, t5, t6, t7⟩ := runs_back hl n f _ _ _ _ hnx (by omega) (by omega) (by rw [e3]; exact h0)
      rw [e3] at t4 t5 t6
      dsimp only at t4 t5 t6
      have hne : acc ++ List.replicate k c ≠ [] := by
        intro e; have := congrArg List.length e; simp at this; omega
      have hl2 : (acc ++ List.replicate k c).getLast? = some c := by
        obtain ⟨j, rfl⟩ : ∃ j, k = j + 1 := ⟨k - 1, by omega⟩
        rw [List.replicate_succ', ← List.append_assoc, List.getLast?_append]; simp
      have hT : T = [] ∨ T.head? ≠ some c := by
        rcases t7 with h | h | h
        · exact .inl h
        · exact absurd h hne
        · rw [hl2] at h; exact .inr (fun e => h e.symm)
      have hB : cellsB (List.replicate k c ++ T) = varL k ++ oneL c ++ cellsB T := cellsB_rep c k (by omega) T hT
      have hBL : (cellsB (List.replicate k c ++ T)).length = (varL k ++ oneL c).length + (cellsB T).length := by rw [hB, List.length_append]
      refine ⟨List.replicate k c ++ T, by rw [t1, List.append_assoc], t2, ?_, ?_, ?_, ?_, ?_⟩
      · intro d hd
        rcases List.mem_append.1 hd with hd | hd
        · rw [List.eq_of_mem_replicate hd]; exact e2
        · exact t3 d hd
      · rw [t4, hBL, Nat.add_assoc]
      · rw [hBL, hB, List.append_assoc (varL k ++ oneL c), ← Nat.add_assoc, ← t5]; exact e4
      · intro _
        rw [hBL]
        by_cases hT0 : T = []
        · subst hT0; rw [cellsB_nil]; simp at e5 ⊢; omega
        · have := t6 hT0; omega
      · obtain ⟨j, rfl⟩ : ∃ j, k = j + 1 := ⟨k - 1, by omega⟩
        rcases hlast with h | h
        · exact .inr (.inl h)
        · exact .inr (.inr (by rw [List.replicate_succ, List.cons_append, List.head?_cons]; exact h))

/-- what Decode reads ahead of the cells. -/
def q1 (l : List Nat) (r : Rdr) : Int × Rdr := numN l r 60
def q2 (l : List Nat) (r : Rdr) : Int × Rdr := numN l (q1 l r).2 200
def q3 (l : List Nat) (r : Rdr) : Int × Rdr := numN l (q2 l r).2 60
def q4 (l : List Nat) (r : Rdr) : Int × Rdr := numN l (q3 l r).2 200
def q5 (l : List Nat) (r : Rdr) : Int × Rdr := numN l (q4 l r).2 1
def q6 (l : List Nat) (r : Rdr) : ByteArray × Rdr := textN l (q5 l r).2 256
def scrF (l : List Nat) (r : Rdr) : Scr := ⟨(q1 l r).1, (q2 l r).1, (q3 l r).1, (q4 l r).1, (q5 l r).1 == 1, (q6 l r).1⟩
def cntF (l : List Nat) (r : Rdr) : Nat := ((q1 l r).1 * (q2 l r).1).toNat
def dF (l : List Nat) (r : Rdr) : Option (Rdr × List Ce) := if (q6 l r).2.err = 0 then runsF l (cntF l r) (cntF l r + 1) (q6 l r).2 [] else none
theorem byL_strL (t : List Nat) (h : ∀ c ∈ t, c < 256) : byL (strL t) = t := by
  simp only [byL, strL, strOfNums, List.map_map]
  conv => rhs; rw [← List.map_id t]
  apply List.map_congr_left
  intro c hc
  have := h c hc
  simp ; omega
theorem strL_size (t : List Nat) : (strL t).size = t.length := by
  simp [strL, strOfNums, ByteArray.size]
theorem six_enc (s : Scr) (L : List Ce) : encL s L = varL (un s.R) ++ (varL (un s.C) ++ (varL (un s.row) ++ (varL (un s.col) ++ (varL (un (numB s.hid)) ++ ((varL (un (s.ti.size : Int)) ++ byL s.ti) ++ cellsB L))))) := by
  simp [encL, headL, headP, six]
/-- what was written is read. -/
theorem dec_fw (s : Scr) (L : List Ce) (h : MayS s L) (B : List Nat) (r : Rdr) (h0 : r.err = 0) (h1 : r.at_ = 0) : scrF (encL s L ++ B) r = s ∧ cntF (encL s L ++ B) r = L.length ∧ dF (encL s L ++ B) r = some ({ r with at_ := (encL s L).length }, L) := by
  obtain ⟨hlen, hpos⟩ := h.len
  obtain ⟨⟨a1, a2, a3, a4⟩, ⟨b1, b2⟩, ⟨b3, b4⟩, ht, hc, hm⟩ := h
  have hmay := Mend.may hm
  have hti := titleB_le ht
  obtain ⟨R, C, row, col, hid, ti⟩ := s
  dsimp only at *
  obtain ⟨R, rfl⟩ := Int.eq_ofNat_of_zero_le (a := R) (by omega)
  obtain ⟨C, rfl⟩ := Int.eq_ofNat_of_zero_le (a := C) (by omega)
  obtain ⟨row, rfl⟩ := Int.eq_ofNat_of_zero_le (a := row) (by omega)
  obtain ⟨col, rfl⟩ := Int.eq_ofNat_of_zero_le (a := col) (by omega)
  have hh : ∃ k : Nat, numB hid = (k : Int) ∧ k ≤ 1 ∧ (((k : Int) == 1) = hid) := by
    cases hid
    · exact ⟨0, rfl, by omega, rfl⟩
    · exact ⟨1, rfl, by omega, rfl⟩
  obtain ⟨k, hk, hk1, hk2⟩ := hh
  have E := six_enc ⟨(R : Int), (C : Int), (row : Int), (col : Int), hid, ti⟩ L
  dsimp only at E
  rw [hk, un_nat R (by omega), un_nat C (by omega), un_nat row (by omega), un_nat col (by omega), un_nat k (by omega), un_nat ti.size (by omega), ← byL_len] at E
  generalize encL ⟨(R : Int), (C : Int), (row : Int), (col : Int), hid, ti⟩ L = l at *
  have ht2 : (byL ti).length ≤ 256 := by rw [byL_len]; exact hti
  have hst : strL (byL ti) = ti := strL_byL ti
  generalize byL ti = t at *
  have E1 := num_fw [] (varL C ++ (varL row ++ (varL col ++ (varL k ++ ((varL t.length ++ t) ++ cellsB L)))) ++ B) R 60 (by omega) (by omega) r h0 (by simpa using h1)
  have E2 := num_fw (varL R) (varL row ++ (varL col ++ (varL k ++ ((varL t.length ++ t) ++ cellsB L))) ++ B) C 200 (by omega) (by omega) { r with at_ := (varL R).length } h0 rfl
  have E3 := num_fw (varL R ++ varL C) (varL col ++ (varL k ++ ((varL t.length ++ t) ++ cellsB L)) ++ B) row 60 (by omega) (by omega) { r with at_ := (varL R ++ varL C).length } h0 rfl
  have E4 := num_fw (varL R ++ varL C ++ varL row) (varL k ++ ((varL t.length ++ t) ++ cellsB L) ++ B) col 200 (by omega) (by omega) { r with at_ := (varL R ++ varL C ++ varL row).length } h0 rfl
  have E5 := num_fw (varL R ++ varL C ++ varL row ++ varL col) ((varL t.length ++ t) ++ cellsB L ++ B) k 1 (by omega) (by omega) { r with at_ := (varL R ++ varL C ++ varL row ++ varL col).length } h0 rfl
  have E6 := text_fw (varL R ++ varL C ++ varL row ++ varL col ++ varL k) t (cellsB L ++ B) 256 ht2 (by omega) { r with at_ := (varL R ++ varL C ++ varL row ++ varL col ++ varL k).length } h0 rfl
  have E7 := runs_at L.length L (Nat.le_refl _) (varL R ++ varL C ++ varL row ++ varL col ++ varL k ++ (varL t.length ++ t)) B [] L.length (L.length + 1) { r with at_ := (varL R ++ varL C ++ varL row ++ varL col ++ varL k ++ (varL t.length ++ t)).length } hmay h0 rfl (by simp) (by omega) (by omega) (.inl rfl)
  have l1 : [] ++ varL R ++ (varL C ++ (varL row ++ (varL col ++ (varL k ++ ((varL t.length ++ t) ++ cellsB L)))) ++ B) = l ++ B := by rw [E]; simp only [List.append_assoc, List.nil_append]
  have l2 : varL R ++ varL C ++ (varL row ++ (varL col ++ (varL k ++ ((varL t.length ++ t) ++ cellsB L))) ++ B) = l ++ B := by rw [E]; simp only [List.append_assoc]
  have l3 : varL R ++ varL C ++ varL row ++ (varL col ++ (varL k ++ ((varL t.length ++ t) ++ cellsB L)) ++ B) = l ++ B := by rw [E]; simp only [List.append_assoc]
  have l4 : varL R ++ varL C ++ varL row ++ varL col ++ (varL k ++ ((varL t.length ++ t) ++ cellsB L) ++ B) = l ++ B := by rw [E]; simp only [List.append_assoc]
  have l5 : varL R ++ varL C ++ varL row ++ varL col ++ varL k ++ ((varL t.length ++ t) ++ cellsB L ++ B) = l ++ B := by rw [E]; simp only [List.append_assoc]
  have l6 : varL R ++ varL C ++ varL row ++ varL col ++ varL k ++ (varL t.length ++ t) ++ (cellsB L ++ B) = l ++ B := by rw [E]; simp only [List.append_assoc]
  have l7 : varL R ++ varL C ++ varL row ++ varL col ++ varL k ++ (varL t.length ++ t) ++ cellsB L ++ B = l ++ B := by rw [E]; simp only [List.append_assoc]
  have l8 : (varL R ++ varL C ++ varL row ++ varL col ++ varL k ++ (varL t.length ++ t)).length + (cellsB L).length = l.length := by rw [E]; simp only [List.length_append]; omega
  rw [l1] at E1; rw [l2] at E2; rw [l3] at E3; rw [l4] at E4; rw [l5] at E5; rw [l6] at E6; rw [l7] at E7
  simp only [List.length_nil, Nat.zero_add] at E1
  rw [← List.length_append] at E2 E3 E4 E5 E6
  rw [l8, List.nil_append] at E7
  have Q1 : q1 (l ++ B) r = numN (l ++ B) r 60 := rfl
  rw [E1] at Q1
  have Q2 : q2 (l ++ B) r = numN (l ++ B) (q1 (l ++ B) r).2 200 := rfl
  rw [Q1] at Q2
  dsimp only at Q2
  rw [E2] at Q2
  have Q3 : q3 (l ++ B) r = numN (l ++ B) (q2 (l ++ B) r).2 60 := rfl
  rw [Q2] at Q3
  dsimp only at Q3
  rw [E3] at Q3
  have Q4 : q4 (l ++ B) r = numN (l ++ B) (q3 (l ++ B) r).2 200 := rfl
  rw [Q3] at Q4
  dsimp only at Q4
  rw [E4] at Q4
  have Q5 : q5 (l ++ B) r = numN (l ++ B) (q4 (l ++ B) r).2 1 := rfl
  rw [Q4] at Q5
  dsimp only at Q5
  rw [E5] at Q5
  have Q6 : q6 (l ++ B) r = textN (l ++ B) (q5 (l ++ B) r).2 256 := rfl
  rw [Q5] at Q6
  dsimp only at Q6
  replace Q6 := Q6.trans E6
  have hcn : cntF (l ++ B) r = L.length := by
    unfold cntF; rw [Q1, Q2]; dsimp only; omega
  refine ⟨?_, hcn, ?_⟩
  · unfold scrF
    rw [Q1, Q2, Q3, Q4, Q5, Q6]
    dsimp only
    rw [hk2, hst]
  · unfold dF
    rw [hcn, Q6]
    dsimp only
    rw [if_pos h0]
    exact E7
/-- what is read is written as the same bytes. -/
theorem dec_back (l : List Nat) (hl : ∀ c ∈ l, c < 256) (r : Rdr) (h1 : r.at_ = 0) (r' : Rdr) (L : List Ce) (h : dF l r = some (r', L)) :
    L.length = cntF l r ∧ r'.err = 0 ∧ (∀ c ∈ L, MayC c) ∧ l = encL (scrF l r) L ++ l.drop r'.at_ ∧ (scrF l r).ti.size ≤ 256 := by
  unfold dF at h
  split at h
  · rename_i h6
    unfold q6 at h6
    obtain ⟨h5, t, t1, t2, t3, t4⟩ := text_back hl h6
    have T2 : q6 l r = _ := t2
    unfold q5 at h5
    obtain ⟨h4, n5, m5, u5, d5, _⟩ := num_back hl h5
    have U5 : q5 l r = _ := u5
    unfold q4 at h4
    obtain ⟨h3, n4, m4, u4, d4, _⟩ := num_back hl h4
    have U4 : q4 l r = _ := u4
    unfold q3 at h3
    obtain ⟨h2, n3, m3, u3, d3, _⟩ := num_back hl h3
    have U3 : q3 l r = _ := u3
    unfold q2 at h2
    obtain ⟨h2', n2, m2, u2, d2, _⟩ := num_back hl h2
    have U2 : q2 l r = _ := u2
    unfold q1 at h2'
    obtain ⟨h0, n1, m1, u1, d1, _⟩ := num_back hl h2'
    have U1 : q1 l r = _ := u1
    rw [T2] at h
    rw [U5] at h t3 T2
    rw [U4] at h t3 T2 d5 U5
    rw [U3] at h t3 T2 d5 U5 d4 U4
    rw [U2] at h t3 T2 d5 U5 d4 U4 d3 U3
    rw [U1] at h t3 T2 d5 U5 d4 U4 d3 U3 d2 U2
    dsimp only at h t3 T2 d5 U5 d4 U4 d3 U3 d2 U2 d1 U1
    obtain ⟨T, e1, e2, e3, e4, e5, _, _⟩ := runs_back hl _ _ _ _ _ _ h (Nat.zero_le _) (by simp) h0
    rw [List.nil_append] at e1
    subst e1
    refine ⟨e2, by rw [e4]; exact h0, e3, ?_, ?_⟩
    · rw [e4]
      dsimp only at e5 ⊢
      have htb : ∀ c ∈ t, c < 256 := fun c hc => hl c (List.mem_of_mem_drop (i := r.at_ + (varL n1).length + (varL n2).length + (varL n3).length + (varL n4).length + (varL n5).length) (by rw [t3]; simp [hc]))
      have hE : encL (scrF l r) L = varL n1 ++ (varL n2 ++ (varL n3 ++ (varL n4 ++ (varL n5 ++ ((varL t.length ++ t) ++ cellsB L))))) := by
        rw [six_enc]
        unfold scrF
        rw [U1, U2, U3, U4, U5, T2]
        dsimp only
        have hn5 : numB ((n5 : Int) == 1) = (n5 : Int) := by
          rcases (by omega : n5 = 0 ∨ n5 = 1) with rfl | rfl <;> rfl
        rw [hn5, strL_size, byL_strL t htb, un_nat n1 (by omega), un_nat n2 (by omega), un_nat n3 (by omega), un_nat n4 (by omega), un_nat n5 (by omega), un_nat t.length (Nat.lt_of_le_of_lt t1 (by decide))]
      rw [hE]
      have hd : l = l.drop r.at_ := by rw [h1, List.drop_zero]
      conv => lhs; rw [hd, d1, d2, d3, d4, d5, t3, e5]
      simp only [List.append_assoc]
    · unfold scrF
      rw [T2]
      dsimp only
      rw [strL_size]; exact t1
  · cases h
/-- what lies behind one text lies behind no other. -/
theorem enc_one (s t : Scr) (L M : List Ce) (hs : MayS s L) (ht : MayS t M) (A B : List Nat) (h : encL s L ++ A = encL t M ++ B) : s = t ∧ L = M ∧ A = B := by
  obtain ⟨a1, _, a3⟩ := dec_fw s L hs A ⟨none, 0, 0, 0, 0⟩ rfl rfl
  obtain ⟨b1, _, b3⟩ := dec_fw t M ht B ⟨none, 0, 0, 0, 0⟩ rfl rfl
  rw [h] at a1 a3
  rw [a3] at b3
  injection b3 with b3; injection b3 with _ b4
  have e : s = t := a1.symm.trans b1
  subst e b4
  exact ⟨rfl, rfl, List.append_cancel_left h⟩
/-- Decode's answer: a screen. -/
def DecS (l : List Nat) (s : Scr) (L : List Ce) : Prop := ∃ r', scrF l ⟨none, 0, 0, 0, 0⟩ = s ∧ dF l ⟨none, 0, 0, 0, 0⟩ = some (r', L) ∧ r'.at_ = l.length ∧ MayS s L
theorem dec_enc (s : Scr) (L : List Ce) (h : MayS s L) : DecS (encL s L) s L := by
  obtain ⟨a1, _, a3⟩ := dec_fw s L h [] ⟨none, 0, 0, 0, 0⟩ rfl rfl
  rw [List.append_nil] at a1 a3
  exact ⟨_, a1, a3, rfl, h⟩
theorem enc_dec {l : List Nat} (hl : ∀ c ∈ l, c < 256) {s : Scr} {L : List Ce} (h : DecS l s L) : l = encL s L := by
  obtain ⟨r', h1, h2, h3, h4⟩ := h
  obtain ⟨_, _, _, e, _⟩ := dec_back l hl _ rfl r' L h2
  rw [h3, List.drop_length, List.append_nil, h1] at e
  exact e
theorem dec_same {l : List Nat} {s t : Scr} {L M : List Ce} (h : DecS l s L) (k : DecS l t M) : s = t ∧ L = M := by
  obtain ⟨r1, a1, a2, _⟩ := h
  obtain ⟨r2, b1, b2, _⟩ := k
  rw [a2] at b2
  injection b2 with b2; injection b2 with _ b3
  exact ⟨a1.symm.trans b1, b3⟩
/-- cut off there is none. -/
theorem dec_cut (s : Scr) (L : List Ce) (h : MayS s L) (hb : ∀ c ∈ encL s L, c < 256) (k : Nat) (hk : k < (encL s L).length) (t : Scr) (M : List Ce) : ¬ DecS ((encL s L).take k) t M := by
  intro hd
  have e := enc_dec (fun c hc => hb c (List.mem_of_mem_take hc)) hd
  obtain ⟨_, _, _, _, hm⟩ := hd
  obtain ⟨_, _, e3⟩ := enc_one s t L M h hm [] ((encL s L).drop k) (by rw [← e, List.append_nil, List.take_append_drop])
  have := congrArg List.length e3
  rw [List.length_drop] at this
  simp at this; omega
theorem enc_len (s : Scr) (L : List Ce) (h : MayS s L) : 7 ≤ (encL s L).length := by
  obtain ⟨h1, h2⟩ := h.len
  match L, h2 with
  | c :: L, _ =>
    rw [six_enc, cellsB_cons]
    have := varL_pos (un s.R); have := varL_pos (un s.C); have := varL_pos (un s.row); have := varL_pos (un s.col); have := varL_pos (un (numB s.hid)); have := varL_pos (un (s.ti.size : Int)); have := varL_pos (runL (c :: L))
    simp only [List.length_append]; omega
end Go.Proofs.Ytfogbokifbjjlaa.Nb
