/- What lies between two screens, written and read (pure). -/
import Derived.Test.YtfogbokifbjjlaaDj
import Derived.Test.YtfogbokifbjjlaaPa
set_option linter.unusedVariables false
namespace Go.Proofs.Ytfogbokifbjjlaa.Dk
open Go Go.RowKit Kit Gm Gv Crc Var Get Bytes WireFirst Ref3 Copy Ap Sa Sb Sd Rd RdA RdF La Lb Lc Ld Ma Mb Md Fr Oe Of Na Nb Tk Pb Da Db Dc Dd Df Dg Dh Di Dj
open RdC (numN)

theorem cnt_same : ∀ A B : List Ce, A.take (cnt true A B) = B.take (cnt true A B)
  | [], B => by rw [cnt_nil]; simp
  | a :: A, [] => by simp [cnt]
  | a :: A, b :: B => by
    rw [cnt_cons]
    by_cases h : a = b
    · rw [decide_eq_true h, if_pos rfl, List.take_succ_cons, List.take_succ_cons, cnt_same A B, h]
    · rw [decide_eq_false h, if_neg (by decide)]; simp
theorem cnt_take : ∀ A B : List Ce, cnt false (A.take (cnt false A B)) (B.take (cnt false A B)) = cnt false A B
  | [], B => by rw [cnt_nil]; simp [cnt]
  | a :: A, [] => by simp [cnt]
  | a :: A, b :: B => by
    rw [cnt_cons]
    by_cases h : a = b
    · rw [decide_eq_true h, if_neg (by decide)]; simp [cnt]
    · rw [decide_eq_false h, if_pos rfl, List.take_succ_cons, List.take_succ_cons, cnt_cons, decide_eq_false h, if_pos rfl, cnt_take A B]
theorem cnt_stop : ∀ A B : List Ce, A.length = B.length → A.drop (cnt false A B) = [] ∨ (A.drop (cnt false A B)).head? = (B.drop (cnt false A B)).head?
  | [], B, _ => .inl (by simp)
  | a :: A, [], h => by simp at h
  | a :: A, b :: B, h => by
    rw [cnt_cons]
    by_cases hab : a = b
    · rw [decide_eq_true hab, if_neg (by decide)]; right; simp [hab]
    · rw [decide_eq_false hab, if_pos rfl, List.drop_succ_cons, List.drop_succ_cons]
      exact cnt_stop A B (by simpa using h)
theorem cnt_head {A B : List Ce} (h : A ≠ []) (hh : A.head? = B.head?) : 1 ≤ cnt true A B := by
  match A, B, h, hh with
  | a :: A, [], _, hh => simp at hh
  | a :: A, b :: B, _, hh =>
    rw [List.head?_cons, List.head?_cons] at hh
    injection hh with hh
    rw [cnt_cons, decide_eq_true hh, if_pos rfl]; omega
theorem cnt_all {A B : List Ce} (h : A.length = B.length) (hc : cnt true A B = A.length) : A = B := by
  have := cnt_same A B
  rw [hc, List.take_of_length_le (Nat.le_refl _), h, List.take_of_length_le (Nat.le_refl _)] at this
  exact this
/-- stretches that were written are read. -/
theorem st_fw (L M : List Ce) (hLM : L.length = M.length) (hmay : ∀ c ∈ M, MayC c) (hL : L.length ≤ 12000) : ∀ (k : Nat) (A : List Nat) (P : List Ce) (f fs : Nat) (r : Rdr), L.length - P.length ≤ k → P = M.take P.length → P.length ≤ L.length → r.err = 0 → r.at_ = A.length → (P.length = 0 ∨ L.drop P.length = [] ∨ (L.drop P.length).head? = (M.drop P.length).head?) → L.length - P.length < fs → (strF fs (L.drop P.length) (M.drop P.length)).length < f →
    stF (A ++ strF fs (L.drop P.length) (M.drop P.length)) L f r P = some M := by
  intro k
  induction k with
  | zero =>
    intro A P f fs r hk hP hle h0 h1 hh hfs hf
    obtain ⟨f, rfl⟩ : ∃ f', f = f' + 1 := ⟨f - 1, by omega⟩
    have hz : L.drop P.length = [] := List.drop_of_length_le (by omega)
    rw [strF_end (by rw [hz]; rfl), List.append_nil, st_end (by omega), hz, List.append_nil, hP, List.take_of_length_le (by omega)]
  | succ k ih =>
    intro A P f fs r hk hP hle h0 h1 hh hfs hf
    obtain ⟨a, ha⟩ : ∃ a, P.length = a := ⟨_, rfl⟩
    rw [ha] at hP hk hle hh hfs hf ⊢
    obtain ⟨f, rfl⟩ : ∃ f', f = f' + 1 := ⟨f - 1, by omega⟩
    have hlen : (L.drop a).length = L.length - a := List.length_drop
    have hlen2 : (L.drop a).length = (M.drop a).length := by rw [List.length_drop, List.length_drop, hLM]
    by_cases hg : cnt true (L.drop a) (M.drop a) = (L.drop a).length
    · rw [strF_end hg, List.append_nil, st_end (by omega), ha, cnt_all hlen2 hg]
      conv => lhs; rw [hP, List.take_append_drop]
    · obtain ⟨fs, rfl⟩ : ∃ f', fs = f' + 1 := ⟨fs - 1, by omega⟩
      have hgl := cnt_le true (L.drop a) (M.drop a)
      have hn1 := cnt_next _ _ hlen2 (by omega)
      have hsm := cnt_same (L.drop a) (M.drop a)
      have hpos : 0 < cnt true (L.drop a) (M.drop a) ∨ a = 0 := by
        rcases hh with h | h | h
        · exact .inr h
        · rw [h] at hg; simp [cnt] at hg
        · by_cases hz : L.drop a = []
          · rw [hz] at hg; simp [cnt] at hg
          · exact .inl (cnt_head hz h)
      have hfl := cnt_le false ((L.drop a).drop (cnt true (L.drop a) (M.drop a))) ((M.drop a).drop (cnt true (L.drop a) (M.drop a)))
      have htk := cnt_take ((L.drop a).drop (cnt true (L.drop a) (M.drop a))) ((M.drop a).drop (cnt true (L.drop a) (M.drop a)))
      have hst := cnt_stop ((L.drop a).drop (cnt true (L.drop a) (M.drop a))) ((M.drop a).drop (cnt true (L.drop a) (M.drop a))) (by simp only [List.length_drop]; omega)
      rw [strF_step rfl hg rfl] at hf ⊢
      generalize cnt true (L.drop a) (M.drop a) = g at *
      generalize cnt false ((L.drop a).drop g) ((M.drop a).drop g) = n at *
      simp only [List.drop_drop] at *
      rw [List.length_drop] at hfl
      generalize hX : (M.drop (a + g)).take n = X at *
      have hXl : X.length = n := by rw [← hX, List.length_take, List.length_drop]; omega
      generalize hRR : strF fs (L.drop (a + (g + n))) (M.drop (a + (g + n))) = RR at *
      have l1 : A ++ (varL g ++ varL n ++ cellsB X ++ RR) = A ++ varL g ++ (varL n ++ cellsB X ++ RR) := by simp only [List.append_assoc]
      have l2 : A ++ (varL g ++ varL n ++ cellsB X ++ RR) = A ++ varL g ++ varL n ++ (cellsB X ++ RR) := by simp only [List.append_assoc]
      have l3 : A ++ (varL g ++ varL n ++ cellsB X ++ RR) = A ++ varL g ++ varL n ++ cellsB X ++ RR := by simp only [List.append_assoc]
      have hvp := varL_pos g
      generalize hl : A ++ (varL g ++ varL n ++ cellsB X ++ RR) = l at *
      have hnot : ¬ l.length ≤ r.at_ := by rw [l1, h1]; simp only [List.length_append]; omega
      have q1 : sg l L r P = ((g : Int), { r with at_ := A.length + (varL g).length }) := by
        unfold sg; rw [ha, l1]; exact num_fw A _ g _ (by omega) (by omega) r h0 h1
      have q2 : sj l L r P = a + g := by unfold sj; rw [q1, ha]; simp
      have q3 : su l L r P = ((n : Int), { r with at_ := (A ++ varL g).length + (varL n).length }) := by
        unfold su; rw [q1, q2, l2]; exact num_fw (A ++ varL g) _ n _ (by omega) (by omega) { r with at_ := A.length + (varL g).length } h0 (by simp)
      have q4 : sx l L r P = some ({ r with at_ := (A ++ varL g ++ varL n).length + (cellsB X).length }, X) := by
        unfold sx; rw [q3]
        dsimp only
        rw [if_pos h0, Int.toNat_natCast, l3]
        have := runs_at X.length X (Nat.le_refl _) (A ++ varL g ++ varL n) RR [] n (n + 1) { r with at_ := (A ++ varL g).length + (varL n).length } (fun c hc => hmay c (by rw [← hX] at hc; exact List.mem_of_mem_drop (List.mem_of_mem_take hc))) h0 (by simp [Nat.add_assoc]) (by simpa using hXl) (by omega) (by omega) (.inl rfl)
        simpa using this
      have q5 : okG l L r P := by unfold okG; rw [q1]; exact ⟨h0, by rw [ha]; rcases hpos with h | h; exact .inl (by dsimp only; omega); exact .inr h⟩
      have q6 : okX l L r P X := by unfold okX; rw [q3, q2]; exact ⟨by dsimp only; omega, by dsimp only; rw [Int.toNat_natCast]; exact htk⟩
      rw [st_step hnot q5 q4 q6, q1]
      dsimp only
      rw [Int.toNat_natCast, ha, hsm]
      have hP2 : P ++ (M.drop a).take g ++ X = M.take (a + g + n) := by
        rw [hP, ← hX, ← List.drop_drop, List.take_add (i := a + g), List.take_add (i := a), List.drop_drop]
      have hP2l : (P ++ (M.drop a).take g ++ X).length = a + (g + n) := by rw [hP2, List.length_take]; omega
      have := ih (A ++ varL g ++ varL n ++ cellsB X) (P ++ (M.drop a).take g ++ X) f fs { r with at_ := (A ++ varL g ++ varL n).length + (cellsB X).length } (by rw [hP2l]; omega) (by rw [hP2l, hP2, Nat.add_assoc]) (by rw [hP2l]; omega) h0 (by simp [Nat.add_assoc]) (by rw [hP2l]; right; rw [← Nat.add_assoc]; exact hst) (by rw [hP2l]; omega) (by rw [hP2l, hRR]; simp only [List.length_append] at hf; omega)
      rw [hP2l, hRR, ← l3] at this
      exact this
end Go.Proofs.Ytfogbokifbjjlaa.Dk
/- A change, made and applied (pure). -/
set_option linter.unusedVariables false
namespace Go.Proofs.Ytfogbokifbjjlaa.Dl
open Go Go.RowKit Kit Gm Gv Crc Var Get Bytes WireFirst Ref3 Copy Ap Sa Sb Sd Rd RdA RdF La Lb Lc Ld Ma Mb Md Fr Oe Of Na Nb Ti Tj Tk Pb Da Db Dc Dd Df Dg Dh Di Dj Dk
open RdC (numN)

theorem head_six (s : Scr) : dheadL s = varL 0 ++ (varL (un s.row) ++ (varL (un s.col) ++ (varL (un (numB s.hid)) ++ (varL (un (s.ti.size : Int)) ++ byL s.ti)))) := by
  simp [dheadL, hP, four]
theorem one_small : varL 1 = [1] := varL_small (by omega)
/-- what Make writes, Apply reads. -/
theorem app_fw (s t : Scr) (L M : List Ce) (hs : MayS s L) (ht : MayS t M) (r : Rdr) (h0 : r.err = 0) (h1 : r.at_ = 0) : AppR s L (makeP s L t M) r t M := by
  by_cases hsz : s.R = t.R ∧ s.C = t.C
  · have hk := ht
    obtain ⟨hlen, hpos⟩ := ht.len
    have hlL := hs.len.1
    obtain ⟨⟨a1, a2, a3, a4⟩, ⟨b1, b2⟩, ⟨b3, b4⟩, htt, hc, hm⟩ := ht
    have hLM : L.length = M.length := by
      have := hs.2.2.2.2.1
      rw [hsz.1, hsz.2] at this
      omega
    have hmay := Mend.may hm
    have hti := titleB_le htt
    rw [makeP, if_pos hsz, head_six]
    right
    obtain ⟨R, C, row, col, hid, ti⟩ := t
    dsimp only at *
    obtain ⟨row, rfl⟩ := Int.eq_ofNat_of_zero_le (a := row) (by omega)
    obtain ⟨col, rfl⟩ := Int.eq_ofNat_of_zero_le (a := col) (by omega)
    have hh : ∃ k : Nat, numB hid = (k : Int) ∧ k ≤ 1 ∧ (((k : Int) == 1) = hid) := by
      cases hid
      · exact ⟨0, rfl, by omega, rfl⟩
      · exact ⟨1, rfl, by omega, rfl⟩
    obtain ⟨k, hk1, hk2, hk3⟩ := hh
    rw [hk1, un_nat row (by omega), un_nat col (by omega), un_nat k (by omega), un_nat ti.size (by omega), ← byL_len]
    have ht2 : (byL ti).length ≤ 256 := by rw [byL_len]; exact hti
    have hst : strL (byL ti) = ti := strL_byL ti
    generalize byL ti = y at *
    generalize hl : varL 0 ++ (varL row ++ (varL col ++ (varL k ++ (varL y.length ++ y)))) ++ strS L M = l at *
    have l1 : l = [] ++ varL 0 ++ (varL row ++ (varL col ++ (varL k ++ (varL y.length ++ y))) ++ strS L M) := by rw [← hl]; simp only [List.append_assoc, List.nil_append]
    have l2 : l = varL 0 ++ varL row ++ (varL col ++ (varL k ++ (varL y.length ++ y)) ++ strS L M) := by rw [← hl]; simp only [List.append_assoc]
    have l3 : l = varL 0 ++ varL row ++ varL col ++ (varL k ++ (varL y.length ++ y) ++ strS L M) := by rw [← hl]; simp only [List.append_assoc]
    have l4 : l = varL 0 ++ varL row ++ varL col ++ varL k ++ ((varL y.length ++ y) ++ strS L M) := by rw [← hl]; simp only [List.append_assoc]
    have l5 : l = varL 0 ++ varL row ++ varL col ++ varL k ++ (varL y.length ++ y) ++ strS L M := by rw [← hl]; simp only [List.append_assoc]
    have E0 := num_fw [] (varL row ++ (varL col ++ (varL k ++ (varL y.length ++ y))) ++ strS L M) 0 1 (by omega) (by omega) r h0 (by simpa using h1)
    have E1 := num_fw (varL 0) (varL col ++ (varL k ++ (varL y.length ++ y)) ++ strS L M) row 60 (by omega) (by omega) { r with at_ := (varL 0).length } h0 rfl
    have E2 := num_fw (varL 0 ++ varL row) (varL k ++ (varL y.length ++ y) ++ strS L M) col 200 (by omega) (by omega) { r with at_ := (varL 0 ++ varL row).length } h0 rfl
    have E3 := num_fw (varL 0 ++ varL row ++ varL col) ((varL y.length ++ y) ++ strS L M) k 1 (by omega) (by omega) { r with at_ := (varL 0 ++ varL row ++ varL col).length } h0 rfl
    have E4 := text_fw (varL 0 ++ varL row ++ varL col ++ varL k) y (strS L M) 256 ht2 (by omega) { r with at_ := (varL 0 ++ varL row ++ varL col ++ varL k).length } h0 rfl
    rw [← l1] at E0; rw [← l2] at E1; rw [← l3] at E2; rw [← l4] at E3; rw [← l5] at E4
    simp only [List.length_nil, Nat.zero_add] at E0
    rw [← List.length_append] at E1 E2 E3 E4
    have Q0 : p0 l r = numN l r 1 := rfl
    rw [E0] at Q0
    have Q1 : p1 l r = numN l (p0 l r).2 60 := rfl
    rw [Q0] at Q1; dsimp only at Q1; rw [E1] at Q1
    have Q2 : p2 l r = numN l (p1 l r).2 200 := rfl
    rw [Q1] at Q2; dsimp only at Q2; rw [E2] at Q2
    have Q3 : p3 l r = numN l (p2 l r).2 1 := rfl
    rw [Q2] at Q3; dsimp only at Q3; rw [E3] at Q3
    have Q4 : p4 l r = textN l (p3 l r).2 ((256 : Nat) : Int) := rfl
    rw [Q3] at Q4; dsimp only at Q4; rw [E4] at Q4
    refine ⟨by rw [Q0]; dsimp only; omega, by rw [Q4]; exact h0, ?_, ?_, hk⟩
    · unfold apS
      rw [Q1, Q2, Q3, Q4, hsz.1, hsz.2, hst]
      dsimp only
      rw [hk3]
    · rw [Q4]
      dsimp only
      have := st_fw L M hLM hmay hlL L.length (varL 0 ++ varL row ++ varL col ++ varL k ++ (varL y.length ++ y)) [] (l.length + 1) (L.length + 1) { r with at_ := (varL 0 ++ varL row ++ varL col ++ varL k ++ (varL y.length ++ y)).length } (by simp) (by simp) (by simp) h0 rfl (.inl rfl) (by simp) (by
        simp only [List.length_nil, List.drop_zero]
        have e := congrArg List.length l5
        rw [List.length_append] at e
        have e2 : (strS L M).length = (strF (L.length + 1) L M).length := rfl
        omega)
      rw [List.length_nil, List.drop_zero, List.drop_zero] at this
      rw [l5]
      exact l5 ▸ this
  · rw [makeP, if_neg hsz]
    left
    have E0 := num_fw [] (encL t M) 1 1 (by omega) (by omega) r h0 (by simpa using h1)
    rw [List.nil_append] at E0
    refine ⟨by unfold p0; rw [E0]; rfl, ⟨ht, by rw [one_small]; rfl⟩, ?_⟩
    by_cases h : s.R = t.R
    · exact .inr (fun k => hsz ⟨h, k⟩)
    · exact .inl h
end Go.Proofs.Ytfogbokifbjjlaa.Dl
/- A change, applied and made again (pure). -/
set_option linter.unusedVariables false
namespace Go.Proofs.Ytfogbokifbjjlaa.Dn
open Go Go.RowKit Kit Gm Gv Crc Var Get Bytes WireFirst Ref3 Copy Ap Sa Sb Sd Rd RdA RdF La Lb Lc Ld Ma Mb Md Fr Oe Of Na Nb Ti Tj Tk Pb Da Db Dc Dd Df Dg Dh Di Dj Dk Dl
open RdC (numN)

theorem cnt_take_app : ∀ (g : Nat) (A Y : List Ce), g ≤ A.length → cnt true A (A.take g ++ Y) = g + cnt true (A.drop g) Y
  | 0, A, Y, _ => by simp
  | g + 1, [], Y, h => by simp at h
  | g + 1, a :: A, Y, h => by
    rw [List.take_succ_cons, List.cons_append, cnt_cons, decide_eq_true rfl, if_pos rfl, cnt_take_app g A Y (by simpa using h), List.drop_succ_cons]; omega
theorem cnt_false_app : ∀ (n : Nat) (A X Y : List Ce), X.length = n → n ≤ A.length → cnt false (A.take n) X = n → cnt false A (X ++ Y) = n + cnt false (A.drop n) Y
  | 0, A, X, Y, h, _, _ => by rw [List.length_eq_zero_iff.1 h]; simp
  | n + 1, [], X, Y, h, h2, _ => by simp at h2
  | n + 1, a :: A, [], Y, h, _, _ => by simp at h
  | n + 1, a :: A, x :: X, Y, h, h2, h3 => by
    rw [List.take_succ_cons, cnt_cons] at h3
    by_cases hab : a = x
    · rw [decide_eq_true hab, if_neg (by decide)] at h3; omega
    · rw [decide_eq_false hab, if_pos rfl] at h3
      rw [List.cons_append, cnt_cons, decide_eq_false hab, if_pos rfl, cnt_false_app n A X Y (by simpa using h) (by simpa using h2) (by omega), List.drop_succ_cons]; omega
theorem cnt_true_zero {n : Nat} {A X Y : List Ce} (h1 : 1 ≤ n) (h2 : X.length = n) (h3 : cnt false (A.take n) X = n) : cnt true A (X ++ Y) = 0 := by
  match n, A, X, h1, h2, h3 with
  | n + 1, [], X, _, _, h3 => simp [cnt] at h3
  | n + 1, a :: A, [], _, h2, _ => simp at h2
  | n + 1, a :: A, x :: X, _, _, h3 =>
    rw [List.take_succ_cons, cnt_cons] at h3
    by_cases hab : a = x
    · rw [decide_eq_true hab, if_neg (by decide)] at h3; omega
    · rw [List.cons_append, cnt_cons, decide_eq_false hab, if_neg (by decide)]
theorem cnt_false_zero {A Y : List Ce} (h : Y = [] ∨ Y.head? = A.head?) : cnt false A Y = 0 := by
  match A, Y, h with
  | [], Y, _ => rw [cnt_nil]
  | a :: A, [], _ => simp [cnt]
  | a :: A, y :: Y, h =>
    rcases h with h | h
    · cases h
    · rw [List.head?_cons, List.head?_cons] at h
      injection h with h
      rw [cnt_cons, decide_eq_true h.symm, if_neg (by decide)]
theorem cnt_self (A : List Ce) : cnt true A A = A.length := by
  have := cnt_take_app A.length A [] (Nat.le_refl _)
  rw [List.take_of_length_le (Nat.le_refl _), List.append_nil] at this
  rw [this, List.drop_of_length_le (Nat.le_refl _), cnt_nil]; omega
/-- stretches that were read are those that are written. -/
theorem st_back (l : List Nat) (hl : ∀ c ∈ l, c < 256) (L : List Ce) : ∀ (f : Nat) (r : Rdr) (P B : List Ce), stF l L f r P = some B → r.err = 0 → P.length ≤ L.length →
    ∃ T, B = P ++ T ∧ T.length = L.length - P.length ∧ (∀ fs, T.length < fs → l.drop r.at_ = strF fs (L.drop P.length) T) ∧ (P.length = 0 ∨ T = [] ∨ T.head? = (L.drop P.length).head?) := by
  intro f
  induction f with
  | zero => intro r P B h; simp [stF] at h
  | succ f ih =>
    intro r P B h h0 hP
    by_cases he : l.length ≤ r.at_
    · rw [st_end he] at h
      injection h with h
      refine ⟨L.drop P.length, h.symm, List.length_drop, fun fs hfs => ?_, .inr (.inr rfl)⟩
      rw [strF_end (cnt_self _), List.drop_of_length_le he]
    · by_cases hG : okG l L r P
      · cases hX : sx l L r P with
        | none => rw [st_noX he hG hX] at h; cases h
        | some v =>
          obtain ⟨r3, X⟩ := v
          by_cases hXX : okX l L r P X
          · rw [st_step he hG hX hXX] at h
            obtain ⟨e1, e2⟩ := hG
            obtain ⟨f1, f2⟩ := hXX
            have hsg : sg l L r P = numN l r (L.length - P.length) := rfl
            rw [hsg] at e1
            obtain ⟨_, g, hg1, hg2, hg3, hg4⟩ := num_back hl e1
            rw [hg2] at hsg
            unfold sx at hX
            split at hX
            · rename_i hu
              have hsj : sj l L r P = P.length + g := by unfold sj; rw [hsg]; simp
              have hsu : su l L r P = numN l (sg l L r P).2 (L.length - sj l L r P) := rfl
              rw [hsu] at hu
              obtain ⟨_, n, hn1, hn2, hn3, hn4⟩ := num_back hl hu
              rw [hn2] at hsu
              rw [hsu] at f1 f2 hX
              rw [hsj] at f2 hn1
              rw [hsg] at e2 hn3 hn4 hX h
              dsimp only at *
              rw [Int.toNat_natCast] at f2 h hX
              obtain ⟨X', hx1, hx2, hx3, hx4, hx5, _, _⟩ := runs_back hl n (n + 1) _ [] r3 X hX (by simp) (by simp) h0
              rw [List.nil_append] at hx1
              subst hx1
              subst hx4
              dsimp only at *
              have hA : (L.drop P.length).length = L.length - P.length := List.length_drop
              have hpl : (P ++ (L.drop P.length).take g ++ X).length = P.length + g + n := by
                simp only [List.length_append, List.length_take]; omega
              obtain ⟨T, t1, t2, t3, t4⟩ := ih _ _ _ h h0 (by rw [hpl]; omega)
              rw [hpl] at t2 t3 t4
              have hdd : L.drop (P.length + g) = (L.drop P.length).drop g := by rw [List.drop_drop]
              have hdd2 : L.drop (P.length + g + n) = ((L.drop P.length).drop g).drop n := by rw [List.drop_drop, List.drop_drop, Nat.add_assoc]
              rw [hdd] at f2
              rw [hdd2] at t3 t4
              generalize L.drop P.length = A at *
              have hng : n ≤ (A.drop g).length := by rw [List.length_drop]; omega
              have c1 : cnt true A (A.take g ++ (X ++ T)) = g := by
                rw [cnt_take_app g A _ (by omega), cnt_true_zero (n := n) (by omega) hx2 f2]; omega
              have d1 : (A.take g ++ (X ++ T)).drop g = X ++ T := List.drop_left' (by rw [List.length_take]; omega)
              have d2 : (A.take g ++ (X ++ T)).drop (g + n) = T := by rw [← List.drop_drop, d1]; exact List.drop_left' hx2
              have d3 : (X ++ T).take n = X := List.take_left' hx2
              have d4 : A.drop (g + n) = (A.drop g).drop n := by rw [List.drop_drop]
              have c2 : cnt false (A.drop g) (X ++ T) = n := by
                rw [cnt_false_app n _ X T hx2 hng f2, cnt_false_zero (by rcases t4 with h | h; exact absurd h (by omega); exact h)]; omega
              refine ⟨A.take g ++ (X ++ T), by rw [t1]; simp only [List.append_assoc], by simp only [List.length_append, List.length_take]; omega, fun fs hfs => ?_, ?_⟩
              · obtain ⟨fs, rfl⟩ : ∃ f', fs = f' + 1 := ⟨fs - 1, by omega⟩
                rw [strF_step (r := n) c1 (by rw [List.length_drop] at hng; omega) (by rw [d1]; exact c2), d1, d2, d3, d4, ← t3 fs (by simp only [List.length_append, List.length_take] at hfs; omega), hg3, hn3, hx5]
                simp only [List.append_assoc]
              · rcases e2 with e2 | e2
                · right; right
                  match g, A, hg1, e2, hA with
                  | 0, A, _, e2, _ => omega
                  | g + 1, [], hg1, _, hA => rw [List.length_nil] at hA; omega
                  | g + 1, a :: A, _, _, _ => rfl
                · exact .inl e2
            · cases hX
          · rw [st_badX he hG hX hXX] at h; cases h
      · rw [st_noG he hG] at h; cases h
/-- what Apply reads, Make writes. -/
theorem app_back (s t : Scr) (L M : List Ce) (d : List Nat) (hd : ∀ c ∈ d, c < 256) (r : Rdr) (h1 : r.at_ = 0) (h : AppR s L d r t M) : MayS t M ∧ d = makeP s L t M := by
  rcases h with ⟨a1, ⟨a2, a3⟩, a4⟩ | ⟨a1, a2, a3, a4, a5⟩
  · refine ⟨a2, ?_⟩
    obtain ⟨x, rfl⟩ := num_one hd h1 a1
    rw [makeP, if_neg (by rcases a4 with k | k; exact fun e => k e.1; exact fun e => k e.2), one_small, ← a3]; rfl
  · refine ⟨a5, ?_⟩
    have hsz : s.R = t.R ∧ s.C = t.C := by rw [a3]; exact ⟨rfl, rfl⟩
    rw [makeP, if_pos hsz, head_six]
    have h6 := a2
    unfold p4 at h6
    obtain ⟨h5, y, t1, t2, t3, t4⟩ := text_back hd h6
    have T2 : p4 d r = _ := t2
    unfold p3 at h5
    obtain ⟨h4, n3, m3, u3, d3, _⟩ := num_back hd h5
    have U3 : p3 d r = _ := u3
    unfold p2 at h4
    obtain ⟨h3, n2, m2, u2, d2, _⟩ := num_back hd h4
    have U2 : p2 d r = _ := u2
    unfold p1 at h3
    obtain ⟨h2, n1, m1, u1, d1, _⟩ := num_back hd h3
    have U1 : p1 d r = _ := u1
    unfold p0 at h2
    obtain ⟨h0, n0, m0, u0, d0, _⟩ := num_back hd h2
    have U0 : p0 d r = _ := u0
    rw [U0] at a1
    dsimp only at a1
    obtain rfl : n0 = 0 := by omega
    obtain ⟨T, e1, e2, e3, _⟩ := st_back d hd L (d.length + 1) _ [] M a4 a2 (by simp)
    rw [List.nil_append] at e1
    subst e1
    have e3 := e3 (L.length + 1) (by rw [e2]; simp)
    rw [List.length_nil, List.drop_zero, T2] at e3
    have hx : t.row = (p1 d r).1 ∧ t.col = (p2 d r).1 ∧ t.hid = ((p3 d r).1 == 1) ∧ t.ti = (p4 d r).1 := by rw [a3]; exact ⟨rfl, rfl, rfl, rfl⟩
    obtain ⟨x1, x2, x3, x4⟩ := hx
    rw [T2] at x4
    rw [U3] at e3 t3 T2 x3
    rw [U2] at e3 t3 T2 d3 U3 x2
    rw [U1] at e3 t3 T2 d3 U3 d2 U2 x1
    rw [U0] at e3 t3 T2 d3 U3 d2 U2 d1 U1
    dsimp only at e3 t3 T2 d3 U3 d2 U2 d1 U1 d0 U0 x1 x2 x3 x4
    have htb : ∀ c ∈ y, c < 256 := fun c hc => hd c (List.mem_of_mem_drop (i := r.at_ + (varL 0).length + (varL n1).length + (varL n2).length + (varL n3).length) (by rw [t3]; simp [hc]))
    have hn3 : numB ((n3 : Int) == 1) = (n3 : Int) := by
      rcases (by omega : n3 = 0 ∨ n3 = 1) with rfl | rfl <;> rfl
    rw [x1, x2, x3, x4, hn3, strL_size, byL_strL y htb, un_nat n1 (by omega), un_nat n2 (by omega), un_nat n3 (by omega), un_nat y.length (Nat.lt_of_le_of_lt t1 (by decide))]
    have hdz : d = d.drop r.at_ := by rw [h1, List.drop_zero]
    conv => lhs; rw [hdz, d0, d1, d2, d3, t3, e3]
    simp only [List.append_assoc]
/-- no reader's own size matters. -/
theorem app_one (s t : Scr) (L M : List Ce) (hs : MayS s L) (d : List Nat) (hd : ∀ c ∈ d, c < 256) (r r' : Rdr) (h1 : r.at_ = 0) (k0 : r'.err = 0) (k1 : r'.at_ = 0) (h : AppR s L d r t M) : AppR s L d r' t M := by
  obtain ⟨a, e⟩ := app_back s t L M d hd r h1 h
  rw [e]
  exact app_fw s t L M hs a r' k0 k1
theorem app_same {s t t' : Scr} {L M M' : List Ce} {d : List Nat} {r : Rdr} (h : AppR s L d r t M) (k : AppR s L d r t' M') : t = t' ∧ M = M' := by
  rcases h with ⟨a1, a2, a3⟩ | ⟨a1, a2, a3, a4, a5⟩ <;> rcases k with ⟨b1, b2, b3⟩ | ⟨b1, b2, b3, b4, b5⟩
  · exact encS_one a2 b2
  · exact absurd a1 b1
  · exact absurd b1 a1
  · rw [a4] at b4
    injection b4 with b4
    exact ⟨a3.trans b3.symm, b4⟩
/-- of what Make writes, Apply makes the other screen and no third. -/
theorem make_one (s t t' : Scr) (L M M' : List Ce) (hs : MayS s L) (ht : MayS t M) (ht' : MayS t' M') (h : makeP s L t M = makeP s L t' M') : t = t' ∧ M = M' := by
  have a := app_fw s t L M hs ht ⟨none, 0, 0, 0, 0⟩ rfl rfl
  have b := app_fw s t' L M' hs ht' ⟨none, 0, 0, 0, 0⟩ rfl rfl
  rw [h] at a
  exact app_same a b
end Go.Proofs.Ytfogbokifbjjlaa.Dn
/- Apply of what Make wrote; what the chapter's examples fix. -/
set_option linter.unusedVariables false
namespace Go.Proofs.Ytfogbokifbjjlaa.Do
open Go Go.RowKit Kit Gm Gv Crc Var Get Bytes WireFirst Ref3 Copy Ap Sa Sb Sd Sf Rd RdA La Lb Lc Ld Oe Of Na Nb Ti Tj Tk Pb Da Db Dc Dd Df Dg Dh Di Dj Dk Dl Dn

theorem byL_byte (s : ByteArray) : ∀ x ∈ byL s, x < 256 := by
  intro x hx
  simp only [byL, List.mem_map] at hx
  obtain ⟨b, _, rfl⟩ := hx
  exact b.toNat_lt
theorem hP_byte (s : Scr) (k : Nat) : ∀ x ∈ hP s k, x < 256 := by
  induction k with
  | zero => exact varL_bytes 0
  | succ k ih =>
    intro x hx
    rw [hP, List.mem_append] at hx
    rcases hx with h | h
    · exact ih x h
    · exact varL_bytes _ x h
theorem strF_byte : ∀ (f : Nat) (A B : List Ce), ∀ x ∈ strF f A B, x < 256
  | 0, A, B, x, h => by simp [strF] at h
  | f + 1, A, B, x, h => by
    rw [strF] at h
    split at h
    · simp at h
    · simp only [List.mem_append] at h
      rcases h with ((h | h) | h) | h
      · exact varL_bytes _ x h
      · exact varL_bytes _ x h
      · exact Lf.cells_byte _ _ (Nat.le_refl _) x h
      · exact strF_byte f _ _ x h
theorem make_byte (s t : Scr) (L M : List Ce) : ∀ x ∈ makeP s L t M, x < 256 := by
  intro x hx
  unfold makeP at hx
  split at hx
  · rw [List.mem_append] at hx
    rcases hx with h | h
    · unfold dheadL at h
      rw [List.mem_append] at h
      rcases h with h | h
      · exact hP_byte _ _ x h
      · exact byL_byte _ x h
    · exact strF_byte _ _ _ x h
  · rw [List.mem_append] at hx
    rcases hx with h | h
    · exact varL_bytes _ x h
    · exact Lf.enc_byte _ _ x h
theorem make_len (s t : Scr) (L M : List Ce) (hs : MayS s L) (ht : MayS t M) : (makeP s L t M).length ≤ 1000000 := by
  unfold makeP
  split
  · rename_i hsz
    have hlL := hs.len.1
    have hLM : L.length = M.length := by
      have h1 := hs.2.2.2.2.1
      have h2 := ht.2.2.2.2.1
      rw [hsz.1, hsz.2] at h1
      omega
    have h1 := dhead_len t
    have h2 := titleB_le ht.2.2.2.1
    have h3 := strF_len (L.length + 1) L M hLM (by omega)
    rw [List.length_append]
    have e : (strS L M).length = (strF (L.length + 1) L M).length := rfl
    omega
  · have := enc_tight t M ht
    rw [List.length_append, one_small]
    simp only [List.length_cons, List.length_nil]
    omega
/-- Apply, of what Make wrote. -/
theorem applyMade (s t : Scr) (q1 o1 n1 c1 : Nat) (L M : List Ce) (b : Option Addr) (m cb : Nat) (W : World) (h1 : ScA W (some ⟨q1, o1, none⟩) n1 c1 L) (f1 : n1 ≤ 1000000 ∧ s.ti.size ≤ 1000000) (m1 : MayS s L) (m2 : MayS t M)
    (hm : m = (makeP s L t M).length) (hl : Sl W b (makeP s L t M)) (hcb : m ≤ cb) (hb0 : b = none → cb = 0) :
    Calls Try.prog 36 #[svA s (some ⟨q1, o1, none⟩) n1 c1, .slice b m cb] W fun e w' => ∃ g c, e = .returned (.tuple #[svA t (some ⟨g, 0, none⟩) M.length c, .int .i64 0]) ∧ M.length ≤ c ∧ Sc w' g 0 M ∧ Below W.heap.size W w' := by
  obtain ⟨R, C, row, col, hid, ti⟩ := s
  refine (applyYes R C row col hid ti q1 o1 n1 c1 L b m cb _ W h1 f1 m1 hm (make_len _ _ _ _ m1 m2) (make_byte _ _ _ _) hl hcb hb0).mono fun e w' hq => ?_
  rcases hq with ⟨r, t', M', g, c, k1, k2, k3, k4, k5, k6, k7⟩ | ⟨⟨r, k1, k2, k3⟩, _⟩
  · obtain ⟨rfl, rfl⟩ := app_same k3 (app_fw _ t L M m1 m2 r k2 k1)
    exact ⟨g, c, k4, k5, k6, k7⟩
  · exact absurd ⟨t, M, app_fw _ t L M m1 m2 r k2 k1⟩ k3
theorem may_12 : MayS ⟨1, 2, 0, 0, false, ⟨#[]⟩⟩ [Sf.blk, Sf.blk] := by
  refine ⟨by decide, by decide, by decide, by decide, by decide, ?_⟩
  intro i hi
  have hi' : i = 0 ∨ i = 1 := by simp only [List.length_cons, List.length_nil] at hi; omega
  rcases hi' with rfl | rfl <;> exact ⟨Sf.blk, rfl, by unfold MayC; decide, fun h => (by cases h), fun h => (by cases h)⟩
theorem make_12 : makeP ⟨1, 2, 0, 0, false, ⟨#[]⟩⟩ [Sf.blk, Sf.blk] ⟨1, 2, 0, 0, false, ⟨#[]⟩⟩ [Sf.blk, Sf.blk] = [0, 0, 0, 0, 0] := by
  unfold makeP
  rw [if_pos ⟨rfl, rfl⟩, head_six]
  have e : strS [Sf.blk, Sf.blk] [Sf.blk, Sf.blk] = [] := strF_end (cnt_self _)
  rw [e]
  simp only [un, numB]
  simp [varL_small, byL, ByteArray.size]
theorem sl_lit2 {w : World} {o : Obj} {l : List Nat} {C : Array Value} (hC : C = (cellsOf l).toArray) : Sl ((w.alloc o).alloc (.cells C 5)) (some ⟨w.heap.size + 1, 0, none⟩) l := by
  have h := sl_lit (w := w.alloc o) (l := l) hC
  have e : (w.alloc o).heap.size = w.heap.size + 1 := by simp
  rw [e] at h; exact h
set_option maxRecDepth 100000 in
set_option maxHeartbeats 4000000 in
/-- what the chapter's examples fix. -/
theorem firstD (w : World) : Calls Try.prog 33 #[] w fun e w' => e = .returned (.bool true) ∧ Below w.heap.size w w' := by
  have H31 := Lib.hid (show Calls Try.prog 31 #[.int .i64 1, .int .i64 2] w fun e w' => e = .returned (.tuple #[.agg #[.int .i64 1, .int .i64 2, .slice (some ⟨w.heap.size + 1, 0, none⟩) 2 2, .int .i64 0, .int .i64 0, .bool false, .string ⟨#[]⟩], .int .i64 0]) ∧ RB w' (w.heap.size + 1) [Sf.blk, Sf.blk] ∧ Below w.heap.size w w' from Sf.blankYes 1 2 w (by decide))
  obtain ⟨g, hg⟩ : ∃ g, g = w.heap.size + 1 := ⟨_, rfl⟩
  rw [← hg] at H31
  clear hg
  have H34 := Lib.hid (fun w1 (hr : RB w1 g [Sf.blk, Sf.blk]) => (show Calls Try.prog 34 #[.agg #[.int .i64 1, .int .i64 2, .slice (some ⟨g, 0, none⟩) 2 2, .int .i64 0, .int .i64 0, .bool false, .string ⟨#[]⟩], .agg #[.int .i64 1, .int .i64 2, .slice (some ⟨g, 0, none⟩) 2 2, .int .i64 0, .int .i64 0, .bool false, .string ⟨#[]⟩]] w1 fun e w' => ∃ b off c, e = .returned (.tuple #[.slice (some ⟨b, off, none⟩) 5 c, .int .i64 0]) ∧ 5 ≤ c ∧ Sl w' (some ⟨b, off, none⟩) [0, 0, 0, 0, 0] ∧ Below w1.heap.size w1 w' from by
    have := makeYes ⟨1, 2, 0, 0, false, ⟨#[]⟩⟩ ⟨1, 2, 0, 0, false, ⟨#[]⟩⟩ (some ⟨g, 0, none⟩) 2 2 [Sf.blk, Sf.blk] (some ⟨g, 0, none⟩) 2 2 [Sf.blk, Sf.blk] w1 (sca_rb hr) (sca_rb hr) ⟨by decide, by decide⟩ ⟨by decide, by decide⟩ may_12 may_12
    rw [make_12] at this
    exact this))
  have H36 := Lib.hid (fun b off c w1 (hr : RB w1 g [Sf.blk, Sf.blk]) (hs : Sl w1 (some ⟨b, off, none⟩) [0, 0, 0, 0, 0]) (hc : 5 ≤ c) => (show Calls Try.prog 36 #[.agg #[.int .i64 1, .int .i64 2, .slice (some ⟨g, 0, none⟩) 2 2, .int .i64 0, .int .i64 0, .bool false, .string ⟨#[]⟩], .slice (some ⟨b, off, none⟩) 5 c] w1 fun e w' => ∃ g2 c2, e = .returned (.tuple #[.agg #[.int .i64 1, .int .i64 2, .slice (some ⟨g2, 0, none⟩) 2 c2, .int .i64 0, .int .i64 0, .bool false, .string ⟨#[]⟩], .int .i64 0]) ∧ 2 ≤ c2 ∧ Sc w' g2 0 [Sf.blk, Sf.blk] ∧ Below w1.heap.size w1 w' from by
    have := applyMade ⟨1, 2, 0, 0, false, ⟨#[]⟩⟩ ⟨1, 2, 0, 0, false, ⟨#[]⟩⟩ g 0 2 2 [Sf.blk, Sf.blk] [Sf.blk, Sf.blk] (some ⟨b, off, none⟩) 5 c w1 (sca_rb hr) ⟨by decide, by decide⟩ may_12 may_12 (by rw [make_12]; rfl) (by rw [make_12]; exact hs) hc (fun h => by cases h)
    exact this))
  have H16 := Lib.hid (fun a1 a2 c1 w1 (h1 : Sl w1 a1 [0, 0, 0, 0, 0]) (h2 : Sl w1 a2 [0, 0, 0, 0, 0]) => (show Calls Try.prog 16 #[.slice a1 5 c1, .slice a2 5 5] w1 fun e w' => e = .returned (.bool true) ∧ w1 = w' from bytes_yes a1 a2 5 5 c1 5 [0, 0, 0, 0, 0] w1 rfl rfl h1 h2 (by decide)))
  have H29 := Lib.hid (fun g2 c2 w1 (hr : RB w1 g [Sf.blk, Sf.blk]) (hs : Sc w1 g2 0 [Sf.blk, Sf.blk]) => (show Calls Try.prog 29 #[.agg #[.int .i64 1, .int .i64 2, .slice (some ⟨g, 0, none⟩) 2 2, .int .i64 0, .int .i64 0, .bool false, .string ⟨#[]⟩], .agg #[.int .i64 1, .int .i64 2, .slice (some ⟨g2, 0, none⟩) 2 c2, .int .i64 0, .int .i64 0, .bool false, .string ⟨#[]⟩]] w1 fun e w' => e = .returned (.bool true) ∧ Below w1.heap.size w1 w' from same_self ⟨1, 2, 0, 0, false, ⟨#[]⟩⟩ g g2 0 2 2 2 c2 [Sf.blk, Sf.blk] w1 rfl rfl (Oe.rb_sc hr) hs (by decide)))
  go_enter Try.func33, Try.ntmps33
  go_wp2_with (first
    | (go_at_call 31; (with_reducible refine H31.out.mono ?_); rintro e w1 ⟨rfl, hr, hb⟩; have HR1 := Lib.hid (hr.alloc (svO ⟨1, 2, 0, 0, false, ⟨#[]⟩⟩ (some ⟨g, 0, none⟩) 2 2)); have HB1 := Lib.hid (below_then hb (below_one w1 (svO ⟨1, 2, 0, 0, false, ⟨#[]⟩⟩ (some ⟨g, 0, none⟩) 2 2)) hb.size); have HS1 := Lib.hid (heap_alloc_new w1 (svO ⟨1, 2, 0, 0, false, ⟨#[]⟩⟩ (some ⟨g, 0, none⟩) 2 2)); clear hr hb)
    | (go_at_call 34; (with_reducible refine (H34.out _ HR1.out).mono ?_); rintro e w2 ⟨b, off, c, rfl, hc, hs, hb⟩; have HC2 := Lib.hid hc; have HL2 := Lib.hid hs; have HR2 := Lib.hid (rbT hb HR1.out); have HB2 := Lib.hid (below_next2 HB1.out hb); have HS2 := Lib.hid ((hb.block _ (Array.getElem?_eq_some_iff.1 HS1.out).1).trans HS1.out); obtain ⟨x0, x1, x2, x3, x4, x5, x6⟩ := seven HS2.out; dsimp only at x0 x1 x2 x3 x4 x5 x6; clear hc hs hb)
    | (go_at_call 36; (with_reducible refine (H36.out _ _ _ _ HR2.out HL2.out HC2.out).mono ?_); rintro e w3 ⟨g2, c2, rfl, hc, hs, hb⟩; have hbb := below_two w3 (.cells #[.int .i64 1, .int .i64 2, .slice (some ⟨g2, 0, none⟩) 2 c2, .int .i64 0, .int .i64 0, .bool false, .string ⟨#[]⟩] 24) (.cells #[.int .u8 0, .int .u8 0, .int .u8 0, .int .u8 0, .int .u8 0] 5); have HR3 := Lib.hid ((rbT hb HR2.out).then_ hbb (Nat.le_refl _)); have HSC3 := Lib.hid (hs.then_ hbb (Nat.le_refl _)); have HL3 := Lib.hid (sl_then (below_next2 hb hbb) (Nat.le_refl _) HL2.out); have HL4 := Lib.hid (sl_lit2 (w := w3) (o := (.cells #[.int .i64 1, .int .i64 2, .slice (some ⟨g2, 0, none⟩) 2 c2, .int .i64 0, .int .i64 0, .bool false, .string ⟨#[]⟩] 24)) (C := #[.int .u8 0, .int .u8 0, .int .u8 0, .int .u8 0, .int .u8 0]) (l := [0, 0, 0, 0, 0]) rfl); have HB3 := Lib.hid (below_next2 (below_next2 HB2.out hb) hbb); have HS3 := Lib.hid (((below_next2 hb hbb).block _ (Array.getElem?_eq_some_iff.1 HS2.out).1).trans HS2.out); have HT3 := Lib.hid ((heap_alloc_old (w3.alloc (.cells #[.int .i64 1, .int .i64 2, .slice (some ⟨g2, 0, none⟩) 2 c2, .int .i64 0, .int .i64 0, .bool false, .string ⟨#[]⟩] 24)) (.cells #[.int .u8 0, .int .u8 0, .int .u8 0, .int .u8 0, .int .u8 0] 5) (Array.getElem?_eq_some_iff.1 (heap_alloc_new w3 (.cells #[.int .i64 1, .int .i64 2, .slice (some ⟨g2, 0, none⟩) 2 c2, .int .i64 0, .int .i64 0, .bool false, .string ⟨#[]⟩] 24))).1).trans (heap_alloc_new w3 (.cells #[.int .i64 1, .int .i64 2, .slice (some ⟨g2, 0, none⟩) 2 c2, .int .i64 0, .int .i64 0, .bool false, .string ⟨#[]⟩] 24))); clear x0 x1 x2 x3 x4 x5 x6; obtain ⟨x0, x1, x2, x3, x4, x5, x6⟩ := seven (s := ⟨1, 2, 0, 0, false, ⟨#[]⟩⟩) HS3.out; obtain ⟨y0, y1, y2, y3, y4, y5, y6⟩ := seven (s := ⟨1, 2, 0, 0, false, ⟨#[]⟩⟩) HT3.out; dsimp only at x0 x1 x2 x3 x4 x5 x6 y0 y1 y2 y3 y4 y5 y6; clear hc hs hb hbb)
    | (go_at_call 16; (with_reducible refine (H16.out _ _ _ _ HL3.out HL4.out).mono ?_); rintro e w4 ⟨rfl, rfl⟩)
    | (go_at_call 29; (with_reducible refine (H29.out _ _ _ HR3.out HSC3.out).mono ?_); rintro e w5 ⟨rfl, hb⟩; have HB5 := Lib.hid (below_next2 HB3.out hb); clear hb))
  go_ret
  exact ⟨rfl, HB5.out⟩
end Go.Proofs.Ytfogbokifbjjlaa.Do
