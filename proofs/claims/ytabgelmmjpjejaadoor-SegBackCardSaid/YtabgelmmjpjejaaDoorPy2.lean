/- Records: there and back, cut off, and none but the canonical bytes. -/
import Derived.Test.YtabgelmmjpjejaaDoorPy
set_option linter.unusedVariables false
namespace Go.Proofs.YtabgelmmjpjejaaDoor.Py2
open Go Go.RowKit Kit Crc Var Get Ref3 Bx Py

def headL (K : Nat) (c : Int) : List Nat := [167, 92] ++ fourL c ++ [K]
theorem headL_len (K : Nat) (c : Int) : (headL K c).length = 7 := rfl
theorem recL_cat (K s t : Nat) (l z : List Nat) : recL K s t l ++ z = headL K ((crc (restL K s t l) : Nat) : Int) ++ (varL s ++ (varL t ++ (varL l.length ++ (l ++ z)))) := by
  simp [recL, restL, headL, List.append_assoc]
theorem drop_at {X Y : List Nat} {k : Nat} (h : X.length = k) : (X ++ Y).drop k = Y := by subst h; simp
theorem take_at {X Y : List Nat} {k : Nat} (h : X.length = k) : (X ++ Y).take k = X := by subst h; simp
theorem u64_of {n : Nat} (h : n ≤ 4611686018427387904) : n < 18446744073709551616 := by omega
theorem dec_on (K s t : Nat) (l z : List Nat) (h : mayR (K : Int) s t l.length = true) : decM (recL K s t l ++ z) = ⟨0, K, s, t, l, (recL K s t l).length⟩ := by
  obtain ⟨hk, hs1, hs2, ht, hl⟩ := mayR_of h
  have e := recL_cat K s t l z
  have e0 := recL_len K s t l
  have hm : (recL K s t l ++ z).length = (recL K s t l).length + z.length := by simp
  have g0 : (recL K s t l ++ z).getD 0 0 = 167 := by rw [e]; simp [headL]
  have g1 : (recL K s t l ++ z).getD 1 0 = 92 := by rw [e]; simp [headL]
  have g6 : (recL K s t l ++ z).getD 6 0 = K := by rw [e]; simp [headL, fourL]
  have t6 : ((recL K s t l ++ z).take 6).drop 2 = fourL ((crc (restL K s t l) : Nat) : Int) := by rw [e]; simp [headL, fourL]
  have d7 : (recL K s t l ++ z).drop 7 = varL s ++ (varL t ++ (varL l.length ++ (l ++ z))) := by rw [e]; exact drop_at (headL_len _ _)
  have d8 : (recL K s t l ++ z).drop (7 + (varL s).length) = varL t ++ (varL l.length ++ (l ++ z)) := by rw [← List.drop_drop, d7]; exact drop_at rfl
  have d9 : (recL K s t l ++ z).drop (7 + (varL s).length + (varL t).length) = varL l.length ++ (l ++ z) := by rw [← List.drop_drop, d8]; exact drop_at rfl
  have d10 : (recL K s t l ++ z).drop (7 + (varL s).length + (varL t).length + (varL l.length).length) = l ++ z := by rw [← List.drop_drop, d9]; exact drop_at rfl
  have tn : (recL K s t l ++ z).take (7 + (varL s).length + (varL t).length + (varL l.length).length + l.length) = recL K s t l := take_at e0
  have r6 : (recL K s t l).drop 6 = restL K s t l := drop_at (X := [167, 92] ++ fourL _) rfl
  have rb : (recL K s t l).drop (7 + (varL s).length + (varL t).length + (varL l.length).length) = l := by
    have := d10
    rw [List.drop_append_of_le_length (by omega)] at this
    exact List.append_cancel_right this
  have o1 := getF_on s (u64_of hs2) (varL t ++ (varL l.length ++ (l ++ z)))
  have o2 := getF_on t (u64_of ht) (varL l.length ++ (l ++ z))
  have o3 := getF_on l.length (by omega) (l ++ z)
  generalize recL K s t l ++ z = m at *
  rw [decM, if_neg (by omega), if_neg (by rw [g0, g1]; decide), if_neg (by omega)]
  rw [dec2, d7, o1, if_pos rfl, dec3, d8, o2, if_pos rfl, dec4, d9, o3, if_pos rfl]
  simp only
  rw [dec5, if_neg (by omega), if_neg (by omega), tn, r6, if_pos t6, dec6, g6, if_pos h, tn, rb, e0]
theorem take_more {X Y : List Nat} {k : Nat} (h : X.length ≤ k) : (X ++ Y).take k = X ++ Y.take (k - X.length) := by
  rw [List.take_append, List.take_of_length_le h]
theorem take_less {X Y : List Nat} {k : Nat} (h : k < X.length) : (X ++ Y).take k = X.take k := List.take_append_of_le_length (Nat.le_of_lt h)
theorem dec_off (K s t : Nat) (l : List Nat) (h : mayR (K : Int) s t l.length = true) (c : Nat) (hc : c < (recL K s t l).length) : decM ((recL K s t l).take c) = bad 3 := by
  obtain ⟨hk, hs1, hs2, ht, hl⟩ := mayR_of h
  have e := recL_cat K s t l []
  rw [List.append_nil] at e
  simp only [List.append_nil] at e
  rw [recL_len] at hc
  rw [e]
  generalize ((crc (restL K s t l) : Nat) : Int) = C at *
  by_cases h6 : c < 6
  · rw [decM, if_pos (by simp; omega)]
  by_cases h7 : c < 7
  · obtain rfl : c = 6 := by omega
    rw [decM, if_neg (by simp [headL, fourL]), if_neg (by simp [headL, fourL]), if_pos (by simp; omega)]
  rw [take_more (by rw [headL_len]; omega), headL_len]
  have hh := headL_len K C
  have g0 : (headL K C ++ (varL s ++ (varL t ++ (varL l.length ++ l))).take (c - 7)).getD 0 0 = 167 := by simp [headL]
  have g1 : (headL K C ++ (varL s ++ (varL t ++ (varL l.length ++ l))).take (c - 7)).getD 1 0 = 92 := by simp [headL]
  rw [decM, if_neg (by simp [hh]; omega), if_neg (by rw [g0, g1]; decide), if_neg (by simp [hh]), dec2, drop_at hh]
  clear g0 g1
  by_cases h8 : c - 7 < (varL s).length
  · rw [take_less h8, getF_off s _ (u64_of hs2) h8]; rfl
  rw [take_more (by omega), getF_on s (u64_of hs2), if_pos rfl, dec3, ← List.drop_drop, drop_at hh, drop_at rfl]
  by_cases h9 : c - 7 - (varL s).length < (varL t).length
  · rw [take_less h9, getF_off t _ (u64_of ht) h9]; rfl
  rw [take_more (by omega), getF_on t (u64_of ht), if_pos rfl, dec4, ← List.drop_drop, ← List.drop_drop, drop_at hh, drop_at rfl, drop_at rfl]
  by_cases h10 : c - 7 - (varL s).length - (varL t).length < (varL l.length).length
  · rw [take_less h10, getF_off l.length _ (by omega) h10]; rfl
  rw [take_more (by omega), getF_on l.length (by omega), if_pos rfl]
  simp only
  rw [dec5, if_neg (by omega), if_pos (by simp [hh]; omega)]
theorem take_two {m : List Nat} (h : 2 ≤ m.length) : m.take 2 = [m.getD 0 0, m.getD 1 0] := by
  match m, h with
  | a :: b :: m, _ => rfl
theorem take_last {m : List Nat} {k : Nat} (h : k < m.length) : m.take (k + 1) = m.take k ++ [m.getD k 0] := by
  rw [List.take_succ_eq_append_getElem h, List.getD_eq_getElem?_getD, List.getElem?_eq_getElem h]; rfl
/-- none but the canonical bytes are a record's. -/
theorem dec_back {m : List Nat} (hm : ∀ c ∈ m, c < 256) (h : (decM m).e = 0) :
    (decM m).n ≤ m.length ∧ m.take (decM m).n = recL (decM m).k (decM m).s (decM m).t (decM m).b ∧ mayR ((decM m).k : Int) (decM m).s (decM m).t (decM m).b.length = true := by
  have hd : ∀ k, ∀ c ∈ m.drop k, c < 256 := fun k c hc => hm c (List.mem_of_mem_drop hc)
  have nb : ∀ e : Nat, e ≠ 0 → ¬ (bad e).e = 0 := fun e he hh => he hh
  revert h
  rw [decM]
  split
  · exact fun h => absurd h (nb 3 (by decide))
  split
  · exact fun h => absurd h (nb 2 (by decide))
  split
  · exact fun h => absurd h (nb 3 (by decide))
  rename_i h6 hg h7
  rw [Decidable.not_not] at hg
  rw [dec2]
  split
  case isFalse hx => exact fun h => absurd h (nb _ hx)
  rename_i x1
  obtain ⟨a1, a2, a3⟩ := getF_eat (hd 7) (n := (getF (m.drop 7) 0 0).1) (k := (getF (m.drop 7) 0 0).2.1) (Prod.ext rfl (Prod.ext rfl x1))
  generalize (getF (m.drop 7) 0 0).1 = s at *
  generalize (getF (m.drop 7) 0 0).2.1 = q1 at *
  rw [dec3]
  split
  case isFalse hx => exact fun h => absurd h (nb _ hx)
  rename_i x2
  obtain ⟨b1, b2, b3⟩ := getF_eat (hd (7 + q1)) (n := (getF (m.drop (7 + q1)) 0 0).1) (k := (getF (m.drop (7 + q1)) 0 0).2.1) (Prod.ext rfl (Prod.ext rfl x2))
  generalize (getF (m.drop (7 + q1)) 0 0).1 = t at *
  generalize (getF (m.drop (7 + q1)) 0 0).2.1 = q2 at *
  rw [dec4]
  split
  case isFalse hx => exact fun h => absurd h (nb _ hx)
  rename_i x3
  obtain ⟨c1, c2, c3⟩ := getF_eat (hd (7 + q1 + q2)) (n := (getF (m.drop (7 + q1 + q2)) 0 0).1) (k := (getF (m.drop (7 + q1 + q2)) 0 0).2.1) (Prod.ext rfl (Prod.ext rfl x3))
  generalize (getF (m.drop (7 + q1 + q2)) 0 0).1 = N at *
  generalize (getF (m.drop (7 + q1 + q2)) 0 0).2.1 = q3 at *
  rw [dec5]
  split
  · exact fun h => absurd h (nb 2 (by decide))
  split
  · exact fun h => absurd h (nb 3 (by decide))
  split
  case isFalse hx => exact fun h => absurd h (nb _ (by decide))
  rename_i y1 y2 y3
  rw [dec6]
  split
  case isFalse hx => exact fun h => absurd h (nb _ (by decide))
  rename_i y4
  intro _
  simp only
  simp only [List.length_drop] at a2 b2 c2
  have hb : ((m.take (7 + q1 + q2 + q3 + N)).drop (7 + q1 + q2 + q3)).length = N := by simp; omega
  have hb2 : (m.take (7 + q1 + q2 + q3 + N)).drop (7 + q1 + q2 + q3) = (m.drop (7 + q1 + q2 + q3)).take N := by rw [List.drop_take, Nat.add_sub_cancel_left]
  rw [hb]
  refine ⟨by omega, ?_, y4⟩
  have z7 : m.take 7 = m.take 6 ++ [m.getD 6 0] := take_last (by omega)
  have zr : m.take (7 + q1 + q2 + q3 + N) = m.take 6 ++ restL (m.getD 6 0) s t ((m.take (7 + q1 + q2 + q3 + N)).drop (7 + q1 + q2 + q3)) := by
    rw [restL, hb, hb2, ← c3, ← b3, ← a3, List.take_add, List.take_add, List.take_add, List.take_add, z7]
    simp only [List.append_assoc]
  have z6 : m.take 6 = [167, 92] ++ (m.take 6).drop 2 := by
    have e2 : m.take 2 = [167, 92] := by rw [take_two (by omega), hg.1, hg.2]
    rw [← e2]
    have := List.take_append_drop 2 (m.take 6)
    rw [List.take_take] at this
    exact this.symm
  have zd : (m.take (7 + q1 + q2 + q3 + N)).drop 6 = restL (m.getD 6 0) s t ((m.take (7 + q1 + q2 + q3 + N)).drop (7 + q1 + q2 + q3)) := by
    conv => lhs; rw [zr]
    exact drop_at (by simp; omega)
  rw [zd] at y3
  rw [recL, ← y3, ← z6]
  exact zr
theorem rec_inj {K s t K' s' t' : Nat} {l l' : List Nat} (h : mayR (K : Int) s t l.length = true) (h' : mayR (K' : Int) s' t' l'.length = true) (he : recL K s t l = recL K' s' t' l') : K = K' ∧ s = s' ∧ t = t' ∧ l = l' := by
  have a := dec_on K s t l [] h
  have b := dec_on K' s' t' l' [] h'
  rw [he, b] at a
  injection a with a1 a2 a3 a4 a5 a6
  exact ⟨a2.symm, a3.symm, a4.symm, a5.symm⟩
/-- none begins another. -/
theorem rec_front {K s t K' s' t' : Nat} {l l' : List Nat} (h : mayR (K : Int) s t l.length = true) (h' : mayR (K' : Int) s' t' l'.length = true)
    (hl : (recL K s t l).length ≤ (recL K' s' t' l').length) (he : (recL K' s' t' l').take (recL K s t l).length = recL K s t l) : (recL K s t l).length = (recL K' s' t' l').length := by
  have a := dec_on K s t l ((recL K' s' t' l').drop (recL K s t l).length) h
  have b := dec_on K' s' t' l' [] h'
  rw [List.append_nil] at b
  have e : recL K s t l ++ (recL K' s' t' l').drop (recL K s t l).length = recL K' s' t' l' := by
    conv => lhs; lhs; rw [← he]
    exact List.take_append_drop _ _
  rw [e, b] at a
  injection a with a1 a2 a3 a4 a5 a6
  exact a6.symm
theorem dec_why (m : List Nat) : (decM m).e = 0 ∨ decM m = bad (decM m).e := by
  have nb : ∀ e : Nat, (bad e).e = 0 ∨ bad e = bad (bad e).e := fun e => .inr rfl
  rw [decM]
  split
  · exact nb _
  split
  · exact nb _
  split
  · exact nb _
  rw [dec2]
  split
  case isFalse hx => exact nb _
  rw [dec3]
  split
  case isFalse hx => exact nb _
  rw [dec4]
  split
  case isFalse hx => exact nb _
  rw [dec5]
  split
  · exact nb _
  split
  · exact nb _
  split
  case isFalse hx => exact nb _
  rw [dec6]
  split
  case isFalse hx => exact nb _
  exact .inl rfl
end Go.Proofs.YtabgelmmjpjejaaDoor.Py2
