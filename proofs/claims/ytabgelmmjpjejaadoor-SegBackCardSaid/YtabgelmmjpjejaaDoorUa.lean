/- A file that was cut, read. -/
import Derived.Test.YtabgelmmjpjejaaDoorSx
set_option linter.unusedVariables false
namespace Go.Proofs.YtabgelmmjpjejaaDoor.Ua
open Go Go.RowKit Kit Crc Var Get Ref3 Copy Bytes Bx Py Py2 Ry Rz Dn Df Dd Da Dc Rs Rf Rg Ar Bg Hd Sn Rh Sr So Sp Sq Sl2 Sl3 Sx


/-- every record follows those ahead of it. -/
def allF (F : Nat) : List R4 → List (Dec × Nat) → Nat → Prop
  | [], _, _ => True
  | r :: rs, P, g => folL F P r.dec = true ∧ allF F rs (P ++ [(r.dec, g)]) (g + r.enc.length)
/-- the parts, and where they begin. -/
def listP : List R4 → Nat → List (Dec × Nat)
  | [], _ => []
  | r :: rs, g => (r.dec, g) :: listP rs (g + r.enc.length)
def totL : List R4 → Nat
  | [] => 0
  | r :: rs => r.enc.length + totL rs
theorem totL_flat (rs : List R4) : (rs.flatMap R4.enc).length = totL rs := by
  induction rs with
  | nil => rfl
  | cons r rs ih => rw [List.flatMap_cons, List.length_append, ih]; rfl
theorem listP_len (rs : List R4) : ∀ g, (listP rs g).length = rs.length := by
  induction rs with
  | nil => intro g; rfl
  | cons r rs ih => intro g; show (listP rs _).length + 1 = _; rw [ih]; rfl
theorem runL_all (F : Nat) (rs : List R4) : ∀ P g, allF F rs P g → runL F rs P g = (P ++ listP rs g, g + totL rs) := by
  induction rs with
  | nil => intro P g _; show (P, g) = _; rw [show listP [] g = [] from rfl, List.append_nil]; rfl
  | cons r rs ih =>
    intro P g h
    rw [runL, if_pos h.1, ih _ _ h.2, List.append_assoc]
    show (_, _) = (P ++ ((r.dec, g) :: listP rs (g + r.enc.length)), g + (r.enc.length + totL rs))
    rw [Nat.add_assoc]; rfl
/-- the records that lie whole within so many bytes. -/
def cutR : List R4 → Nat → List R4
  | [], _ => []
  | r :: rs, c => if r.enc.length ≤ c then r :: cutR rs (c - r.enc.length) else []
theorem cut_all (F : Nat) (rs : List R4) : ∀ P g c, allF F rs P g → allF F (cutR rs c) P g := by
  induction rs with
  | nil => intro P g c h; exact h
  | cons r rs ih =>
    intro P g c h
    rw [cutR]
    split
    · exact ⟨h.1, ih _ _ _ h.2⟩
    · trivial
theorem cut_len (rs : List R4) : ∀ c, (cutR rs c).length ≤ rs.length := by
  induction rs with
  | nil => intro c; exact Nat.le_refl _
  | cons r rs ih =>
    intro c
    rw [cutR]
    split
    · exact Nat.succ_le_succ (ih _)
    · exact Nat.zero_le _
theorem cut_parts (rs : List R4) : ∀ c g, listP (cutR rs c) g = (listP rs g).take (cutR rs c).length := by
  induction rs with
  | nil => intro c g; rfl
  | cons r rs ih =>
    intro c g
    rw [cutR]
    split
    · show (r.dec, g) :: listP (cutR rs _) _ = ((r.dec, g) :: listP rs _).take ((cutR rs _).length + 1)
      rw [List.take_succ_cons, ih]
    · rfl
/-- which parts lie whole within. -/
theorem cut_which (rs : List R4) : ∀ c g i, (h : i < (listP rs g).length) → ((listP rs g)[i].2 + (listP rs g)[i].1.n ≤ g + c ↔ i < (cutR rs c).length) := by
  induction rs with
  | nil => intro c g i h; exact absurd h (Nat.not_lt_zero _)
  | cons r rs ih =>
    intro c g i h
    have hmono : ∀ (rs : List R4) (g j : Nat), (h : j < (listP rs g).length) → g ≤ (listP rs g)[j].2 := by
      intro rs
      induction rs with
      | nil => intro g j h; exact absurd h (Nat.not_lt_zero _)
      | cons r rs ih2 =>
        intro g j h
        cases j with
        | zero => exact Nat.le_refl _
        | succ j => exact Nat.le_trans (Nat.le_add_right _ _) (ih2 (g + r.enc.length) j (Nat.lt_of_succ_lt_succ h))
    cases i with
    | zero =>
      show g + r.enc.length ≤ g + c ↔ 0 < _
      rw [cutR]
      split
      · simp; omega
      · simp; omega
    | succ i =>
      have h' : i < (listP rs (g + r.enc.length)).length := Nat.lt_of_succ_lt_succ h
      show (listP rs (g + r.enc.length))[i].2 + (listP rs (g + r.enc.length))[i].1.n ≤ g + c ↔ i + 1 < _
      rw [cutR]
      split
      · rename_i hc
        rw [List.length_cons, Nat.succ_lt_succ_iff, ← ih (c - r.enc.length) (g + r.enc.length) i h', show g + r.enc.length + (c - r.enc.length) = g + c by omega]
      · rename_i hc
        have := hmono rs (g + r.enc.length) i h'
        simp; omega
/-- where the last of them ends. -/
theorem cut_end (rs : List R4) : ∀ c g, (cutR rs c = [] ∧ totL (cutR rs c) = 0) ∨ (∃ h : (cutR rs c).length - 1 < (listP rs g).length, 0 < (cutR rs c).length ∧ g + totL (cutR rs c) = (listP rs g)[(cutR rs c).length - 1].2 + (listP rs g)[(cutR rs c).length - 1].1.n) := by
  induction rs with
  | nil => intro c g; exact .inl ⟨rfl, rfl⟩
  | cons r rs ih =>
    intro c g
    rw [cutR]
    split
    · right
      rcases ih (c - r.enc.length) (g + r.enc.length) with ⟨h1, h2⟩ | ⟨h1, h2, h3⟩
      · rw [h1]
        exact ⟨Nat.zero_lt_succ _, Nat.zero_lt_one, rfl⟩
      · obtain ⟨m, hm⟩ : ∃ m, (cutR rs (c - r.enc.length)).length = m + 1 := ⟨_, (Nat.sub_add_cancel h2).symm⟩
        have h4 : ∀ k, k = m → (hk : k < (listP rs (g + r.enc.length)).length) → g + r.enc.length + totL (cutR rs (c - r.enc.length)) = (listP rs (g + r.enc.length))[k].2 + (listP rs (g + r.enc.length))[k].1.n := by
          intro k hk hk2
          have hk3 : k = (cutR rs (c - r.enc.length)).length - 1 := by omega
          subst hk3
          exact h3
        have hm2 : m < (listP rs (g + r.enc.length)).length := by omega
        have h5 := h4 m rfl hm2
        have e1 : (r :: cutR rs (c - r.enc.length)).length - 1 = m + 1 := by rw [List.length_cons, hm]; rfl
        have hb : m + 1 < (listP (r :: rs) g).length := Nat.succ_lt_succ hm2
        refine ⟨by rw [e1]; exact hb, Nat.zero_lt_succ _, ?_⟩
        have h6 : ∀ k, k = m + 1 → (hk : k < (listP (r :: rs) g).length) → g + totL (r :: cutR rs (c - r.enc.length)) = (listP (r :: rs) g)[k].2 + (listP (r :: rs) g)[k].1.n := by
          intro k hk hk2
          subst hk
          show g + (r.enc.length + totL (cutR rs (c - r.enc.length))) = (listP rs (g + r.enc.length))[m].2 + (listP rs (g + r.enc.length))[m].1.n
          rw [← Nat.add_assoc]; exact h5
        exact h6 _ e1 _
    · exact .inl ⟨rfl, rfl⟩
/-- what a reading finds in a file that was cut. -/
theorem rd_cut (F : Nat) (rs : List R4) : ∀ (X : List Nat) (P : List (Dec × Nat)) (m c : Nat), (∀ r ∈ rs, r.may) → c < m → rdL (X ++ (rs.flatMap R4.enc).take c) F m P X.length = runL F (cutR rs c) P X.length := by
  induction rs with
  | nil =>
    intro X P m c _ _
    rw [List.flatMap_nil, List.take_nil, List.append_nil, cutR, runL, rdL_stop]
    rw [decA_end]
    exact fun h => absurd h.1 (by decide)
  | cons r rs ih =>
    intro X P m c hm hl
    rw [List.flatMap_cons]
    by_cases hc : r.enc.length ≤ c
    · have h10 : 0 < r.enc.length := by
        have a := varL_pos r.s
        unfold R4.enc; rw [recL_len]; omega
      have e1 : (r.enc ++ rs.flatMap R4.enc).take c = r.enc ++ (rs.flatMap R4.enc).take (c - r.enc.length) := by
        rw [List.take_append, List.take_of_length_le hc]
      rw [e1]
      have hd := decA_rec X ((rs.flatMap R4.enc).take (c - r.enc.length)) r (hm r (List.mem_cons_self ..))
      cases m with
      | zero => omega
      | succ m =>
        rw [rdL, hd, cutR, if_pos hc, runL]
        by_cases hf : folL F P r.dec = true
        · rw [if_pos ⟨rfl, hf⟩, if_pos hf]
          have h := ih (X ++ r.enc) (P ++ [(r.dec, X.length)]) m (c - r.enc.length) (fun q hq => hm q (List.mem_cons_of_mem _ hq)) (by omega)
          rw [List.append_assoc, List.length_append] at h
          exact h
        · rw [if_neg (fun h => hf h.2), if_neg hf]
    · have hlt : c < r.enc.length := Nat.lt_of_not_le hc
      have e1 : (r.enc ++ rs.flatMap R4.enc).take c = r.enc.take c := by
        rw [List.take_append, show c - r.enc.length = 0 by omega, List.take_zero, List.append_nil]
      rw [e1, cutR, if_neg hc, runL, rdL_stop]
      have e2 : decA (X ++ r.enc.take c) (X.length : Int) = bad 3 := by
        rw [decA, if_neg (by rw [List.length_append]; omega), Int.toNat_natCast, List.drop_left]
        exact dec_off r.K r.s r.t r.b (hm r (List.mem_cons_self ..)) c hlt
      rw [e2]
      exact fun h => absurd h.1 (by decide)
/-- the same of a whole file, cut at k. -/
theorem rdP_cut (F : Nat) (rs : List R4) (X : List Nat) (hX : X.length = 20) (hm : ∀ r ∈ rs, r.may) (hF : allF F rs [] 20) (k : Nat) (hk : 20 ≤ k) (hk2 : k ≤ (X ++ rs.flatMap R4.enc).length) :
    rdP ((X ++ rs.flatMap R4.enc).take k) F = ((listP rs 20).take (cutR rs (k - 20)).length, 20 + totL (cutR rs (k - 20))) := by
  have e1 : (X ++ rs.flatMap R4.enc).take k = X ++ (rs.flatMap R4.enc).take (k - 20) := by
    rw [List.take_append, List.take_of_length_le (by omega), hX]
  have e2 : ((X ++ rs.flatMap R4.enc).take k).length = k := by rw [List.length_take]; omega
  unfold rdP
  rw [e2, e1]
  have h := rd_cut F rs X [] (k + 1) (k - 20) hm (by omega)
  rw [hX] at h
  rw [h, runL_all F _ _ _ (cut_all F rs _ _ _ hF), List.nil_append, cut_parts]

end Go.Proofs.YtabgelmmjpjejaaDoor.Ua
