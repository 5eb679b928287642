/- Grids whose halves stand in pairs alone, and whose cells all may be. -/
import Derived.Test.YtfdjmlncdbpkgaaSz
set_option linter.unusedVariables false
namespace Go.Proofs.Ytfdjmlncdbpkgaa.Pr
open Go Go.RowKit Kit Gm Gv Fl Me Cp Sl Gg Gh Gp Gq Gk Gs Gt Gu Lw Sm Sz
open Gr (eraseL eraseRow)
open Ge (fillL)

/-- halves in pairs alone. -/
def Pd : List Ce → Prop
  | [] => True
  | [c] => c.wd = 0
  | c :: d :: t => (c.wd = 0 ∧ Pd (d :: t)) ∨ (c.wd = 1 ∧ d.wd = 2 ∧ Pd t)
theorem pd_zero {c : Ce} {t : List Ce} (h : c.wd = 0) (k : Pd t) : Pd (c :: t) := by
  cases t with
  | nil => exact h
  | cons d t => exact .inl ⟨h, k⟩
theorem pd_pair {c d : Ce} {t : List Ce} (h : c.wd = 1) (h2 : d.wd = 2) (k : Pd t) : Pd (c :: d :: t) := .inr ⟨h, h2, k⟩
theorem pd_mend : ∀ (n : Nat) (l : List Ce), l.length ≤ n → Pd (mend l) := by
  intro n
  induction n with
  | zero => intro l h; obtain rfl : l = [] := List.eq_nil_of_length_eq_zero (by omega); trivial
  | succ n ih =>
    intro l h
    match l, h with
    | [], _ => trivial
    | [c], _ =>
      by_cases h0 : c.wd = 0
      · rw [mend_zero h0]; exact pd_zero h0 trivial
      · rw [mend_last h0]; exact pd_zero rfl trivial
    | c :: d :: t, h =>
      simp only [List.length_cons] at h
      by_cases h0 : c.wd = 0
      · rw [mend_zero h0]; exact pd_zero h0 (ih _ (by simp; omega))
      · by_cases hp : c.wd = 1 ∧ d.wd = 2
        · rw [mend_pair hp.1 hp.2]; exact pd_pair hp.1 hp.2 (ih _ (by omega))
        · rw [mend_lone h0 hp]; exact pd_zero rfl (ih _ (by simp; omega))
theorem pd_of_mend (l : List Ce) : Pd (mend l) := pd_mend _ l (Nat.le_refl _)
theorem pd_flat {l : List Ce} (h : ∀ c ∈ l, c.wd = 0) : Pd l := by have := pd_of_mend l; rwa [mend_flat h] at this
theorem mend_pd : ∀ (n : Nat) (l : List Ce), l.length ≤ n → Pd l → mend l = l := by
  intro n
  induction n with
  | zero => intro l h _; obtain rfl : l = [] := List.eq_nil_of_length_eq_zero (by omega); rfl
  | succ n ih =>
    intro l h k
    match l, h, k with
    | [], _, _ => rfl
    | [c], _, k => exact mend_zero (t := []) k
    | c :: d :: t, h, k =>
      simp only [List.length_cons] at h
      rcases k with ⟨h0, k⟩ | ⟨h1, h2, k⟩
      · rw [mend_zero h0, ih _ (by simp; omega) k]
      · rw [mend_pair h1 h2, ih _ (by omega) k]
/-- what a cell has beside it. -/
theorem pd_at : ∀ (n : Nat) (l : List Ce), l.length ≤ n → Pd l → ∀ (x : Nat) (c : Ce), l[x]? = some c → c.wd = 0 ∨ (c.wd = 1 ∧ ∃ d, l[x + 1]? = some d ∧ d.wd = 2) ∨ (c.wd = 2 ∧ ∃ y d, x = y + 1 ∧ l[y]? = some d ∧ d.wd = 1) := by
  intro n
  induction n with
  | zero => intro l h _ x c hx; obtain rfl : l = [] := List.eq_nil_of_length_eq_zero (by omega); simp at hx
  | succ n ih =>
    intro l h k x c hx
    match l, h, k, hx with
    | [], _, _, hx => simp at hx
    | [e], _, k, hx =>
      cases x with
      | zero => simp at hx; subst hx; exact .inl k
      | succ x => simp at hx
    | e :: d :: t, h, k, hx =>
      simp only [List.length_cons] at h
      rcases k with ⟨h0, k⟩ | ⟨h1, h2, k⟩
      · cases x with
        | zero => simp at hx; subst hx; exact .inl h0
        | succ x =>
          rw [List.getElem?_cons_succ] at hx
          rcases ih (d :: t) (by simp; omega) k x c hx with r | ⟨r, d2, r2, r3⟩ | ⟨r, y, d2, r2, r3, r4⟩
          · exact .inl r
          · exact .inr (.inl ⟨r, d2, by rw [List.getElem?_cons_succ]; exact r2, r3⟩)
          · exact .inr (.inr ⟨r, y + 1, d2, by omega, by rw [List.getElem?_cons_succ]; exact r3, r4⟩)
      · match x, hx with
        | 0, hx => simp at hx; subst hx; exact .inr (.inl ⟨h1, d, rfl, h2⟩)
        | 1, hx => simp at hx; subst hx; exact .inr (.inr ⟨h2, 0, e, rfl, rfl, h1⟩)
        | x + 2, hx =>
          rw [List.getElem?_cons_succ, List.getElem?_cons_succ] at hx
          rcases ih t (by omega) k x c hx with r | ⟨r, d2, r2, r3⟩ | ⟨r, y, d2, r2, r3, r4⟩
          · exact .inl r
          · exact .inr (.inl ⟨r, d2, by rw [List.getElem?_cons_succ, List.getElem?_cons_succ]; exact r2, r3⟩)
          · exact .inr (.inr ⟨r, y + 2, d2, by omega, by rw [List.getElem?_cons_succ, List.getElem?_cons_succ]; exact r3, r4⟩)
theorem may_attr {c : Ce} (h : mayC c = true) : Cell.attrB c.fl c.fg c.bg = true := by
  unfold mayC Cell.mayB at h; simp only [Bool.and_eq_true] at h; exact h.1
theorem may_space {c : Ce} (h : mayC c = true) : mayC (spaceC c) = true := by
  have := may_attr h
  unfold mayC Cell.mayB spaceC
  dsimp only
  rw [this, show Cell.widthZ 32 = 1 by decide]; rfl
theorem may_blank {f g b : Int} (h : Cell.attrB f g b = true) : mayC (Gm.blankC b) = true := by
  have hb : Cell.colB b = true := by unfold Cell.attrB at h; simp only [Bool.and_eq_true] at h; exact h.2
  unfold mayC Cell.mayB Gm.blankC Cell.attrB
  dsimp only
  rw [hb, show Cell.widthZ 32 = 1 by decide, show Cell.colB 0 = true by decide]; rfl
theorem may_right {c : Ce} (h : mayC c = true) : mayC (rightC c) = true := by
  have := may_attr h
  unfold mayC Cell.mayB rightC
  dsimp only
  rw [this]; simp
theorem may_b0 : mayC b0C = true := by decide
theorem may_mend : ∀ (n : Nat) (l : List Ce), l.length ≤ n → (∀ c ∈ l, mayC c = true) → ∀ c ∈ mend l, mayC c = true := by
  intro n
  induction n with
  | zero => intro l h k; obtain rfl : l = [] := List.eq_nil_of_length_eq_zero (by omega); exact k
  | succ n ih =>
    intro l h k
    match l, h, k with
    | [], _, k => exact k
    | [c], _, k =>
      intro x hx
      by_cases h0 : c.wd = 0
      · rw [mend_zero (t := []) h0] at hx; exact k x hx
      · rw [mend_last h0] at hx; simp at hx; subst hx; exact may_space (k c (by simp))
    | c :: d :: t, h, k =>
      simp only [List.length_cons] at h
      intro x hx
      by_cases h0 : c.wd = 0
      · rw [mend_zero h0] at hx
        rcases List.mem_cons.1 hx with rfl | hx
        · exact k x (by simp)
        · exact ih (d :: t) (by simp; omega) (fun y hy => k y (List.mem_cons_of_mem _ hy)) x hx
      · by_cases hp : c.wd = 1 ∧ d.wd = 2
        · rw [mend_pair hp.1 hp.2] at hx
          rcases List.mem_cons.1 hx with rfl | hx
          · exact k x (by simp)
          · rcases List.mem_cons.1 hx with rfl | hx
            · exact k x (by simp)
            · exact ih t (by omega) (fun y hy => k y (by simp [hy])) x hx
        · rw [mend_lone h0 hp] at hx
          rcases List.mem_cons.1 hx with rfl | hx
          · exact may_space (k c (by simp))
          · exact ih (d :: t) (by simp; omega) (fun y hy => k y (List.mem_cons_of_mem _ hy)) x hx
theorem may_of_mend {l : List Ce} (h : ∀ c ∈ l, mayC c = true) : ∀ c ∈ mend l, mayC c = true := may_mend _ l (Nat.le_refl _) h
/-- a grid as it must be. -/
structure Iv (R C : Nat) (L : List Ce) : Prop where
  len : L.length = R * C
  rows : ∀ r, r < R → Pd (Gq.rowAt L (r * C) C)
  may : ∀ c ∈ L, mayC c = true
theorem rowAt_get (L : List Ce) (q C x : Nat) (hx : x < C) : (Gq.rowAt L q C)[x]? = L[q + x]? := by
  unfold Gq.rowAt; rw [List.getElem?_take, if_pos hx, List.getElem?_drop]
theorem rowAt_ext {L M : List Ce} {q p C : Nat} (hL : (Gq.rowAt L q C).length = C) (hM : (Gq.rowAt M p C).length = C) (h : ∀ x, x < C → L[q + x]? = M[p + x]?) : Gq.rowAt L q C = Gq.rowAt M p C := by
  apply List.ext_getElem?
  intro x
  by_cases hx : x < C
  · rw [rowAt_get _ _ _ _ hx, rowAt_get _ _ _ _ hx, h x hx]
  · rw [List.getElem?_eq_none (by omega), List.getElem?_eq_none (by omega)]
theorem row_lt {r r' C x : Nat} (h : r' < r) (hx : x < C) : r' * C + x < r * C := by
  have := Nat.mul_le_mul_right C (show r' + 1 ≤ r from h)
  rw [Nat.add_mul] at this; omega
theorem splice_len {L X : List Ce} {R C r : Nat} (hl : L.length = R * C) (hr : r < R) (hX : X.length = C) : (L.take (r * C) ++ X ++ L.drop (r * C + C)).length = R * C := by
  have := row_nums hl hr
  rw [List.length_append, List.length_append, List.length_take, List.length_drop, hX, ← hl]; omega
theorem splice_get {L X : List Ce} {R C r : Nat} (hl : L.length = R * C) (hr : r < R) (hX : X.length = C) (r' x : Nat) (hr' : r' < R) (hx : x < C) :
    (L.take (r * C) ++ X ++ L.drop (r * C + C))[r' * C + x]? = if r' = r then X[x]? else L[r' * C + x]? := by
  have hq := row_nums hl hr
  have ht : (L.take (r * C)).length = r * C := by rw [List.length_take]; omega
  by_cases h1 : r' < r
  · have := row_lt h1 hx
    rw [if_neg (by omega), List.append_assoc, List.getElem?_append_left (by omega), List.getElem?_take, if_pos this]
  · by_cases h2 : r' = r
    · subst h2
      rw [if_pos rfl, List.append_assoc, List.getElem?_append_right (by omega), ht, show r' * C + x - r' * C = x by omega, List.getElem?_append_left (by omega)]
    · have h3 : r * C + C ≤ r' * C := by
        have := Nat.mul_le_mul_right C (show r + 1 ≤ r' by omega)
        rw [Nat.add_mul] at this; omega
      rw [if_neg h2, List.getElem?_append_right (by rw [List.length_append, ht, hX]; omega), List.length_append, ht, hX, List.getElem?_drop]
      congr 1; omega
theorem iv_splice {L X : List Ce} {R C r : Nat} (h : Iv R C L) (hr : r < R) (hX : X.length = C) (hp : Pd X) (hm : ∀ c ∈ X, mayC c = true) : Iv R C (L.take (r * C) ++ X ++ L.drop (r * C + C)) := by
  have hl := splice_len h.len hr hX
  refine ⟨hl, fun r' hr' => ?_, fun c hc => ?_⟩
  · by_cases e : r' = r
    · have : Gq.rowAt (L.take (r * C) ++ X ++ L.drop (r * C + C)) (r' * C) C = X := by
        apply List.ext_getElem?
        intro x
        by_cases hx : x < C
        · rw [rowAt_get _ _ _ _ hx, splice_get h.len hr hX r' x hr' hx, if_pos e]
        · rw [List.getElem?_eq_none (by rw [Gu.rowAt_len hl hr']; omega), List.getElem?_eq_none (by omega)]
      rw [this]; exact hp
    · rw [rowAt_ext (Gu.rowAt_len hl hr') (Gu.rowAt_len h.len hr') (fun x hx => by rw [splice_get h.len hr hX r' x hr' hx, if_neg e])]
      exact h.rows r' hr'
  · rcases List.mem_append.1 hc with hc | hc
    · rcases List.mem_append.1 hc with hc | hc
      · exact h.may c (List.mem_of_mem_take hc)
      · exact hm c hc
    · exact h.may c (List.mem_of_mem_drop hc)
theorem rowAt_may {R C : Nat} {L : List Ce} (h : Iv R C L) (q : Nat) : ∀ c ∈ Gq.rowAt L q C, mayC c = true := fun c hc => h.may c (List.mem_of_mem_drop (List.mem_of_mem_take hc))
theorem iv_new (R C : Nat) : Iv R C (List.replicate (R * C) (Gm.blankC 0)) :=
  ⟨List.length_replicate, fun r _ => pd_flat fun c hc => by rw [List.eq_of_mem_replicate (List.mem_of_mem_drop (List.mem_of_mem_take hc))]; rfl, fun c hc => by rw [List.eq_of_mem_replicate hc]; exact may_b0⟩
theorem iv_put {R C : Nat} {L : List Ce} (h : Iv R C L) (row col : Int) (c : Ce) : Iv R C (putL R C L row col c) := by
  unfold putL
  split
  · rename_i hz
    unfold putOk at hz
    simp only [Bool.and_eq_true] at hz
    obtain ⟨h1, hm, _⟩ := hz
    obtain ⟨a1, a2, a3, a4⟩ := hasB_iff.1 h1
    obtain ⟨r, rfl⟩ := Int.eq_ofNat_of_zero_le a1
    have hr : r < R := by omega
    rw [Int.toNat_natCast]
    refine iv_splice h hr (by rw [mend_length, putRow_len, Gu.rowAt_len h.len hr]) (pd_of_mend _) (may_of_mend fun x hx => ?_)
    unfold putRow at hx
    split at hx
    · rcases List.mem_or_eq_of_mem_set hx with hx | rfl
      · exact rowAt_may h _ x hx
      · exact hm
    · split at hx
      · rcases List.mem_or_eq_of_mem_set hx with hx | rfl
        · exact rowAt_may h _ x hx
        · exact may_blank (may_attr hm)
      · rcases List.mem_or_eq_of_mem_set hx with hx | rfl
        · rcases List.mem_or_eq_of_mem_set hx with hx | rfl
          · exact rowAt_may h _ x hx
          · exact hm
        · exact may_right hm
  · exact h
theorem iv_erase {R C : Nat} {L : List Ce} (h : Iv R C L) (row fr t0 af ag ab : Int) : Iv R C (eraseL R C L row fr t0 af ag ab) := by
  unfold eraseL
  split
  · rename_i hz
    simp only [Bool.and_eq_true, decide_eq_true_eq] at hz
    obtain ⟨h1, h2, hm⟩ := hz
    obtain ⟨a1, a2, _, _⟩ := hasB_iff.1 h1
    obtain ⟨r, rfl⟩ := Int.eq_ofNat_of_zero_le a1
    have hr : r < R := by omega
    rw [Int.toNat_natCast]
    refine iv_splice h hr ?_ (pd_of_mend _) (may_of_mend fun x hx => ?_)
    · rw [mend_length]; unfold eraseRow
      rw [List.length_append, List.length_append, List.length_take, List.length_replicate, List.length_drop, Gu.rowAt_len h.len hr]; omega
    · unfold eraseRow at hx
      rcases List.mem_append.1 hx with hx | hx
      · rcases List.mem_append.1 hx with hx | hx
        · exact rowAt_may h _ x (List.mem_of_mem_take hx)
        · rw [List.eq_of_mem_replicate hx]; exact may_blank hm
      · exact rowAt_may h _ x (List.mem_of_mem_drop hx)
  · exact h
theorem may_slide {M : List Ce} (h : ∀ c ∈ M, mayC c = true) (z : Int) {x : Ce} (hx : mayC x = true) : ∀ c ∈ slideL M z x, mayC c = true := by
  intro c hc
  unfold slideL at hc
  split at hc
  · rcases List.mem_append.1 hc with hc | hc
    · exact h c (List.mem_of_mem_drop hc)
    · rw [List.eq_of_mem_replicate hc]; exact hx
  · rcases List.mem_append.1 hc with hc | hc
    · rw [List.eq_of_mem_replicate hc]; exact hx
    · exact h c (List.mem_of_mem_take hc)
theorem iv_shift {R C : Nat} {L : List Ce} (h : Iv R C L) (row col n af ag ab : Int) : Iv R C (shiftL R C L row col n af ag ab) := by
  unfold shiftL
  split
  · rename_i hz
    simp only [Bool.and_eq_true] at hz
    obtain ⟨h1, hm⟩ := hz
    obtain ⟨a1, a2, a3, a4⟩ := hasB_iff.1 h1
    obtain ⟨r, rfl⟩ := Int.eq_ofNat_of_zero_le a1
    obtain ⟨k, rfl⟩ := Int.eq_ofNat_of_zero_le a3
    have hr : r < R := by omega
    rw [Int.toNat_natCast, Int.toNat_natCast]
    have hd := held_in n (C - k)
    have hl := Gu.rowAt_len h.len hr
    refine iv_splice h hr ?_ (pd_of_mend _) (may_of_mend fun x hx => ?_)
    · rw [mend_length]; unfold shiftRow
      rw [List.length_append, slideL_len _ _ _ (by rw [List.length_drop, hl]; omega) (by rw [List.length_drop, hl]; omega), List.length_take, List.length_drop, hl]; omega
    · unfold shiftRow at hx
      rcases List.mem_append.1 hx with hx | hx
      · exact rowAt_may h _ x (List.mem_of_mem_take hx)
      · exact may_slide (fun c hc => rowAt_may h _ c (List.mem_of_mem_drop hc)) _ (may_blank hm) x hx
  · exact h
theorem iv_fill {R C : Nat} {L : List Ce} (h : Iv R C L) (c : Ce) : Iv R C (fillL L c) := by
  unfold fillL
  split
  · rename_i hz
    simp only [Bool.and_eq_true, beq_iff_eq] at hz
    exact ⟨by rw [List.length_replicate]; exact h.len, fun r _ => pd_flat fun x hx => by rw [List.eq_of_mem_replicate (List.mem_of_mem_drop (List.mem_of_mem_take hx))]; exact hz.2, fun x hx => by rw [List.eq_of_mem_replicate hx]; exact hz.1⟩
  · exact h
/-- the rows behind a Scroll. -/
theorem scroll_at {R C t u : Nat} {A M Z : List Ce} {L : List Ce} {x0 : Ce} (hl : L.length = R * C) (htu : t ≤ u) (hu : u < R) (hA : A = L.take (t * C)) (hM : M = (L.drop (t * C)).take ((u + 1 - t) * C)) (hZ : Z = L.drop ((u + 1) * C)) (H : Int) (h1 : -((u + 1 - t : Nat) : Int) ≤ H) (h2 : H ≤ ((u + 1 - t : Nat) : Int)) (r x : Nat) (hr : r < R) (hx : x < C) :
    (A ++ slideL M (H * C) x0 ++ Z)[r * C + x]? = if r < t ∨ u < r then L[r * C + x]? else
      if 0 ≤ ((r - t : Nat) : Int) + H ∧ ((r - t : Nat) : Int) + H < ((u + 1 - t : Nat) : Int) then L[(t + (((r - t : Nat) : Int) + H).toNat) * C + x]? else some x0 := by
  obtain ⟨k, hk⟩ : ∃ k, k = u + 1 - t := ⟨_, rfl⟩
  rw [← hk] at hM h1 h2 ⊢
  have hq := row_nums hl hu
  have hs : (u + 1) * C = t * C + k * C := by rw [← Nat.add_mul]; congr 1; omega
  have hs2 : (u + 1) * C ≤ L.length := by rw [Nat.add_mul]; omega
  have hAl : A.length = t * C := by rw [hA, List.length_take]; omega
  have hMl : M.length = k * C := by rw [hM, List.length_take, List.length_drop]; omega
  have hz1 : -((k * C : Nat) : Int) ≤ H * C ∧ H * C ≤ ((k * C : Nat) : Int) := by
    rw [Int.natCast_mul]
    constructor
    · rw [← Int.neg_mul]; exact Int.mul_le_mul_of_nonneg_right h1 (by omega)
    · exact Int.mul_le_mul_of_nonneg_right h2 (by omega)
  have hSl : (slideL M (H * C) x0).length = k * C := by rw [slideL_len _ _ _ (by rw [hMl]; exact hz1.1) (by rw [hMl]; exact hz1.2), hMl]
  by_cases c1 : r < t
  · have := row_lt c1 hx
    rw [if_pos (.inl c1), List.append_assoc, List.getElem?_append_left (by omega), hA, List.getElem?_take, if_pos this]
  · by_cases c2 : u < r
    · have h3 : (u + 1) * C ≤ r * C := Nat.mul_le_mul_right C (by omega)
      rw [if_pos (.inr c2), List.getElem?_append_right (by rw [List.length_append, hAl, hSl]; omega), List.length_append, hAl, hSl, hZ, List.getElem?_drop]
      congr 1; omega
    · have hrt : r * C = t * C + (r - t) * C := by rw [← Nat.add_mul]; congr 1; omega
      have hik : (r - t) * C + x < k * C := row_lt (show r - t < k by omega) hx
      rw [if_neg (by omega), List.append_assoc, List.getElem?_append_right (by omega), hAl, List.getElem?_append_left (by rw [hSl]; omega), show r * C + x - t * C = (r - t) * C + x by omega]
      rw [slideL_get _ _ _ (by rw [hMl]; exact hz1.1) (by rw [hMl]; exact hz1.2) _ (by rw [hMl]; exact hik), hMl]
      obtain ⟨s, hs3⟩ : ∃ s, s = ((r - t : Nat) : Int) + H := ⟨_, rfl⟩
      rw [← hs3]
      have e : (((r - t) * C + x : Nat) : Int) + H * C = s * C + x := by rw [hs3, Int.add_mul, Int.natCast_add, Int.natCast_mul]; omega
      rw [e]
      by_cases c3 : 0 ≤ s ∧ s < k
      · obtain ⟨n, rfl⟩ := Int.eq_ofNat_of_zero_le c3.1
        have hnk : n < k := by omega
        have hn2 := row_lt (r := k) (C := C) hnk hx
        have e2 : ((n : Int) * (C : Int) + (x : Int)) = ((n * C + x : Nat) : Int) := by rw [Int.natCast_add, Int.natCast_mul]
        rw [e2, if_pos (by omega), if_pos (by omega), Int.toNat_natCast, hM, List.getElem?_take, if_pos hn2, List.getElem?_drop, Int.toNat_natCast]
        congr 1; rw [Nat.add_mul]; omega
      · rw [if_neg c3, if_neg]
        rintro ⟨g1, g2⟩
        apply c3
        constructor
        · by_cases hs0 : 0 ≤ s
          · exact hs0
          · exfalso
            have : s * C ≤ -1 * C := Int.mul_le_mul_of_nonneg_right (by omega) (by omega)
            omega
        · by_cases hs0 : s < k
          · exact hs0
          · exfalso
            have : (k : Int) * C ≤ s * C := Int.mul_le_mul_of_nonneg_right (by omega) (by omega)
            rw [Int.natCast_mul] at g2
            omega
theorem iv_scroll {R C : Nat} {L : List Ce} (h : Iv R C L) (top bottom n af ag ab : Int) : Iv R C (scrollL R C L top bottom n af ag ab) := by
  unfold scrollL
  split
  · rename_i hz
    simp only [Bool.and_eq_true, scrollOk, decide_eq_true_eq] at hz
    obtain ⟨⟨a1, a2, a3⟩, hm⟩ := hz
    obtain ⟨t, rfl⟩ := Int.eq_ofNat_of_zero_le a1
    obtain ⟨u, rfl⟩ := Int.eq_ofNat_of_zero_le (show 0 ≤ bottom by omega)
    rw [Int.toNat_natCast, Int.toNat_natCast]
    have htu : t ≤ u := by omega
    have hu : u < R := by omega
    have hku : (u : Int) - t + 1 = ((u + 1 - t : Nat) : Int) := by omega
    rw [hku]
    have hd := held_in n (u + 1 - t)
    generalize heldZ n ((u + 1 - t : Nat) : Int) = H at *
    have hat := fun r x hr hx => scroll_at (x0 := Gm.blankC ab) h.len htu hu rfl rfl rfl H hd.1 hd.2 r x hr hx
    have hq := row_nums h.len hu
    have hlen : (L.take (t * C) ++ slideL ((L.drop (t * C)).take ((u + 1 - t) * C)) (H * C) (Gm.blankC ab) ++ L.drop ((u + 1) * C)).length = R * C := by
      have hs : (u + 1) * C = t * C + (u + 1 - t) * C := by rw [← Nat.add_mul]; congr 1; omega
      have hs2 : (u + 1) * C ≤ L.length := by rw [Nat.add_mul]; omega
      have hMl : ((L.drop (t * C)).take ((u + 1 - t) * C)).length = (u + 1 - t) * C := by rw [List.length_take, List.length_drop]; omega
      have hz1 : -(((u + 1 - t) * C : Nat) : Int) ≤ H * C ∧ H * C ≤ (((u + 1 - t) * C : Nat) : Int) := by
        rw [Int.natCast_mul]
        constructor
        · rw [← Int.neg_mul]; exact Int.mul_le_mul_of_nonneg_right hd.1 (by omega)
        · exact Int.mul_le_mul_of_nonneg_right hd.2 (by omega)
      rw [List.length_append, List.length_append, slideL_len _ _ _ (by rw [hMl]; exact hz1.1) (by rw [hMl]; exact hz1.2), hMl, List.length_take, List.length_drop, ← h.len]; omega
    refine ⟨hlen, fun r hr => ?_, fun c hc => ?_⟩
    · by_cases c1 : r < t ∨ u < r
      · rw [rowAt_ext (Gu.rowAt_len hlen hr) (Gu.rowAt_len h.len hr) (fun x hx => by rw [hat r x hr hx, if_pos c1])]
        exact h.rows r hr
      · by_cases c2 : 0 ≤ ((r - t : Nat) : Int) + H ∧ ((r - t : Nat) : Int) + H < ((u + 1 - t : Nat) : Int)
        · have hr2 : t + (((r - t : Nat) : Int) + H).toNat < R := by omega
          rw [rowAt_ext (Gu.rowAt_len hlen hr) (Gu.rowAt_len h.len hr2) (fun x hx => by rw [hat r x hr hx, if_neg c1, if_pos c2])]
          exact h.rows _ hr2
        · refine pd_flat fun c hc => ?_
          obtain ⟨x, hx⟩ := List.getElem?_of_mem hc
          have hxC : x < C := by have := (List.getElem?_eq_some_iff.1 hx).1; rw [Gu.rowAt_len hlen hr] at this; exact this
          rw [rowAt_get _ _ _ _ hxC, hat r x hr hxC, if_neg c1, if_neg c2] at hx
          injection hx with hx; rw [← hx]; rfl
    · rcases List.mem_append.1 hc with hc | hc
      · rcases List.mem_append.1 hc with hc | hc
        · exact h.may c (List.mem_of_mem_take hc)
        · exact may_slide (fun c hc => h.may c (List.mem_of_mem_drop (List.mem_of_mem_take hc))) _ (may_blank hm) c hc
      · exact h.may c (List.mem_of_mem_drop hc)
  · exact h
theorem res_at {R C S D : Nat} {L : List Ce} (hl : L.length = R * C) (i k : Nat) (hi : i < S) (hk : k < D) : (resizeL R C L S D)[i * D + k]? = if i < R then (resRow D (Gq.rowAt L (i * C) C))[k]? else some b0C := by
  unfold resizeL
  have hlen := resRows_len C D L (min S R)
  by_cases hiR : i < R
  · have h2 : i * D + k < min S R * D := row_lt (show i < min S R by omega) hk
    rw [if_pos hiR, List.getElem?_append_left (by rw [hlen]; exact h2), resRows_at C D L i k hk _ (by omega)]
  · have h1 : min S R * D ≤ i * D + k := by
      have := Nat.mul_le_mul_right D (show min S R ≤ i by omega); omega
    have h2 : i * D + k < S * D := row_lt hi hk
    have h3 : (S - min S R) * D = S * D - min S R * D := Nat.sub_mul _ _ _
    rw [if_neg hiR, List.getElem?_append_right (by rw [hlen]; exact h1), hlen, List.getElem?_replicate, if_pos (by omega)]
theorem resRow_may {D : Nat} {M : List Ce} (h : ∀ c ∈ M, mayC c = true) : ∀ c ∈ resRow D M, mayC c = true := may_of_mend fun c hc => by
  rcases List.mem_append.1 hc with hc | hc
  · exact h c (List.mem_of_mem_take hc)
  · rw [List.eq_of_mem_replicate hc]; exact may_b0
theorem iv_resize {R C : Nat} {L : List Ce} (h : Iv R C L) (S D : Nat) : Iv S D (resizeL R C L S D) := by
  have hlen := resizeL_len R C L S D
  refine ⟨hlen, fun r hr => ?_, fun c hc => ?_⟩
  · by_cases hrR : r < R
    · have e : Gq.rowAt (resizeL R C L S D) (r * D) D = resRow D (Gq.rowAt L (r * C) C) := by
        apply List.ext_getElem?
        intro x
        by_cases hx : x < D
        · rw [rowAt_get _ _ _ _ hx, res_at h.len r x hr hx, if_pos hrR]
        · rw [List.getElem?_eq_none (by rw [Gu.rowAt_len hlen hr]; omega), List.getElem?_eq_none (by rw [resRow_len]; omega)]
      rw [e]; exact pd_of_mend _
    · refine pd_flat fun c hc => ?_
      obtain ⟨x, hx⟩ := List.getElem?_of_mem hc
      have hxD : x < D := by have := (List.getElem?_eq_some_iff.1 hx).1; rw [Gu.rowAt_len hlen hr] at this; exact this
      rw [rowAt_get _ _ _ _ hxD, res_at h.len r x hr hxD, if_neg hrR] at hx
      injection hx with hx; rw [← hx]; rfl
  · unfold resizeL at hc
    rcases List.mem_append.1 hc with hc | hc
    · unfold resRows at hc
      obtain ⟨r, _, hc⟩ := List.mem_flatMap.1 hc
      exact resRow_may (rowAt_may h _) c hc
    · rw [List.eq_of_mem_replicate hc]; exact may_b0
/-- what a cell of such a grid has beside it. -/
theorem iv_at {R C : Nat} {L : List Ce} (h : Iv R C L) (hC : 1 ≤ C) (j : Nat) (c : Ce) (hc : L[j]? = some c) : mayC c = true ∧ (c.wd = 0 ∨ (c.wd = 1 ∧ j % C + 1 < C ∧ ∃ d, L[j + 1]? = some d ∧ d.wd = 2) ∨ (c.wd = 2 ∧ 1 ≤ j % C ∧ ∃ d, L[j - 1]? = some d ∧ d.wd = 1)) := by
  have hj : j < L.length := (List.getElem?_eq_some_iff.1 hc).1
  have hdm : j / C * C + j % C = j := Nat.div_add_mod' j C
  have hx : j % C < C := Nat.mod_lt _ (by omega)
  have hr : j / C < R := Nat.div_lt_of_lt_mul (by rw [Nat.mul_comm, ← h.len]; exact hj)
  have hl := Gu.rowAt_len h.len hr
  have hcx : (Gq.rowAt L (j / C * C) C)[j % C]? = some c := by rw [rowAt_get _ _ _ _ hx, hdm]; exact hc
  refine ⟨h.may c (List.mem_of_getElem? hc), ?_⟩
  rcases pd_at _ _ (Nat.le_refl _) (h.rows _ hr) _ _ hcx with r | ⟨r, d, r2, r3⟩ | ⟨r, y, d, r2, r3, r4⟩
  · exact .inl r
  · have h1 : j % C + 1 < C := by have := (List.getElem?_eq_some_iff.1 r2).1; omega
    refine .inr (.inl ⟨r, h1, d, ?_, r3⟩)
    rw [rowAt_get _ _ _ _ h1] at r2
    rw [← r2]; congr 1; omega
  · have h1 : y < C := by omega
    refine .inr (.inr ⟨r, by omega, d, ?_, r4⟩)
    rw [rowAt_get _ _ _ _ h1] at r3
    rw [← r3]; congr 1; omega
end Go.Proofs.Ytfdjmlncdbpkgaa.Pr
