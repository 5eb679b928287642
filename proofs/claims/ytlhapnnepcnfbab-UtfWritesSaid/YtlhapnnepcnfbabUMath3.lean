/- The document's own reading of bytes (a front's length, then its number), against the decoder's. No program. -/
import Derived.Test.YtlhapnnepcnfbabUMath
set_option linter.unusedVariables false
namespace Go.Proofs.Ytlhapnnepcnfbab.UMath

/-- how many bytes a sign has that begins so. -/
def sizB (c : Int) : Nat := if c < 128 then 1 else if 194 ≤ c ∧ c < 224 then 2 else if 224 ≤ c ∧ c < 240 then 3 else if 240 ≤ c ∧ c < 245 then 4 else 0
def loB (c : Int) (n : Nat) : Int := if n = 1 then (if c = 224 then 160 else if c = 240 then 144 else 128) else 128
def hiB (c : Int) (n : Nat) : Int := if n = 1 then (if c = 237 then 159 else if c = 244 then 143 else 191) else 191
/-- may it be the byte at n? -/
def nxtB (c : Int) (n : Nat) (x : Int) : Bool := decide (loB c n ≤ x) && decide (x ≤ hiB c n)
/-- how far the front goes. -/
def frontN (c : Int) (k : Nat) : Nat → List Int → Nat
  | n, [] => n
  | n, x :: t => if n < k ∧ nxtB c n x = true then frontN c k (n + 1) t else n
/-- the number of a sign's bytes. -/
def numL : Int → List Int → Int
  | s, [] => s
  | s, x :: t => numL (s * 64 + x % 64) t
def headB (c : Int) : Int := if c < 128 then c else if c < 224 then c % 32 else if c < 240 then c % 16 else c % 8
theorem front_le (c : Int) (k : Nat) : ∀ (l : List Int) (n : Nat), n ≤ frontN c k n l ∧ frontN c k n l ≤ n + l.length ∧ (n ≤ k → frontN c k n l ≤ k) := by
  intro l
  induction l with
  | nil => intro n; simp [frontN]
  | cons x t ih =>
    intro n
    rw [frontN]
    split
    · rename_i h
      have := ih (n + 1)
      simp only [List.length_cons]
      exact ⟨by omega, by omega, fun _ => this.2.2 (by omega)⟩
    · simp
/-- a decoder amid a sign. -/
theorem run_front (c : Int) (k : Nat) : ∀ (l : List Int) (n : Nat) (d : Dec), 1 ≤ n → n < k → d.h = n → d.n = k → (∀ x, folB d x = nxtB c n x) →
    (frontN c k n l = k ∧ writeD d (l.take (k - n)) = ([numL d.s (l.take (k - n))], d0)) ∨
    (frontN c k n l < k ∧ frontN c k n l = n + l.length ∧ (writeD d l).1 = [] ∧ (writeD d l).2.h = (n + l.length : Nat)) ∨
    (frontN c k n l < k ∧ frontN c k n l < n + l.length ∧ writeD d l = (65533 :: (writeD d0 (l.drop (frontN c k n l - n))).1, (writeD d0 (l.drop (frontN c k n l - n))).2)) := by
  intro l
  induction l with
  | nil =>
    intro n d h1 h2 h3 h4 h5
    exact .inr (.inl ⟨h2, rfl, rfl, by simp [writeD, h3]⟩)
  | cons x t ih =>
    intro n d h1 h2 h3 h4 h5
    by_cases hx : nxtB c n x = true
    · have hf : folB d x = true := by rw [h5, hx]
      have htk : takeD d x = goOnD d x := by rw [takeD, if_pos ⟨by omega, hf⟩]
      rw [frontN, if_pos ⟨h2, hx⟩]
      by_cases he : n + 1 = k
      · left
        have hk1 : k - n = 1 := by omega
        rw [hk1, List.take_succ_cons, List.take_zero, writeD, htk, end_go (by omega), writeD, numL, numL]
        refine ⟨?_, rfl⟩
        have := front_le c k t (n + 1)
        have := this.2.2 (by omega)
        omega
      · have hg : goOnD d x = ([], ⟨d.s * 64 + x % 64, d.h + 1, d.n, 128, 191⟩) := mid_go (by omega)
        have := ih (n + 1) ⟨d.s * 64 + x % 64, d.h + 1, d.n, 128, 191⟩ (by omega) (by omega) (by simp [h3]) h4 (by
          intro y
          have hn : ¬ n + 1 = 1 := by omega
          unfold folB nxtB loB hiB
          rw [if_neg hn, if_neg hn])
        obtain ⟨m, hm⟩ : ∃ m, k - n = m + 1 := ⟨k - n - 1, by omega⟩
        have hm2 : k - (n + 1) = m := by omega
        rw [hm2] at this
        have hle := front_le c k t (n + 1)
        rcases this with ⟨e1, e2⟩ | ⟨e1, e2, e3, e4⟩ | ⟨e1, e2, e3⟩
        · refine .inl ⟨e1, ?_⟩
          rw [hm, List.take_succ_cons, writeD, htk, hg]
          simp only
          rw [e2, numL]; rfl
        · refine .inr (.inl ⟨e1, by simp only [List.length_cons]; omega, ?_, ?_⟩)
          · rw [writeD, htk, hg]; simp [e3]
          · rw [writeD, htk, hg]; simp only [List.length_cons]; rw [e4]; congr 1; omega
        · refine .inr (.inr ⟨e1, by simp only [List.length_cons]; omega, ?_⟩)
          have hd : frontN c k (n + 1) t - n = (frontN c k (n + 1) t - (n + 1)) + 1 := by omega
          rw [writeD, htk, hg, hd, List.drop_succ_cons]
          simp only
          rw [e3]; rfl
    · have hf : folB d x = false := by rw [h5]; simpa using hx
      have htk : takeD d x = (65533 :: (startD x).1, (startD x).2) := by
        rw [takeD, if_neg (by rw [hf]; simp), flushL, if_neg (by omega)]; rfl
      rw [frontN, if_neg (by simp [hx])]
      refine .inr (.inr ⟨h2, by simp, ?_⟩)
      rw [Nat.sub_self, List.drop_zero, writeD, htk, writeD, take_start]
      rfl
/-- how a list's front is read. -/
def FrontP (c : Int) (l : List Int) : Prop :=
    (sizB c = 0 ∧ writeD d0 (c :: l) = (65533 :: (writeD d0 l).1, (writeD d0 l).2)) ∨
    (1 ≤ sizB c ∧ frontN c (sizB c) 1 l = sizB c ∧ writeD d0 (c :: l) = (numL (headB c) (l.take (sizB c - 1)) :: (writeD d0 (l.drop (sizB c - 1))).1, (writeD d0 (l.drop (sizB c - 1))).2)) ∨
    (1 ≤ sizB c ∧ frontN c (sizB c) 1 l < sizB c ∧ frontN c (sizB c) 1 l = 1 + l.length ∧ (writeD d0 (c :: l)).1 = [] ∧ (writeD d0 (c :: l)).2.h = (1 + l.length : Nat)) ∨
    (1 ≤ sizB c ∧ frontN c (sizB c) 1 l < sizB c ∧ frontN c (sizB c) 1 l < 1 + l.length ∧ writeD d0 (c :: l) = (65533 :: (writeD d0 (l.drop (frontN c (sizB c) 1 l - 1))).1, (writeD d0 (l.drop (frontN c (sizB c) 1 l - 1))).2))
/-- a list's front, read by the decoder. -/
theorem read_front (c : Int) (l : List Int) : FrontP c l := by
  have two : ∀ (s : Int) (n : Nat) (lo hi : Int), 2 ≤ n → sizB c = n → headB c = s → startD c = ([], ⟨s, 1, n, lo, hi⟩) → loB c 1 = lo → hiB c 1 = hi → FrontP c l := by
    unfold FrontP
    intro s n lo hi hn hk hs hst hlo hhi
    have := run_front c n l 1 ⟨s, 1, n, lo, hi⟩ (Nat.le_refl _) (by omega) rfl rfl (by intro x; unfold folB nxtB; rw [hlo, hhi])
    rw [hk]
    rcases this with ⟨e1, e2⟩ | ⟨e1, e2, e3, e4⟩ | ⟨e1, e2, e3⟩
    · refine .inr (.inl ⟨by omega, e1, ?_⟩)
      rw [writeD, take_start, hst, hs]
      simp only
      conv => lhs; rw [← List.take_append_drop (n - 1) l]
      rw [write_app, e2]; rfl
    · refine .inr (.inr (.inl ⟨by omega, e1, e2, ?_, ?_⟩))
      · rw [writeD, take_start, hst]; simp [e3]
      · rw [writeD, take_start, hst]; simp only; rw [e4]
    · refine .inr (.inr (.inr ⟨by omega, e1, e2, ?_⟩))
      rw [writeD, take_start, hst]
      simp only
      rw [e3]; rfl
  by_cases a1 : c < 128
  · refine .inr (.inl ⟨by simp [sizB, a1], ?_, ?_⟩)
    · have := front_le c (sizB c) l 1
      have hk : sizB c = 1 := by simp [sizB, a1]
      rw [hk] at this ⊢
      have := this.2.2 (Nat.le_refl _)
      omega
    · have hk : sizB c = 1 := by simp [sizB, a1]
      rw [hk, writeD, take_start, startD, if_pos a1]
      simp [numL, headB, a1]
  by_cases a2 : c < 194
  · refine .inl ⟨?_, ?_⟩
    · unfold sizB; rw [if_neg a1, if_neg (by omega), if_neg (by omega), if_neg (by omega)]
    · rw [writeD, take_start, startD, if_neg a1, if_neg (by omega), if_neg (by omega), if_neg (by omega), if_neg (by omega), if_neg (by omega), if_neg (by omega), if_neg (by omega)]; rfl
  by_cases a3 : c < 224
  · exact two (c % 32) 2 128 191 (by omega) (by unfold sizB; rw [if_neg a1, if_pos (by omega)]) (by unfold headB; rw [if_neg a1, if_pos a3]) (by rw [startD, if_neg a1, if_pos (by omega)]; rfl) (by simp [loB]; omega) (by simp [hiB]; omega)
  by_cases a4 : c < 240
  · have hk : sizB c = 3 := by unfold sizB; rw [if_neg a1, if_neg (by omega), if_pos (by omega)]
    have hs : headB c = c % 16 := by unfold headB; rw [if_neg a1, if_neg a3, if_pos a4]
    by_cases b1 : c = 224
    · exact two (c % 16) 3 160 191 (by omega) hk hs (by rw [startD, if_neg a1, if_neg (by omega), if_pos b1]; rfl) (by simp [loB]; omega) (by simp [hiB]; omega)
    by_cases b2 : c = 237
    · exact two (c % 16) 3 128 159 (by omega) hk hs (by rw [startD, if_neg a1, if_neg (by omega), if_neg b1, if_pos b2]; rfl) (by simp [loB]; omega) (by simp [hiB]; omega)
    · exact two (c % 16) 3 128 191 (by omega) hk hs (by rw [startD, if_neg a1, if_neg (by omega), if_neg b1, if_neg b2, if_pos (by omega)]; rfl) (by simp [loB]; omega) (by simp [hiB]; omega)
  by_cases a5 : c < 245
  · have hk : sizB c = 4 := by unfold sizB; rw [if_neg a1, if_neg (by omega), if_neg (by omega), if_pos (by omega)]
    have hs : headB c = c % 8 := by unfold headB; rw [if_neg a1, if_neg a3, if_neg a4]
    by_cases b1 : c = 240
    · exact two (c % 8) 4 144 191 (by omega) hk hs (by rw [startD, if_neg a1, if_neg (by omega), if_neg (by omega), if_neg (by omega), if_neg (by omega), if_pos b1]; rfl) (by simp [loB]; omega) (by simp [hiB]; omega)
    by_cases b2 : c = 244
    · exact two (c % 8) 4 128 143 (by omega) hk hs (by rw [startD, if_neg a1, if_neg (by omega), if_neg (by omega), if_neg (by omega), if_neg (by omega), if_neg b1, if_neg (by omega), if_pos b2]; rfl) (by simp [loB]; omega) (by simp [hiB]; omega)
    · exact two (c % 8) 4 128 191 (by omega) hk hs (by rw [startD, if_neg a1, if_neg (by omega), if_neg (by omega), if_neg (by omega), if_neg (by omega), if_neg b1, if_pos (by omega)]; rfl) (by simp [loB]; omega) (by simp [hiB]; omega)
  · refine .inl ⟨?_, ?_⟩
    · unfold sizB; rw [if_neg a1, if_neg (by omega), if_neg (by omega), if_neg (by omega)]
    · rw [writeD, take_start, startD, if_neg a1, if_neg (by omega), if_neg (by omega), if_neg (by omega), if_neg (by omega), if_neg (by omega), if_neg (by omega), if_neg (by omega)]; rfl
theorem siz4 (c : Int) : sizB c ≤ 4 := by
  unfold sizB; repeat' split
  all_goals omega
end Go.Proofs.Ytlhapnnepcnfbab.UMath
