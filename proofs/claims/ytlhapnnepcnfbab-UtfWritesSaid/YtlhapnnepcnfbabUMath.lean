/- Plain facts on signs and their bytes: no program. -/
set_option linter.unusedVariables false
namespace Go.Proofs.Ytlhapnnepcnfbab.UMath

/-- a decoder: the sign so far, how many bytes it had, how many it wants, what may follow. -/
structure Dec where
  s : Int
  h : Int
  n : Int
  lo : Int
  hi : Int
def d0 : Dec := ⟨0, 0, 0, 0, 0⟩
def startD (c : Int) : List Int × Dec :=
  if c < 128 then ([c], d0)
  else if 194 ≤ c ∧ c ≤ 223 then ([], ⟨c % 32, 1, 2, 128, 191⟩)
  else if c = 224 then ([], ⟨c % 16, 1, 3, 160, 191⟩)
  else if c = 237 then ([], ⟨c % 16, 1, 3, 128, 159⟩)
  else if 225 ≤ c ∧ c ≤ 239 then ([], ⟨c % 16, 1, 3, 128, 191⟩)
  else if c = 240 then ([], ⟨c % 8, 1, 4, 144, 191⟩)
  else if 241 ≤ c ∧ c ≤ 243 then ([], ⟨c % 8, 1, 4, 128, 191⟩)
  else if c = 244 then ([], ⟨c % 8, 1, 4, 128, 143⟩)
  else ([65533], d0)
def goOnD (d : Dec) (c : Int) : List Int × Dec :=
  if d.h + 1 < d.n then ([], ⟨d.s * 64 + c % 64, d.h + 1, d.n, 128, 191⟩) else ([d.s * 64 + c % 64], d0)
def folB (d : Dec) (c : Int) : Bool := decide (d.lo ≤ c) && decide (c ≤ d.hi)
def flushL (d : Dec) : List Int := if d.h = 0 then [] else [65533]
def takeD (d : Dec) (c : Int) : List Int × Dec := if 0 < d.h ∧ folB d c = true then goOnD d c else (flushL d ++ (startD c).1, (startD c).2)
def writeD (d : Dec) : List Int → List Int × Dec
  | [] => ([], d)
  | c :: l => ((takeD d c).1 ++ (writeD (takeD d c).2 l).1, (writeD (takeD d c).2 l).2)
/-- what a decoder may be. -/
def OkD (d : Dec) : Prop := d = d0 ∨ (0 ≤ d.s ∧ d.h < d.n ∧ d.n ≤ 4 ∧ 0 ≤ d.lo ∧ d.hi ≤ 255 ∧ ((d.h = 1 ∧ d.s < 32) ∨ (d.h = 2 ∧ d.s < 2048) ∨ (d.h = 3 ∧ d.s < 131072)))
theorem ok0 : OkD d0 := .inl rfl
theorem ok_h {d : Dec} (h : OkD d) : 0 ≤ d.h ∧ d.h ≤ 3 ∧ (d.h = 0 → d = d0) := by
  rcases h with rfl | h
  · exact ⟨by decide, by decide, fun _ => rfl⟩
  · refine ⟨by omega, by omega, fun e => by omega⟩
theorem ok_start (c : Int) (h0 : 0 ≤ c) (h1 : c ≤ 255) : OkD (startD c).2 := by
  unfold startD
  repeat' split
  all_goals first | exact ok0 | (refine .inr ⟨?_, ?_, ?_, ?_, ?_, .inl ⟨rfl, ?_⟩⟩ <;> simp <;> omega)
theorem ok_goOn {d : Dec} {c : Int} (h : OkD d) (hh : 0 < d.h) : OkD (goOnD d c).2 := by
  rcases h with rfl | h
  · exact absurd hh (by decide)
  · unfold goOnD
    split
    · refine .inr ⟨by simp; omega, by simp; omega, by simp; omega, by simp, by simp, ?_⟩
      simp only
      omega
    · exact ok0
theorem ok_take {d : Dec} {c : Int} (h : OkD d) (h0 : 0 ≤ c) (h1 : c ≤ 255) : OkD (takeD d c).2 := by
  unfold takeD
  split
  · rename_i hc; exact ok_goOn h hc.1
  · exact ok_start c h0 h1
theorem ok_write {d : Dec} {l : List Int} (h : OkD d) (hl : ∀ c ∈ l, 0 ≤ c ∧ c ≤ 255) : OkD (writeD d l).2 := by
  induction l generalizing d with
  | nil => exact h
  | cons c l ih =>
    rw [writeD]
    exact ih (ok_take h (hl c (by simp)).1 (hl c (by simp)).2) (fun x hx => hl x (by simp [hx]))
theorem write_app (d : Dec) (l m : List Int) : writeD d (l ++ m) = ((writeD d l).1 ++ (writeD (writeD d l).2 m).1, (writeD (writeD d l).2 m).2) := by
  induction l generalizing d with
  | nil => simp [writeD]
  | cons c l ih => rw [List.cons_append, writeD, ih, writeD]; simp
theorem write_snoc (d : Dec) (l : List Int) (c : Int) : writeD d (l ++ [c]) = ((writeD d l).1 ++ (takeD (writeD d l).2 c).1, (takeD (writeD d l).2 c).2) := by
  rw [write_app]; simp [writeD]
theorem start_len (c : Int) : (startD c).1.length ≤ 1 := by
  unfold startD; repeat' split
  all_goals simp
theorem take_len (d : Dec) (c : Int) : (takeD d c).1.length ≤ 2 := by
  unfold takeD goOnD flushL
  have := start_len c
  repeat' split
  all_goals simp <;> omega
theorem write_len (d : Dec) (l : List Int) : (writeD d l).1.length ≤ 2 * l.length := by
  induction l generalizing d with
  | nil => simp [writeD]
  | cons c l ih =>
    rw [writeD]
    have := take_len d c
    have := ih (takeD d c).2
    simp; omega
/-- is a number a sign? -/
def signB (r : Int) : Bool := decide (0 ≤ r) && decide (r ≤ 1114111) && (decide (r < 55296) || decide (57343 < r))
def fixZ (r : Int) : Int := if signB r then r else 65533
def sizeZ (r : Int) : Int := if fixZ r < 128 then 1 else if fixZ r < 2048 then 2 else if fixZ r < 65536 then 3 else 4
def tailZ (r : Int) : Int := 128 + r % 64
def encZ (r : Int) : List Int :=
  if fixZ r < 128 then [fixZ r] else if fixZ r < 2048 then [192 + fixZ r / 64, tailZ (fixZ r)]
  else if fixZ r < 65536 then [224 + fixZ r / 4096, tailZ (fixZ r / 64), tailZ (fixZ r)]
  else [240 + fixZ r / 262144, tailZ (fixZ r / 4096), tailZ (fixZ r / 64), tailZ (fixZ r)]
def encL (l : List Int) : List Int := l.flatMap encZ
theorem fix_sign (r : Int) : signB (fixZ r) = true := by
  unfold fixZ; split
  · assumption
  · decide
theorem fix_fix (r : Int) : fixZ (fixZ r) = fixZ r := by
  rw [fixZ, if_pos (fix_sign r)]
theorem sign_in {r : Int} (h : signB r = true) : 0 ≤ r ∧ r ≤ 1114111 ∧ (r < 55296 ∨ 57343 < r) := by
  simp [signB] at h; omega
theorem enc_fix (r : Int) : encZ (fixZ r) = encZ r := by unfold encZ; rw [fix_fix]
theorem enc_len (r : Int) : ((encZ r).length : Int) = sizeZ r := by
  unfold encZ sizeZ; repeat' split
  all_goals simp
theorem enc_len4 (r : Int) : 1 ≤ (encZ r).length ∧ (encZ r).length ≤ 4 := by
  unfold encZ; repeat' split
  all_goals simp
theorem enc_byte (r : Int) : ∀ c ∈ encZ r, 0 ≤ c ∧ c ≤ 255 := by
  have h := sign_in (fix_sign r)
  unfold encZ tailZ
  intro c hc
  repeat' split at hc
  all_goals simp at hc; omega
theorem fol_tail (d : Dec) (x : Int) (h : d.lo ≤ 128 + x % 64) (h2 : 128 + x % 64 ≤ d.hi) : folB d (128 + x % 64) = true := by
  unfold folB; simp [h, h2]
theorem take_go {d : Dec} {c : Int} (h : 0 < d.h) (h1 : d.lo ≤ c) (h2 : c ≤ d.hi) : takeD d c = goOnD d c := by
  rw [takeD, if_pos ⟨h, by unfold folB; simp [h1, h2]⟩]
theorem take_start (c : Int) : takeD d0 c = startD c := by
  rw [takeD, if_neg (by simp [d0])]; simp [flushL, d0]
theorem mid_go {d : Dec} {c : Int} (h : d.h + 1 < d.n) : goOnD d c = ([], ⟨d.s * 64 + c % 64, d.h + 1, d.n, 128, 191⟩) := by rw [goOnD, if_pos h]
theorem end_go {d : Dec} {c : Int} (h : ¬ d.h + 1 < d.n) : goOnD d c = ([d.s * 64 + c % 64], d0) := by rw [goOnD, if_neg h]
/-- how a sign's bytes are read. -/
theorem read_enc (r : Int) : writeD d0 (encZ r) = ([fixZ r], d0) := by
  have hs := sign_in (fix_sign r)
  rw [← enc_fix]
  generalize hq : fixZ r = q at *
  have hf : fixZ q = q := by rw [← hq]; exact fix_fix r
  unfold encZ
  rw [hf]
  by_cases h1 : q < 128
  · rw [if_pos h1, writeD, take_start, startD, if_pos h1]; rfl
  · rw [if_neg h1]
    by_cases h2 : q < 2048
    · rw [if_pos h2]
      have e1 : startD (192 + q / 64) = ([], ⟨(192 + q / 64) % 32, 1, 2, 128, 191⟩) := by
        rw [startD, if_neg (by omega), if_pos (by omega)]
      rw [writeD, take_start, e1, writeD, tailZ, take_go (by simp) (by simp; omega) (by simp; omega), end_go (by simp), writeD]
      simp; omega
    · rw [if_neg h2]
      by_cases h3 : q < 65536
      · rw [if_pos h3]
        have e1 : ∃ lo hi, startD (224 + q / 4096) = ([], ⟨(224 + q / 4096) % 16, 1, 3, lo, hi⟩) ∧ lo ≤ 128 + q / 64 % 64 ∧ 128 + q / 64 % 64 ≤ hi := by
          by_cases a : q / 4096 = 0
          · exact ⟨160, 191, by rw [startD, if_neg (by omega), if_neg (by omega), if_pos (by omega)], by omega, by omega⟩
          · by_cases b : q / 4096 = 13
            · exact ⟨128, 159, by rw [startD, if_neg (by omega), if_neg (by omega), if_neg (by omega), if_pos (by omega)], by omega, by omega⟩
            · exact ⟨128, 191, by rw [startD, if_neg (by omega), if_neg (by omega), if_neg (by omega), if_neg (by omega), if_pos (by omega)], by omega, by omega⟩
        obtain ⟨lo, hi, e1, hlo, hhi⟩ := e1
        rw [writeD, take_start, e1, writeD, tailZ, take_go (by simp) hlo hhi, mid_go (by simp), writeD, tailZ, take_go (by simp) (by simp; omega) (by simp; omega), end_go (by simp), writeD]
        simp; omega
      · rw [if_neg h3]
        have e1 : ∃ lo hi, startD (240 + q / 262144) = ([], ⟨(240 + q / 262144) % 8, 1, 4, lo, hi⟩) ∧ lo ≤ 128 + q / 4096 % 64 ∧ 128 + q / 4096 % 64 ≤ hi := by
          by_cases a : q / 262144 = 0
          · exact ⟨144, 191, by rw [startD, if_neg (by omega), if_neg (by omega), if_neg (by omega), if_neg (by omega), if_neg (by omega), if_pos (by omega)], by omega, by omega⟩
          · by_cases b : q / 262144 = 4
            · exact ⟨128, 143, by rw [startD, if_neg (by omega), if_neg (by omega), if_neg (by omega), if_neg (by omega), if_neg (by omega), if_neg (by omega), if_neg (by omega), if_pos (by omega)], by omega, by omega⟩
            · exact ⟨128, 191, by rw [startD, if_neg (by omega), if_neg (by omega), if_neg (by omega), if_neg (by omega), if_neg (by omega), if_neg (by omega), if_pos (by omega)], by omega, by omega⟩
        obtain ⟨lo, hi, e1, hlo, hhi⟩ := e1
        rw [writeD, take_start, e1, writeD, tailZ, take_go (by simp) hlo hhi, mid_go (by simp), writeD, tailZ, take_go (by simp) (by simp; omega) (by simp; omega), mid_go (by simp), writeD, tailZ, take_go (by simp) (by simp; omega) (by simp; omega), end_go (by simp), writeD]
        simp; omega
theorem read_encL (l : List Int) : writeD d0 (encL l) = (l.map fixZ, d0) := by
  induction l with
  | nil => rfl
  | cons r l ih =>
    rw [encL, List.flatMap_cons, write_app, read_enc]
    show ([fixZ r] ++ (writeD d0 (encL l)).1, (writeD d0 (encL l)).2) = _
    rw [ih]; rfl
theorem encL_fix (l : List Int) : encL (l.map fixZ) = encL l := by
  induction l with
  | nil => rfl
  | cons r l ih =>
    show encZ (fixZ r) ++ encL (l.map fixZ) = encZ r ++ encL l
    rw [ih, enc_fix]
theorem encL_snoc (l : List Int) (r : Int) : encL (l ++ [r]) = encL l ++ encZ r := by simp [encL]
theorem encL_byte (l : List Int) : ∀ c ∈ encL l, 0 ≤ c ∧ c ≤ 255 := by
  intro c hc
  obtain ⟨r, _, hr⟩ := List.mem_flatMap.1 hc
  exact enc_byte r c hr
theorem encL_len (l : List Int) : (encL l).length ≤ 4 * l.length := by
  induction l with
  | nil => simp [encL]
  | cons r l ih =>
    have := (enc_len4 r).2
    show (encZ r ++ encL l).length ≤ _
    simp; omega
end Go.Proofs.Ytlhapnnepcnfbab.UMath
