/- Plain facts on the sum: it goes through exclusive or; a byte turned turns it. No program in sight. -/
import Derived.Test.YtebfblpmihnndaaDoorCrc
namespace Go.Proofs.YtebfblpmihnndaaDoor.CrcLin
open Go Crc

theorem tab_xor : ∀ i, i < 16 → ∀ j, j < 16 → tabAt (i ^^^ j) = tabAt i ^^^ tabAt j := by decide
theorem half_xor (s t : Nat) : half (s ^^^ t) = half s ^^^ half t := by
  unfold half
  have h1 : (s ^^^ t) / 16 = s / 16 ^^^ t / 16 := by
    have := Nat.shiftRight_xor_distrib (a := s) (b := t) (i := 4)
    simpa [Nat.shiftRight_eq_div_pow] using this
  have h2 : (s ^^^ t) % 16 = s % 16 ^^^ t % 16 := Nat.xor_mod_two_pow (n := 4)
  rw [h1, h2, tab_xor _ (Nat.mod_lt _ (by decide)) _ (Nat.mod_lt _ (by decide))]
  ac_rfl
theorem crcByte_xor (s t c d : Nat) : crcByte (s ^^^ t) (c ^^^ d) = crcByte s c ^^^ crcByte t d := by
  unfold crcByte
  rw [← half_xor, ← half_xor]
  congr 2
  ac_rfl
/-- three lists, taken together by exclusive or. -/
def xor3 : List Nat → List Nat → List Nat → List Nat
  | a :: l, b :: m, c :: n => (a ^^^ b ^^^ c) :: xor3 l m n
  | _, _, _ => []
theorem run_xor3 (a b c : List Nat) (hb : b.length = a.length) (hc : c.length = a.length) (s t u : Nat) : run (xor3 a b c) (s ^^^ t ^^^ u) = run a s ^^^ run b t ^^^ run c u := by
  induction a generalizing b c s t u with
  | nil =>
    obtain rfl := List.eq_nil_of_length_eq_zero hb
    obtain rfl := List.eq_nil_of_length_eq_zero hc
    rfl
  | cons x a ih =>
    obtain ⟨y, b, rfl⟩ := List.exists_cons_of_length_eq_add_one hb
    obtain ⟨z, c, rfl⟩ := List.exists_cons_of_length_eq_add_one hc
    show run (xor3 a b c) (crcByte (s ^^^ t ^^^ u) (x ^^^ y ^^^ z)) = run a (crcByte s x) ^^^ run b (crcByte t y) ^^^ run c (crcByte u z)
    rw [crcByte_xor, crcByte_xor]
    exact ih b c (by simpa using hb) (by simpa using hc) _ _ _
theorem crc_xor3 (a b c : List Nat) (hb : b.length = a.length) (hc : c.length = a.length) : crc (xor3 a b c) = crc a ^^^ crc b ^^^ crc c := by
  unfold crc
  have h := run_xor3 a b c hb hc 4294967295 4294967295 4294967295
  rw [show (4294967295 : Nat) ^^^ 4294967295 ^^^ 4294967295 = 4294967295 from by decide] at h
  rw [h]
  generalize run a 4294967295 = x
  generalize run b 4294967295 = y
  generalize run c 4294967295 = z
  generalize hM : (4294967295 : Nat) = M
  have e : (M ^^^ x) ^^^ (M ^^^ y) ^^^ (M ^^^ z) = (M ^^^ M) ^^^ (M ^^^ (x ^^^ y ^^^ z)) := by ac_rfl
  rw [e, Nat.xor_self, Nat.zero_xor]
theorem half_zero {s : Nat} (hs : s < 4294967296) (h : half s = 0) : s = 0 := by
  unfold half at h
  have e : s / 16 = tabAt (s % 16) := by
    have := congrArg (· ^^^ tabAt (s % 16)) h
    simpa [Nat.xor_assoc] using this
  have hbig : ∀ i, i < 16 → i ≠ 0 → 268435456 ≤ tabAt i := by decide
  by_cases h0 : s % 16 = 0
  · rw [h0, show tabAt 0 = 0 from rfl] at e; omega
  · have := hbig (s % 16) (by omega) h0; omega
theorem half_inj {s t : Nat} (hs : s < 4294967296) (ht : t < 4294967296) (h : half s = half t) : s = t := by
  have h1 : half (s ^^^ t) = 0 := by rw [half_xor, h, Nat.xor_self]
  have h2 := half_zero (Nat.xor_lt_two_pow (n := 32) hs ht) h1
  have := congrArg (· ^^^ t) h2
  simpa [Nat.xor_assoc] using this
theorem crcByte_inj {s t c d : Nat} (hs : s < 4294967296) (ht : t < 4294967296) (hc : c < 256) (hd : d < 256) (h : crcByte s c = crcByte t d) : s ^^^ c = t ^^^ d := by
  have l1 : s ^^^ c < 4294967296 := Nat.xor_lt_two_pow (n := 32) hs (by omega)
  have l2 : t ^^^ d < 4294967296 := Nat.xor_lt_two_pow (n := 32) ht (by omega)
  exact half_inj l1 l2 (half_inj (half_lt l1) (half_lt l2) h)
theorem run_inj {l : List Nat} (hl : ∀ c ∈ l, c < 256) {s t : Nat} (hs : s < 4294967296) (ht : t < 4294967296) (h : run l s = run l t) : s = t := by
  induction l generalizing s t with
  | nil => exact h
  | cons c l ih =>
    have hc := hl c (List.mem_cons_self ..)
    have := ih (fun x hx => hl x (List.mem_cons_of_mem _ hx)) (crcByte_lt hs hc) (crcByte_lt ht hc) h
    have h2 := crcByte_inj hs ht hc hc this
    have := congrArg (· ^^^ c) h2
    simpa [Nat.xor_assoc] using this
/-- a byte turned turns the sum. -/
theorem crc_set {l : List Nat} (hl : ∀ c ∈ l, c < 256) {k d : Nat} (hk : k < l.length) (hd : d < 256) (hne : d ≠ l[k]) : crc (l.set k d) ≠ crc l := by
  intro h
  unfold crc at h
  have h1 : run (l.set k d) 4294967295 = run l 4294967295 := by
    have := congrArg (4294967295 ^^^ ·) h
    simpa [← Nat.xor_assoc] using this
  have e1 : l = l.take k ++ l[k] :: l.drop (k + 1) := by rw [← List.drop_eq_getElem_cons hk, List.take_append_drop]
  have e2 : l.set k d = l.take k ++ d :: l.drop (k + 1) := by rw [List.set_eq_take_append_cons_drop, if_pos hk]
  have r : ∀ (p q : List Nat) (c s : Nat), run (p ++ c :: q) s = run q (crcByte (run p s) c) := by intro p q c s; simp [run]
  have hlk := hl l[k] (List.getElem_mem hk)
  rw [e2, r] at h1
  conv at h1 => rhs; rw [e1, r]
  have hS := run_lt (l := l.take k) (fun c hc => hl c (List.mem_of_mem_take hc)) (s := 4294967295) (by decide)
  have h2 := run_inj (fun c hc => hl c (List.mem_of_mem_drop hc)) (crcByte_lt hS hd) (crcByte_lt hS hlk) h1
  have h3 := crcByte_inj hS hS hd hlk h2
  apply hne
  have := congrArg (run (l.take k) 4294967295 ^^^ ·) h3
  simpa [← Nat.xor_assoc] using this
theorem xor3_len (a b c : List Nat) (hb : b.length = a.length) (hc : c.length = a.length) : (xor3 a b c).length = a.length := by
  induction a generalizing b c with
  | nil => cases b <;> cases c <;> simp_all [xor3]
  | cons x a ih =>
    obtain ⟨y, b, rfl⟩ := List.exists_cons_of_length_eq_add_one hb
    obtain ⟨z, c, rfl⟩ := List.exists_cons_of_length_eq_add_one hc
    simp only [xor3, List.length_cons]
    rw [ih b c (by simpa using hb) (by simpa using hc)]
theorem xor3_at (a b c : List Nat) (hb : b.length = a.length) (hc : c.length = a.length) (i : Nat) (hi : i < a.length) : (xor3 a b c)[i]'(by rw [xor3_len a b c hb hc]; exact hi) = a[i] ^^^ b[i] ^^^ c[i] := by
  induction a generalizing b c i with
  | nil => simp at hi
  | cons x a ih =>
    obtain ⟨y, b, rfl⟩ := List.exists_cons_of_length_eq_add_one hb
    obtain ⟨z, c, rfl⟩ := List.exists_cons_of_length_eq_add_one hc
    cases i with
    | zero => rfl
    | succ i => simpa [xor3] using ih b c (by simpa using hb) (by simpa using hc) i (by simpa using hi)
end Go.Proofs.YtebfblpmihnndaaDoor.CrcLin
