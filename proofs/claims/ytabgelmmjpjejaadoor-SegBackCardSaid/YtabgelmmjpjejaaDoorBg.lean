/- The document's number of bytes, its sum. -/
import Derived.Test.YtabgelmmjpjejaaDoorAr
import Derived.Test.YtabgelmmjpjejaaDoorRg
set_option linter.unusedVariables false
namespace Go.Proofs.YtabgelmmjpjejaaDoor.Bg
open Go Go.RowKit Kit Crc Var Get Ref3 Copy Bytes Bx Py Py2 Ry Rz Dn Df Dd Da Dc Rs Rf Rg Ar

def numL (l : List Nat) : Nat := l.foldl (fun n c => n * 256 + c) 0
theorem numL_next (l : List Nat) (k : Nat) (h : k < l.length) : numL (l.take (k + 1)) = numL (l.take k) * 256 + l[k] := by
  unfold numL; rw [List.take_succ_eq_append_getElem h, List.foldl_append]; rfl
theorem numL_acc (l : List Nat) (hl : ∀ c ∈ l, c < 256) : ∀ acc, l.foldl (fun n c => n * 256 + c) acc < (acc + 1) * 256 ^ l.length := by
  induction l with
  | nil => intro acc; simp
  | cons c l ih =>
    intro acc
    have h1 := ih (fun x hx => hl x (List.mem_cons_of_mem _ hx)) (acc * 256 + c)
    have h2 := hl c (List.mem_cons_self ..)
    rw [List.foldl_cons, List.length_cons, Nat.pow_succ]
    refine Nat.lt_of_lt_of_le h1 ?_
    rw [Nat.mul_comm (256 ^ l.length) 256, ← Nat.mul_assoc]
    exact Nat.mul_le_mul_right _ (by omega)
theorem numL_lt (l : List Nat) (hl : ∀ c ∈ l, c < 256) : numL l < 256 ^ l.length := by
  have := numL_acc l hl 0
  simpa [numL] using this
/-- four bytes, one behind the other, as a word: or is a sum. -/
theorem or_shift (k a b : Nat) (h : b < 2 ^ k) : (a * 2 ^ k) ||| b = a * 2 ^ k + b := by
  rw [Nat.mul_comm]; exact (Nat.two_pow_add_eq_or_of_lt h a).symm
/-- a byte more: n * 256 or c. -/
theorem or64 (n c : Nat) (hn : n < 72057594037927936) (hc : c < 256) : bits .or .u64 ((n : Int) * 256) (c : Int) = ((n * 256 + c : Nat) : Int) := by
  have h := u64_or_nat (n * 256) c (by omega) (by omega)
  have g : (n * 256) ||| c = n * 256 + c := or_shift 8 n c (by show c < 256; omega)
  rw [g] at h
  rw [show (n : Int) * 256 = ((n * 256 : Nat) : Int) from (Int.natCast_mul _ _).symm, h]

/-- the document's number of bytes. -/
theorem bigC (a : Option Addr) (n cap : Nat) (l : List Nat) (w : World) (hn : n = l.length) (h8 : l.length ≤ 8) (hl : ∀ c ∈ l, c < 256) (hs : Sl w a l) :
    Calls Tryd.prog 23 #[.slice a n cap] w fun e w' => e = .returned (.int .u64 ((numL l : Nat) : Int)) ∧ w = w' := by
  subst hn
  have HS := Lib.hid hs
  have HL := Lib.hid hl
  have H8 := Lib.hid h8
  clear hs hl h8
  go_enter Tryd.func23, Tryd.ntmps23
  go_wp2
  go_loopw [3, 4] (fun s3 s4 wr => ∃ k : Nat, k ≤ l.length ∧ s4 = .int .i64 (k : Int) ∧ s3 = .int .u64 ((numL (l.take k) : Nat) : Int) ∧ w = wr) (fun _ s4 _ => l.length - (intOf s4).toNat)
  case atStart => exact ⟨0, Nat.zero_le _, rfl, rfl, rfl⟩
  case round =>
    obtain ⟨k, hk, rfl, rfl, rfl⟩ := hrel
    have h8 := H8.out
    by_cases hlt : k < l.length
    · obtain ⟨b, off, rfl, hc⟩ : ∃ b off, a = some ⟨b, off, none⟩ ∧ Cells w b off l := by
        rcases HS.out with h | h
        · rw [h] at hlt; simp at hlt
        · exact h
      have cx := hc k hlt
      have nx := numL_next l k hlt
      have lx := HL.out _ (List.getElem_mem hlt)
      have lt := numL_lt (l.take k) (fun c hc => HL.out c (List.mem_of_mem_take hc))
      have lt2 : numL (l.take k) < 72057594037927936 := by
        have e : (l.take k).length = k := by rw [List.length_take]; omega
        rw [e] at lt
        exact Nat.lt_of_lt_of_le lt (Nat.le_trans (Nat.pow_le_pow_right (by decide) (show k ≤ 7 by omega)) (by decide))
      have eo := or64 (numL (l.take k)) l[k] lt2 lx
      rw [← nx] at eo
      have hk8 : k < 8 := by omega
      clear nx lt hc h8
      generalize hN1 : numL (l.take (k + 1)) = N1 at *
      have HN1 := Lib.hid hN1
      clear hN1
      generalize numL (l.take k) = N0 at *
      generalize l[k] = X at *
      have w0 : IntKind.u64.wrap ((N0 : Int) * 256) = (N0 : Int) * 256 := by rw [IntKind.wrap_u64]; omega
      have w1 : IntKind.u64.wrap (X : Int) = (X : Int) := by rw [IntKind.wrap_u64]; omega
      go_wp2
      go_roundw
      case rel => exact ⟨k + 1, by omega, by go_num, by rw [HN1.out], trivial⟩
      case measure => simp [intOf]; omega
    · obtain rfl : k = l.length := by omega
      rw [List.take_length]
      go_wp2
      go_ret
      exact ⟨rfl, rfl⟩
theorem four_num (C : Nat) (h : C < 4294967296) : numL (fourL (C : Int)) = C := by
  simp only [numL, fourL, List.foldl]
  omega
theorem bigK (a : Option Addr) (n cap : Nat) (l : List Nat) (C : Nat) (w : World) (hn : n = l.length) (hC : C < 4294967296) (e : l = fourL (C : Int)) (hs : Sl w a l) :
    Calls Tryd.prog 23 #[.slice a n cap] w fun e w' => e = .returned (.int .u64 (C : Int)) ∧ w = w' := by
  have := bigC a n cap l w hn (by rw [e]; exact Nat.le_of_lt (by rw [fourL_len]; decide)) (by rw [e]; exact four_bytes _) hs
  rw [show numL l = C by rw [e]; exact four_num C hC] at this
  exact this
theorem dcrcK (a : Option Addr) (m cap : Nat) (l : List Nat) (r : Nat) (w : World) (hm : m = l.length) (hr : r = crc l) (hl : ∀ c ∈ l, c < 256) (hn : l.length ≤ 9223372036854775807) (hc : Sl w a l) :
    Calls Tryd.prog 22 #[.slice a m cap] w fun e w' => e = .returned (.int .u32 (r : Int)) ∧ w = w' := by
  subst hm hr; exact Ref2.rCrcC a cap l w hl hn hc

/-- what the canonical bytes of a record say of their list. -/
theorem back_facts {T : List Nat} (hT : ∀ c ∈ T, c < 256) (he : (decM T).e = 0) : 10 ≤ (decM T).n ∧ (decM T).n ≤ T.length ∧ (T.drop 2).take (6 - 2) = fourL ((crc ((T.drop 6).take ((decM T).n - 6)) : Nat) : Int) := by
  obtain ⟨h1, h2, h3⟩ := dec_back hT he
  have hl : (decM T).n = (recL (decM T).k (decM T).s (decM T).t (decM T).b).length := by rw [← h2, List.length_take]; omega
  have h10 : 10 ≤ (decM T).n := by
    have a := varL_pos (decM T).s
    have b := varL_pos (decM T).t
    have c := varL_pos (decM T).b.length
    rw [recL_len] at hl; omega
  refine ⟨h10, h1, ?_⟩
  have e1 : (T.drop 6).take ((decM T).n - 6) = restL (decM T).k (decM T).s (decM T).t (decM T).b := by
    rw [← List.drop_take, h2]; exact drop_at (X := [167, 92] ++ fourL _) rfl
  have e2 : (T.drop 2).take (6 - 2) = ((T.take (decM T).n).take 6).drop 2 := by rw [List.take_take, Nat.min_eq_left (by omega), List.drop_take]
  rw [e1, e2, h2]
  have e3 : (recL (decM T).k (decM T).s (decM T).t (decM T).b).take 6 = [167, 92] ++ fourL ((crc (restL (decM T).k (decM T).s (decM T).t (decM T).b) : Nat) : Int) := take_at rfl
  rw [e3]; rfl
/-- another byte: another record. -/
theorem turned {K s t i y : Nat} {l T : List Nat} (hm : mayR (K : Int) s t l.length = true) (hT : ∀ c ∈ T, c < 256) (hi : i < (recL K s t l).length) (hy : y ≠ (recL K s t l)[i]) (hset : T = (recL K s t l).set i y) (he : (decM T).e = 0) :
    sameR ((decM T).k : Int) (decM T).s (decM T).t (decM T).b (K : Int) s t l = false := by
  obtain ⟨h1, h2, h3⟩ := dec_back hT he
  rw [← rec_same h3 hm]
  refine decide_eq_false (fun h => ?_)
  rw [h] at h2
  have hl : T.length = (recL K s t l).length := by rw [hset, List.length_set]
  have hn : (decM T).n = T.length := by
    have := congrArg List.length h2
    rw [List.length_take, ← hl] at this; omega
  rw [hn, List.take_length] at h2
  have : T[i]'(by omega) = (recL K s t l)[i] := by simp [h2]
  have e : T[i]'(by omega) = y := by simp [hset]
  rw [e] at this
  exact hy this
theorem xor_ne {a x : Nat} (hx : x ≠ 0) : a ^^^ x ≠ a := by
  intro h
  apply hx
  have : a ^^^ (a ^^^ x) = a ^^^ a := by rw [h]
  rwa [← Nat.xor_assoc, Nat.xor_self, Nat.zero_xor] at this
theorem xor8 {a x : Nat} (ha : a < 256) (hx : x < 256) : bits .xor .u8 (a : Int) (x : Int) = ((a ^^^ x : Nat) : Int) ∧ a ^^^ x < 256 := ⟨u8_xor_nat a x ha hx, Nat.xor_lt_two_pow (n := 8) ha hx⟩
theorem rb_sl' {w : World} {base : Nat} {a : Option Addr} {n cap : Nat} {l : List Nat} (h : Rb w base (.slice a n cap) l) : Sl w a l := by
  obtain ⟨a', c', e, _, h2, _⟩ := rb_sl h
  injection e with e1 _ _
  rw [e1]; exact h2

end Go.Proofs.YtabgelmmjpjejaaDoor.Bg
