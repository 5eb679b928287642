/- A number of bytes, a segment's beginning. -/
import Derived.Test.YtabgelmmjpjejaaDoorHd
set_option linter.unusedVariables false
namespace Go.Proofs.YtabgelmmjpjejaaDoor.Sn
open Go Go.RowKit Kit Crc Var Get Ref3 Copy Bytes Bx Py Py2 Ry Rz Dn Df Dd Da Dc Rs Rf Rg Ar Bg Hd


set_option maxRecDepth 100000 in
/-- the number of bytes. -/
theorem numC (a : Option Addr) (n cap : Nat) (l : List Nat) (w : World) (hn : n = l.length) (h8 : l.length ≤ 8) (hl : ∀ c ∈ l, c < 256) (hs : Sl w a l) :
    Calls Tryd.prog 60 #[.slice a n cap] w fun e w' => e = .returned (.int .u64 ((numL l : Nat) : Int)) ∧ w = w' := by
  subst hn
  have HS := Lib.hid hs
  have HL := Lib.hid hl
  have H8 := Lib.hid h8
  clear hs hl h8
  go_enter Tryd.func60, Tryd.ntmps60
  go_wp2
  go_loopw [3, 8] (fun s3 s8 wr => ∃ k : Nat, k ≤ l.length ∧ s8 = .int .i64 (k : Int) ∧ s3 = .int .u64 ((numL (l.take k) : Nat) : Int) ∧ w = wr) (fun _ s8 _ => l.length - (intOf s8).toNat)
  case atStart => exact ⟨0, Nat.zero_le _, rfl, rfl, rfl⟩
  case round =>
    obtain ⟨k, hk, rfl, rfl, rfl⟩ := hrel
    have h8 := H8.out
    by_cases hlt : k < l.length
    · obtain ⟨b, off, rfl, hc⟩ : ∃ b off, a = some ⟨b, off, none⟩ ∧ Cells w b off l := by
        rcases HS.out with h | h
        · rw [h] at hlt; simp at hlt
        · exact h
      have cx := hc k hlt
      have nx := numL_next l k hlt
      have lx := HL.out _ (List.getElem_mem hlt)
      have lt := numL_lt (l.take k) (fun c hc => HL.out c (List.mem_of_mem_take hc))
      have lt2 : numL (l.take k) < 72057594037927936 := by
        have e : (l.take k).length = k := by rw [List.length_take]; omega
        rw [e] at lt
        exact Nat.lt_of_lt_of_le lt (Nat.le_trans (Nat.pow_le_pow_right (by decide) (show k ≤ 7 by omega)) (by decide))
      have eo := or64 (numL (l.take k)) l[k] lt2 lx
      rw [← nx] at eo
      have hk8 : k < 8 := by omega
      clear nx lt hc h8
      generalize hN1 : numL (l.take (k + 1)) = N1 at *
      have HN1 := Lib.hid hN1
      clear hN1
      generalize numL (l.take k) = N0 at *
      generalize l[k] = X at *
      have w0 : IntKind.u64.wrap ((N0 : Int) * 256) = (N0 : Int) * 256 := by rw [IntKind.wrap_u64]; omega
      have w1 : IntKind.u64.wrap (X : Int) = (X : Int) := by rw [IntKind.wrap_u64]; omega
      go_wp2
      go_roundw
      case rel => exact ⟨k + 1, by omega, by go_num, by rw [HN1.out], trivial⟩
      case measure => simp [intOf]; omega
    · obtain rfl : k = l.length := by omega
      rw [List.take_length]
      go_wp2
      go_ret
      exact ⟨rfl, rfl⟩

def hdOk (n f : Nat) : Prop := 1 ≤ n ∧ n ≤ 999999 ∧ 1 ≤ f ∧ f ≤ 4611686018427387904
instance (n f : Nat) : Decidable (hdOk n f) := inferInstanceAs (Decidable (_ ∧ _))
def hdX (n f : Nat) : List Nat := if hdOk n f then hdL n f else []
def hdE (n f : Nat) : Nat := if hdOk n f then 0 else 1
theorem headK (n f : Nat) (X : List Nat) (E : Nat) (w : World) (hX : X = hdX n f) (hE : E = hdE n f) (hT : TabC w) : Calls Tryd.prog 27 #[.agg #[.int .i64 (n : Int), .int .u64 (f : Int)]] w (EnP X E w) := by
  subst hX hE
  unfold hdX hdE
  by_cases h : hdOk n f
  · rw [if_pos h, if_pos h]; obtain ⟨h1, h2, h3, h4⟩ := h
    exact headYes n f w h1 h2 h3 h4 hT
  · rw [if_neg h, if_neg h]
    refine (headNo (n : Int) f w (by unfold hdOk at h; omega)).mono ?_
    rintro e w' ⟨rfl, b⟩
    exact ⟨none, 0, rfl, .inl rfl, fun _ => rfl, Nat.le_refl _, (fun x hx => by cases hx), b⟩
/-- four, or eight, of the bytes. -/
theorem numQ (b off s k c : Nat) (l m : List Nat) (V : Nat) (w : World) (hm : m = (l.drop s).take k) (hk0 : 0 < k) (hk : k ≤ 8) (hl : s + k ≤ l.length) (hlt : ∀ c ∈ l, c < 256) (hV : V = numL m) (hs : Sl w (some ⟨b, off, none⟩) l) :
    Calls Tryd.prog 60 #[.slice (some ⟨b, off + s, none⟩) k c] w fun e w' => e = .returned (.int .u64 (V : Int)) ∧ w = w' := by
  have e : m.length = k := by rw [hm, List.length_take, List.length_drop]; omega
  subst hV
  refine numC _ k c m w e.symm (by omega) ?_ ?_
  · rw [hm]; exact fun c hc => hlt c (List.mem_of_mem_drop (List.mem_of_mem_take hc))
  · obtain ⟨b', o', e1, hc⟩ := sl_at (hs) (by omega)
    injection e1 with e1; injection e1 with e2 e3 e4; subst e2 e3
    rw [hm]
    refine .inr ⟨_, _, rfl, fun i hi => ?_⟩
    have hi' : i < k := by rw [List.length_take, List.length_drop] at hi; omega
    have := hc (s + i) (by omega)
    rw [Nat.add_assoc, this]; simp

end Go.Proofs.YtabgelmmjpjejaaDoor.Sn
