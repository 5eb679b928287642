/- Screens that came in, and the calls on them: Encode, May, Same, Decode, in the forms that the laws want. -/
import Derived.Test.YtfogbokifbjjlaaOf
import Derived.Test.YtfogbokifbjjlaaSe
import Derived.Test.YtfogbokifbjjlaaLf
import Derived.Test.YtfogbokifbjjlaaSp
set_option linter.unusedVariables false
namespace Go.Proofs.Ytfogbokifbjjlaa.Pb
open Go Go.RowKit Kit Gm Gv Crc Var Get Bytes WireFirst Ref3 Copy Ap Sa Sb Sd Rd La Lb Lc Ld Oe Of Na Nb Ti Tk

/-- cells that came in. -/
structure ScA (w : World) (a : Option Addr) (n cap : Nat) (L : List Ce) : Prop where
  len : n = L.length
  cap : n ≤ cap
  sc : n = 0 ∨ ∃ b off, a = some ⟨b, off, none⟩ ∧ Sc w b off L
theorem ScA.then_ {w w1 : World} {B n cap : Nat} {a : Option Addr} {L : List Ce} (h : ScA w a n cap L) (hb : Below B w w1) (hB : w.heap.size ≤ B) : ScA w1 a n cap L :=
  ⟨h.len, h.cap, h.sc.imp id fun ⟨b, off, h1, h2⟩ => ⟨b, off, h1, h2.then_ hb hB⟩⟩
theorem sca_some {w : World} {n cap : Nat} {a : Option Addr} {s : Scr} {L : List Ce} (h : ScA w a n cap L) (hm : MayS s L) : ∃ b off, a = some ⟨b, off, none⟩ := by
  rcases h.sc with h0 | ⟨b, off, h1, _⟩
  · have := hm.len; have := h.len; omega
  · exact ⟨b, off, h1⟩
theorem sca_sc {w : World} {n cap b off : Nat} {s : Scr} {L : List Ce} (h : ScA w (some ⟨b, off, none⟩) n cap L) (hm : MayS s L) : Sc w b off L := by
  rcases h.sc with h0 | ⟨b', off', h1, h2⟩
  · have := hm.len; have := h.len; omega
  · injection h1 with h1; injection h1 with h1 h3; subst h1 h3; exact h2
theorem sca_rb {w : World} {g : Nat} {L : List Ce} (h : RB w g L) : ScA w (some ⟨g, 0, none⟩) L.length L.length L := ⟨rfl, Nat.le_refl _, .inr ⟨g, 0, rfl, Oe.rb_sc h⟩⟩
theorem rbT {w w1 : World} {g : Nat} {L : List Ce} (hb : Below w.heap.size w w1) (h : RB w g L) : RB w1 g L := h.then_ hb (Nat.le_refl _)
theorem below_next2 {w w1 w2 : World} (h : Below w.heap.size w w1) (hb : Below w1.heap.size w1 w2) : Below w.heap.size w w2 := below_then h hb h.size
theorem few_yes (s : Scr) (a : Option Addr) (n cap : Nat) (h : n ≤ 3000 ∧ s.ti.size ≤ 3000) (w : World) : Calls Try.prog 13 #[svA s a n cap] w fun e w' => e = .returned (.bool true) ∧ Below w.heap.size w w' :=
  (fewC s a n cap w).mono fun e w' hq => ⟨by rw [hq.1, decide_eq_true h], hq.2⟩
theorem mayYesA (s : Scr) (a : Option Addr) (n cap : Nat) (L : List Ce) (w : World) (h : ScA w a n cap L) (hf : n ≤ 1000000 ∧ s.ti.size ≤ 1000000) (hm : MayS s L) : Calls Try.prog 28 #[svA s a n cap] w fun e w' => e = .returned (.bool true) ∧ Below w.heap.size w w' :=
  (mayC s a n cap L w h.len (by omega) (by omega) h.sc).mono fun e w' hq => may_yes hq hm
theorem mayNoA (s : Scr) (a : Option Addr) (n cap : Nat) (L : List Ce) (w : World) (h : ScA w a n cap L) (hf : n ≤ 1000000 ∧ s.ti.size ≤ 1000000) (hm : ¬ MayS s L) : Calls Try.prog 28 #[svA s a n cap] w fun e w' => e = .returned (.bool false) ∧ Below w.heap.size w w' :=
  (mayC s a n cap L w h.len (by omega) (by omega) h.sc).mono fun e w' hq => may_not hq hm
theorem encNoA (s : Scr) (a : Option Addr) (n cap : Nat) (L : List Ce) (w : World) (h : ScA w a n cap L) (hf : n ≤ 1000000 ∧ s.ti.size ≤ 1000000) (hm : ¬ MayS s L) : Calls Try.prog 14 #[svA s a n cap] w fun e w' => e = .returned (.tuple #[.slice none 0 0, .int .i64 1]) ∧ Below w.heap.size w w' :=
  encNo s a n cap w fun w1 hb => mayNoA s a n cap L w1 (h.then_ hb (Nat.le_refl _)) hf hm
theorem encYesA (s : Scr) (a : Option Addr) (n cap : Nat) (L : List Ce) (w : World) (h : ScA w a n cap L) (hf : n ≤ 1000000 ∧ s.ti.size ≤ 1000000) (hm : MayS s L) :
    Calls Try.prog 14 #[svA s a n cap] w fun e w' => ∃ b off c, e = .returned (.tuple #[.slice (some ⟨b, off, none⟩) (encL s L).length c, .int .i64 0]) ∧ (encL s L).length ≤ c ∧ Sl w' (some ⟨b, off, none⟩) (encL s L) ∧ Below w.heap.size w w' :=
  (encYes s a n cap L w (fun w1 hb => mayYesA s a n cap L w1 (h.then_ hb (Nat.le_refl _)) hf hm) h.len (by have := hm.len; have := h.len; omega) (by have := titleB_le hm.2.2.2.1; omega) (h.sc.imp id fun ⟨b, off, h1, h2⟩ => ⟨h.cap, b, off, h1, h2⟩)).mono fun e w' ⟨v, h1, h2, h3⟩ => by
    obtain ⟨a, c, rfl, h4, h5, h6, h7⟩ := rb_sl h2
    have h7 := enc_len s L hm
    rcases h5 with h5 | ⟨b, off, rfl, h5⟩
    · rw [h5] at h7; simp at h7
    · exact ⟨b, off, c, h1, h4, .inr ⟨b, off, rfl, h5⟩, h3⟩
theorem enc_small (s : Scr) (L : List Ce) (h : MayS s L) : (encL s L).length ≤ 1000000 := by
  obtain ⟨h1, h2⟩ := h.len
  have h3 := cellsB_len L.length L (Nat.le_refl _) (by omega)
  have h4 := titleB_le h.2.2.2.1
  have a1 := var_le s.R; have a2 := var_le s.C; have a3 := var_le s.row; have a4 := var_le s.col; have a5 := var_le (numB s.hid); have a6 := var_le (s.ti.size : Int)
  have e := congrArg List.length (six_enc s L)
  have b := byL_len s.ti
  simp only [List.length_append] at e
  omega
theorem enc_iff (s t : Scr) (L M : List Ce) (h : MayS s L) (k : MayS t M) : encL s L = encL t M ↔ (s = t ∧ L = M) := by
  constructor
  · intro e
    obtain ⟨a, b, _⟩ := enc_one s t L M h k [] [] (by rw [e])
    exact ⟨a, b⟩
  · rintro ⟨rfl, rfl⟩; rfl
theorem no_cut (s : Scr) (L : List Ce) (h : MayS s L) (k : Nat) (hk : k < (encL s L).length) : ¬ ∃ t M, EncS ((encL s L).take k) t M := by
  rintro ⟨t, M, h1, h2⟩
  obtain ⟨_, _, e3⟩ := enc_one s t L M h h1 [] ((encL s L).drop k) (by rw [← h2, List.append_nil, List.take_append_drop])
  have := congrArg List.length e3
  rw [List.length_drop] at this
  simp at this; omega
theorem sl_take {w : World} {a : Option Addr} {l : List Nat} (h : Sl w a l) (k : Nat) : Sl w a (l.take k) := by
  rcases h with rfl | ⟨b, off, h1, h2⟩
  · exact .inl (by simp)
  · refine .inr ⟨b, off, h1, fun i hi => ?_⟩
    rw [List.length_take] at hi
    rw [List.getElem_take]; exact h2 i (by omega)
theorem few_of {l : List Nat} {u : Scr} {L : List Ce} (h : EncS l u L) : L.length ≤ 1000000 ∧ u.ti.size ≤ 1000000 := ⟨by have := h.1.len; omega, by have := titleB_le h.1.2.2.2.1; omega⟩
theorem few_up {n k : Nat} (h : n ≤ 3000 ∧ k ≤ 3000) : n ≤ 1000000 ∧ k ≤ 1000000 := ⟨by omega, by omega⟩
theorem same_self (s : Scr) (b1 b2 o2 n1 n2 c1 c2 : Nat) (L : List Ce) (w : World) (e1 : n1 = L.length) (e2 : n2 = L.length) (h1 : Sc w b1 0 L) (h2 : Sc w b2 o2 L) (m1 : n1 ≤ 1000000) :
    Calls Try.prog 29 #[svA s (some ⟨b1, 0, none⟩) n1 c1, svA s (some ⟨b2, o2, none⟩) n2 c2] w fun e w' => e = .returned (.bool true) ∧ Below w.heap.size w w' :=
  (Se.sameC s s b1 0 b2 o2 n1 n2 c1 c2 L L w e1 e2 h1 h2 m1).mono fun e w' ⟨⟨r, h3, h4⟩, h5⟩ => ⟨by rw [h3, h4.2 ⟨rfl, rfl⟩], h5⟩
theorem same_dec (s t : Scr) (b1 o1 b2 o2 n1 n2 c1 c2 : Nat) (L M : List Ce) (X Y : List Nat) (w : World) (e1 : n1 = L.length) (e2 : n2 = M.length) (h1 : Sc w b1 o1 L) (h2 : Sc w b2 o2 M) (m1 : n1 ≤ 1000000) (hx : X = Y ↔ (s = t ∧ L = M)) :
    Calls Try.prog 29 #[svA s (some ⟨b1, o1, none⟩) n1 c1, svA t (some ⟨b2, o2, none⟩) n2 c2] w fun e w' => e = .returned (.bool (decide (X = Y))) ∧ Below w.heap.size w w' :=
  (Se.sameC s t b1 o1 b2 o2 n1 n2 c1 c2 L M w e1 e2 h1 h2 m1).mono fun e w' ⟨⟨r, h3, h4⟩, h5⟩ => ⟨by
    rw [h3]; congr 2
    cases r
    · symm; rw [decide_eq_false_iff_not, hx]; intro h; cases h4.2 h
    · symm; rw [decide_eq_true_iff, hx]; exact h4.1 rfl, h5⟩
theorem dec_self (a : Option Addr) (n cap : Nat) (l : List Nat) (w : World) (hn : n = l.length) (hm : l.length ≤ 1000000) (h8 : ∀ c ∈ l, c < 256) (hs : Sl w a l) (h0 : a = none → cap = 0) {s : Scr} {L : List Ce} (he : EncS l s L) :
    Calls Try.prog 19 #[.slice a n cap] w fun e w' => ∃ g, e = .returned (.tuple #[svA s (some ⟨g, 0, none⟩) L.length L.length, .int .i64 0]) ∧ RB w' g L ∧ Below w.heap.size w w' :=
  (decC a n cap l w hn hm h8 hs h0).mono fun e w' hq => by
    rcases hq with ⟨t, M, g, h1, h2, h3, h4, h5⟩ | ⟨h1, _⟩
    · obtain ⟨rfl, rfl⟩ := encS_one h1 he
      exact ⟨g, h2, h4, h5⟩
    · exact absurd ⟨s, L, he⟩ h1
theorem dec_none (a : Option Addr) (n cap : Nat) (l : List Nat) (w : World) (hn : n = l.length) (hm : l.length ≤ 1000000) (h8 : ∀ c ∈ l, c < 256) (hs : Sl w a l) (h0 : a = none → cap = 0) (he : ¬ ∃ s L, EncS l s L) :
    Calls Try.prog 19 #[.slice a n cap] w fun e w' => e = .returned (.tuple #[svA ⟨0, 0, 0, 0, false, ⟨#[]⟩⟩ none 0 0, .int .i64 2]) ∧ Below w.heap.size w w' :=
  (decC a n cap l w hn hm h8 hs h0).mono fun e w' hq => by
    rcases hq with ⟨t, M, g, h1, _⟩ | ⟨_, h2, h3⟩
    · exact absurd ⟨t, M, h1⟩ he
    · exact ⟨h2, h3⟩
theorem bytes_dec (a1 a2 : Option Addr) (n1 n2 c1 c2 : Nat) (X Y : List Nat) (w : World) (e1 : n1 = X.length) (e2 : n2 = Y.length) (h1 : Sl w a1 X) (h2 : Sl w a2 Y) (m1 : ∀ c ∈ X, c < 256) (m2 : ∀ c ∈ Y, c < 256) :
    Calls Try.prog 16 #[.slice a1 n1 c1, .slice a2 n2 c2] w fun e w' => e = .returned (.bool (decide (X = Y))) ∧ w = w' := by
  subst e1 e2; exact bytesC a1 a2 c1 c2 X Y w h1 h2 m1 m2
theorem bytes_yes (a1 a2 : Option Addr) (n1 n2 c1 c2 : Nat) (X : List Nat) (w : World) (e1 : n1 = X.length) (e2 : n2 = X.length) (h1 : Sl w a1 X) (h2 : Sl w a2 X) (m1 : ∀ c ∈ X, c < 256) :
    Calls Try.prog 16 #[.slice a1 n1 c1, .slice a2 n2 c2] w fun e w' => e = .returned (.bool true) ∧ w = w' :=
  (bytes_dec a1 a2 n1 n2 c1 c2 X X w e1 e2 h1 h2 m1 m1).mono fun e w' hq => ⟨by rw [hq.1, decide_eq_true rfl], hq.2⟩
end Go.Proofs.Ytfogbokifbjjlaa.Pb
