/- Gather.Put, of a part; what the chapter's examples fix. -/
import Derived.Test.YtellhkcleicfbaaFj
set_option linter.unusedVariables false
namespace Go.Proofs.Ytellhkcleicfbaa.Fk
open Go Go.RowKit Go.MapKept Kit Crc Var Get Bytes WireFirst Ref3 Copy Ap Rd RdA RdB RdC RdD RdE Fr Fa Sb Fb Fc Fd Fe Ff Fg Fh Fi Fj

theorem sl_some {w : World} {a : Option Addr} {l : List Nat} (h : Sl w a l) (hl : l ≠ []) : a = none → False := by
  intro e
  rcases h with h | ⟨b, off, h, _⟩
  · exact hl h
  · rw [e] at h; cases h
theorem part_ne (id pl cn : Nat) (body : List Nat) : partL id pl cn body ≠ [] := by
  intro h
  have := congrArg List.length h
  have h1 := varL_pos id
  simp only [partL, List.length_append, List.length_nil] at this
  omega
theorem gm_lo {w : World} {lo p id cnt : Nat} {m : Option Nat} {E : List (Nat × Part)} (h : GM w lo p id cnt m E) : ∀ b, m = some b → lo ≤ b := by
  intro b e
  rcases h.map with ⟨h1, _⟩ | ⟨b', h1, h2, _⟩
  · rw [h1] at e; cases e
  · rw [h1] at e; injection e with e; subst e; exact h2
/-- what Put answers to a part. -/
def PutR2 (lo p : Nat) (r : PS × Bool × Int × List Nat) (w : World) (e : Ending) (w' : World) : Prop :=
  ∃ m' E' va vc, e = .returned (.tuple #[.slice va r.2.2.2.length vc, .bool r.2.1, .int .i64 r.2.2.1]) ∧ Sl w' va r.2.2.2 ∧ GM w' lo p r.1.id r.1.cnt m' E' ∧ pairs E' = r.1.l ∧ (∀ W, Below lo W w → Below lo W w') ∧ w.heap.size ≤ w'.heap.size
theorem putOk (lo p : Nat) (s : PS) (m : Option Nat) (E : List (Nat × Part)) (a : Option Addr) (n cap : Nat) (w : World) (h : GM w lo p s.id s.cnt m E) (hE : pairs E = s.l) (id pl cn : Nat) (body : List Nat) (hok : PartOk id pl cn body) (hn : n = (partL id pl cn body).length) (h8 : ∀ c ∈ body, c < 256) (hs : Sl w a (partL id pl cn body)) (hlo : lo ≤ w.heap.size) (hl : s.l.length ≤ 3000) :
    Calls Try.prog 12 #[.pointer (some ⟨p, 0, none⟩), .slice a n cap] w (PutR2 lo p (stepP s id pl cn body) w) := by
  have hlen : (partL id pl cn body).length ≤ 1000000 := by
    have h1 : (varL id).length ≤ 10 := varL_ten (by have := hok.2.1; omega)
    have h2 : (varL pl).length ≤ 10 := varL_ten (by have := hok.2.2; omega)
    have h3 : (varL cn).length ≤ 10 := varL_ten (by have := hok.2.2; omega)
    have h4 := hok.2.2.2.2.1
    simp only [partL, List.length_append]
    omega
  refine (putC lo p s.id s.cnt m E a n cap _ w h hn hlen (part_byte h8) hs (fun e => (sl_some hs (part_ne _ _ _ _) e).elim) hlo (by rw [← pairs_len, hE]; exact hl)).mono fun e w' hq => ?_
  rw [hE] at hq
  rcases hq with ⟨id', pl', cn', body', k1, k2, m', E', v, he, hg, hp, hf, hr⟩ | ⟨k1, _⟩
  · obtain ⟨rfl, rfl, rfl, rfl⟩ := part_inj hok.2.1 (by have := hok.2.2; omega) hok.2.2.2.1 k2.2.1 (by have := k2.2.2; omega) k2.2.2.2.1 k1
    obtain ⟨va, vc, rfl, _, hsl, _, _⟩ := rb_sl hr
    exact ⟨m', E', va, vc, he, hsl, hg, hp, fun W hW => hf.below h.plo (gm_lo h) hW hlo, hf.size⟩
  · exact absurd ⟨id, pl, cn, body, rfl, hok⟩ k1
theorem part_one : partL 1 0 1 [] = [1, 0, 1] := by
  unfold partL
  rw [varL_small (n := 1) (by omega), varL_small (n := 0) (by omega)]
  rfl
theorem cut_one : cutP 1 [] 0 = [1, 0, 1] := by
  unfold cutP chunk
  exact part_one
theorem ok_one : PartOk 1 0 1 [] := by unfold PartOk; decide
theorem sl_lit1 {w : World} {l : List Nat} {C : Array Value} (hC : C = (cellsOf l).toArray) : Sl (w.alloc (.cells C 5)) (some ⟨w.heap.size, 0, none⟩) l := .inr ⟨_, 0, rfl, by subst hC; exact cells_new w l⟩
set_option maxRecDepth 100000 in
set_option maxHeartbeats 4000000 in
/-- what the chapter's examples fix. -/
theorem firstF (w : World) : Calls Try.prog 7 #[] w fun e w' => e = .returned (.bool true) ∧ Below w.heap.size w w' := by
  have H8 := Lib.hid (show Calls Try.prog 8 #[.int .u64 1, .slice none 0 0] w (CutQ (cutP 1 []) 1 w) from cutX 1 none 0 0 [] w rfl (by omega) ⟨.inl rfl, (fun _ => rfl), Nat.le_refl _, (fun c hc => by cases hc)⟩ ⟨by omega, by omega⟩ 1 rfl)
  go_enter Try.func7, Try.ntmps7
  go_wp2_with fail
  refine H8.out.mono ?_
  rintro e w1 ⟨la, lc, A, C, rfl, hlc, hd, hb⟩
  obtain ⟨gl, rfl, hgl, hc0⟩ := hd.cell 0 (Nat.zero_lt_one)
  have hs0 := hd.bytes 0 (Nat.zero_lt_one)
  rw [cut_one] at hs0 hc0
  generalize A 0 = ad at *
  generalize C 0 = cd at *
  have HB1 := Lib.hid hb
  have HC1 := Lib.hid hc0
  have HS1 := Lib.hid hs0
  have HN := Lib.hid (newG w1)
  obtain ⟨p, hp⟩ : ∃ p, p = w1.heap.size := ⟨_, rfl⟩
  rw [← hp] at HN
  have HPP := Lib.hid hp
  have HP1 := Lib.hid (fun V (m : Option Nat) (E : List (Nat × Part)) (hg : GM V p p 0 0 m E) (hE : pairs E = []) (hb : Below p w1 V) => (show Calls Try.prog 12 #[.pointer (some ⟨p, 0, none⟩), .slice ad 3 cd] V (PutR2 p p (⟨1, 1, [(0, [])]⟩, true, 0, []) V) from
    putOk p p ⟨0, 0, []⟩ m E ad 3 cd V hg hE 1 0 1 [] ok_one (by rw [part_one]; rfl) (fun c hc => by cases hc) (by rw [part_one]; exact sl_then hb (Nat.le_of_eq hp.symm) HS1.out) (by rw [hp]; exact Nat.le_trans (Nat.le_refl _) (by rw [hp] at hb; exact hb.size)) (by simp)))
  have HP2 := Lib.hid (fun V (m : Option Nat) (E : List (Nat × Part)) (hg : GM V p p 1 1 m E) (hE : pairs E = [(0, [])]) (hb : Below p w1 V) => (show Calls Try.prog 12 #[.pointer (some ⟨p, 0, none⟩), .slice ad 3 cd] V (PutR2 p p (⟨1, 1, [(0, [])]⟩, false, 0, []) V) from
    putOk p p ⟨1, 1, [(0, [])]⟩ m E ad 3 cd V hg hE 1 0 1 [] ok_one (by rw [part_one]; rfl) (fun c hc => by cases hc) (by rw [part_one]; exact sl_then hb (Nat.le_of_eq hp.symm) HS1.out) (by rw [hp]; exact Nat.le_trans (Nat.le_refl _) (by rw [hp] at hb; exact hb.size)) (by simp)))
  have HBY := Lib.hid (fun V a2 (h1 : Below p w1 V) (h2 : Sl V a2 [1, 0, 1]) => (show Calls Try.prog 11 #[.slice ad 3 cd, .slice a2 3 3] V fun e w' => e = .returned (.bool true) ∧ V = w' from bytesC ad a2 cd 3 [1, 0, 1] [1, 0, 1] V (sl_then h1 (Nat.le_of_eq hp.symm) HS1.out) h2 (by decide) (by decide)))
  have HCU := Lib.hid (fun V => cutId 0 none 0 0 V (.inl rfl))
  have HLC := Lib.hid hlc
  clear hd hs0 hb hp hgl
  go_wp2_with (first
    | (go_at_call 10; (with_reducible refine HN.out.mono ?_); rintro e w2 ⟨rfl, hg, hb⟩; have HG2 := Lib.hid (hg.then_ (below_one w2 (.cells #[.int .u8 1, .int .u8 0, .int .u8 1] 5))); have HB2 := Lib.hid (show Below p w1 (w2.alloc (.cells #[.int .u8 1, .int .u8 0, .int .u8 1] 5)) from below_then hb (below_one w2 _) (by rw [HPP.out] at hb ⊢; exact hb.size)); have hc2 := cell_then hb (Nat.le_of_eq HPP.out.symm) HC1.out; clear hb hg)
    | (go_at_call 11; (with_reducible refine (HBY.out _ _ HB2.out (sl_lit1 rfl)).mono ?_); rintro e w3 ⟨rfl, rfl⟩; have hc3 := cell_then HB2.out (Nat.le_of_eq HPP.out.symm) HC1.out)
    | (go_at_call 12; (with_reducible refine (HP1.out _ _ _ HG2.out rfl HB2.out).mono ?_); rintro e w4 ⟨m4, E4, va, vc, rfl, _, hg, hE, hb, hz⟩; have HG4 := Lib.hid hg; have HE4 := Lib.hid hE; have HB4 := Lib.hid (hb _ HB2.out); have hc4 := cell_then HB4.out (Nat.le_of_eq HPP.out.symm) HC1.out; clear hg hE hb hz hc3 hc2)
    | (go_at_call 12; (with_reducible refine (HP2.out _ _ _ HG4.out HE4.out HB4.out).mono ?_); rintro e w5 ⟨m5, E5, vb, vd, rfl, _, hg, hE, hb, hz⟩; have HG5 := Lib.hid hg; have HE5 := Lib.hid (show E5.length = 1 by rw [← pairs_len, hE]; rfl); have HB5 := Lib.hid (hb _ HB4.out); clear hg hE hb hz hc4)
    | (go_at_call 8; (with_reducible refine (HCU.out _).mono ?_); rintro e w' ⟨rfl, rfl⟩)
    | (go_at_call 14; (with_reducible refine (idC p p 1 1 m5 E5 _ HG5.out).mono ?_); rintro e w' ⟨rfl, rfl⟩)
    | (go_at_call 15; (with_reducible refine (haveC p p 1 1 m5 E5 _ HG5.out).mono ?_); rintro e w' ⟨rfl, rfl⟩; rw [HE5.out]))
  go_ret
  exact ⟨rfl, below_then HB1.out (by rw [← HPP.out]; exact HB5.out) HB1.out.size⟩
end Go.Proofs.Ytellhkcleicfbaa.Fk
