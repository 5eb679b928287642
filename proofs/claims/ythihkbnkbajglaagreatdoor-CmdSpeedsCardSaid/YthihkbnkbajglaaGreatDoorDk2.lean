/- Decks: contracts of stand, play, Tick, Pause, Play, Seek, Live. -/
import Derived.Test.YthihkbnkbajglaaGreatDoorDk
set_option linter.unusedVariables false
namespace Go.Proofs.YthihkbnkbajglaaGreatDoor.Dk2
open Go Go.RowKit Kit Nums Scale Scale2 CkMath CkC CkD CkE CkN OfA OfB Dk

def stand (d : Dck) (t x : Nat) : Dck := { d with place := x, c := stood d.c t x }
def playD (d : Dck) (now lo hi : Nat) : Dck :=
  { mode := if held (go d.c now).pos lo hi = hi then 0 else d.mode, place := held (go d.c now).pos lo hi, c := if held (go d.c now).pos lo hi = (go d.c now).pos then go d.c now else stood (go d.c now) now (held (go d.c now).pos lo hi) }
def tickD (d : Dck) (now lo hi : Nat) : Dck :=
  if ends now lo hi = false then d else if d.mode = 1 then (if d.place < lo then stand d now lo else d) else if d.mode = 2 then playD d now lo hi else d
def pauseE (now lo hi : Nat) : Int := if ends now lo hi = false then 1 else 0
def pauseD (d : Dck) (now lo hi : Nat) : Dck :=
  if ends now lo hi = false then d else
    { (if (if d.mode = 2 then tickD d now lo hi else d).mode = 0 then stand (if d.mode = 2 then tickD d now lo hi else d) now hi else (if d.mode = 2 then tickD d now lo hi else d)) with mode := 1 }
def playE (d : Dck) (now lo hi : Nat) : Int := if ends now lo hi = false then 1 else if d.mode = 0 then 13 else 0
def playBD (d : Dck) (now lo hi : Nat) : Dck := if ends now lo hi = false then d else if d.mode = 1 then { stand d now (held d.place lo hi) with mode := 2 } else d
def seekE (now lo hi time : Nat) : Int := if ends now lo hi = false then 1 else if time < lo then 12 else 0
def seekD (d : Dck) (now lo hi time : Nat) : Dck :=
  if ends now lo hi = false then d else if time < lo then d else { stand d now (min time hi) with mode := if d.mode = 0 then 1 else d.mode }
variable {w : World} {p q : Nat} {d : Dck}
/-- what is left of an operation that answers nothing. -/
def NoP (w : World) (p q : Nat) (g : Dck) (e : Ending) (w' : World) : Prop := e = .returned (.tuple #[]) ∧ Dl w' p q g ∧ Fr2 p q w w'
/-- and of one that answers an error. -/
def ErP (w : World) (p q : Nat) (x : Int) (g : Dck) (e : Ending) (w' : World) : Prop := e = .returned (.int .i64 x) ∧ Dl w' p q g ∧ Fr2 p q w w'
set_option maxRecDepth 100000 in
theorem standC (t x : Nat) (h : Dl w p q d) (ht : t ≤ mx) (hx : x ≤ mx) : Calls Tryz.prog 38 #[.pointer (some ⟨p, 0, none⟩), .int .u64 (t : Int), .int .u64 (x : Int)] w (NoP w p q (stand d t x)) := by
  have h1 := h.set1 x
  have c1 := h.c1
  have f1 := h.fz 1
  have c2 := h1.c2
  have HS := Lib.hid (setC q d.c t x _ h1.2)
  have HF : Hid (Fr2 p q w (w.setCell ⟨p, 1, none⟩ (.int .u64 (x : Int)))) := Lib.hid Fr2.set
  have H1 := Lib.hid h1
  have HT := Lib.hid (And.intro ht hx)
  clear h h1 ht hx
  generalize hw : w.setCell ⟨p, 1, none⟩ (.int .u64 (x : Int)) = w1 at *
  go_enter Tryz.func38, Tryz.ntmps38
  go_wp2_with fail
  refine HS.out.mono ?_
  rintro e w2 (⟨_, _, rfl, hc, hg⟩ | ⟨hno, _, _⟩)
  · go_wp2
    go_end0
    exact ⟨rfl, H1.out.clock hg hc, HF.out.trans (Fr2.of_q hg)⟩
  · exact absurd HT.out hno
set_option maxRecDepth 100000 in
set_option maxHeartbeats 2000000 in
theorem playC (now lo hi : Nat) (h : Dl w p q d) (hk : Dkk d) (ht : now ≤ mx) (hl : lo ≤ hi) (hh : hi ≤ mx) :
    Calls Tryz.prog 39 #[.pointer (some ⟨p, 0, none⟩), .int .u64 (now : Int), .int .u64 (lo : Int), .int .u64 (hi : Int)] w (NoP w p q (playD d now lo hi)) := by
  have hx : held (go d.c now).pos lo hi ≤ mx := by unfold held; omega
  have HG := Lib.hid (goC q d.c now w h.2 hk.c (by rw [mx_eq] at ht; omega))
  have HP := Lib.hid (show playD d now lo hi = { mode := if held (go d.c now).pos lo hi = hi then 0 else d.mode, place := held (go d.c now).pos lo hi, c := if held (go d.c now).pos lo hi = (go d.c now).pos then go d.c now else stood (go d.c now) now (held (go d.c now).pos lo hi) } from rfl)
  have c2 := h.c2
  have H := Lib.hid h
  have HT := Lib.hid ht
  generalize playD d now lo hi = R at *
  unfold GoP at HG
  generalize go d.c now = g at *
  have HH := Lib.hid (fun w => heldC g.pos lo hi w)
  generalize held g.pos lo hi = x at *
  have HX := Lib.hid hx
  clear h hk ht hl hh hx
  by_cases e1 : x = g.pos
  · have hne : ((x : Int) != (g.pos : Int)) = false := by rw [e1]; simp
    have E1 := Lib.hid e1
    clear e1
    by_cases e2 : x = hi
    · have heq : ((x : Int) == (hi : Int)) = true := by rw [e2]; simp
      have HR := Lib.hid (HP.out.trans (show _ = ({ mode := 0, place := x, c := g } : Dck) by rw [if_pos e2, if_pos E1.out]))
      clear HP e2
      go_enter Tryz.func39, Tryz.ntmps39
      go_wp2_with fail
      refine HG.out.mono ?_
      rintro e w1 ⟨rfl, hc, hg⟩
      have h1 := H.out.clock hg hc
      have h2 := h1.set1 x
      have h3 := h2.set0 0
      have k1 := h1.c1
      have f1 := h1.fz 1
      have k2 := h2.c1
      have k3 := h2.c0
      have f3 := h2.fz 0
      have HF := Lib.hid (((Fr2.of_q (p := p) hg).trans (Fr2.set (i := 1) (u := .int .u64 (x : Int)))).trans (Fr2.set (i := 0) (u := .int .i64 ((0 : Nat) : Int))))
      have H3 := Lib.hid h3
      clear h1 h2 h3 hc hg
      go_wp2_with fail
      refine (HH.out _).mono ?_
      rintro e w2 ⟨rfl, rfl⟩
      go_wp2
      go_end0
      exact ⟨rfl, by rw [HR.out]; exact H3.out, HF.out⟩
    · have heq : ((x : Int) == (hi : Int)) = false := by rw [beq_eq_false_iff_ne]; omega
      have HR := Lib.hid (HP.out.trans (show _ = ({ mode := d.mode, place := x, c := g } : Dck) by rw [if_neg e2, if_pos E1.out]))
      clear HP e2
      go_enter Tryz.func39, Tryz.ntmps39
      go_wp2_with fail
      refine HG.out.mono ?_
      rintro e w1 ⟨rfl, hc, hg⟩
      have h1 := H.out.clock hg hc
      have h2 := h1.set1 x
      have k1 := h1.c1
      have f1 := h1.fz 1
      have k2 := h2.c1
      have HF := Lib.hid ((Fr2.of_q (p := p) hg).trans (Fr2.set (i := 1) (u := .int .u64 (x : Int))))
      have H3 := Lib.hid h2
      clear h1 h2 hc hg
      go_wp2_with fail
      refine (HH.out _).mono ?_
      rintro e w2 ⟨rfl, rfl⟩
      go_wp2
      go_end0
      exact ⟨rfl, by rw [HR.out]; exact H3.out, HF.out⟩
  · have hne : ((x : Int) != (g.pos : Int)) = true := by simp; omega
    have E1 := Lib.hid e1
    clear e1
    by_cases e2 : x = hi
    · have heq : ((x : Int) == (hi : Int)) = true := by rw [e2]; simp
      have HR := Lib.hid (HP.out.trans (show _ = ({ mode := 0, place := x, c := stood g now x } : Dck) by rw [if_pos e2, if_neg E1.out]))
      clear HP e2
      go_enter Tryz.func39, Tryz.ntmps39
      go_wp2_with fail
      refine HG.out.mono ?_
      rintro e w1 ⟨rfl, hc, hg⟩
      have h1 := H.out.clock hg hc
      have h2 := h1.set1 x
      have k1 := h1.c1
      have f1 := h1.fz 1
      have k2 := h2.c1
      have HF := Lib.hid ((Fr2.of_q (p := p) hg).trans (Fr2.set (i := 1) (u := .int .u64 (x : Int))))
      have H2 := Lib.hid h2
      clear h1 h2 hc hg
      go_wp2_with fail
      refine (HH.out _).mono ?_
      rintro e w2 ⟨rfl, rfl⟩
      go_wp2_with fail
      refine (standC now x H2.out HT.out HX.out).mono ?_
      rintro e w3 ⟨rfl, h4, hf4⟩
      have h5 := h4.set0 0
      have j1 : w3.cell? ⟨p, 1, none⟩ = some (.int .u64 (x : Int)) := h4.c1
      have j0 := h4.c0
      have jf := h4.fz 0
      have H5 := Lib.hid h5
      have HF5 := Lib.hid ((HF.out.trans hf4).trans (Fr2.set (i := 0) (u := .int .i64 ((0 : Nat) : Int))))
      clear h4 h5 hf4 k1 k2 f1
      go_wp2
      go_end0
      exact ⟨rfl, by rw [HR.out]; exact H5.out, HF5.out⟩
    · have heq : ((x : Int) == (hi : Int)) = false := by rw [beq_eq_false_iff_ne]; omega
      have HR := Lib.hid (HP.out.trans (show _ = ({ mode := d.mode, place := x, c := stood g now x } : Dck) by rw [if_neg e2, if_neg E1.out]))
      clear HP e2
      go_enter Tryz.func39, Tryz.ntmps39
      go_wp2_with fail
      refine HG.out.mono ?_
      rintro e w1 ⟨rfl, hc, hg⟩
      have h1 := H.out.clock hg hc
      have h2 := h1.set1 x
      have k1 := h1.c1
      have f1 := h1.fz 1
      have k2 := h2.c1
      have HF := Lib.hid ((Fr2.of_q (p := p) hg).trans (Fr2.set (i := 1) (u := .int .u64 (x : Int))))
      have H2 := Lib.hid h2
      clear h1 h2 hc hg
      go_wp2_with fail
      refine (HH.out _).mono ?_
      rintro e w2 ⟨rfl, rfl⟩
      go_wp2_with fail
      refine (standC now x H2.out HT.out HX.out).mono ?_
      rintro e w3 ⟨rfl, h4, hf4⟩
      have j1 : w3.cell? ⟨p, 1, none⟩ = some (.int .u64 (x : Int)) := h4.c1
      have H5 := Lib.hid h4
      have HF5 := Lib.hid (HF.out.trans hf4)
      clear h4 hf4 k1 k2 f1
      go_wp2
      go_end0
      exact ⟨rfl, by rw [HR.out]; exact H5.out, HF5.out⟩
end Go.Proofs.YthihkbnkbajglaaGreatDoor.Dk2
