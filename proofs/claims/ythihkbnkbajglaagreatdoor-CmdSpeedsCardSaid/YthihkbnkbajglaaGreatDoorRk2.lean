/- The document's deck: contracts of may, stand, Live, Seek. -/
import Derived.Test.YthihkbnkbajglaaGreatDoorRk
set_option linter.unusedVariables false
namespace Go.Proofs.YthihkbnkbajglaaGreatDoor.Rk2
open Go Go.RowKit Kit Nums Rate1 Scale Scale2 RSc CkMath CkC CkD CkE OfA OfB Dk Dk2 Dk3 Dk4 Rk

/-- the document's deck at p. -/
def Dq (w : World) (p : Nat) (d : Dck) : Prop := Cq (d.mode, d.place) w p d.c
variable {w w' : World} {p : Nat} {d : Dck}
theorem Dq.lt (h : Dq w p d) : p < w.heap.size := Cq.lt h
theorem Dq.c0 (h : Dq w p d) : w.cell? ⟨p, 0, none⟩ = some (.int .i64 (d.mode : Int)) := Cq.m0 h
theorem Dq.c1 (h : Dq w p d) : w.cell? ⟨p, 1, none⟩ = some (.int .u64 (d.place : Int)) := Cq.m1 h
theorem Dq.fz (h : Dq w p d) (i : Nat) : w.frozen? ⟨p, i, none⟩ = false := Cq.fz h i
theorem Dq.then_ (h : Dq w p d) (hb : Below w.heap.size w w') : Dq w' p d := Cq.then_ h hb
theorem Dq.set0 (h : Dq w p d) (v : Nat) : Dq (w.setCell ⟨p, 0, none⟩ (.int .i64 (v : Int))) p { d with mode := v } := Cq.s0 h v
theorem Dq.set1 (h : Dq w p d) (v : Nat) : Dq (w.setCell ⟨p, 1, none⟩ (.int .u64 (v : Int))) p { d with place := v } := Cq.s1 h v
def NoQ (w : World) (p : Nat) (g : Dck) (e : Ending) (w' : World) : Prop := e = .returned (.tuple #[]) ∧ Dq w' p g ∧ w.grownBy w' (some p)
def ErQ (w : World) (p : Nat) (x : Int) (g : Dck) (e : Ending) (w' : World) : Prop := e = .returned (.int .i64 x) ∧ Dq w' p g ∧ w.grownBy w' (some p)
set_option maxRecDepth 100000 in
theorem mayR (now lo hi : Nat) (w : World) : Calls Tryz.prog 40 #[.int .u64 (now : Int), .int .u64 (lo : Int), .int .u64 (hi : Int)] w fun e w' => e = .returned (.bool (ends now lo hi)) ∧ w = w' := by
  have HH : Hid (∀ v : Bool, v = ends now lo hi → Ending.returned (.bool v) = .returned (.bool (ends now lo hi))) := Lib.hid (fun v h => by rw [h])
  have HD := Lib.hid (show ends now lo hi = decide (lo ≤ hi ∧ now ≤ mx ∧ hi ≤ mx) from rfl)
  generalize ends now lo hi = R at *
  go_enter Tryz.func40, Tryz.ntmps40
  go_wp2
  all_goals go_ret
  all_goals refine ⟨HH.out _ ?_, rfl⟩
  all_goals rw [HD.out, mx_eq]
  all_goals first
    | (rw [decide_eq_decide]; omega)
    | (symm; exact decide_eq_false (by omega))
set_option maxRecDepth 100000 in
theorem standR (t x : Nat) (h : Dq w p d) (ht : t ≤ mx) (hx : x ≤ mx) : Calls Tryz.prog 41 #[.pointer (some ⟨p, 0, none⟩), .int .u64 (t : Int), .int .u64 (x : Int)] w (NoQ w p (stand d t x)) := by
  have h1 := h.set1 x
  have c1 := h.c1
  have f1 := h.fz 1
  have HS := Lib.hid (setR p d.c t x _ h1)
  have HF : Hid (w.grownBy (w.setCell ⟨p, 1, none⟩ (.int .u64 (x : Int))) (some p)) := Lib.hid (grown_set (i := 1) (u := .int .u64 (x : Int)) (grown_refl w (some p)))
  have HT := Lib.hid (And.intro ht hx)
  clear h h1 ht hx
  generalize hw : w.setCell ⟨p, 1, none⟩ (.int .u64 (x : Int)) = w1 at *
  go_enter Tryz.func41, Tryz.ntmps41
  go_wp2_with fail
  refine HS.out.mono ?_
  rintro e w2 (⟨_, _, rfl, h2, hg⟩ | ⟨hno, _⟩)
  · have H2 := Lib.hid h2
    clear h2
    go_wp2
    go_end0
    exact ⟨rfl, H2.out, grown_trans HF.out hg⟩
  · exact absurd HT.out hno
set_option maxRecDepth 100000 in
theorem liveR (now : Int) (h : Dq w p d) : Calls Tryz.prog 32 #[.pointer (some ⟨p, 0, none⟩), .int .u64 now] w (NoQ w p { d with mode := 0 }) := by
  have H1 := Lib.hid (h.set0 0)
  have c0 := h.c0
  have f0 := h.fz 0
  have HF : Hid (w.grownBy (w.setCell ⟨p, 0, none⟩ (.int .i64 ((0 : Nat) : Int))) (some p)) := Lib.hid (grown_set (i := 0) (grown_refl w (some p)))
  clear h
  go_enter Tryz.func32, Tryz.ntmps32
  go_wp2
  go_end0
  exact ⟨rfl, H1.out, HF.out⟩
set_option maxRecDepth 100000 in
set_option maxHeartbeats 2000000 in
theorem seekR (now lo hi time : Nat) (h : Dq w p d) (hk : Dkk d) :
    Calls Tryz.prog 35 #[.pointer (some ⟨p, 0, none⟩), .int .u64 (now : Int), .int .u64 (lo : Int), .int .u64 (hi : Int), .int .u64 (time : Int)] w (ErQ w p (seekE now lo hi time) (seekD d now lo hi time)) := by
  have HE := Lib.hid (fun w => mayR now lo hi w)
  cases he : ends now lo hi
  · have HR := Lib.hid (show seekD d now lo hi time = d by unfold seekD; rw [he, if_pos rfl])
    have HX := Lib.hid (show seekE now lo hi time = 1 by unfold seekE; rw [he, if_pos rfl])
    rw [he] at HE
    have H := Lib.hid h
    generalize seekD d now lo hi time = R at *
    generalize seekE now lo hi time = X at *
    clear h hk he
    go_enter Tryz.func35, Tryz.ntmps35
    go_wp2_with fail
    refine (HE.out _).mono ?_
    rintro e w1 ⟨rfl, rfl⟩
    go_wp2
    go_ret
    exact ⟨by rw [HX.out]; rfl, by rw [HR.out]; exact H.out, grown_refl _ _⟩
  · obtain ⟨h1, h2, h3⟩ := ends_parts he
    have H := Lib.hid h
    by_cases hl : time < lo
    · have hl' : (time : Int) < (lo : Int) := by omega
      have HR := Lib.hid (show seekD d now lo hi time = d by unfold seekD; rw [he, if_neg (by decide), if_pos hl])
      have HX := Lib.hid (show seekE now lo hi time = 12 by unfold seekE; rw [he, if_neg (by decide), if_pos hl])
      rw [he] at HE
      generalize seekD d now lo hi time = R at *
      generalize seekE now lo hi time = X at *
      clear h hk he hl h1 h2 h3
      go_enter Tryz.func35, Tryz.ntmps35
      go_wp2_with fail
      refine (HE.out _).mono ?_
      rintro e w1 ⟨rfl, rfl⟩
      go_wp2
      go_ret
      exact ⟨by rw [HX.out]; rfl, by rw [HR.out]; exact H.out, grown_refl _ _⟩
    · have hl' : ¬ (time : Int) < (lo : Int) := by omega
      have HX := Lib.hid (show seekE now lo hi time = 0 by unfold seekE; rw [he, if_neg (by decide), if_neg hl])
      have HR0 := Lib.hid (show seekD d now lo hi time = { stand d now (min time hi) with mode := if d.mode = 0 then 1 else d.mode } by unfold seekD; rw [he, if_neg (by decide), if_neg hl])
      have HQ := Lib.hid (standR now (min time hi) h h2 (by omega))
      rw [he] at HE
      have hm : ((hi : Int) < (time : Int) ∧ Hid (min time hi = hi)) ∨ (¬ (hi : Int) < (time : Int) ∧ Hid (min time hi = time)) := by
        by_cases hx : hi < time
        · exact .inl ⟨by omega, Lib.hid (by omega)⟩
        · exact .inr ⟨by omega, Lib.hid (by omega)⟩
      generalize seekD d now lo hi time = R at *
      generalize seekE now lo hi time = X at *
      rcases hm with ⟨hm, HM⟩ | ⟨hm, HM⟩
      all_goals
        rw [HM.out] at HQ HR0
        by_cases m0 : d.mode = 0
        · have b0 : ((d.mode : Int) == 0) = true := by rw [m0]; rfl
          rw [if_pos m0] at HR0
          clear h hk he hl h1 h2 h3 m0
          go_enter Tryz.func35, Tryz.ntmps35
          go_wp2_with fail
          refine (HE.out _).mono ?_
          rintro e w1 ⟨rfl, rfl⟩
          go_wp2_with fail
          refine HQ.out.mono ?_
          rintro e w2 ⟨rfl, h5, hf5⟩
          have h6 := h5.set0 1
          have k0 : w2.cell? ⟨p, 0, none⟩ = some (.int .i64 (d.mode : Int)) := h5.c0
          have kf := h5.fz 0
          have H6 := Lib.hid h6
          have HF := Lib.hid (grown_set (i := 0) (u := .int .i64 ((1 : Nat) : Int)) hf5)
          clear h5 h6 hf5
          go_wp2
          go_ret
          exact ⟨by rw [HX.out]; rfl, by rw [HR0.out]; exact H6.out, HF.out⟩
        · have b0 : ((d.mode : Int) == 0) = false := by rw [beq_eq_false_iff_ne]; omega
          rw [if_neg m0] at HR0
          clear h hk he hl h1 h2 h3 m0
          go_enter Tryz.func35, Tryz.ntmps35
          go_wp2_with fail
          refine (HE.out _).mono ?_
          rintro e w1 ⟨rfl, rfl⟩
          go_wp2_with fail
          refine HQ.out.mono ?_
          rintro e w2 ⟨rfl, h5, hf5⟩
          have k0 : w2.cell? ⟨p, 0, none⟩ = some (.int .i64 (d.mode : Int)) := h5.c0
          have H6 := Lib.hid h5
          clear h5
          go_wp2
          go_ret
          exact ⟨by rw [HX.out]; rfl, by rw [HR0.out]; exact H6.out, hf5⟩
end Go.Proofs.YthihkbnkbajglaaGreatDoor.Rk2
