/- tiklaw23.plain: the document's deck told what to do. -/
import Derived.Test.YtkogmjbiedpbnaaDoorRk6
import Derived.Test.YtkogmjbiedpbnaaDoorDoes
set_option linter.unusedVariables false
namespace Go.Proofs.YtkogmjbiedpbnaaDoor.Rk7
open Go Go.RowKit Kit Nums Rate1 Scale Scale2 RSc CkMath CkC CkD CkE OfA OfB OfD Dk Dk2 Dk3 Dk4 Does Rk Rk2 Rk3 Rk4 Rk5 Rk6

variable {w : World} {p : Nat} {d : Dck}
set_option maxRecDepth 100000 in
set_option maxHeartbeats 4000000 in
theorem plainR (o : Opr) (ho : o.ok) (h : Dq w p d) (hk : Dkk d) :
    Calls Tryd.prog 13 #[.pointer (some ⟨p, 0, none⟩), .agg (oprV o)] w (ErQ w p (doesE d o) (doesD d o)) := by
  obtain ⟨kind, now, lo, hi, time, x⟩ := o
  have hx := ho.x
  have hn := ho.now
  unfold oprV
  simp only at hx hn ⊢
  have HE : Hid (doesE d ⟨kind, now, lo, hi, time, x⟩ = if kind = 0 then 0 else if kind = 1 then pauseE now lo hi else if kind = 2 then playE d now lo hi else if kind = 3 then seekE now lo hi time else if kind = 4 then speedE now x else 0) := Lib.hid rfl
  have HD : Hid (doesD d ⟨kind, now, lo, hi, time, x⟩ = if kind = 0 then { d with mode := 0 } else if kind = 1 then pauseD d now lo hi else if kind = 2 then playBD d now lo hi else if kind = 3 then seekD d now lo hi time else if kind = 4 then speedD d now x else tickD d now lo hi) := Lib.hid rfl
  generalize doesE d ⟨kind, now, lo, hi, time, x⟩ = E at *
  generalize doesD d ⟨kind, now, lo, hi, time, x⟩ = R at *
  have hb := heap_alloc_new w (.cells #[.int .i64 kind, .int .u64 (now : Int), .int .u64 (lo : Int), .int .u64 (hi : Int), .int .u64 (time : Int), .float .f64 x] 36)
  have h1 := h.then_ ((Below.refl _ _).alloc (Nat.le_refl _) (.cells #[.int .i64 kind, .int .u64 (now : Int), .int .u64 (lo : Int), .int .u64 (hi : Int), .int .u64 (time : Int), .float .f64 x] 36))
  have HF := Lib.hid (grown_below ((Below.refl w.heap.size w).alloc (Nat.le_refl _) (.cells #[.int .i64 kind, .int .u64 (now : Int), .int .u64 (lo : Int), .int .u64 (hi : Int), .int .u64 (time : Int), .float .f64 x] 36)) (some p))
  generalize hw1 : w.alloc (.cells #[.int .i64 kind, .int .u64 (now : Int), .int .u64 (lo : Int), .int .u64 (hi : Int), .int .u64 (time : Int), .float .f64 x] 36) = w1 at *
  have x0 : w1.cell? ⟨w.heap.size, 0, none⟩ = some (.int .i64 kind) := by simp [World.cell?, hb]
  have x1 : w1.cell? ⟨w.heap.size, 1, none⟩ = some (.int .u64 (now : Int)) := by simp [World.cell?, hb]
  have x2 : w1.cell? ⟨w.heap.size, 2, none⟩ = some (.int .u64 (lo : Int)) := by simp [World.cell?, hb]
  have x3 : w1.cell? ⟨w.heap.size, 3, none⟩ = some (.int .u64 (hi : Int)) := by simp [World.cell?, hb]
  have x4 : w1.cell? ⟨w.heap.size, 4, none⟩ = some (.int .u64 (time : Int)) := by simp [World.cell?, hb]
  have x5 : w1.cell? ⟨w.heap.size, 5, none⟩ = some (.float .f64 x) := by simp [World.cell?, hb]
  have HH := Lib.hid h1
  have C0 := Lib.hid (liveR (now : Int) h1)
  have C1 := Lib.hid (pauseR now lo hi h1 hk)
  have C2 := Lib.hid (playBR now lo hi h1 hk)
  have C3 := Lib.hid (seekR now lo hi time h1 hk)
  have C4 := Lib.hid (speedR now x h1 hk hx hn)
  have C5 := Lib.hid (tickR now lo hi h1 hk)
  clear h hk h1 hb hx hn ho
  by_cases k0 : kind = 0
  · subst k0
    rw [if_pos rfl] at HE HD
    go_enter Tryd.func13, Tryd.ntmps13
    go_wp2_with fail
    refine C0.out.mono ?_
    rintro e w2 ⟨rfl, h2, hf⟩
    go_wp2
    go_ret
    exact ⟨by rw [HE.out]; rfl, by rw [HD.out]; exact h2, grown_trans HF.out hf⟩
  · have b0 : (kind == 0) = false := by simpa using k0
    rw [if_neg k0] at HE HD
    by_cases k1 : kind = 1
    · subst k1
      rw [if_pos rfl] at HE HD
      go_enter Tryd.func13, Tryd.ntmps13
      go_wp2_with fail
      refine C1.out.mono ?_
      rintro e w2 ⟨rfl, h2, hf⟩
      go_wp2
      go_ret
      exact ⟨by rw [HE.out]; rfl, by rw [HD.out]; exact h2, grown_trans HF.out hf⟩
    · have b1 : (kind == 1) = false := by simpa using k1
      rw [if_neg k1] at HE HD
      by_cases k2 : kind = 2
      · subst k2
        rw [if_pos rfl] at HE HD
        go_enter Tryd.func13, Tryd.ntmps13
        go_wp2_with fail
        refine C2.out.mono ?_
        rintro e w2 ⟨rfl, h2, hf⟩
        go_wp2
        go_ret
        exact ⟨by rw [HE.out]; rfl, by rw [HD.out]; exact h2, grown_trans HF.out hf⟩
      · have b2 : (kind == 2) = false := by simpa using k2
        rw [if_neg k2] at HE HD
        by_cases k3 : kind = 3
        · subst k3
          rw [if_pos rfl] at HE HD
          go_enter Tryd.func13, Tryd.ntmps13
          go_wp2_with fail
          refine C3.out.mono ?_
          rintro e w2 ⟨rfl, h2, hf⟩
          go_wp2
          go_ret
          exact ⟨by rw [HE.out]; rfl, by rw [HD.out]; exact h2, grown_trans HF.out hf⟩
        · have b3 : (kind == 3) = false := by simpa using k3
          rw [if_neg k3] at HE HD
          by_cases k4 : kind = 4
          · subst k4
            rw [if_pos rfl] at HE HD
            go_enter Tryd.func13, Tryd.ntmps13
            go_wp2_with fail
            refine C4.out.mono ?_
            rintro e w2 ⟨rfl, h2, hf⟩
            go_wp2
            go_ret
            exact ⟨by rw [HE.out]; rfl, by rw [HD.out]; exact h2, grown_trans HF.out hf⟩
          · have b4 : (kind == 4) = false := by simpa using k4
            rw [if_neg k4] at HE HD
            go_enter Tryd.func13, Tryd.ntmps13
            go_wp2_with fail
            refine C5.out.mono ?_
            rintro e w2 ⟨rfl, h2, hf⟩
            go_wp2
            go_ret
            exact ⟨by rw [HE.out]; rfl, by rw [HD.out]; exact h2, grown_trans HF.out hf⟩
end Go.Proofs.YtkogmjbiedpbnaaDoor.Rk7
