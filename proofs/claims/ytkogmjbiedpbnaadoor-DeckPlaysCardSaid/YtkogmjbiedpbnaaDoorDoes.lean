/- Decks: an operation (tiklaw23.Does). -/
import Derived.Test.YtkogmjbiedpbnaaDoorDk4
set_option linter.unusedVariables false
namespace Go.Proofs.YtkogmjbiedpbnaaDoor.Does
open Go Go.RowKit Kit Nums Rate0 Scale Scale2 CkMath CkC CkD CkE CkN OfA OfB Dk Dk2 Dk3 Dk4

structure Opr where
  kind : Int
  now : Nat
  lo : Nat
  hi : Nat
  time : Nat
  x : Nat
structure Opr.ok (o : Opr) : Prop where
  now : o.now < 18446744073709551616
  lo : o.lo < 18446744073709551616
  hi : o.hi < 18446744073709551616
  time : o.time < 18446744073709551616
  x : In64 o.x
def oprV (o : Opr) : Array Value := #[.int .i64 o.kind, .int .u64 (o.now : Int), .int .u64 (o.lo : Int), .int .u64 (o.hi : Int), .int .u64 (o.time : Int), .float .f64 o.x]
def doesE (d : Dck) (o : Opr) : Int :=
  if o.kind = 0 then 0 else if o.kind = 1 then pauseE o.now o.lo o.hi else if o.kind = 2 then playE d o.now o.lo o.hi else if o.kind = 3 then seekE o.now o.lo o.hi o.time else if o.kind = 4 then speedE o.now o.x else 0
def doesD (d : Dck) (o : Opr) : Dck :=
  if o.kind = 0 then { d with mode := 0 } else if o.kind = 1 then pauseD d o.now o.lo o.hi else if o.kind = 2 then playBD d o.now o.lo o.hi else if o.kind = 3 then seekD d o.now o.lo o.hi o.time else if o.kind = 4 then speedD d o.now o.x else tickD d o.now o.lo o.hi
variable {w : World} {p q : Nat} {d : Dck}
set_option maxRecDepth 100000 in
set_option maxHeartbeats 4000000 in
theorem doesC (o : Opr) (ho : o.ok) (h : Dl w p q d) (hk : Dkk d) (hT : TabZ w) :
    Calls Tryd.prog 12 #[.pointer (some ⟨p, 0, none⟩), .agg (oprV o)] w (ErP w p q (doesE d o) (doesD d o)) := by
  obtain ⟨kind, now, lo, hi, time, x⟩ := o
  have hx := ho.x
  have hn := ho.now
  unfold oprV
  simp only at hx hn ⊢
  have HE : Hid (doesE d ⟨kind, now, lo, hi, time, x⟩ = if kind = 0 then 0 else if kind = 1 then pauseE now lo hi else if kind = 2 then playE d now lo hi else if kind = 3 then seekE now lo hi time else if kind = 4 then speedE now x else 0) := Lib.hid rfl
  have HD : Hid (doesD d ⟨kind, now, lo, hi, time, x⟩ = if kind = 0 then { d with mode := 0 } else if kind = 1 then pauseD d now lo hi else if kind = 2 then playBD d now lo hi else if kind = 3 then seekD d now lo hi time else if kind = 4 then speedD d now x else tickD d now lo hi) := Lib.hid rfl
  generalize doesE d ⟨kind, now, lo, hi, time, x⟩ = E at *
  generalize doesD d ⟨kind, now, lo, hi, time, x⟩ = R at *
  have hb := heap_alloc_new w (.cells #[.int .i64 kind, .int .u64 (now : Int), .int .u64 (lo : Int), .int .u64 (hi : Int), .int .u64 (time : Int), .float .f64 x] 36)
  have h1 := h.then_ ((Below.refl _ _).alloc (Nat.le_refl _) (.cells #[.int .i64 kind, .int .u64 (now : Int), .int .u64 (lo : Int), .int .u64 (hi : Int), .int .u64 (time : Int), .float .f64 x] 36))
  have hT1 := hT.alloc (.cells #[.int .i64 kind, .int .u64 (now : Int), .int .u64 (lo : Int), .int .u64 (hi : Int), .int .u64 (time : Int), .float .f64 x] 36)
  have HF := Lib.hid (Fr2.of_below (p := p) (q := q) ((Below.refl w.heap.size w).alloc (Nat.le_refl _) (.cells #[.int .i64 kind, .int .u64 (now : Int), .int .u64 (lo : Int), .int .u64 (hi : Int), .int .u64 (time : Int), .float .f64 x] 36)))
  generalize hw1 : w.alloc (.cells #[.int .i64 kind, .int .u64 (now : Int), .int .u64 (lo : Int), .int .u64 (hi : Int), .int .u64 (time : Int), .float .f64 x] 36) = w1 at *
  have x0 : w1.cell? ⟨w.heap.size, 0, none⟩ = some (.int .i64 kind) := by simp [World.cell?, hb]
  have x1 : w1.cell? ⟨w.heap.size, 1, none⟩ = some (.int .u64 (now : Int)) := by simp [World.cell?, hb]
  have x2 : w1.cell? ⟨w.heap.size, 2, none⟩ = some (.int .u64 (lo : Int)) := by simp [World.cell?, hb]
  have x3 : w1.cell? ⟨w.heap.size, 3, none⟩ = some (.int .u64 (hi : Int)) := by simp [World.cell?, hb]
  have x4 : w1.cell? ⟨w.heap.size, 4, none⟩ = some (.int .u64 (time : Int)) := by simp [World.cell?, hb]
  have x5 : w1.cell? ⟨w.heap.size, 5, none⟩ = some (.float .f64 x) := by simp [World.cell?, hb]
  have HH := Lib.hid h1
  have C0 := Lib.hid (liveC (now : Int) h1)
  have C1 := Lib.hid (pauseC now lo hi h1 hk)
  have C2 := Lib.hid (playBC now lo hi h1 hk)
  have C3 := Lib.hid (seekC now lo hi time h1 hk)
  have C4 := Lib.hid (speedB now x h1 hk hx hn hT1)
  have C5 := Lib.hid (tickC now lo hi h1 hk)
  clear h hk hT h1 hT1 hb hx hn ho
  by_cases k0 : kind = 0
  · subst k0
    rw [if_pos rfl] at HE HD
    go_enter Tryd.func12, Tryd.ntmps12
    go_wp2_with fail
    refine C0.out.mono ?_
    rintro e w2 ⟨rfl, h2, hf⟩
    go_wp2
    go_ret
    exact ⟨by rw [HE.out]; rfl, by rw [HD.out]; exact h2, HF.out.trans hf⟩
  · have b0 : (kind == 0) = false := by simpa using k0
    rw [if_neg k0] at HE HD
    by_cases k1 : kind = 1
    · subst k1
      rw [if_pos rfl] at HE HD
      go_enter Tryd.func12, Tryd.ntmps12
      go_wp2_with fail
      refine C1.out.mono ?_
      rintro e w2 ⟨rfl, h2, hf⟩
      go_wp2
      go_ret
      exact ⟨by rw [HE.out]; rfl, by rw [HD.out]; exact h2, HF.out.trans hf⟩
    · have b1 : (kind == 1) = false := by simpa using k1
      rw [if_neg k1] at HE HD
      by_cases k2 : kind = 2
      · subst k2
        rw [if_pos rfl] at HE HD
        go_enter Tryd.func12, Tryd.ntmps12
        go_wp2_with fail
        refine C2.out.mono ?_
        rintro e w2 ⟨rfl, h2, hf⟩
        go_wp2
        go_ret
        exact ⟨by rw [HE.out]; rfl, by rw [HD.out]; exact h2, HF.out.trans hf⟩
      · have b2 : (kind == 2) = false := by simpa using k2
        rw [if_neg k2] at HE HD
        by_cases k3 : kind = 3
        · subst k3
          rw [if_pos rfl] at HE HD
          go_enter Tryd.func12, Tryd.ntmps12
          go_wp2_with fail
          refine C3.out.mono ?_
          rintro e w2 ⟨rfl, h2, hf⟩
          go_wp2
          go_ret
          exact ⟨by rw [HE.out]; rfl, by rw [HD.out]; exact h2, HF.out.trans hf⟩
        · have b3 : (kind == 3) = false := by simpa using k3
          rw [if_neg k3] at HE HD
          by_cases k4 : kind = 4
          · subst k4
            rw [if_pos rfl] at HE HD
            go_enter Tryd.func12, Tryd.ntmps12
            go_wp2_with fail
            refine C4.out.mono ?_
            rintro e w2 ⟨rfl, h2, hf⟩
            go_wp2
            go_ret
            exact ⟨by rw [HE.out]; rfl, by rw [HD.out]; exact h2, HF.out.trans hf⟩
          · have b4 : (kind == 4) = false := by simpa using k4
            rw [if_neg k4] at HE HD
            go_enter Tryd.func12, Tryd.ntmps12
            go_wp2_with fail
            refine C5.out.mono ?_
            rintro e w2 ⟨rfl, h2, hf⟩
            go_wp2
            go_ret
            exact ⟨by rw [HE.out]; rfl, by rw [HD.out]; exact h2, HF.out.trans hf⟩
/-- an error changes nothing. -/
theorem does_same (o : Opr) (h1 : d.mode = 1) (h : doesE d o ≠ 0) : doesD d o = d := by
  unfold doesE at h
  unfold doesD
  split at h
  · exact absurd rfl h
  · rename_i k0
    rw [if_neg k0]
    split at h
    · rename_i k1
      rw [if_pos k1]
      unfold pauseE at h
      split at h
      · rename_i he
        unfold pauseD; rw [if_pos he]
      · exact absurd rfl h
    · rename_i k1
      rw [if_neg k1]
      split at h
      · rename_i k2
        rw [if_pos k2]
        unfold playE at h
        split at h
        · rename_i he
          unfold playBD; rw [if_pos he]
        · rw [if_neg (by omega)] at h
          exact absurd rfl h
      · rename_i k2
        rw [if_neg k2]
        split at h
        · rename_i k3
          rw [if_pos k3]
          unfold seekE at h
          unfold seekD
          split at h
          · rename_i he
            rw [if_pos he]
          · rename_i he
            rw [if_neg he]
            split at h
            · rename_i hl
              rw [if_pos hl]
            · exact absurd rfl h
        · rename_i k3
          rw [if_neg k3]
          split at h
          · rename_i k4
            rw [if_pos k4]
            unfold speedE at h
            unfold speedD
            split at h
            · rename_i he
              rw [if_pos he]
            · rename_i he
              rw [if_neg he]
              split at h
              · exact absurd rfl h
              · rename_i hl
                rw [if_neg hl]
          · exact absurd rfl h
end Go.Proofs.YtkogmjbiedpbnaaDoor.Does
