/- cmd.Do and the document's. -/
import Derived.Test.YthihkbnkbajglaaGreatDoorCm
import Derived.Test.YthihkbnkbajglaaGreatDoorRk6
set_option linter.unusedVariables false
namespace Go.Proofs.YthihkbnkbajglaaGreatDoor.Cd
open Go Go.RowKit Kit Nums Rate0 Scale Scale2 CkMath CkC CkD CkE CkN OfA OfB Dk Dk2 Dk3 Dk4 Rk Rk2 Rk3 Rk4 Rk5 Rk6 Cm

def doE (d : Dck) (kind : Int) (time x now lo hi : Nat) : Int :=
  if mayB kind time x = false then 2 else if kind = 1 then 0 else if kind = 2 then pauseE now lo hi else if kind = 3 then playE d now lo hi else if kind = 4 then seekE now lo hi time else speedE now x
def doD (d : Dck) (kind : Int) (time x now lo hi : Nat) : Dck :=
  if mayB kind time x = false then d else if kind = 1 then { d with mode := 0 } else if kind = 2 then pauseD d now lo hi else if kind = 3 then playBD d now lo hi else if kind = 4 then seekD d now lo hi time else speedD d now x
theorem doKinds (d : Dck) (kind : Int) (time x now lo hi : Nat) :
    (mayB kind time x = false ∧ doE d kind time x now lo hi = 2 ∧ doD d kind time x now lo hi = d) ∨
    (kind = 1 ∧ mayB 1 time x = true ∧ doE d 1 time x now lo hi = 0 ∧ doD d 1 time x now lo hi = { d with mode := 0 }) ∨
    (kind = 2 ∧ mayB 2 time x = true ∧ doE d 2 time x now lo hi = pauseE now lo hi ∧ doD d 2 time x now lo hi = pauseD d now lo hi) ∨
    (kind = 3 ∧ mayB 3 time x = true ∧ doE d 3 time x now lo hi = playE d now lo hi ∧ doD d 3 time x now lo hi = playBD d now lo hi) ∨
    (kind = 4 ∧ mayB 4 time x = true ∧ doE d 4 time x now lo hi = seekE now lo hi time ∧ doD d 4 time x now lo hi = seekD d now lo hi time) ∨
    (kind = 5 ∧ mayB 5 time x = true ∧ doE d 5 time x now lo hi = speedE now x ∧ doD d 5 time x now lo hi = speedD d now x) := by
  cases hm : mayB kind time x with
  | false => exact .inl ⟨rfl, by simp [doE, hm], by simp [doD, hm]⟩
  | true =>
    right
    rcases kinds (time := time) (x := x) kind with ⟨rfl, _⟩ | ⟨rfl, _⟩ | ⟨rfl, _⟩ | ⟨rfl, _⟩ | ⟨rfl, _⟩ | ⟨_, _, _, _, _, h⟩
    · exact .inl ⟨rfl, hm, by simp [doE, hm], by simp [doD, hm]⟩
    · exact .inr (.inl ⟨rfl, hm, by simp [doE, hm], by simp [doD, hm]⟩)
    · exact .inr (.inr (.inl ⟨rfl, hm, by simp [doE, hm], by simp [doD, hm]⟩))
    · exact .inr (.inr (.inr (.inl ⟨rfl, hm, by simp [doE, hm], by simp [doD, hm]⟩)))
    · exact .inr (.inr (.inr (.inr ⟨rfl, hm, by simp [doE, hm], by simp [doD, hm]⟩)))
    · rw [h] at hm; cases hm
theorem doD_dkk {d : Dck} (h : Dkk d) (kind : Int) (time x now lo hi : Nat) : Dkk (doD d kind time x now lo hi) := by
  rcases doKinds d kind time x now lo hi with ⟨_, _, hD⟩ | ⟨rfl, _, _, hD⟩ | ⟨rfl, _, _, hD⟩ | ⟨rfl, _, _, hD⟩ | ⟨rfl, _, _, hD⟩ | ⟨rfl, _, _, hD⟩
  all_goals rw [hD]
  · exact h
  · exact ⟨h.c, h.place, by simp⟩
  · exact pauseD_dkk h
  · exact playBD_dkk h
  · exact seekD_dkk h
  · exact speedD_dkk h
variable {w : World} {p q : Nat} {d : Dck}
set_option maxRecDepth 100000 in
set_option maxHeartbeats 4000000 in
theorem doC (kind : Int) (time x now lo hi : Nat) (hx : In64 x) (hn : now < 18446744073709551616) (h : Dl w p q d) (hk : Dkk d) (hT : TabZ w) :
    Calls Tryz.prog 9 #[.pointer (some ⟨p, 0, none⟩), .agg #[.int .i64 kind, .int .u64 (time : Int), .float .f64 x], .int .u64 (now : Int), .int .u64 (lo : Int), .int .u64 (hi : Int)] w (ErP w p q (doE d kind time x now lo hi) (doD d kind time x now lo hi)) := by
  have hb := heap_alloc_new w (.cells #[.int .i64 kind, .int .u64 (time : Int), .float .f64 x] 33)
  have hb0 := (Below.refl w.heap.size w).alloc (Nat.le_refl _) (.cells #[.int .i64 kind, .int .u64 (time : Int), .float .f64 x] 33)
  have HM := Lib.hid (mayC kind time x hx (w.alloc (.cells #[.int .i64 kind, .int .u64 (time : Int), .float .f64 x] 33)))
  have z1 : w.heap.size < (w.alloc (.cells #[.int .i64 kind, .int .u64 (time : Int), .float .f64 x] 33)).heap.size := by simp
  have HH : Hid (∀ w2, Below (w.alloc (.cells #[.int .i64 kind, .int .u64 (time : Int), .float .f64 x] 33)).heap.size (w.alloc (.cells #[.int .i64 kind, .int .u64 (time : Int), .float .f64 x] 33)) w2 → Below w.heap.size w w2 ∧ w2.heap[w.heap.size]? = some (.cells #[.int .i64 kind, .int .u64 (time : Int), .float .f64 x] 33 (0, 0))) := Lib.hid (fun w2 hb2 => ⟨below_next hb0 hb2, (hb2.block _ z1).trans hb⟩)
  clear hb hb0 z1
  have HG : Hid (∀ w2, Below w.heap.size w w2 → Dl w2 p q d) := Lib.hid (fun w2 hb => h.then_ hb)
  have HT : Hid (∀ w2, Below w.heap.size w w2 → TabZ w2) := Lib.hid (fun w2 hb => hT.then_ hb)
  clear h hT
  rcases doKinds d kind time x now lo hi with ⟨hm, hE, hD⟩ | ⟨rfl, hm, hE, hD⟩ | ⟨rfl, hm, hE, hD⟩ | ⟨rfl, hm, hE, hD⟩ | ⟨rfl, hm, hE, hD⟩ | ⟨rfl, hm, hE, hD⟩
  all_goals rw [hE, hD]
  all_goals rw [hm] at HM
  all_goals clear hm hE hD
  · go_enter Tryz.func9, Tryz.ntmps9
    go_wp2_with fail
    refine HM.out.mono ?_
    rintro e w2 ⟨rfl, hb2⟩
    obtain ⟨hW, hB⟩ := HH.out _ hb2
    have HW := Lib.hid (Fr2.of_below (p := p) (q := q) (hW))
    have hD := HG.out _ hW
    have hT := HT.out _ hW
    have x0 : w2.cell? ⟨w.heap.size, 0, none⟩ = some (.int .i64 kind) := by simp [World.cell?, hB]
    have x1 : w2.cell? ⟨w.heap.size, 1, none⟩ = some (.int .u64 (time : Int)) := by simp [World.cell?, hB]
    have x2 : w2.cell? ⟨w.heap.size, 2, none⟩ = some (.float .f64 x) := by simp [World.cell?, hB]
    have HD := Lib.hid hD
    clear hb2 hW hB hD hT hx hn hk
    go_wp2
    go_ret
    exact ⟨rfl, HD.out, HW.out⟩
  · go_enter Tryz.func9, Tryz.ntmps9
    go_wp2_with fail
    refine HM.out.mono ?_
    rintro e w2 ⟨rfl, hb2⟩
    obtain ⟨hW, hB⟩ := HH.out _ hb2
    have HW := Lib.hid (Fr2.of_below (p := p) (q := q) (hW))
    have hD := HG.out _ hW
    have hT := HT.out _ hW
    have x0 : w2.cell? ⟨w.heap.size, 0, none⟩ = some (.int .i64 1) := by simp [World.cell?, hB]
    have x1 : w2.cell? ⟨w.heap.size, 1, none⟩ = some (.int .u64 (time : Int)) := by simp [World.cell?, hB]
    have x2 : w2.cell? ⟨w.heap.size, 2, none⟩ = some (.float .f64 x) := by simp [World.cell?, hB]
    have C := Lib.hid (liveC (now : Int) hD)
    clear hb2 hW hB hD hT hx hn hk
    go_wp2_with fail
    refine C.out.mono ?_
    rintro e w3 ⟨rfl, h3, hf⟩
    go_wp2
    go_ret
    exact ⟨rfl, h3, HW.out.trans hf⟩
  · go_enter Tryz.func9, Tryz.ntmps9
    go_wp2_with fail
    refine HM.out.mono ?_
    rintro e w2 ⟨rfl, hb2⟩
    obtain ⟨hW, hB⟩ := HH.out _ hb2
    have HW := Lib.hid (Fr2.of_below (p := p) (q := q) (hW))
    have hD := HG.out _ hW
    have hT := HT.out _ hW
    have x0 : w2.cell? ⟨w.heap.size, 0, none⟩ = some (.int .i64 2) := by simp [World.cell?, hB]
    have x1 : w2.cell? ⟨w.heap.size, 1, none⟩ = some (.int .u64 (time : Int)) := by simp [World.cell?, hB]
    have x2 : w2.cell? ⟨w.heap.size, 2, none⟩ = some (.float .f64 x) := by simp [World.cell?, hB]
    have C := Lib.hid (pauseC now lo hi hD hk)
    clear hb2 hW hB hD hT hx hn hk
    go_wp2_with fail
    refine C.out.mono ?_
    rintro e w3 ⟨rfl, h3, hf⟩
    go_wp2
    go_ret
    exact ⟨rfl, h3, HW.out.trans hf⟩
  · go_enter Tryz.func9, Tryz.ntmps9
    go_wp2_with fail
    refine HM.out.mono ?_
    rintro e w2 ⟨rfl, hb2⟩
    obtain ⟨hW, hB⟩ := HH.out _ hb2
    have HW := Lib.hid (Fr2.of_below (p := p) (q := q) (hW))
    have hD := HG.out _ hW
    have hT := HT.out _ hW
    have x0 : w2.cell? ⟨w.heap.size, 0, none⟩ = some (.int .i64 3) := by simp [World.cell?, hB]
    have x1 : w2.cell? ⟨w.heap.size, 1, none⟩ = some (.int .u64 (time : Int)) := by simp [World.cell?, hB]
    have x2 : w2.cell? ⟨w.heap.size, 2, none⟩ = some (.float .f64 x) := by simp [World.cell?, hB]
    have C := Lib.hid (playBC now lo hi hD hk)
    clear hb2 hW hB hD hT hx hn hk
    go_wp2_with fail
    refine C.out.mono ?_
    rintro e w3 ⟨rfl, h3, hf⟩
    go_wp2
    go_ret
    exact ⟨rfl, h3, HW.out.trans hf⟩
  · go_enter Tryz.func9, Tryz.ntmps9
    go_wp2_with fail
    refine HM.out.mono ?_
    rintro e w2 ⟨rfl, hb2⟩
    obtain ⟨hW, hB⟩ := HH.out _ hb2
    have HW := Lib.hid (Fr2.of_below (p := p) (q := q) (hW))
    have hD := HG.out _ hW
    have hT := HT.out _ hW
    have x0 : w2.cell? ⟨w.heap.size, 0, none⟩ = some (.int .i64 4) := by simp [World.cell?, hB]
    have x1 : w2.cell? ⟨w.heap.size, 1, none⟩ = some (.int .u64 (time : Int)) := by simp [World.cell?, hB]
    have x2 : w2.cell? ⟨w.heap.size, 2, none⟩ = some (.float .f64 x) := by simp [World.cell?, hB]
    have C := Lib.hid (seekC now lo hi time hD hk)
    clear hb2 hW hB hD hT hx hn hk
    go_wp2_with fail
    refine C.out.mono ?_
    rintro e w3 ⟨rfl, h3, hf⟩
    go_wp2
    go_ret
    exact ⟨rfl, h3, HW.out.trans hf⟩
  · go_enter Tryz.func9, Tryz.ntmps9
    go_wp2_with fail
    refine HM.out.mono ?_
    rintro e w2 ⟨rfl, hb2⟩
    obtain ⟨hW, hB⟩ := HH.out _ hb2
    have HW := Lib.hid (Fr2.of_below (p := p) (q := q) (hW))
    have hD := HG.out _ hW
    have hT := HT.out _ hW
    have x0 : w2.cell? ⟨w.heap.size, 0, none⟩ = some (.int .i64 5) := by simp [World.cell?, hB]
    have x1 : w2.cell? ⟨w.heap.size, 1, none⟩ = some (.int .u64 (time : Int)) := by simp [World.cell?, hB]
    have x2 : w2.cell? ⟨w.heap.size, 2, none⟩ = some (.float .f64 x) := by simp [World.cell?, hB]
    have C := Lib.hid (speedB now x hD hk hx hn hT)
    clear hb2 hW hB hD hT hx hn hk
    go_wp2_with fail
    refine C.out.mono ?_
    rintro e w3 ⟨rfl, h3, hf⟩
    go_wp2
    go_ret
    exact ⟨rfl, h3, HW.out.trans hf⟩
set_option maxRecDepth 100000 in
set_option maxHeartbeats 4000000 in
theorem doR (kind : Int) (time x now lo hi : Nat) (hx : In64 x) (hn : now < 18446744073709551616) (h : Dq w p d) (hk : Dkk d) :
    Calls Tryz.prog 10 #[.pointer (some ⟨p, 0, none⟩), .agg #[.int .i64 kind, .int .u64 (time : Int), .float .f64 x], .int .u64 (now : Int), .int .u64 (lo : Int), .int .u64 (hi : Int)] w (ErQ w p (doE d kind time x now lo hi) (doD d kind time x now lo hi)) := by
  have hb := heap_alloc_new w (.cells #[.int .i64 kind, .int .u64 (time : Int), .float .f64 x] 35)
  have hb0 := (Below.refl w.heap.size w).alloc (Nat.le_refl _) (.cells #[.int .i64 kind, .int .u64 (time : Int), .float .f64 x] 35)
  have HM := Lib.hid (mayK kind time x hx (w.alloc (.cells #[.int .i64 kind, .int .u64 (time : Int), .float .f64 x] 35)))
  have z1 : w.heap.size < (w.alloc (.cells #[.int .i64 kind, .int .u64 (time : Int), .float .f64 x] 35)).heap.size := by simp
  have HH : Hid (∀ w2, Below (w.alloc (.cells #[.int .i64 kind, .int .u64 (time : Int), .float .f64 x] 35)).heap.size (w.alloc (.cells #[.int .i64 kind, .int .u64 (time : Int), .float .f64 x] 35)) w2 → Below w.heap.size w w2 ∧ w2.heap[w.heap.size]? = some (.cells #[.int .i64 kind, .int .u64 (time : Int), .float .f64 x] 35 (0, 0))) := Lib.hid (fun w2 hb2 => ⟨below_next hb0 hb2, (hb2.block _ z1).trans hb⟩)
  clear hb hb0 z1
  have HG : Hid (∀ w2, Below w.heap.size w w2 → Dq w2 p d) := Lib.hid (fun w2 hb => h.then_ hb)
  clear h
  rcases doKinds d kind time x now lo hi with ⟨hm, hE, hD⟩ | ⟨rfl, hm, hE, hD⟩ | ⟨rfl, hm, hE, hD⟩ | ⟨rfl, hm, hE, hD⟩ | ⟨rfl, hm, hE, hD⟩ | ⟨rfl, hm, hE, hD⟩
  all_goals rw [hE, hD]
  all_goals rw [hm] at HM
  all_goals clear hm hE hD
  · go_enter Tryz.func10, Tryz.ntmps10
    go_wp2_with fail
    refine HM.out.mono ?_
    rintro e w2 ⟨rfl, hb2⟩
    obtain ⟨hW, hB⟩ := HH.out _ hb2
    have HW := Lib.hid (grown_below (hW) (some p))
    have hD := HG.out _ hW
    have x0 : w2.cell? ⟨w.heap.size, 0, none⟩ = some (.int .i64 kind) := by simp [World.cell?, hB]
    have x1 : w2.cell? ⟨w.heap.size, 1, none⟩ = some (.int .u64 (time : Int)) := by simp [World.cell?, hB]
    have x2 : w2.cell? ⟨w.heap.size, 2, none⟩ = some (.float .f64 x) := by simp [World.cell?, hB]
    have HD := Lib.hid hD
    clear hb2 hW hB hD hx hn hk
    go_wp2
    go_ret
    exact ⟨rfl, HD.out, HW.out⟩
  · go_enter Tryz.func10, Tryz.ntmps10
    go_wp2_with fail
    refine HM.out.mono ?_
    rintro e w2 ⟨rfl, hb2⟩
    obtain ⟨hW, hB⟩ := HH.out _ hb2
    have HW := Lib.hid (grown_below (hW) (some p))
    have hD := HG.out _ hW
    have x0 : w2.cell? ⟨w.heap.size, 0, none⟩ = some (.int .i64 1) := by simp [World.cell?, hB]
    have x1 : w2.cell? ⟨w.heap.size, 1, none⟩ = some (.int .u64 (time : Int)) := by simp [World.cell?, hB]
    have x2 : w2.cell? ⟨w.heap.size, 2, none⟩ = some (.float .f64 x) := by simp [World.cell?, hB]
    have C := Lib.hid (liveR (now : Int) hD)
    clear hb2 hW hB hD hx hn hk
    go_wp2_with fail
    refine C.out.mono ?_
    rintro e w3 ⟨rfl, h3, hf⟩
    go_wp2
    go_ret
    exact ⟨rfl, h3, grown_trans HW.out hf⟩
  · go_enter Tryz.func10, Tryz.ntmps10
    go_wp2_with fail
    refine HM.out.mono ?_
    rintro e w2 ⟨rfl, hb2⟩
    obtain ⟨hW, hB⟩ := HH.out _ hb2
    have HW := Lib.hid (grown_below (hW) (some p))
    have hD := HG.out _ hW
    have x0 : w2.cell? ⟨w.heap.size, 0, none⟩ = some (.int .i64 2) := by simp [World.cell?, hB]
    have x1 : w2.cell? ⟨w.heap.size, 1, none⟩ = some (.int .u64 (time : Int)) := by simp [World.cell?, hB]
    have x2 : w2.cell? ⟨w.heap.size, 2, none⟩ = some (.float .f64 x) := by simp [World.cell?, hB]
    have C := Lib.hid (pauseR now lo hi hD hk)
    clear hb2 hW hB hD hx hn hk
    go_wp2_with fail
    refine C.out.mono ?_
    rintro e w3 ⟨rfl, h3, hf⟩
    go_wp2
    go_ret
    exact ⟨rfl, h3, grown_trans HW.out hf⟩
  · go_enter Tryz.func10, Tryz.ntmps10
    go_wp2_with fail
    refine HM.out.mono ?_
    rintro e w2 ⟨rfl, hb2⟩
    obtain ⟨hW, hB⟩ := HH.out _ hb2
    have HW := Lib.hid (grown_below (hW) (some p))
    have hD := HG.out _ hW
    have x0 : w2.cell? ⟨w.heap.size, 0, none⟩ = some (.int .i64 3) := by simp [World.cell?, hB]
    have x1 : w2.cell? ⟨w.heap.size, 1, none⟩ = some (.int .u64 (time : Int)) := by simp [World.cell?, hB]
    have x2 : w2.cell? ⟨w.heap.size, 2, none⟩ = some (.float .f64 x) := by simp [World.cell?, hB]
    have C := Lib.hid (playBR now lo hi hD hk)
    clear hb2 hW hB hD hx hn hk
    go_wp2_with fail
    refine C.out.mono ?_
    rintro e w3 ⟨rfl, h3, hf⟩
    go_wp2
    go_ret
    exact ⟨rfl, h3, grown_trans HW.out hf⟩
  · go_enter Tryz.func10, Tryz.ntmps10
    go_wp2_with fail
    refine HM.out.mono ?_
    rintro e w2 ⟨rfl, hb2⟩
    obtain ⟨hW, hB⟩ := HH.out _ hb2
    have HW := Lib.hid (grown_below (hW) (some p))
    have hD := HG.out _ hW
    have x0 : w2.cell? ⟨w.heap.size, 0, none⟩ = some (.int .i64 4) := by simp [World.cell?, hB]
    have x1 : w2.cell? ⟨w.heap.size, 1, none⟩ = some (.int .u64 (time : Int)) := by simp [World.cell?, hB]
    have x2 : w2.cell? ⟨w.heap.size, 2, none⟩ = some (.float .f64 x) := by simp [World.cell?, hB]
    have C := Lib.hid (seekR now lo hi time hD hk)
    clear hb2 hW hB hD hx hn hk
    go_wp2_with fail
    refine C.out.mono ?_
    rintro e w3 ⟨rfl, h3, hf⟩
    go_wp2
    go_ret
    exact ⟨rfl, h3, grown_trans HW.out hf⟩
  · go_enter Tryz.func10, Tryz.ntmps10
    go_wp2_with fail
    refine HM.out.mono ?_
    rintro e w2 ⟨rfl, hb2⟩
    obtain ⟨hW, hB⟩ := HH.out _ hb2
    have HW := Lib.hid (grown_below (hW) (some p))
    have hD := HG.out _ hW
    have x0 : w2.cell? ⟨w.heap.size, 0, none⟩ = some (.int .i64 5) := by simp [World.cell?, hB]
    have x1 : w2.cell? ⟨w.heap.size, 1, none⟩ = some (.int .u64 (time : Int)) := by simp [World.cell?, hB]
    have x2 : w2.cell? ⟨w.heap.size, 2, none⟩ = some (.float .f64 x) := by simp [World.cell?, hB]
    have C := Lib.hid (speedR now x hD hk hx hn)
    clear hb2 hW hB hD hx hn hk
    go_wp2_with fail
    refine C.out.mono ?_
    rintro e w3 ⟨rfl, h3, hf⟩
    go_wp2
    go_ret
    exact ⟨rfl, h3, grown_trans HW.out hf⟩
end Go.Proofs.YthihkbnkbajglaaGreatDoor.Cd
