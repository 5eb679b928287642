/- The document's deck and its clock: contracts. -/
import Derived.Test.YthihkbnkbajglaaGreatDoorRSc
import Derived.Test.YthihkbnkbajglaaGreatDoorOfD
import Derived.Test.YthihkbnkbajglaaGreatDoorDk4
set_option linter.unusedVariables false
namespace Go.Proofs.YthihkbnkbajglaaGreatDoor.Rk
open Go Go.RowKit Kit Nums Rate1 Scale Scale2 RSc CkMath CkC CkD CkE

/-- the document's deck at p: mode and place, then its clock. -/
def Cq (M : Nat × Nat) (w : World) (p : Nat) (c : Ck) : Prop := w.heap[p]? = some (.cells #[.int .i64 (M.1 : Int), .int .u64 (M.2 : Int), .int .u64 (c.now : Int), .int .u64 (c.pos : Int), .int .u64 (c.rest : Int), .int .u64 (c.num : Int), .int .u64 (c.den : Int)] 43 (0, 0))
variable {M : Nat × Nat} {w w' : World} {p : Nat} {c : Ck}
theorem Cq.lt (h : Cq M w p c) : p < w.heap.size := lt_of_block h
theorem Cq.m0 (h : Cq M w p c) : w.cell? ⟨p, 0, none⟩ = some (.int .i64 (M.1 : Int)) := by have h' : w.heap[p]? = _ := h; simp [World.cell?, h']
theorem Cq.m1 (h : Cq M w p c) : w.cell? ⟨p, 1, none⟩ = some (.int .u64 (M.2 : Int)) := by have h' : w.heap[p]? = _ := h; simp [World.cell?, h']
theorem Cq.c0 (h : Cq M w p c) : w.cell? ⟨p, 2, none⟩ = some (.int .u64 (c.now : Int)) := by have h' : w.heap[p]? = _ := h; simp [World.cell?, h']
theorem Cq.c1 (h : Cq M w p c) : w.cell? ⟨p, 3, none⟩ = some (.int .u64 (c.pos : Int)) := by have h' : w.heap[p]? = _ := h; simp [World.cell?, h']
theorem Cq.c2 (h : Cq M w p c) : w.cell? ⟨p, 4, none⟩ = some (.int .u64 (c.rest : Int)) := by have h' : w.heap[p]? = _ := h; simp [World.cell?, h']
theorem Cq.c3 (h : Cq M w p c) : w.cell? ⟨p, 5, none⟩ = some (.int .u64 (c.num : Int)) := by have h' : w.heap[p]? = _ := h; simp [World.cell?, h']
theorem Cq.c4 (h : Cq M w p c) : w.cell? ⟨p, 6, none⟩ = some (.int .u64 (c.den : Int)) := by have h' : w.heap[p]? = _ := h; simp [World.cell?, h']
theorem Cq.fz (h : Cq M w p c) (i : Nat) : w.frozen? ⟨p, i, none⟩ = false := by have h' : w.heap[p]? = _ := h; simp [World.frozen?, h']
theorem Cq.then_ (h : Cq M w p c) (hb : Below w.heap.size w w') : Cq M w' p c := (hb.block p h.lt).trans h
theorem Cq.alloc (h : Cq M w p c) (o : Obj) : Cq M (w.alloc o) p c := h.then_ ((Below.refl _ _).alloc (Nat.le_refl _) _)
theorem Cq.s0 (h : Cq M w p c) (v : Nat) : Cq (v, M.2) (w.setCell ⟨p, 0, none⟩ (.int .i64 (v : Int))) p c := by have h' : w.heap[p]? = _ := h; simp [Cq, World.setCell, Array.getElem?_modify, h']
theorem Cq.s1 (h : Cq M w p c) (v : Nat) : Cq (M.1, v) (w.setCell ⟨p, 1, none⟩ (.int .u64 (v : Int))) p c := by have h' : w.heap[p]? = _ := h; simp [Cq, World.setCell, Array.getElem?_modify, h']
theorem Cq.set0 (h : Cq M w p c) (v : Nat) : Cq M (w.setCell ⟨p, 2, none⟩ (.int .u64 (v : Int))) p { c with now := v } := by have h' : w.heap[p]? = _ := h; simp [Cq, World.setCell, Array.getElem?_modify, h']
theorem Cq.set1 (h : Cq M w p c) (v : Nat) : Cq M (w.setCell ⟨p, 3, none⟩ (.int .u64 (v : Int))) p { c with pos := v } := by have h' : w.heap[p]? = _ := h; simp [Cq, World.setCell, Array.getElem?_modify, h']
theorem Cq.set2 (h : Cq M w p c) (v : Nat) : Cq M (w.setCell ⟨p, 4, none⟩ (.int .u64 (v : Int))) p { c with rest := v } := by have h' : w.heap[p]? = _ := h; simp [Cq, World.setCell, Array.getElem?_modify, h']
theorem Cq.set3 (h : Cq M w p c) (v : Nat) : Cq M (w.setCell ⟨p, 5, none⟩ (.int .u64 (v : Int))) p { c with num := v } := by have h' : w.heap[p]? = _ := h; simp [Cq, World.setCell, Array.getElem?_modify, h']
theorem Cq.set4 (h : Cq M w p c) (v : Nat) : Cq M (w.setCell ⟨p, 6, none⟩ (.int .u64 (v : Int))) p { c with den := v } := by have h' : w.heap[p]? = _ := h; simp [Cq, World.setCell, Array.getElem?_modify, h']
theorem Cq.drew_ (h : Cq M w p c) : Cq M w.drew p c := h
def GoQ (M : Nat × Nat) (w : World) (p : Nat) (c : Ck) (t : Nat) (e : Ending) (w' : World) : Prop := e = .returned (.int .u64 ((go c t).pos : Int)) ∧ Cq M w' p (go c t) ∧ w.grownBy w' (some p)
def SetQ (M : Nat × Nat) (w : World) (p : Nat) (c : Ck) (t x : Nat) (e : Ending) (w' : World) : Prop :=
  (t ≤ mx ∧ x ≤ mx ∧ e = .returned (.int .i64 0) ∧ Cq M w' p (stood c t x) ∧ w.grownBy w' (some p)) ∨ (¬ (t ≤ mx ∧ x ≤ mx) ∧ e = .returned (.int .i64 1) ∧ w = w')
def TurnQ (M : Nat × Nat) (w : World) (p : Nat) (c : Ck) (t n d : Nat) (e : Ending) (w' : World) : Prop :=
  (t ≤ mx ∧ mayN n d = true ∧ e = .returned (.int .i64 0) ∧ Cq M w' p (turn c t n d) ∧ w.grownBy w' (some p)) ∨ (¬ (t ≤ mx ∧ mayN n d = true) ∧ e = .returned (.int .i64 1) ∧ Below w.heap.size w w')
set_option maxRecDepth 100000 in
set_option maxHeartbeats 2000000 in
theorem atC (p : Nat) (c : Ck) (t : Nat) (w : World) (h : Cq M w p c) (hk : Ckk c) (ht : t < 18446744073709551616) :
    Calls Tryz.prog 64 #[.pointer (some ⟨p, 2, none⟩), .int .u64 (t : Int)] w (RcP w c t) := by
  have hR := reach_by hk.ok t
  have hden := hk.den
  have hnum := hk.num
  have hpos := hk.ok.pos
  have hrest := hk.ok.rest
  have hmay := hk.may
  have hnow := hk.now
  rw [mx_eq] at hpos
  obtain ⟨X, hX⟩ : ∃ X, X = t - c.now := ⟨_, rfl⟩
  rw [← hX] at hR
  have hS := fun w => rScale X c.rest c.num c.den w (by omega) (by omega) (by omega) (by omega)
  have c0 := h.c0
  have c1 := h.c1
  have c2 := h.c2
  have c3 := h.c3
  have c4 := h.c4
  have hpl := h.lt
  obtain ⟨Q, hQ⟩ : ∃ Q, Q = (X * c.num + c.rest) / c.den := ⟨_, rfl⟩
  obtain ⟨R, hR2⟩ : ∃ R, R = (X * c.num + c.rest) % c.den := ⟨_, rfl⟩
  rw [← hQ, ← hR2, mx_eq] at hR
  obtain ⟨XI, hXI⟩ : ∃ XI : Int, XI = (X : Int) := ⟨_, rfl⟩
  rw [← hXI] at hS
  have hcase : (4611686018427387904 < Q ∧ Hid (reach c t = (4611686018427387904, 0)) ∧ Hid (∀ w, Calls Tryz.prog 89 #[.int .u64 XI, .int .u64 (c.rest : Int), .agg #[.int .u64 (c.num : Int), .int .u64 (c.den : Int)]] w fun e w' => e = .returned (.tuple #[.int .u64 0, .int .u64 0, .int .i64 1]) ∧ Below w.heap.size w w')) ∨
      (Q ≤ 4611686018427387904 ∧ Hid (reach c t = if 4611686018427387904 ≤ c.pos + Q then (4611686018427387904, 0) else (c.pos + Q, R)) ∧ Hid (∀ w, Calls Tryz.prog 89 #[.int .u64 XI, .int .u64 (c.rest : Int), .agg #[.int .u64 (c.num : Int), .int .u64 (c.den : Int)]] w fun e w' => e = .returned (.tuple #[.int .u64 (Q : Int), .int .u64 (R : Int), .int .i64 0]) ∧ Below w.heap.size w w')) := by
    by_cases hq : 4611686018427387904 < Q
    · refine .inl ⟨hq, Lib.hid (by rw [hR, if_pos (.inl hq)]), Lib.hid (fun w => ?_)⟩
      have := hS w
      rw [sc_big (by omega)] at this
      exact this
    · refine .inr ⟨by omega, Lib.hid ?_, Lib.hid (fun w => ?_)⟩
      · rw [hR]
        by_cases hz : 4611686018427387904 ≤ c.pos + Q
        · rw [if_pos (.inr hz), if_pos hz]
        · rw [if_neg (by omega), if_neg hz]
      · have := hS w
        rw [sc_ok hmay hrest (by omega), ← hQ, ← hR2] at this
        exact this
  clear hS hR hQ hR2 hmay hk h
  unfold RcP
  generalize reach c t = RR at *
  obtain ⟨now, pos, rest, num, den⟩ := c
  simp only at *
  have htm : ((now : Int) < (t : Int) ∧ IntKind.u64.wrap ((t : Int) - (now : Int)) = XI) ∨ (¬ (now : Int) < (t : Int) ∧ XI = 0) := by
    by_cases hlt : now < t
    · exact .inl ⟨by omega, by rw [IntKind.wrap_u64]; omega⟩
    · exact .inr ⟨by omega, by omega⟩
  clear hX ht hnow hden hnum hrest hXI
  rcases htm with ⟨hlt, HX⟩ | ⟨hlt, rfl⟩
  all_goals
    rcases hcase with ⟨hq, HRR, HS⟩ | ⟨hq, HRR, HS⟩
    ·
      go_enter Tryz.func64, Tryz.ntmps64
      go_wp2_with fail
      refine wp_region_held_drew (S := (fun W => W.cell? ⟨p, 4, none⟩ = some (.int .u64 (rest : Int)) ∧ W.cell? ⟨p, 5, none⟩ = some (.int .u64 (num : Int)) ∧ W.cell? ⟨p, 6, none⟩ = some (.int .u64 (den : Int)))) (by kernel_rfl) ?_ (fun hHeld => ?_)
      · ((try dsimp only); exact ⟨past_drew c2, past_drew c3, past_drew c4⟩)
      refine wpAnyH_take (i := 0) (oi := { dst := some 23, op := Op.move (Operand.tmp 6), type := 23, pos := _, after := #[], guard := none }) (v := ?_) rfl (by kernel_rfl) (by kernel_rfl) (by kernel_rfl) (fun _ _ _ h => h) (Or.inl ⟨by rfl, ?_⟩) (by assumption) ?_
      rotate_left
      · ((intro w hSw); (try dsimp only at hSw); go_simp; (try with_reducible rfl))
      try simp only [Act.put, List.setIfInBounds_toArray, List.set_cons_zero, List.set_cons_succ]
      refine wpAnyH_take (i := 1) (oi := { dst := some 24, op := Op.move (Operand.tmp 0), type := 97, pos := _, after := #[], guard := none }) (v := ?_) rfl (by kernel_rfl) (by kernel_rfl) (by kernel_rfl) (fun _ _ _ h => h) (Or.inl ⟨by rfl, ?_⟩) (by assumption) ?_
      rotate_left
      · ((intro w hSw); (try dsimp only at hSw); go_simp; (try with_reducible rfl))
      try simp only [Act.put, List.setIfInBounds_toArray, List.set_cons_zero, List.set_cons_succ]
      refine wpAnyH_take (i := 2) (oi := { dst := some 25, op := Op.nilCheck (Operand.tmp 24), type := 0, pos := _, after := #[{ on := 1, ground := Ground.data }], guard := none }) (v := ?_) rfl (by kernel_rfl) (by kernel_rfl) (by kernel_rfl) (fun _ _ _ h => h) (Or.inl ⟨by rfl, ?_⟩) (by assumption) ?_
      rotate_left
      · ((intro w hSw); (try dsimp only at hSw); go_simp; (try with_reducible rfl))
      try simp only [Act.put, List.setIfInBounds_toArray, List.set_cons_zero, List.set_cons_succ]
      refine wpAnyH_take (i := 3) (oi := { dst := some 26, op := Op.fieldAddr 41 (Operand.tmp 25) 2, type := 0, pos := _, after := #[{ on := 2, ground := Ground.data }], guard := none }) (v := ?_) rfl (by kernel_rfl) (by kernel_rfl) (by kernel_rfl) (fun _ _ _ h => h) (Or.inl ⟨by rfl, ?_⟩) (by assumption) ?_
      rotate_left
      · ((intro w hSw); (try dsimp only at hSw); go_simp; (try with_reducible rfl))
      try simp only [Act.put, List.setIfInBounds_toArray, List.set_cons_zero, List.set_cons_succ]
      refine wpAnyH_take (i := 4) (oi := { dst := some 27, op := Op.load 23 (Operand.tmp 26), type := 23, pos := _, after := #[{ on := 3, ground := Ground.data }], guard := none }) (v := ?_) rfl (by kernel_rfl) (by kernel_rfl) (by kernel_rfl) (fun _ _ _ h => h) (Or.inl ⟨by rfl, ?_⟩) (by assumption) ?_
      rotate_left
      · ((intro w hSw); (try dsimp only at hSw); go_simp; (try with_reducible rfl))
      try simp only [Act.put, List.setIfInBounds_toArray, List.set_cons_zero, List.set_cons_succ]
      refine wpAnyH_take (i := 5) (oi := { dst := some 28, op := Op.move (Operand.tmp 0), type := 97, pos := _, after := #[], guard := none }) (v := ?_) rfl (by kernel_rfl) (by kernel_rfl) (by kernel_rfl) (fun _ _ _ h => h) (Or.inl ⟨by rfl, ?_⟩) (by assumption) ?_
      rotate_left
      · ((intro w hSw); (try dsimp only at hSw); go_simp; (try with_reducible rfl))
      try simp only [Act.put, List.setIfInBounds_toArray, List.set_cons_zero, List.set_cons_succ]
      refine wpAnyH_take (i := 6) (oi := { dst := some 29, op := Op.nilCheck (Operand.tmp 28), type := 0, pos := _, after := #[{ on := 5, ground := Ground.data }], guard := none }) (v := ?_) rfl (by kernel_rfl) (by kernel_rfl) (by kernel_rfl) (fun _ _ _ h => h) (Or.inl ⟨by rfl, ?_⟩) (by assumption) ?_
      rotate_left
      · ((intro w hSw); (try dsimp only at hSw); go_simp; (try with_reducible rfl))
      try simp only [Act.put, List.setIfInBounds_toArray, List.set_cons_zero, List.set_cons_succ]
      refine wpAnyH_take (i := 7) (oi := { dst := some 30, op := Op.fieldAddr 41 (Operand.tmp 29) 3, type := 0, pos := _, after := #[{ on := 6, ground := Ground.data }], guard := none }) (v := ?_) rfl (by kernel_rfl) (by kernel_rfl) (by kernel_rfl) (fun _ _ _ h => h) (Or.inl ⟨by rfl, ?_⟩) (by assumption) ?_
      rotate_left
      · ((intro w hSw); (try dsimp only at hSw); go_simp; (try with_reducible rfl))
      try simp only [Act.put, List.setIfInBounds_toArray, List.set_cons_zero, List.set_cons_succ]
      refine wpAnyH_take (i := 8) (oi := { dst := some 31, op := Op.load 39 (Operand.tmp 30), type := 39, pos := _, after := #[{ on := 7, ground := Ground.data }], guard := none }) (v := ?_) rfl (by kernel_rfl) (by kernel_rfl) (by kernel_rfl) (fun _ _ _ h => h) (Or.inl ⟨by rfl, ?_⟩) (by assumption) ?_
      rotate_left
      · ((intro w hSw); (try dsimp only at hSw); go_simp; (try with_reducible rfl))
      try simp only [Act.put, List.setIfInBounds_toArray, List.set_cons_zero, List.set_cons_succ]
      refine wpAnyH_ready (rs := [9]) (by kernel_rfl) (by simp) ?_
      refine (AllReadyH.cons (o := { dst := some 32, op := Op.call { callee := Callee.value (Operand.func 89), args := #[Operand.tmp 23, Operand.tmp 27, Operand.tmp 31], argTypes := #[23, 23, 39] }, type := 124, pos := _, after := #[{ on := 0, ground := Ground.data }, { on := 4, ground := Ground.data }, { on := 8, ground := Ground.data }], guard := none }) rfl (fun K hK => ?_) AllReadyH.nil)
      go_simp
      (refine (HS.out _).mono ?_; rintro e w1 ⟨rfl, hb1⟩)
      go_wp2_with fail
      refine hK.out _ _ ?_ (fun hHeld => ?_)
      · ((try dsimp only); exact ⟨cell_then (W := w.drew) hb1 (Nat.le_refl _) c2, cell_then (W := w.drew) hb1 (Nat.le_refl _) c3, cell_then (W := w.drew) hb1 (Nat.le_refl _) c4⟩)
      clear hK K
      try simp only [Act.put, List.setIfInBounds_toArray, List.set_cons_zero, List.set_cons_succ]
      refine wpAnyH_take (i := 10) (oi := { dst := some 22, op := Op.move (Operand.tmp 32), type := 124, pos := _, after := #[{ on := 9, ground := Ground.data }], guard := none }) (v := ?_) rfl (by kernel_rfl) (by kernel_rfl) (by kernel_rfl) (fun _ _ _ h => h) (Or.inl ⟨by rfl, ?_⟩) (by assumption) ?_
      rotate_left
      · ((intro w hSw); (try dsimp only at hSw); go_simp; (try with_reducible rfl))
      try simp only [Act.put, List.setIfInBounds_toArray, List.set_cons_zero, List.set_cons_succ]
      refine wpAnyH_take (i := 11) (oi := { dst := some 33, op := Op.extract (Operand.tmp 22) 0, type := 23, pos := _, after := #[{ on := 10, ground := Ground.data }], guard := none }) (v := ?_) rfl (by kernel_rfl) (by kernel_rfl) (by kernel_rfl) (fun _ _ _ h => h) (Or.inl ⟨by rfl, ?_⟩) (by assumption) ?_
      rotate_left
      · ((intro w hSw); (try dsimp only at hSw); go_simp; (try with_reducible rfl))
      try simp only [Act.put, List.setIfInBounds_toArray, List.set_cons_zero, List.set_cons_succ]
      refine wpAnyH_take (i := 12) (oi := { dst := some 34, op := Op.extract (Operand.tmp 22) 1, type := 23, pos := _, after := #[{ on := 10, ground := Ground.data }, { on := 14, ground := Ground.gcOnly Departure.lateStores }], guard := none }) (v := ?_) rfl (by kernel_rfl) (by kernel_rfl) (by kernel_rfl) (fun _ _ _ h => h) (Or.inl ⟨by rfl, ?_⟩) (by assumption) ?_
      rotate_left
      · ((intro w hSw); (try dsimp only at hSw); go_simp; (try with_reducible rfl))
      try simp only [Act.put, List.setIfInBounds_toArray, List.set_cons_zero, List.set_cons_succ]
      refine wpAnyH_take (i := 13) (oi := { dst := some 35, op := Op.extract (Operand.tmp 22) 2, type := 29, pos := _, after := #[{ on := 10, ground := Ground.data }, { on := 15, ground := Ground.gcOnly Departure.lateStores }], guard := none }) (v := ?_) rfl (by kernel_rfl) (by kernel_rfl) (by kernel_rfl) (fun _ _ _ h => h) (Or.inl ⟨by rfl, ?_⟩) (by assumption) ?_
      rotate_left
      · ((intro w hSw); (try dsimp only at hSw); go_simp; (try with_reducible rfl))
      try simp only [Act.put, List.setIfInBounds_toArray, List.set_cons_zero, List.set_cons_succ]
      refine wpAnyH_take (i := 14) (oi := { dst := some 7, op := Op.assign (Operand.tmp 33), type := 23, pos := _, after := #[{ on := 11, ground := Ground.data }, { on := 9, ground := Ground.chain }, { on := 0, ground := Ground.phase }, { on := 1, ground := Ground.phase }, { on := 2, ground := Ground.phase }, { on := 3, ground := Ground.phase }, { on := 4, ground := Ground.phase }, { on := 5, ground := Ground.phase }, { on := 6, ground := Ground.phase }, { on := 7, ground := Ground.phase }, { on := 8, ground := Ground.phase }, { on := 9, ground := Ground.phase }, { on := 10, ground := Ground.phase }, { on := 11, ground := Ground.phase }, { on := 12, ground := Ground.textOnly Departure.lateStores }, { on := 13, ground := Ground.textOnly Departure.lateStores }], guard := none }) (v := ?_) rfl (by kernel_rfl) (by kernel_rfl) (by kernel_rfl) (fun _ _ _ h => h) (Or.inl ⟨by rfl, ?_⟩) (by assumption) ?_
      rotate_left
      · ((intro w hSw); (try dsimp only at hSw); go_simp; (try with_reducible rfl))
      try simp only [Act.put, List.setIfInBounds_toArray, List.set_cons_zero, List.set_cons_succ]
      refine wpAnyH_take (i := 15) (oi := { dst := some 8, op := Op.assign (Operand.tmp 34), type := 23, pos := _, after := #[{ on := 12, ground := Ground.data }, { on := 14, ground := Ground.chain }, { on := 0, ground := Ground.phase }, { on := 1, ground := Ground.phase }, { on := 2, ground := Ground.phase }, { on := 3, ground := Ground.phase }, { on := 4, ground := Ground.phase }, { on := 5, ground := Ground.phase }, { on := 6, ground := Ground.phase }, { on := 7, ground := Ground.phase }, { on := 8, ground := Ground.phase }, { on := 9, ground := Ground.phase }, { on := 10, ground := Ground.phase }, { on := 11, ground := Ground.phase }, { on := 12, ground := Ground.phase }, { on := 13, ground := Ground.textOnly Departure.lateStores }, { on := 14, ground := Ground.phase }], guard := none }) (v := ?_) rfl (by kernel_rfl) (by kernel_rfl) (by kernel_rfl) (fun _ _ _ h => h) (Or.inl ⟨by rfl, ?_⟩) (by assumption) ?_
      rotate_left
      · ((intro w hSw); (try dsimp only at hSw); go_simp; (try with_reducible rfl))
      try simp only [Act.put, List.setIfInBounds_toArray, List.set_cons_zero, List.set_cons_succ]
      refine wpAnyH_take (i := 16) (oi := { dst := some 9, op := Op.assign (Operand.tmp 35), type := 29, pos := _, after := #[{ on := 13, ground := Ground.data }, { on := 15, ground := Ground.chain }, { on := 0, ground := Ground.phase }, { on := 1, ground := Ground.phase }, { on := 2, ground := Ground.phase }, { on := 3, ground := Ground.phase }, { on := 4, ground := Ground.phase }, { on := 5, ground := Ground.phase }, { on := 6, ground := Ground.phase }, { on := 7, ground := Ground.phase }, { on := 8, ground := Ground.phase }, { on := 9, ground := Ground.phase }, { on := 10, ground := Ground.phase }, { on := 11, ground := Ground.phase }, { on := 12, ground := Ground.phase }, { on := 13, ground := Ground.phase }, { on := 14, ground := Ground.phase }, { on := 15, ground := Ground.phase }], guard := none }) (v := ?_) rfl (by kernel_rfl) (by kernel_rfl) (by kernel_rfl) (fun _ _ _ h => h) (Or.inl ⟨by rfl, ?_⟩) (by assumption) ?_
      rotate_left
      · ((intro w hSw); (try dsimp only at hSw); go_simp; (try with_reducible rfl))
      try simp only [Act.put, List.setIfInBounds_toArray, List.set_cons_zero, List.set_cons_succ]
      refine wpAnyH_done (by kernel_rfl) ?_ _
      go_wp2
      go_ret2
      exact ⟨by rw [HRR.out]; rfl, (below_next (Below.refl _ _).drew hb1)⟩
    ·
      have HA : IntKind.u64.wrap (4611686018427387904 - (pos : Int)) = 4611686018427387904 - (pos : Int) := by rw [IntKind.wrap_u64]; omega
      have HA2 : IntKind.u64.wrap ((pos : Int) + (Q : Int)) = ((pos + Q : Nat) : Int) := by rw [IntKind.wrap_u64]; omega
      obtain ⟨Z, hZ⟩ : ∃ Z, Z = pos + Q := ⟨_, rfl⟩
      rw [← hZ] at HA2 HRR
      by_cases hz : 4611686018427387904 ≤ Z
      ·
        have HRR := Lib.hid (HRR.out.trans (if_pos hz))
        have hz' : (4611686018427387904 : Int) - (pos : Int) ≤ (Q : Int) := by omega
        clear hz hZ hpos hq
        go_enter Tryz.func64, Tryz.ntmps64
        go_wp2_with fail
        refine wp_region_held_drew (S := (fun W => W.cell? ⟨p, 4, none⟩ = some (.int .u64 (rest : Int)) ∧ W.cell? ⟨p, 5, none⟩ = some (.int .u64 (num : Int)) ∧ W.cell? ⟨p, 6, none⟩ = some (.int .u64 (den : Int)))) (by kernel_rfl) ?_ (fun hHeld => ?_)
        · ((try dsimp only); exact ⟨past_drew c2, past_drew c3, past_drew c4⟩)
        refine wpAnyH_take (i := 0) (oi := { dst := some 23, op := Op.move (Operand.tmp 6), type := 23, pos := _, after := #[], guard := none }) (v := ?_) rfl (by kernel_rfl) (by kernel_rfl) (by kernel_rfl) (fun _ _ _ h => h) (Or.inl ⟨by rfl, ?_⟩) (by assumption) ?_
        rotate_left
        · ((intro w hSw); (try dsimp only at hSw); go_simp; (try with_reducible rfl))
        try simp only [Act.put, List.setIfInBounds_toArray, List.set_cons_zero, List.set_cons_succ]
        refine wpAnyH_take (i := 1) (oi := { dst := some 24, op := Op.move (Operand.tmp 0), type := 97, pos := _, after := #[], guard := none }) (v := ?_) rfl (by kernel_rfl) (by kernel_rfl) (by kernel_rfl) (fun _ _ _ h => h) (Or.inl ⟨by rfl, ?_⟩) (by assumption) ?_
        rotate_left
        · ((intro w hSw); (try dsimp only at hSw); go_simp; (try with_reducible rfl))
        try simp only [Act.put, List.setIfInBounds_toArray, List.set_cons_zero, List.set_cons_succ]
        refine wpAnyH_take (i := 2) (oi := { dst := some 25, op := Op.nilCheck (Operand.tmp 24), type := 0, pos := _, after := #[{ on := 1, ground := Ground.data }], guard := none }) (v := ?_) rfl (by kernel_rfl) (by kernel_rfl) (by kernel_rfl) (fun _ _ _ h => h) (Or.inl ⟨by rfl, ?_⟩) (by assumption) ?_
        rotate_left
        · ((intro w hSw); (try dsimp only at hSw); go_simp; (try with_reducible rfl))
        try simp only [Act.put, List.setIfInBounds_toArray, List.set_cons_zero, List.set_cons_succ]
        refine wpAnyH_take (i := 3) (oi := { dst := some 26, op := Op.fieldAddr 41 (Operand.tmp 25) 2, type := 0, pos := _, after := #[{ on := 2, ground := Ground.data }], guard := none }) (v := ?_) rfl (by kernel_rfl) (by kernel_rfl) (by kernel_rfl) (fun _ _ _ h => h) (Or.inl ⟨by rfl, ?_⟩) (by assumption) ?_
        rotate_left
        · ((intro w hSw); (try dsimp only at hSw); go_simp; (try with_reducible rfl))
        try simp only [Act.put, List.setIfInBounds_toArray, List.set_cons_zero, List.set_cons_succ]
        refine wpAnyH_take (i := 4) (oi := { dst := some 27, op := Op.load 23 (Operand.tmp 26), type := 23, pos := _, after := #[{ on := 3, ground := Ground.data }], guard := none }) (v := ?_) rfl (by kernel_rfl) (by kernel_rfl) (by kernel_rfl) (fun _ _ _ h => h) (Or.inl ⟨by rfl, ?_⟩) (by assumption) ?_
        rotate_left
        · ((intro w hSw); (try dsimp only at hSw); go_simp; (try with_reducible rfl))
        try simp only [Act.put, List.setIfInBounds_toArray, List.set_cons_zero, List.set_cons_succ]
        refine wpAnyH_take (i := 5) (oi := { dst := some 28, op := Op.move (Operand.tmp 0), type := 97, pos := _, after := #[], guard := none }) (v := ?_) rfl (by kernel_rfl) (by kernel_rfl) (by kernel_rfl) (fun _ _ _ h => h) (Or.inl ⟨by rfl, ?_⟩) (by assumption) ?_
        rotate_left
        · ((intro w hSw); (try dsimp only at hSw); go_simp; (try with_reducible rfl))
        try simp only [Act.put, List.setIfInBounds_toArray, List.set_cons_zero, List.set_cons_succ]
        refine wpAnyH_take (i := 6) (oi := { dst := some 29, op := Op.nilCheck (Operand.tmp 28), type := 0, pos := _, after := #[{ on := 5, ground := Ground.data }], guard := none }) (v := ?_) rfl (by kernel_rfl) (by kernel_rfl) (by kernel_rfl) (fun _ _ _ h => h) (Or.inl ⟨by rfl, ?_⟩) (by assumption) ?_
        rotate_left
        · ((intro w hSw); (try dsimp only at hSw); go_simp; (try with_reducible rfl))
        try simp only [Act.put, List.setIfInBounds_toArray, List.set_cons_zero, List.set_cons_succ]
        refine wpAnyH_take (i := 7) (oi := { dst := some 30, op := Op.fieldAddr 41 (Operand.tmp 29) 3, type := 0, pos := _, after := #[{ on := 6, ground := Ground.data }], guard := none }) (v := ?_) rfl (by kernel_rfl) (by kernel_rfl) (by kernel_rfl) (fun _ _ _ h => h) (Or.inl ⟨by rfl, ?_⟩) (by assumption) ?_
        rotate_left
        · ((intro w hSw); (try dsimp only at hSw); go_simp; (try with_reducible rfl))
        try simp only [Act.put, List.setIfInBounds_toArray, List.set_cons_zero, List.set_cons_succ]
        refine wpAnyH_take (i := 8) (oi := { dst := some 31, op := Op.load 39 (Operand.tmp 30), type := 39, pos := _, after := #[{ on := 7, ground := Ground.data }], guard := none }) (v := ?_) rfl (by kernel_rfl) (by kernel_rfl) (by kernel_rfl) (fun _ _ _ h => h) (Or.inl ⟨by rfl, ?_⟩) (by assumption) ?_
        rotate_left
        · ((intro w hSw); (try dsimp only at hSw); go_simp; (try with_reducible rfl))
        try simp only [Act.put, List.setIfInBounds_toArray, List.set_cons_zero, List.set_cons_succ]
        refine wpAnyH_ready (rs := [9]) (by kernel_rfl) (by simp) ?_
        refine (AllReadyH.cons (o := { dst := some 32, op := Op.call { callee := Callee.value (Operand.func 89), args := #[Operand.tmp 23, Operand.tmp 27, Operand.tmp 31], argTypes := #[23, 23, 39] }, type := 124, pos := _, after := #[{ on := 0, ground := Ground.data }, { on := 4, ground := Ground.data }, { on := 8, ground := Ground.data }], guard := none }) rfl (fun K hK => ?_) AllReadyH.nil)
        go_simp
        (refine (HS.out _).mono ?_; rintro e w1 ⟨rfl, hb1⟩)
        go_wp2_with fail
        refine hK.out _ _ ?_ (fun hHeld => ?_)
        · ((try dsimp only); exact ⟨cell_then (W := w.drew) hb1 (Nat.le_refl _) c2, cell_then (W := w.drew) hb1 (Nat.le_refl _) c3, cell_then (W := w.drew) hb1 (Nat.le_refl _) c4⟩)
        clear hK K
        try simp only [Act.put, List.setIfInBounds_toArray, List.set_cons_zero, List.set_cons_succ]
        refine wpAnyH_take (i := 10) (oi := { dst := some 22, op := Op.move (Operand.tmp 32), type := 124, pos := _, after := #[{ on := 9, ground := Ground.data }], guard := none }) (v := ?_) rfl (by kernel_rfl) (by kernel_rfl) (by kernel_rfl) (fun _ _ _ h => h) (Or.inl ⟨by rfl, ?_⟩) (by assumption) ?_
        rotate_left
        · ((intro w hSw); (try dsimp only at hSw); go_simp; (try with_reducible rfl))
        try simp only [Act.put, List.setIfInBounds_toArray, List.set_cons_zero, List.set_cons_succ]
        refine wpAnyH_take (i := 11) (oi := { dst := some 33, op := Op.extract (Operand.tmp 22) 0, type := 23, pos := _, after := #[{ on := 10, ground := Ground.data }], guard := none }) (v := ?_) rfl (by kernel_rfl) (by kernel_rfl) (by kernel_rfl) (fun _ _ _ h => h) (Or.inl ⟨by rfl, ?_⟩) (by assumption) ?_
        rotate_left
        · ((intro w hSw); (try dsimp only at hSw); go_simp; (try with_reducible rfl))
        try simp only [Act.put, List.setIfInBounds_toArray, List.set_cons_zero, List.set_cons_succ]
        refine wpAnyH_take (i := 12) (oi := { dst := some 34, op := Op.extract (Operand.tmp 22) 1, type := 23, pos := _, after := #[{ on := 10, ground := Ground.data }, { on := 14, ground := Ground.gcOnly Departure.lateStores }], guard := none }) (v := ?_) rfl (by kernel_rfl) (by kernel_rfl) (by kernel_rfl) (fun _ _ _ h => h) (Or.inl ⟨by rfl, ?_⟩) (by assumption) ?_
        rotate_left
        · ((intro w hSw); (try dsimp only at hSw); go_simp; (try with_reducible rfl))
        try simp only [Act.put, List.setIfInBounds_toArray, List.set_cons_zero, List.set_cons_succ]
        refine wpAnyH_take (i := 13) (oi := { dst := some 35, op := Op.extract (Operand.tmp 22) 2, type := 29, pos := _, after := #[{ on := 10, ground := Ground.data }, { on := 15, ground := Ground.gcOnly Departure.lateStores }], guard := none }) (v := ?_) rfl (by kernel_rfl) (by kernel_rfl) (by kernel_rfl) (fun _ _ _ h => h) (Or.inl ⟨by rfl, ?_⟩) (by assumption) ?_
        rotate_left
        · ((intro w hSw); (try dsimp only at hSw); go_simp; (try with_reducible rfl))
        try simp only [Act.put, List.setIfInBounds_toArray, List.set_cons_zero, List.set_cons_succ]
        refine wpAnyH_take (i := 14) (oi := { dst := some 7, op := Op.assign (Operand.tmp 33), type := 23, pos := _, after := #[{ on := 11, ground := Ground.data }, { on := 9, ground := Ground.chain }, { on := 0, ground := Ground.phase }, { on := 1, ground := Ground.phase }, { on := 2, ground := Ground.phase }, { on := 3, ground := Ground.phase }, { on := 4, ground := Ground.phase }, { on := 5, ground := Ground.phase }, { on := 6, ground := Ground.phase }, { on := 7, ground := Ground.phase }, { on := 8, ground := Ground.phase }, { on := 9, ground := Ground.phase }, { on := 10, ground := Ground.phase }, { on := 11, ground := Ground.phase }, { on := 12, ground := Ground.textOnly Departure.lateStores }, { on := 13, ground := Ground.textOnly Departure.lateStores }], guard := none }) (v := ?_) rfl (by kernel_rfl) (by kernel_rfl) (by kernel_rfl) (fun _ _ _ h => h) (Or.inl ⟨by rfl, ?_⟩) (by assumption) ?_
        rotate_left
        · ((intro w hSw); (try dsimp only at hSw); go_simp; (try with_reducible rfl))
        try simp only [Act.put, List.setIfInBounds_toArray, List.set_cons_zero, List.set_cons_succ]
        refine wpAnyH_take (i := 15) (oi := { dst := some 8, op := Op.assign (Operand.tmp 34), type := 23, pos := _, after := #[{ on := 12, ground := Ground.data }, { on := 14, ground := Ground.chain }, { on := 0, ground := Ground.phase }, { on := 1, ground := Ground.phase }, { on := 2, ground := Ground.phase }, { on := 3, ground := Ground.phase }, { on := 4, ground := Ground.phase }, { on := 5, ground := Ground.phase }, { on := 6, ground := Ground.phase }, { on := 7, ground := Ground.phase }, { on := 8, ground := Ground.phase }, { on := 9, ground := Ground.phase }, { on := 10, ground := Ground.phase }, { on := 11, ground := Ground.phase }, { on := 12, ground := Ground.phase }, { on := 13, ground := Ground.textOnly Departure.lateStores }, { on := 14, ground := Ground.phase }], guard := none }) (v := ?_) rfl (by kernel_rfl) (by kernel_rfl) (by kernel_rfl) (fun _ _ _ h => h) (Or.inl ⟨by rfl, ?_⟩) (by assumption) ?_
        rotate_left
        · ((intro w hSw); (try dsimp only at hSw); go_simp; (try with_reducible rfl))
        try simp only [Act.put, List.setIfInBounds_toArray, List.set_cons_zero, List.set_cons_succ]
        refine wpAnyH_take (i := 16) (oi := { dst := some 9, op := Op.assign (Operand.tmp 35), type := 29, pos := _, after := #[{ on := 13, ground := Ground.data }, { on := 15, ground := Ground.chain }, { on := 0, ground := Ground.phase }, { on := 1, ground := Ground.phase }, { on := 2, ground := Ground.phase }, { on := 3, ground := Ground.phase }, { on := 4, ground := Ground.phase }, { on := 5, ground := Ground.phase }, { on := 6, ground := Ground.phase }, { on := 7, ground := Ground.phase }, { on := 8, ground := Ground.phase }, { on := 9, ground := Ground.phase }, { on := 10, ground := Ground.phase }, { on := 11, ground := Ground.phase }, { on := 12, ground := Ground.phase }, { on := 13, ground := Ground.phase }, { on := 14, ground := Ground.phase }, { on := 15, ground := Ground.phase }], guard := none }) (v := ?_) rfl (by kernel_rfl) (by kernel_rfl) (by kernel_rfl) (fun _ _ _ h => h) (Or.inl ⟨by rfl, ?_⟩) (by assumption) ?_
        rotate_left
        · ((intro w hSw); (try dsimp only at hSw); go_simp; (try with_reducible rfl))
        try simp only [Act.put, List.setIfInBounds_toArray, List.set_cons_zero, List.set_cons_succ]
        refine wpAnyH_done (by kernel_rfl) ?_ _
        have d1 := cell_then (W := w.drew) hb1 (Nat.le_refl _) c1
        go_wp2
        go_ret2
        exact ⟨by rw [HRR.out]; rfl, (below_next (Below.refl _ _).drew hb1)⟩
      ·
        have HRR := Lib.hid (HRR.out.trans (if_neg hz))
        have hz' : ¬ (4611686018427387904 : Int) - (pos : Int) ≤ (Q : Int) := by omega
        clear hz hZ hpos hq
        go_enter Tryz.func64, Tryz.ntmps64
        go_wp2_with fail
        refine wp_region_held_drew (S := (fun W => W.cell? ⟨p, 4, none⟩ = some (.int .u64 (rest : Int)) ∧ W.cell? ⟨p, 5, none⟩ = some (.int .u64 (num : Int)) ∧ W.cell? ⟨p, 6, none⟩ = some (.int .u64 (den : Int)))) (by kernel_rfl) ?_ (fun hHeld => ?_)
        · ((try dsimp only); exact ⟨past_drew c2, past_drew c3, past_drew c4⟩)
        refine wpAnyH_take (i := 0) (oi := { dst := some 23, op := Op.move (Operand.tmp 6), type := 23, pos := _, after := #[], guard := none }) (v := ?_) rfl (by kernel_rfl) (by kernel_rfl) (by kernel_rfl) (fun _ _ _ h => h) (Or.inl ⟨by rfl, ?_⟩) (by assumption) ?_
        rotate_left
        · ((intro w hSw); (try dsimp only at hSw); go_simp; (try with_reducible rfl))
        try simp only [Act.put, List.setIfInBounds_toArray, List.set_cons_zero, List.set_cons_succ]
        refine wpAnyH_take (i := 1) (oi := { dst := some 24, op := Op.move (Operand.tmp 0), type := 97, pos := _, after := #[], guard := none }) (v := ?_) rfl (by kernel_rfl) (by kernel_rfl) (by kernel_rfl) (fun _ _ _ h => h) (Or.inl ⟨by rfl, ?_⟩) (by assumption) ?_
        rotate_left
        · ((intro w hSw); (try dsimp only at hSw); go_simp; (try with_reducible rfl))
        try simp only [Act.put, List.setIfInBounds_toArray, List.set_cons_zero, List.set_cons_succ]
        refine wpAnyH_take (i := 2) (oi := { dst := some 25, op := Op.nilCheck (Operand.tmp 24), type := 0, pos := _, after := #[{ on := 1, ground := Ground.data }], guard := none }) (v := ?_) rfl (by kernel_rfl) (by kernel_rfl) (by kernel_rfl) (fun _ _ _ h => h) (Or.inl ⟨by rfl, ?_⟩) (by assumption) ?_
        rotate_left
        · ((intro w hSw); (try dsimp only at hSw); go_simp; (try with_reducible rfl))
        try simp only [Act.put, List.setIfInBounds_toArray, List.set_cons_zero, List.set_cons_succ]
        refine wpAnyH_take (i := 3) (oi := { dst := some 26, op := Op.fieldAddr 41 (Operand.tmp 25) 2, type := 0, pos := _, after := #[{ on := 2, ground := Ground.data }], guard := none }) (v := ?_) rfl (by kernel_rfl) (by kernel_rfl) (by kernel_rfl) (fun _ _ _ h => h) (Or.inl ⟨by rfl, ?_⟩) (by assumption) ?_
        rotate_left
        · ((intro w hSw); (try dsimp only at hSw); go_simp; (try with_reducible rfl))
        try simp only [Act.put, List.setIfInBounds_toArray, List.set_cons_zero, List.set_cons_succ]
        refine wpAnyH_take (i := 4) (oi := { dst := some 27, op := Op.load 23 (Operand.tmp 26), type := 23, pos := _, after := #[{ on := 3, ground := Ground.data }], guard := none }) (v := ?_) rfl (by kernel_rfl) (by kernel_rfl) (by kernel_rfl) (fun _ _ _ h => h) (Or.inl ⟨by rfl, ?_⟩) (by assumption) ?_
        rotate_left
        · ((intro w hSw); (try dsimp only at hSw); go_simp; (try with_reducible rfl))
        try simp only [Act.put, List.setIfInBounds_toArray, List.set_cons_zero, List.set_cons_succ]
        refine wpAnyH_take (i := 5) (oi := { dst := some 28, op := Op.move (Operand.tmp 0), type := 97, pos := _, after := #[], guard := none }) (v := ?_) rfl (by kernel_rfl) (by kernel_rfl) (by kernel_rfl) (fun _ _ _ h => h) (Or.inl ⟨by rfl, ?_⟩) (by assumption) ?_
        rotate_left
        · ((intro w hSw); (try dsimp only at hSw); go_simp; (try with_reducible rfl))
        try simp only [Act.put, List.setIfInBounds_toArray, List.set_cons_zero, List.set_cons_succ]
        refine wpAnyH_take (i := 6) (oi := { dst := some 29, op := Op.nilCheck (Operand.tmp 28), type := 0, pos := _, after := #[{ on := 5, ground := Ground.data }], guard := none }) (v := ?_) rfl (by kernel_rfl) (by kernel_rfl) (by kernel_rfl) (fun _ _ _ h => h) (Or.inl ⟨by rfl, ?_⟩) (by assumption) ?_
        rotate_left
        · ((intro w hSw); (try dsimp only at hSw); go_simp; (try with_reducible rfl))
        try simp only [Act.put, List.setIfInBounds_toArray, List.set_cons_zero, List.set_cons_succ]
        refine wpAnyH_take (i := 7) (oi := { dst := some 30, op := Op.fieldAddr 41 (Operand.tmp 29) 3, type := 0, pos := _, after := #[{ on := 6, ground := Ground.data }], guard := none }) (v := ?_) rfl (by kernel_rfl) (by kernel_rfl) (by kernel_rfl) (fun _ _ _ h => h) (Or.inl ⟨by rfl, ?_⟩) (by assumption) ?_
        rotate_left
        · ((intro w hSw); (try dsimp only at hSw); go_simp; (try with_reducible rfl))
        try simp only [Act.put, List.setIfInBounds_toArray, List.set_cons_zero, List.set_cons_succ]
        refine wpAnyH_take (i := 8) (oi := { dst := some 31, op := Op.load 39 (Operand.tmp 30), type := 39, pos := _, after := #[{ on := 7, ground := Ground.data }], guard := none }) (v := ?_) rfl (by kernel_rfl) (by kernel_rfl) (by kernel_rfl) (fun _ _ _ h => h) (Or.inl ⟨by rfl, ?_⟩) (by assumption) ?_
        rotate_left
        · ((intro w hSw); (try dsimp only at hSw); go_simp; (try with_reducible rfl))
        try simp only [Act.put, List.setIfInBounds_toArray, List.set_cons_zero, List.set_cons_succ]
        refine wpAnyH_ready (rs := [9]) (by kernel_rfl) (by simp) ?_
        refine (AllReadyH.cons (o := { dst := some 32, op := Op.call { callee := Callee.value (Operand.func 89), args := #[Operand.tmp 23, Operand.tmp 27, Operand.tmp 31], argTypes := #[23, 23, 39] }, type := 124, pos := _, after := #[{ on := 0, ground := Ground.data }, { on := 4, ground := Ground.data }, { on := 8, ground := Ground.data }], guard := none }) rfl (fun K hK => ?_) AllReadyH.nil)
        go_simp
        (refine (HS.out _).mono ?_; rintro e w1 ⟨rfl, hb1⟩)
        go_wp2_with fail
        refine hK.out _ _ ?_ (fun hHeld => ?_)
        · ((try dsimp only); exact ⟨cell_then (W := w.drew) hb1 (Nat.le_refl _) c2, cell_then (W := w.drew) hb1 (Nat.le_refl _) c3, cell_then (W := w.drew) hb1 (Nat.le_refl _) c4⟩)
        clear hK K
        try simp only [Act.put, List.setIfInBounds_toArray, List.set_cons_zero, List.set_cons_succ]
        refine wpAnyH_take (i := 10) (oi := { dst := some 22, op := Op.move (Operand.tmp 32), type := 124, pos := _, after := #[{ on := 9, ground := Ground.data }], guard := none }) (v := ?_) rfl (by kernel_rfl) (by kernel_rfl) (by kernel_rfl) (fun _ _ _ h => h) (Or.inl ⟨by rfl, ?_⟩) (by assumption) ?_
        rotate_left
        · ((intro w hSw); (try dsimp only at hSw); go_simp; (try with_reducible rfl))
        try simp only [Act.put, List.setIfInBounds_toArray, List.set_cons_zero, List.set_cons_succ]
        refine wpAnyH_take (i := 11) (oi := { dst := some 33, op := Op.extract (Operand.tmp 22) 0, type := 23, pos := _, after := #[{ on := 10, ground := Ground.data }], guard := none }) (v := ?_) rfl (by kernel_rfl) (by kernel_rfl) (by kernel_rfl) (fun _ _ _ h => h) (Or.inl ⟨by rfl, ?_⟩) (by assumption) ?_
        rotate_left
        · ((intro w hSw); (try dsimp only at hSw); go_simp; (try with_reducible rfl))
        try simp only [Act.put, List.setIfInBounds_toArray, List.set_cons_zero, List.set_cons_succ]
        refine wpAnyH_take (i := 12) (oi := { dst := some 34, op := Op.extract (Operand.tmp 22) 1, type := 23, pos := _, after := #[{ on := 10, ground := Ground.data }, { on := 14, ground := Ground.gcOnly Departure.lateStores }], guard := none }) (v := ?_) rfl (by kernel_rfl) (by kernel_rfl) (by kernel_rfl) (fun _ _ _ h => h) (Or.inl ⟨by rfl, ?_⟩) (by assumption) ?_
        rotate_left
        · ((intro w hSw); (try dsimp only at hSw); go_simp; (try with_reducible rfl))
        try simp only [Act.put, List.setIfInBounds_toArray, List.set_cons_zero, List.set_cons_succ]
        refine wpAnyH_take (i := 13) (oi := { dst := some 35, op := Op.extract (Operand.tmp 22) 2, type := 29, pos := _, after := #[{ on := 10, ground := Ground.data }, { on := 15, ground := Ground.gcOnly Departure.lateStores }], guard := none }) (v := ?_) rfl (by kernel_rfl) (by kernel_rfl) (by kernel_rfl) (fun _ _ _ h => h) (Or.inl ⟨by rfl, ?_⟩) (by assumption) ?_
        rotate_left
        · ((intro w hSw); (try dsimp only at hSw); go_simp; (try with_reducible rfl))
        try simp only [Act.put, List.setIfInBounds_toArray, List.set_cons_zero, List.set_cons_succ]
        refine wpAnyH_take (i := 14) (oi := { dst := some 7, op := Op.assign (Operand.tmp 33), type := 23, pos := _, after := #[{ on := 11, ground := Ground.data }, { on := 9, ground := Ground.chain }, { on := 0, ground := Ground.phase }, { on := 1, ground := Ground.phase }, { on := 2, ground := Ground.phase }, { on := 3, ground := Ground.phase }, { on := 4, ground := Ground.phase }, { on := 5, ground := Ground.phase }, { on := 6, ground := Ground.phase }, { on := 7, ground := Ground.phase }, { on := 8, ground := Ground.phase }, { on := 9, ground := Ground.phase }, { on := 10, ground := Ground.phase }, { on := 11, ground := Ground.phase }, { on := 12, ground := Ground.textOnly Departure.lateStores }, { on := 13, ground := Ground.textOnly Departure.lateStores }], guard := none }) (v := ?_) rfl (by kernel_rfl) (by kernel_rfl) (by kernel_rfl) (fun _ _ _ h => h) (Or.inl ⟨by rfl, ?_⟩) (by assumption) ?_
        rotate_left
        · ((intro w hSw); (try dsimp only at hSw); go_simp; (try with_reducible rfl))
        try simp only [Act.put, List.setIfInBounds_toArray, List.set_cons_zero, List.set_cons_succ]
        refine wpAnyH_take (i := 15) (oi := { dst := some 8, op := Op.assign (Operand.tmp 34), type := 23, pos := _, after := #[{ on := 12, ground := Ground.data }, { on := 14, ground := Ground.chain }, { on := 0, ground := Ground.phase }, { on := 1, ground := Ground.phase }, { on := 2, ground := Ground.phase }, { on := 3, ground := Ground.phase }, { on := 4, ground := Ground.phase }, { on := 5, ground := Ground.phase }, { on := 6, ground := Ground.phase }, { on := 7, ground := Ground.phase }, { on := 8, ground := Ground.phase }, { on := 9, ground := Ground.phase }, { on := 10, ground := Ground.phase }, { on := 11, ground := Ground.phase }, { on := 12, ground := Ground.phase }, { on := 13, ground := Ground.textOnly Departure.lateStores }, { on := 14, ground := Ground.phase }], guard := none }) (v := ?_) rfl (by kernel_rfl) (by kernel_rfl) (by kernel_rfl) (fun _ _ _ h => h) (Or.inl ⟨by rfl, ?_⟩) (by assumption) ?_
        rotate_left
        · ((intro w hSw); (try dsimp only at hSw); go_simp; (try with_reducible rfl))
        try simp only [Act.put, List.setIfInBounds_toArray, List.set_cons_zero, List.set_cons_succ]
        refine wpAnyH_take (i := 16) (oi := { dst := some 9, op := Op.assign (Operand.tmp 35), type := 29, pos := _, after := #[{ on := 13, ground := Ground.data }, { on := 15, ground := Ground.chain }, { on := 0, ground := Ground.phase }, { on := 1, ground := Ground.phase }, { on := 2, ground := Ground.phase }, { on := 3, ground := Ground.phase }, { on := 4, ground := Ground.phase }, { on := 5, ground := Ground.phase }, { on := 6, ground := Ground.phase }, { on := 7, ground := Ground.phase }, { on := 8, ground := Ground.phase }, { on := 9, ground := Ground.phase }, { on := 10, ground := Ground.phase }, { on := 11, ground := Ground.phase }, { on := 12, ground := Ground.phase }, { on := 13, ground := Ground.phase }, { on := 14, ground := Ground.phase }, { on := 15, ground := Ground.phase }], guard := none }) (v := ?_) rfl (by kernel_rfl) (by kernel_rfl) (by kernel_rfl) (fun _ _ _ h => h) (Or.inl ⟨by rfl, ?_⟩) (by assumption) ?_
        rotate_left
        · ((intro w hSw); (try dsimp only at hSw); go_simp; (try with_reducible rfl))
        try simp only [Act.put, List.setIfInBounds_toArray, List.set_cons_zero, List.set_cons_succ]
        refine wpAnyH_done (by kernel_rfl) ?_ _
        have d1 := cell_then (W := w.drew) hb1 (Nat.le_refl _) c1
        go_wp2
        go_ret2
        exact ⟨by rw [HRR.out]; rfl, (below_next (Below.refl _ _).drew hb1)⟩
set_option maxRecDepth 100000 in
set_option maxHeartbeats 1000000 in
theorem goR (p : Nat) (c : Ck) (t : Nat) (w : World) (h : Cq M w p c) (hk : Ckk c) (ht : t < 18446744073709551616) :
    Calls Tryz.prog 42 #[.pointer (some ⟨p, 2, none⟩), .int .u64 (t : Int)] w (GoQ M w p c t) := by
  by_cases hle : c.now ≤ t
  · have HR := Lib.hid (atC p c t w h hk ht)
    have HE := Lib.hid (go_eq hle)
    have H := Lib.hid h
    have c0 := h.c0
    have hle' : (c.now : Int) ≤ (t : Int) := by omega
    clear h hk ht hle
    unfold GoQ
    generalize go c t = G at *
    go_enter Tryz.func42, Tryz.ntmps42
    go_wp2_with fail
    refine HR.out.mono ?_
    rintro e w1 ⟨rfl, hb⟩
    generalize reach c t = RR at *
    have h1 := H.out.then_ hb
    have h2 := h1.set1 RR.1
    have h3 := h2.set2 RR.2
    have h4 := h3.set0 t
    have HG := Lib.hid (grown_set (i := 2) (u := .int .u64 (t : Int)) (grown_set (i := 4) (u := .int .u64 (RR.2 : Int)) (grown_set (i := 3) (u := .int .u64 (RR.1 : Int)) (grown_below hb (some p)))))
    have H4 := Lib.hid h4
    have f1 := h1.fz 3
    have f2 := h2.fz 4
    have f3 := h3.fz 2
    have d1 := h1.c1
    have d2 := h2.c2
    have d3 := h3.c0
    have d4 := h4.c1
    clear h1 h2 h3 h4 c0
    go_wp2
    go_ret
    rw [HE.out]
    exact ⟨rfl, H4.out, HG.out⟩
  · have HE := Lib.hid (go_no hle)
    have H := Lib.hid h
    have c0 := h.c0
    have c1 := h.c1
    have hle' : ¬ (c.now : Int) ≤ (t : Int) := by omega
    clear h hk ht hle
    unfold GoQ
    generalize go c t = G at *
    go_enter Tryz.func42, Tryz.ntmps42
    go_wp2
    go_ret
    rw [HE.out]
    exact ⟨rfl, H.out, grown_refl _ _⟩
set_option maxRecDepth 100000 in
set_option maxHeartbeats 1000000 in
theorem setR (p : Nat) (c : Ck) (t x : Nat) (w : World) (h : Cq M w p c) :
    Calls Tryz.prog 43 #[.pointer (some ⟨p, 2, none⟩), .int .u64 (t : Int), .int .u64 (x : Int)] w (SetQ M w p c t x) := by
  by_cases ht : t ≤ mx
  · by_cases hx : x ≤ mx
    · have h2 := h.set0 t
      have h3 := h2.set1 x
      have h4 := h3.set2 0
      have f1 := h.fz 2
      have f2 := h2.fz 3
      have f3 := h3.fz 4
      have d1 := h.c0
      have d2 := h2.c1
      have d3 := h3.c2
      have HG := Lib.hid (grown_set (i := 4) (u := .int .u64 ((0 : Nat) : Int)) (grown_set (i := 3) (u := .int .u64 (x : Int)) (grown_set (i := 2) (u := .int .u64 (t : Int)) (grown_refl w (some p)))))
      have H4 := Lib.hid h4
      have HT := Lib.hid (And.intro ht hx)
      rw [mx_eq] at ht hx
      have ht' : decide ((4611686018427387904 : Int) < (t : Int)) = false := decide_eq_false (by omega)
      have hx' : decide ((4611686018427387904 : Int) < (x : Int)) = false := decide_eq_false (by omega)
      clear h h2 h3 h4 ht hx
      go_enter Tryz.func43, Tryz.ntmps43
      go_wp2
      go_ret
      exact .inl ⟨HT.out.1, HT.out.2, rfl, H4.out, HG.out⟩
    · have HN := Lib.hid (fun h : t ≤ mx ∧ x ≤ mx => hx h.2)
      rw [mx_eq] at ht hx
      have ht' : decide ((4611686018427387904 : Int) < (t : Int)) = false := decide_eq_false (by omega)
      have hx' : decide ((4611686018427387904 : Int) < (x : Int)) = true := decide_eq_true (by omega)
      clear h ht hx
      go_enter Tryz.func43, Tryz.ntmps43
      go_wp2
      go_ret
      exact .inr ⟨HN.out, rfl, rfl⟩
  · have HN := Lib.hid (fun h : t ≤ mx ∧ x ≤ mx => ht h.1)
    rw [mx_eq] at ht
    have ht' : decide ((4611686018427387904 : Int) < (t : Int)) = true := decide_eq_true (by omega)
    clear h ht
    go_enter Tryz.func43, Tryz.ntmps43
    go_wp2
    go_ret
    exact .inr ⟨HN.out, rfl, rfl⟩
set_option maxRecDepth 100000 in
set_option maxHeartbeats 2000000 in
theorem turnR (p : Nat) (c : Ck) (t n d : Nat) (w : World) (h : Cq M w p c) (hk : Ckk c) (ht : t < 18446744073709551616) (hn : n < 18446744073709551616) (hd : d < 18446744073709551616) :
    Calls Tryz.prog 62 #[.pointer (some ⟨p, 2, none⟩), .int .u64 (t : Int), .agg #[.int .u64 (n : Int), .int .u64 (d : Int)]] w (TurnQ M w p c t n d) := by
  have hM := fun w => rMay n d w hn hd
  have hpl := h.lt
  by_cases htm : t ≤ mx
  · have ht' : decide ((4611686018427387904 : Int) < (t : Int)) = false := decide_eq_false (by rw [mx_eq] at htm; omega)
    have HTM := Lib.hid htm
    clear htm
    cases hB : mayN n d
    · rw [hB] at hM
      have HM := Lib.hid hM
      have HB := Lib.hid hB
      clear h hk ht hn hd hM hB
      go_enter Tryz.func62, Tryz.ntmps62
      go_wp2_with fail
      refine (HM.out _).mono ?_
      rintro e w1 ⟨rfl, rfl⟩
      go_wp2
      go_ret
      exact .inr ⟨fun h => by rw [HB.out] at h; exact absurd h.2 (by decide), rfl, ((Below.refl _ _).alloc (Nat.le_refl _) _).alloc (by simp) _⟩
    · obtain ⟨kd, hkd, hde, _⟩ := may_pow hB
      have hd20 : d ≤ 1048576 := by
        have : 2 ^ kd ≤ 2 ^ 20 := Nat.pow_le_pow_right (by decide) hkd
        omega
      rw [hB] at hM
      have HM := Lib.hid hM
      have HB := Lib.hid hB
      have hgok := go_ckk hk ht
      obtain ⟨kk, hkk, hdk, _⟩ := may_pow hgok.may
      have HDK := Lib.hid hdk
      clear hdk hde
      have h0 := (h.alloc (.cells #[.int .u64 (n : Int), .int .u64 (d : Int)] 39)).alloc (.cells #[.int .u64 (n : Int), .int .u64 (d : Int)] 39)
      have HGo := Lib.hid (goR p c t _ h0 hk ht)
      have HE := Lib.hid (turn_eq c t n d)
      have hb0 : Below w.heap.size w ((w.alloc (.cells #[.int .u64 (n : Int), .int .u64 (d : Int)] 39)).alloc (.cells #[.int .u64 (n : Int), .int .u64 (d : Int)] 39)) := ((Below.refl _ _).alloc (Nat.le_refl _) _).alloc (by simp) _
      have HB0 := Lib.hid hb0
      have x0 : ((w.alloc (.cells #[.int .u64 (n : Int), .int .u64 (d : Int)] 39)).alloc (.cells #[.int .u64 (n : Int), .int .u64 (d : Int)] 39)).cell? ⟨w.heap.size, 0, none⟩ = some (.int .u64 (n : Int)) := past_alloc (by rw [World.cell?_alloc_new]; rfl)
      have x1 : ((w.alloc (.cells #[.int .u64 (n : Int), .int .u64 (d : Int)] 39)).alloc (.cells #[.int .u64 (n : Int), .int .u64 (d : Int)] 39)).cell? ⟨w.heap.size, 1, none⟩ = some (.int .u64 (d : Int)) := past_alloc (by rw [World.cell?_alloc_new]; rfl)
      have X0 := Lib.hid x0
      have X1 := Lib.hid x1
      clear h hk ht hn hM hB h0 hb0 x0 x1
      unfold GoQ at HGo
      generalize go c t = G at *
      go_enter Tryz.func62, Tryz.ntmps62
      go_wp2_with fail
      refine (HM.out _).mono ?_
      rintro e w1 ⟨rfl, rfl⟩
      go_wp2_with fail
      refine HGo.out.mono ?_
      rintro e w2 ⟨rfl, h2, hg2⟩
      have b0 : w2.cell? ⟨w.heap.size, 0, none⟩ = some (.int .u64 (n : Int)) := hg2.cell X0.out (fun e => by injection e with e; exact absurd e (by show w.heap.size ≠ p; omega))
      have b1 : w2.cell? ⟨w.heap.size, 1, none⟩ = some (.int .u64 (d : Int)) := hg2.cell X1.out (fun e => by injection e with e; exact absurd e (by show w.heap.size ≠ p; omega))
      have r2 : w2.cell? ⟨p, 4, none⟩ = some (.int .u64 (G.rest : Int)) := h2.c2
      have r4 : w2.cell? ⟨p, 6, none⟩ = some (.int .u64 (G.den : Int)) := h2.c4
      have f2 : w2.frozen? ⟨p, 4, none⟩ = false := h2.fz 4
      obtain ⟨V, hV⟩ : ∃ V, V = G.rest * d / G.den := ⟨_, rfl⟩
      have H3 : Hid (Cq M (w2.setCell ⟨p, 4, none⟩ (.int .u64 (V : Int))) p { G with rest := V }) := Lib.hid (h2.set2 V)
      obtain ⟨U, hU⟩ : ∃ U, U = G.rest * d := ⟨_, rfl⟩
      have hmul : IntKind.u64.wrap ((G.rest : Int) * (d : Int)) = (U : Int) := by
        have h1 := hgok.ok.rest
        have h2 := hgok.den
        have hlt : G.rest * d ≤ 1048576 * 1048576 := Nat.mul_le_mul (by omega) hd20
        rw [wu, ← Int.natCast_mul, ← hU]
        omega
      have hquo : (U : Int) / (G.den : Int) = (V : Int) := by rw [hV, ← hU, Int.natCast_ediv]
      have hqw : IntKind.u64.wrap (V : Int) = (V : Int) := by
        have h1 := hgok.ok.rest
        have h2 := hgok.den
        have hlt : G.rest * d ≤ 1048576 * 1048576 := Nat.mul_le_mul (by omega) hd20
        have := Nat.div_le_self (G.rest * d) G.den
        rw [← hV] at this
        rw [wu]
        omega
      have hne : ¬ (G.den : Int) = 0 := by have := hgok.ok.den; omega
      have hne2 : ¬ G.den = 0 := by have := hgok.ok.den; omega
      clear hU

      have HV := Lib.hid hV
      clear h2 hV hgok
      go_wp2_with fail
      refine wp_region_held_drew (S := (fun W => W.cell? ⟨p, 6, none⟩ = some (.int .u64 (G.den : Int)) ∧ W.cell? ⟨w.heap.size, 1, none⟩ = some (.int .u64 (d : Int)))) (by kernel_rfl) ?_ (fun hHeld => ?_)
      · ((try dsimp only); exact ⟨r4, b1⟩)
      refine wpAnyH_take (i := 0) (oi := { dst := some 17, op := Op.move (Operand.tmp 0), type := 97, pos := _, after := #[], guard := none }) (v := ?_) rfl (by kernel_rfl) (by kernel_rfl) (by kernel_rfl) (fun _ _ _ h => h) (Or.inl ⟨by rfl, ?_⟩) (by assumption) ?_
      rotate_left
      · ((intro w hSw); (try dsimp only at hSw); go_simp; (try with_reducible rfl))
      try simp only [Act.put, List.setIfInBounds_toArray, List.set_cons_zero, List.set_cons_succ]
      refine wpAnyH_take (i := 1) (oi := { dst := some 18, op := Op.move (Operand.tmp 0), type := 97, pos := _, after := #[], guard := none }) (v := ?_) rfl (by kernel_rfl) (by kernel_rfl) (by kernel_rfl) (fun _ _ _ h => h) (Or.inl ⟨by rfl, ?_⟩) (by assumption) ?_
      rotate_left
      · ((intro w hSw); (try dsimp only at hSw); go_simp; (try with_reducible rfl))
      try simp only [Act.put, List.setIfInBounds_toArray, List.set_cons_zero, List.set_cons_succ]
      refine wpAnyH_take (i := 2) (oi := { dst := some 19, op := Op.nilCheck (Operand.tmp 18), type := 0, pos := _, after := #[{ on := 1, ground := Ground.data }], guard := none }) (v := ?_) rfl (by kernel_rfl) (by kernel_rfl) (by kernel_rfl) (fun _ _ _ h => h) (Or.inl ⟨by rfl, ?_⟩) (by assumption) ?_
      rotate_left
      · ((intro w hSw); (try dsimp only at hSw); go_simp; (try with_reducible rfl))
      try simp only [Act.put, List.setIfInBounds_toArray, List.set_cons_zero, List.set_cons_succ]
      refine wpAnyH_take (i := 3) (oi := { dst := some 20, op := Op.fieldAddr 41 (Operand.tmp 19) 2, type := 0, pos := _, after := #[{ on := 2, ground := Ground.data }], guard := none }) (v := ?_) rfl (by kernel_rfl) (by kernel_rfl) (by kernel_rfl) (fun _ _ _ h => h) (Or.inl ⟨by rfl, ?_⟩) (by assumption) ?_
      rotate_left
      · ((intro w hSw); (try dsimp only at hSw); go_simp; (try with_reducible rfl))
      try simp only [Act.put, List.setIfInBounds_toArray, List.set_cons_zero, List.set_cons_succ]
      refine wpAnyH_take (i := 5) (oi := { dst := some 22, op := Op.fieldAddr 39 (Operand.tmp 5) 1, type := 0, pos := _, after := #[], guard := none }) (v := ?_) rfl (by kernel_rfl) (by kernel_rfl) (by kernel_rfl) (fun _ _ _ h => h) (Or.inl ⟨by rfl, ?_⟩) (by assumption) ?_
      rotate_left
      · ((intro w hSw); (try dsimp only at hSw); go_simp; (try with_reducible rfl))
      try simp only [Act.put, List.setIfInBounds_toArray, List.set_cons_zero, List.set_cons_succ]
      refine wpAnyH_take (i := 6) (oi := { dst := some 23, op := Op.load 23 (Operand.tmp 22), type := 23, pos := _, after := #[{ on := 5, ground := Ground.data }], guard := none }) (v := ?_) rfl (by kernel_rfl) (by kernel_rfl) (by kernel_rfl) (fun _ _ _ h => h) (Or.inl ⟨by rfl, ?_⟩) (by assumption) ?_
      rotate_left
      · ((intro w hSw); (try dsimp only at hSw); go_simp; (try with_reducible rfl))
      try simp only [Act.put, List.setIfInBounds_toArray, List.set_cons_zero, List.set_cons_succ]
      refine wpAnyH_take (i := 8) (oi := { dst := some 25, op := Op.move (Operand.tmp 0), type := 97, pos := _, after := #[], guard := none }) (v := ?_) rfl (by kernel_rfl) (by kernel_rfl) (by kernel_rfl) (fun _ _ _ h => h) (Or.inl ⟨by rfl, ?_⟩) (by assumption) ?_
      rotate_left
      · ((intro w hSw); (try dsimp only at hSw); go_simp; (try with_reducible rfl))
      try simp only [Act.put, List.setIfInBounds_toArray, List.set_cons_zero, List.set_cons_succ]
      refine wpAnyH_take (i := 9) (oi := { dst := some 26, op := Op.nilCheck (Operand.tmp 25), type := 0, pos := _, after := #[{ on := 8, ground := Ground.data }], guard := none }) (v := ?_) rfl (by kernel_rfl) (by kernel_rfl) (by kernel_rfl) (fun _ _ _ h => h) (Or.inl ⟨by rfl, ?_⟩) (by assumption) ?_
      rotate_left
      · ((intro w hSw); (try dsimp only at hSw); go_simp; (try with_reducible rfl))
      try simp only [Act.put, List.setIfInBounds_toArray, List.set_cons_zero, List.set_cons_succ]
      refine wpAnyH_take (i := 10) (oi := { dst := some 27, op := Op.fieldAddr 41 (Operand.tmp 26) 3, type := 0, pos := _, after := #[{ on := 9, ground := Ground.data }], guard := none }) (v := ?_) rfl (by kernel_rfl) (by kernel_rfl) (by kernel_rfl) (fun _ _ _ h => h) (Or.inl ⟨by rfl, ?_⟩) (by assumption) ?_
      rotate_left
      · ((intro w hSw); (try dsimp only at hSw); go_simp; (try with_reducible rfl))
      try simp only [Act.put, List.setIfInBounds_toArray, List.set_cons_zero, List.set_cons_succ]
      refine wpAnyH_take (i := 11) (oi := { dst := some 28, op := Op.fieldAddr 39 (Operand.tmp 27) 1, type := 0, pos := _, after := #[{ on := 10, ground := Ground.data }], guard := none }) (v := ?_) rfl (by kernel_rfl) (by kernel_rfl) (by kernel_rfl) (fun _ _ _ h => h) (Or.inl ⟨by rfl, ?_⟩) (by assumption) ?_
      rotate_left
      · ((intro w hSw); (try dsimp only at hSw); go_simp; (try with_reducible rfl))
      try simp only [Act.put, List.setIfInBounds_toArray, List.set_cons_zero, List.set_cons_succ]
      refine wpAnyH_take (i := 12) (oi := { dst := some 29, op := Op.load 23 (Operand.tmp 28), type := 23, pos := _, after := #[{ on := 11, ground := Ground.data }], guard := none }) (v := ?_) rfl (by kernel_rfl) (by kernel_rfl) (by kernel_rfl) (fun _ _ _ h => h) (Or.inl ⟨by rfl, ?_⟩) (by assumption) ?_
      rotate_left
      · ((intro w hSw); (try dsimp only at hSw); go_simp; (try with_reducible rfl))
      try simp only [Act.put, List.setIfInBounds_toArray, List.set_cons_zero, List.set_cons_succ]
      refine wpAnyH_ready (rs := [4]) (by kernel_rfl) (by simp) ?_
      refine (AllReadyH.cons (o := { dst := some 21, op := Op.load 23 (Operand.tmp 20), type := 23, pos := _, after := #[{ on := 3, ground := Ground.data }], guard := none }) rfl (fun K hK => ?_) AllReadyH.nil)
      go_simp
      refine hK.out _ _ ?_ (fun hHeld => ?_)
      · ((try dsimp only); exact ⟨r4, b1⟩)
      clear hK K
      try simp only [Act.put, List.setIfInBounds_toArray, List.set_cons_zero, List.set_cons_succ]
      refine wpAnyH_take (i := 7) (oi := { dst := some 24, op := Op.binOp BinOp.mul 23 (Operand.tmp 21) (Operand.tmp 23) 23, type := 23, pos := _, after := #[{ on := 4, ground := Ground.data }, { on := 6, ground := Ground.data }], guard := none }) (v := ?_) rfl (by kernel_rfl) (by kernel_rfl) (by kernel_rfl) (fun _ _ _ h => h) (Or.inl ⟨by rfl, ?_⟩) (by assumption) ?_
      rotate_left
      · ((intro w hSw); (try dsimp only at hSw); go_simp; (try with_reducible rfl))
      try simp only [Act.put, List.setIfInBounds_toArray, List.set_cons_zero, List.set_cons_succ]
      refine wpAnyH_take (i := 13) (oi := { dst := some 30, op := Op.binOp BinOp.quo 23 (Operand.tmp 24) (Operand.tmp 29) 23, type := 23, pos := _, after := #[{ on := 7, ground := Ground.data }, { on := 12, ground := Ground.data }], guard := none }) (v := ?_) rfl (by kernel_rfl) (by kernel_rfl) (by kernel_rfl) (fun _ _ _ h => h) (Or.inl ⟨by rfl, ?_⟩) (by assumption) ?_
      rotate_left
      · ((intro w hSw); (try dsimp only at hSw); go_simp; (try with_reducible rfl))
      try simp only [Act.put, List.setIfInBounds_toArray, List.set_cons_zero, List.set_cons_succ]
      refine wpAnyH_take (i := 14) (oi := { dst := some 31, op := Op.nilCheck (Operand.tmp 17), type := 0, pos := _, after := #[{ on := 0, ground := Ground.data }, { on := 0, ground := Ground.phase }, { on := 1, ground := Ground.phase }, { on := 2, ground := Ground.phase }, { on := 3, ground := Ground.phase }, { on := 4, ground := Ground.phase }, { on := 5, ground := Ground.phase }, { on := 6, ground := Ground.phase }, { on := 7, ground := Ground.phase }, { on := 8, ground := Ground.phase }, { on := 9, ground := Ground.phase }, { on := 10, ground := Ground.phase }, { on := 11, ground := Ground.phase }, { on := 12, ground := Ground.phase }, { on := 13, ground := Ground.phase }], guard := none }) (v := ?_) rfl (by kernel_rfl) (by kernel_rfl) (by kernel_rfl) (fun _ _ _ h => h) (Or.inl ⟨by rfl, ?_⟩) (by assumption) ?_
      rotate_left
      · ((intro w hSw); (try dsimp only at hSw); go_simp; (try with_reducible rfl))
      try simp only [Act.put, List.setIfInBounds_toArray, List.set_cons_zero, List.set_cons_succ]
      refine wpAnyH_take (i := 15) (oi := { dst := some 32, op := Op.fieldAddr 41 (Operand.tmp 31) 2, type := 0, pos := _, after := #[{ on := 14, ground := Ground.data }, { on := 0, ground := Ground.phase }, { on := 1, ground := Ground.phase }, { on := 2, ground := Ground.phase }, { on := 3, ground := Ground.phase }, { on := 4, ground := Ground.phase }, { on := 5, ground := Ground.phase }, { on := 6, ground := Ground.phase }, { on := 7, ground := Ground.phase }, { on := 8, ground := Ground.phase }, { on := 9, ground := Ground.phase }, { on := 10, ground := Ground.phase }, { on := 11, ground := Ground.phase }, { on := 12, ground := Ground.phase }, { on := 13, ground := Ground.phase }], guard := none }) (v := ?_) rfl (by kernel_rfl) (by kernel_rfl) (by kernel_rfl) (fun _ _ _ h => h) (Or.inl ⟨by rfl, ?_⟩) (by assumption) ?_
      rotate_left
      · ((intro w hSw); (try dsimp only at hSw); go_simp; (try with_reducible rfl))
      try simp only [Act.put, List.setIfInBounds_toArray, List.set_cons_zero, List.set_cons_succ]
      refine wpAnyH_ready (rs := [16]) (by kernel_rfl) (by simp) ?_
      refine (AllReadyH.cons (o := { dst := none, op := Op.store 23 (Operand.tmp 32) (Operand.tmp 30), type := 0, pos := _, after := #[{ on := 15, ground := Ground.data }, { on := 13, ground := Ground.data }, { on := 0, ground := Ground.phase }, { on := 1, ground := Ground.phase }, { on := 2, ground := Ground.phase }, { on := 3, ground := Ground.phase }, { on := 4, ground := Ground.phase }, { on := 5, ground := Ground.phase }, { on := 6, ground := Ground.phase }, { on := 7, ground := Ground.phase }, { on := 8, ground := Ground.phase }, { on := 9, ground := Ground.phase }, { on := 10, ground := Ground.phase }, { on := 11, ground := Ground.phase }, { on := 12, ground := Ground.phase }, { on := 13, ground := Ground.phase }], guard := none }) rfl (fun K hK => ?_) AllReadyH.nil)
      go_simp
      refine hK.out _ _ ?_ (fun hHeld => ?_)
      · ((try dsimp only); exact ⟨H3.out.c4, past_set b1 (by show w.heap.size ≠ p; omega)⟩)
      clear hK K
      try simp only [Act.put, List.setIfInBounds_toArray, List.set_cons_zero, List.set_cons_succ]
      refine wpAnyH_done (by kernel_rfl) ?_ _
      have H3d := H3.out
      have e0 : (w2.setCell ⟨p, 4, none⟩ (.int .u64 (V : Int))).cell? ⟨w.heap.size, 0, none⟩ = some (.int .u64 (n : Int)) := past_set b0 (by show w.heap.size ≠ p; omega)
      have e1 : (w2.setCell ⟨p, 4, none⟩ (.int .u64 (V : Int))).cell? ⟨w.heap.size, 1, none⟩ = some (.int .u64 (d : Int)) := past_set b1 (by show w.heap.size ≠ p; omega)
      have hg4 := grown_set (i := 4) (u := .int .u64 (V : Int)) (grown_then hg2 (w2 := w2) (Below.refl _ _))
      generalize hW3 : w2.setCell ⟨p, 4, none⟩ (.int .u64 (V : Int)) = w4 at *
      have q5 := H3d.set3 n
      have q6 := q5.set4 d
      have x3 := H3d.c3
      have x4 := q5.c4
      have y3 := H3d.fz 5
      have y4 := H3d.fz 6
      have z4 := q5.fz 6
      have HQ := Lib.hid q6
      have HG := Lib.hid (grown_trans (grown_below HB0.out (some p)) (grown_set (i := 6) (u := .int .u64 (d : Int)) (grown_set (i := 5) (u := .int .u64 (n : Int)) hg4)))
      clear hW3 q5 q6 H3d hg4 hg2 b0 b1 r2 r4 f2
      go_wp2
      go_ret
      exact .inl ⟨HTM.out, HB.out, rfl, by rw [HE.out, ← HV.out]; exact HQ.out, (grown_then HG.out (Below.refl _ _).drew)⟩

  · have HN := Lib.hid (fun h : t ≤ mx ∧ mayN n d = true => htm h.1)
    have ht' : decide ((4611686018427387904 : Int) < (t : Int)) = true := decide_eq_true (by rw [mx_eq] at htm; omega)
    clear h hk ht htm hM
    go_enter Tryz.func62, Tryz.ntmps62
    go_wp2
    go_ret
    exact .inr ⟨HN.out, rfl, (Below.refl _ _).alloc (Nat.le_refl _) _⟩
end Go.Proofs.YthihkbnkbajglaaGreatDoor.Rk
