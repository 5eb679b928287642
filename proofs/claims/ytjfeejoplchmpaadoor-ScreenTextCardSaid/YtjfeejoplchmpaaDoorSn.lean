/- The chapter's examples. -/
import Derived.Test.YtjfeejoplchmpaaDoorSm
import Derived.Deep.RegionHeld3
set_option linter.unusedVariables false
namespace Go.Proofs.YtjfeejoplchmpaaDoor.Sn
open Go Go.RowKit Kit Gm Gv Sa Sb Sd Se Sf Sg Sh Si Sj Sk Sl Sm

abbrev s13 : Scr := ⟨1, 3, 0, 0, false, ⟨#[]⟩⟩
theorem bel_then {z w w1 : World} (h : Below z.heap.size z w) (k : Below w.heap.size w w1) : Below z.heap.size z w1 := below_then h k h.size
theorem bel_drewN {z w w1 : World} {k : Nat} (h : Below z.heap.size z w) (hk : w.drewN k = w1) : Below z.heap.size z w1 := by subst hk; exact ⟨h.os, h.tape, h.output, h.size, h.block⟩
/-- the screen of the example in its block, and all that was before stands. -/
def SS (z : World) (g p : Nat) (W : World) : Prop := (W.cell? ⟨p, 0, none⟩ = some (.int .i64 1) ∧ W.cell? ⟨p, 1, none⟩ = some (.int .i64 3) ∧ W.cell? ⟨p, 2, none⟩ = some (.slice (some ⟨g, 0, none⟩) 3 3) ∧ W.cell? ⟨p, 3, none⟩ = some (.int .i64 0) ∧ W.cell? ⟨p, 4, none⟩ = some (.int .i64 0) ∧ W.cell? ⟨p, 5, none⟩ = some (.bool false) ∧ W.cell? ⟨p, 6, none⟩ = some (.string ⟨#[]⟩)) ∧ Below z.heap.size z W
theorem tx_then {w w1 : World} {a : Option Addr} {ts : List ByteArray} (h : Tx w a ts) (hb : Below w.heap.size w w1) : Tx w1 a ts := by
  rcases h with h | ⟨g, rfl, h⟩
  · exact .inl h
  · exact .inr ⟨g, rfl, fun i hi => cell_then hb (Nat.le_refl _) (h i hi)⟩
theorem lit_tx (w : World) : Tx (w.alloc (.cells #[.string ⟨#[]⟩] 9)) (some ⟨w.heap.size, 0, none⟩) [⟨#[]⟩] := .inr ⟨_, rfl, fun i hi => by
  obtain rfl : i = 0 := by simpa using hi
  exact one_text w ⟨#[]⟩⟩
theorem nw3 : Nw [blk, blk, blk] := by
  intro c hc
  have : c = blk := by simpa using hc
  subst this
  exact ⟨rfl, by decide +kernel⟩
theorem blank13 (w : World) : Calls Tryd.prog 10 #[.int .i64 1, .int .i64 3] w fun e w' => e = .returned (.tuple #[.agg #[.int .i64 1, .int .i64 3, .slice (some ⟨w.heap.size + 1, 0, none⟩) 3 3, .int .i64 0, .int .i64 0, .bool false, .string ⟨#[]⟩], .int .i64 0]) ∧ RB w' (w.heap.size + 1) [blk, blk, blk] ∧ Below w.heap.size w w' :=
  blankYes 1 3 w (by decide)
theorem sc3 {z W : World} {g : Nat} (h : RB z g [blk, blk, blk]) (hb : Below z.heap.size z W) : Sc W g 0 [blk, blk, blk] := fun j hj i hi => by
  rw [Nat.zero_add]; exact (h.then_ hb (Nat.le_refl _)).cell j hj i hi
theorem may13 {z : World} {g : Nat} (h : RB z g [blk, blk, blk]) (W : World) (hb : Below z.heap.size z W) : Calls Tryd.prog 11 #[.agg #[.int .i64 1, .int .i64 3, .slice (some ⟨g, 0, none⟩) 3 3, .int .i64 0, .int .i64 0, .bool false, .string ⟨#[]⟩]] W fun e w' => e = .returned (.bool true) ∧ Below W.heap.size W w' :=
  mayN 1 3 0 0 g 0 3 3 false [blk, blk, blk] W (by decide) (by decide) (by decide) (by decide) (by decide) (by decide) rfl (sc3 h hb) nw3 rfl
theorem text13 {z : World} {g : Nat} (h : RB z g [blk, blk, blk]) (W : World) (hb : Below z.heap.size z W) : Calls Tryd.prog 13 #[.agg #[.int .i64 1, .int .i64 3, .slice (some ⟨g, 0, none⟩) 3 3, .int .i64 0, .int .i64 0, .bool false, .string ⟨#[]⟩]] W fun e w' => ∃ a c, e = .returned (.slice a 1 c) ∧ Tx w' a [⟨#[]⟩] ∧ Below W.heap.size W w' :=
  (show Calls Tryd.prog 13 #[.agg #[.int .i64 1, .int .i64 3, .slice (some ⟨g, 0, none⟩) 3 3, .int .i64 0, .int .i64 0, .bool false, .string ⟨#[]⟩]] W fun e w' => ∃ v, e = .returned v ∧ Tr w' W.heap.size v (linesL 3 [32, 32, 32] 1) ∧ Below W.heap.size W w' from textN 1 3 0 0 g 0 3 3 false [blk, blk, blk] [32, 32, 32] W (by decide) (by decide) (by decide) (by decide) (by decide) (by decide) rfl (by decide) (sc3 h hb) nw3 rfl rfl (by decide)).mono fun e w' ⟨v, h1, h2, h3⟩ => by
    have e1 : linesL 3 [32, 32, 32] 1 = [⟨#[]⟩] := rfl
    rw [e1] at h2
    obtain ⟨a, c, rfl, ht⟩ := h2.slice
    exact ⟨a, c, h1, ht, h3⟩
theorem copy13 {z : World} {g : Nat} (h : RB z g [blk, blk, blk]) (W : World) (hb : Below z.heap.size z W) : Calls Tryd.prog 8 #[.agg #[.int .i64 1, .int .i64 3, .slice (some ⟨g, 0, none⟩) 3 3, .int .i64 0, .int .i64 0, .bool false, .string ⟨#[]⟩]] W fun e w' => ∃ g2 c2, e = .returned (.agg #[.int .i64 1, .int .i64 3, .slice (some ⟨g2, 0, none⟩) 3 c2, .int .i64 0, .int .i64 0, .bool false, .string ⟨#[]⟩]) ∧ W.heap.size ≤ g2 ∧ 3 ≤ c2 ∧ Rw w' g2 [blk, blk, blk] ∧ Below W.heap.size W w' :=
  copyC s13 g 0 3 3 [blk, blk, blk] W rfl (by decide) (by decide) (sc3 h hb)
theorem same13 {z : World} {g : Nat} (h : RB z g [blk, blk, blk]) (W : World) (hb : Below z.heap.size z W) (g2 c2 : Nat) (hr : Rw W g2 [blk, blk, blk]) : Calls Tryd.prog 9 #[.agg #[.int .i64 1, .int .i64 3, .slice (some ⟨g, 0, none⟩) 3 3, .int .i64 0, .int .i64 0, .bool false, .string ⟨#[]⟩], .agg #[.int .i64 1, .int .i64 3, .slice (some ⟨g2, 0, none⟩) 3 c2, .int .i64 0, .int .i64 0, .bool false, .string ⟨#[]⟩]] W fun e w' => e = .returned (.bool true) ∧ Below W.heap.size W w' :=
  (sameC s13 s13 g 0 g2 0 3 3 3 c2 [blk, blk, blk] [blk, blk, blk] W rfl rfl (sc3 h hb) hr.sc (by decide)).mono fun e w' ⟨⟨r, h1, h2⟩, h3⟩ => ⟨by rw [h1, h2.2 ⟨rfl, rfl⟩], h3⟩
set_option maxRecDepth 100000 in
set_option maxHeartbeats 8000000 in
theorem firstC (w : World) : Calls Tryd.prog 6 #[] w fun e w' => e = .returned (.bool true) ∧ Below w.heap.size w w' := by
  have H10 := Lib.hid (blank13 w)
  obtain ⟨g, hg⟩ : ∃ g, g = w.heap.size + 1 := ⟨_, rfl⟩
  rw [← hg] at H10
  clear hg
  go_enter Tryd.func6, Tryd.ntmps6
  go_wp2_with (go_at_call 10; (with_reducible refine H10.out.mono ?_); rintro e w1 ⟨rfl, hr, hb⟩; have hz := heap_alloc_last w1 (svO ⟨1, 3, 0, 0, false, ⟨#[]⟩⟩ (some ⟨g, 0, none⟩) 3 3); have hal := below_one w1 (svO ⟨1, 3, 0, 0, false, ⟨#[]⟩⟩ (some ⟨g, 0, none⟩) 3 3); (dsimp only [svO] at hz hal))
  generalize hz0 : w1.alloc (.cells #[.int .i64 1, .int .i64 3, .slice (some ⟨g, 0, none⟩) 3 3, .int .i64 0, .int .i64 0, .bool false, .string ⟨#[]⟩] 24) = z at *
  have HB := Lib.hid (below_then hb hal hb.size)
  have hr2 := hr.then_ hal (Nat.le_refl _)
  have H11 := Lib.hid (fun W hb => may13 hr2 W hb)
  have H13 := Lib.hid (fun W hb => text13 hr2 W hb)
  have H8 := Lib.hid (fun W hb => copy13 hr2 W hb)
  have H9 := Lib.hid (fun W hb => same13 hr2 W hb)
  generalize w1.heap.size = p at *
  have KS := Lib.hid (fun W (hb : Below z.heap.size z W) => (⟨by
    obtain ⟨k0, k1, k2, k3, k4, k5, k6⟩ := seven (s := ⟨1, 3, 0, 0, false, ⟨#[]⟩⟩) hz
    exact ⟨cell_then hb (Nat.le_refl _) k0, cell_then hb (Nat.le_refl _) k1, cell_then hb (Nat.le_refl _) k2, cell_then hb (Nat.le_refl _) k3, cell_then hb (Nat.le_refl _) k4, cell_then hb (Nat.le_refl _) k5, cell_then hb (Nat.le_refl _) k6⟩, hb⟩ : SS z g p W))
  have KB := Lib.hid (fun W (h : SS z g p W) => h.2)
  have hN : Below z.heap.size z z.drew := ⟨rfl, rfl, rfl, Nat.le_refl _, fun _ _ => rfl⟩
  clear hr hb hz hal hr2
  refine wp_region_held_drew (S := (fun W => SS z g p W)) (by kernel_rfl) ?_ (fun hHeld => ?_)
  · ((try dsimp only); exact KS.out _ hN)
  refine wpAnyH_take (i := 0) (oi := { dst := some 7, op := Op.move (Operand.tmp 2), type := 35, pos := _, after := #[], guard := none }) (v := ?_) rfl (by kernel_rfl) (by kernel_rfl) (by kernel_rfl) (fun _ _ _ h => h) (Or.inl ⟨by rfl, ?_⟩) (by assumption) ?_
  rotate_left
  · ((intro w hSw); (try dsimp only at hSw); obtain ⟨⟨s0, s1, s2, s3, s4, s5, s6⟩, _⟩ := hSw; go_simp; (try with_reducible rfl))
  try simp only [Act.put, List.setIfInBounds_toArray, List.set_cons_zero, List.set_cons_succ]
  refine wpAnyH_take (i := 1) (oi := { dst := some 8, op := Op.binOp BinOp.eql 35 (Operand.tmp 7) (Operand.const (Value.int IntKind.i64 0)) 35, type := 4, pos := _, after := #[{ on := 0, ground := Ground.data }], guard := none }) (v := ?_) rfl (by kernel_rfl) (by kernel_rfl) (by kernel_rfl) (fun _ _ _ h => h) (Or.inl ⟨by rfl, ?_⟩) (by assumption) ?_
  rotate_left
  · ((intro w hSw); (try dsimp only at hSw); obtain ⟨⟨s0, s1, s2, s3, s4, s5, s6⟩, _⟩ := hSw; go_simp; (try with_reducible rfl))
  try simp only [Act.put, List.setIfInBounds_toArray, List.set_cons_zero, List.set_cons_succ]
  refine wpAnyH_take (i := 2) (oi := { dst := some 9, op := Op.move (Operand.tmp 8), type := 4, pos := _, after := #[{ on := 1, ground := Ground.data }], guard := none }) (v := ?_) rfl (by kernel_rfl) (by kernel_rfl) (by kernel_rfl) (fun _ _ _ h => h) (Or.inl ⟨by rfl, ?_⟩) (by assumption) ?_
  rotate_left
  · ((intro w hSw); (try dsimp only at hSw); obtain ⟨⟨s0, s1, s2, s3, s4, s5, s6⟩, _⟩ := hSw; go_simp; (try with_reducible rfl))
  try simp only [Act.put, List.setIfInBounds_toArray, List.set_cons_zero, List.set_cons_succ]
  refine wpAnyH_take (i := 3) (oi := { dst := some 10, op := Op.load 24 (Operand.tmp 1), type := 24, pos := _, after := #[{ on := 2, ground := Ground.guard }], guard := some (2, true) }) (v := ?_) rfl (by kernel_rfl) (by kernel_rfl) (by kernel_rfl) (fun _ _ _ h => h) (Or.inl ⟨by rfl, ?_⟩) (by assumption) ?_
  rotate_left
  · ((intro w hSw); (try dsimp only at hSw); obtain ⟨⟨s0, s1, s2, s3, s4, s5, s6⟩, _⟩ := hSw; go_simp; (try with_reducible rfl))
  try simp only [Act.put, List.setIfInBounds_toArray, List.set_cons_zero, List.set_cons_succ]
  refine wpAnyH_ready (rs := [4]) (by kernel_rfl) (by simp) ?_
  refine (AllReadyH.cons (o := { dst := some 11, op := Op.call { callee := Callee.value (Operand.func 11), args := #[Operand.tmp 10], argTypes := #[24] }, type := 4, pos := _, after := #[{ on := 3, ground := Ground.data }, { on := 2, ground := Ground.chain }, { on := 2, ground := Ground.guard }], guard := some (2, true) }) rfl (fun K hK => ?_) AllReadyH.nil)
  go_simp
  refine (H11.out _ (KB.out _ hHeld)).mono ?_
  rintro x wm ⟨rfl, hb⟩
  have hN := bel_then (KB.out _ hHeld) hb
  go_wp2_with fail
  refine hK.out _ _ ?_ (fun hHeld => ?_)
  · ((try dsimp only); exact KS.out _ hN)
  clear hK K
  try simp only [Act.put, List.setIfInBounds_toArray, List.set_cons_zero, List.set_cons_succ]
  refine wpAnyH_take (i := 5) (oi := { dst := some 12, op := Op.pick (Operand.tmp 9) (Operand.tmp 11) (Operand.const (Value.bool false)), type := 4, pos := _, after := #[{ on := 2, ground := Ground.data }, { on := 4, ground := Ground.data }], guard := none }) (v := ?_) rfl (by kernel_rfl) (by kernel_rfl) (by kernel_rfl) (fun _ _ _ h => h) (Or.inl ⟨by rfl, ?_⟩) (by assumption) ?_
  rotate_left
  · ((intro w hSw); (try dsimp only at hSw); obtain ⟨⟨s0, s1, s2, s3, s4, s5, s6⟩, _⟩ := hSw; go_simp; (try with_reducible rfl))
  try simp only [Act.put, List.setIfInBounds_toArray, List.set_cons_zero, List.set_cons_succ]
  refine wpAnyH_take (i := 6) (oi := { dst := some 13, op := Op.move (Operand.tmp 12), type := 4, pos := _, after := #[{ on := 5, ground := Ground.data }, { on := 4, ground := Ground.chain }], guard := none }) (v := ?_) rfl (by kernel_rfl) (by kernel_rfl) (by kernel_rfl) (fun _ _ _ h => h) (Or.inl ⟨by rfl, ?_⟩) (by assumption) ?_
  rotate_left
  · ((intro w hSw); (try dsimp only at hSw); obtain ⟨⟨s0, s1, s2, s3, s4, s5, s6⟩, _⟩ := hSw; go_simp; (try with_reducible rfl))
  try simp only [Act.put, List.setIfInBounds_toArray, List.set_cons_zero, List.set_cons_succ]
  refine wpAnyH_take (i := 7) (oi := { dst := some 14, op := Op.fieldAddr 24 (Operand.tmp 1) 2, type := 0, pos := _, after := #[{ on := 6, ground := Ground.guard }], guard := some (6, true) }) (v := ?_) rfl (by kernel_rfl) (by kernel_rfl) (by kernel_rfl) (fun _ _ _ h => h) (Or.inl ⟨by rfl, ?_⟩) (by assumption) ?_
  rotate_left
  · ((intro w hSw); (try dsimp only at hSw); obtain ⟨⟨s0, s1, s2, s3, s4, s5, s6⟩, _⟩ := hSw; go_simp; (try with_reducible rfl))
  try simp only [Act.put, List.setIfInBounds_toArray, List.set_cons_zero, List.set_cons_succ]
  refine wpAnyH_take (i := 8) (oi := { dst := some 15, op := Op.load 22 (Operand.tmp 14), type := 22, pos := _, after := #[{ on := 7, ground := Ground.data }, { on := 6, ground := Ground.guard }], guard := some (6, true) }) (v := ?_) rfl (by kernel_rfl) (by kernel_rfl) (by kernel_rfl) (fun _ _ _ h => h) (Or.inl ⟨by rfl, ?_⟩) (by assumption) ?_
  rotate_left
  · ((intro w hSw); (try dsimp only at hSw); obtain ⟨⟨s0, s1, s2, s3, s4, s5, s6⟩, _⟩ := hSw; go_simp; (try with_reducible rfl))
  try simp only [Act.put, List.setIfInBounds_toArray, List.set_cons_zero, List.set_cons_succ]
  refine wpAnyH_take (i := 9) (oi := { dst := some 16, op := Op.call { callee := Callee.builtin Builtin.len, args := #[Operand.tmp 15], argTypes := #[22] }, type := 3, pos := _, after := #[{ on := 8, ground := Ground.data }, { on := 6, ground := Ground.guard }], guard := some (6, true) }) (v := ?_) rfl (by kernel_rfl) (by kernel_rfl) (by kernel_rfl) (fun _ _ _ h => h) (Or.inl ⟨by rfl, ?_⟩) (by assumption) ?_
  rotate_left
  · ((intro w hSw); (try dsimp only at hSw); obtain ⟨⟨s0, s1, s2, s3, s4, s5, s6⟩, _⟩ := hSw; go_simp; (try with_reducible rfl))
  try simp only [Act.put, List.setIfInBounds_toArray, List.set_cons_zero, List.set_cons_succ]
  refine wpAnyH_take (i := 10) (oi := { dst := some 17, op := Op.binOp BinOp.eql 3 (Operand.tmp 16) (Operand.const (Value.int IntKind.i64 3)) 3, type := 4, pos := _, after := #[{ on := 9, ground := Ground.data }, { on := 6, ground := Ground.guard }], guard := some (6, true) }) (v := ?_) rfl (by kernel_rfl) (by kernel_rfl) (by kernel_rfl) (fun _ _ _ h => h) (Or.inl ⟨by rfl, ?_⟩) (by assumption) ?_
  rotate_left
  · ((intro w hSw); (try dsimp only at hSw); obtain ⟨⟨s0, s1, s2, s3, s4, s5, s6⟩, _⟩ := hSw; go_simp; (try with_reducible rfl))
  try simp only [Act.put, List.setIfInBounds_toArray, List.set_cons_zero, List.set_cons_succ]
  refine wpAnyH_take (i := 11) (oi := { dst := some 18, op := Op.pick (Operand.tmp 13) (Operand.tmp 17) (Operand.const (Value.bool false)), type := 4, pos := _, after := #[{ on := 6, ground := Ground.data }, { on := 10, ground := Ground.data }], guard := none }) (v := ?_) rfl (by kernel_rfl) (by kernel_rfl) (by kernel_rfl) (fun _ _ _ h => h) (Or.inl ⟨by rfl, ?_⟩) (by assumption) ?_
  rotate_left
  · ((intro w hSw); (try dsimp only at hSw); obtain ⟨⟨s0, s1, s2, s3, s4, s5, s6⟩, _⟩ := hSw; go_simp; (try with_reducible rfl))
  try simp only [Act.put, List.setIfInBounds_toArray, List.set_cons_zero, List.set_cons_succ]
  refine wpAnyH_take (i := 12) (oi := { dst := some 19, op := Op.move (Operand.tmp 18), type := 4, pos := _, after := #[{ on := 11, ground := Ground.data }, { on := 6, ground := Ground.chain }], guard := none }) (v := ?_) rfl (by kernel_rfl) (by kernel_rfl) (by kernel_rfl) (fun _ _ _ h => h) (Or.inl ⟨by rfl, ?_⟩) (by assumption) ?_
  rotate_left
  · ((intro w hSw); (try dsimp only at hSw); obtain ⟨⟨s0, s1, s2, s3, s4, s5, s6⟩, _⟩ := hSw; go_simp; (try with_reducible rfl))
  try simp only [Act.put, List.setIfInBounds_toArray, List.set_cons_zero, List.set_cons_succ]
  refine wpAnyH_take (i := 13) (oi := { dst := some 20, op := Op.load 24 (Operand.tmp 1), type := 24, pos := _, after := #[{ on := 12, ground := Ground.guard }], guard := some (12, true) }) (v := ?_) rfl (by kernel_rfl) (by kernel_rfl) (by kernel_rfl) (fun _ _ _ h => h) (Or.inl ⟨by rfl, ?_⟩) (by assumption) ?_
  rotate_left
  · ((intro w hSw); (try dsimp only at hSw); obtain ⟨⟨s0, s1, s2, s3, s4, s5, s6⟩, _⟩ := hSw; go_simp; (try with_reducible rfl))
  try simp only [Act.put, List.setIfInBounds_toArray, List.set_cons_zero, List.set_cons_succ]
  refine wpAnyH_ready (rs := [14, 15]) (by kernel_rfl) (by simp) ?_
  refine (AllReadyH.cons (o := { dst := some 21, op := Op.call { callee := Callee.value (Operand.func 13), args := #[Operand.tmp 20], argTypes := #[24] }, type := 38, pos := _, after := #[{ on := 13, ground := Ground.data }, { on := 12, ground := Ground.chain }, { on := 12, ground := Ground.guard }], guard := some (12, true) }) rfl (fun K hK => ?_) (AllReadyH.cons (o := { dst := some 22, op := Op.buildSlice 38 1 #[(0, Operand.const (Value.string { data := #[] }))], type := 38, pos := _, after := #[{ on := 12, ground := Ground.guard }], guard := some (12, true) }) rfl (fun K hK => ?_) AllReadyH.nil))
  · skip
    go_simp
    refine (H13.out _ (KB.out _ hHeld)).mono ?_
    rintro x wt ⟨ta, tc, rfl, htx, hb⟩
    have hN := bel_then (KB.out _ hHeld) hb
    have HTX := Lib.hid htx
    go_wp2_with fail
    refine hK.out _ _ ?_ (fun hHeld => ?_)
    · ((try dsimp only); exact KS.out _ hN)
    clear hK K
    try simp only [Act.put, List.setIfInBounds_toArray, List.set_cons_zero, List.set_cons_succ]
    refine wpAnyH_ready (rs := [15]) (by kernel_rfl) (by simp) ?_
    refine (AllReadyH.cons (o := { dst := some 22, op := Op.buildSlice 38 1 #[(0, Operand.const (Value.string { data := #[] }))], type := 38, pos := _, after := #[{ on := 12, ground := Ground.guard }], guard := some (12, true) }) rfl (fun K hK => ?_) AllReadyH.nil)
    go_simp
    have HLT := Lib.hid (lit_tx wt)
    have hN := bel_then (KB.out _ hHeld) (below_one wt (.cells #[.string ⟨#[]⟩] 9))
    have HTX := Lib.hid (tx_then HTX.out (below_one wt (.cells #[.string ⟨#[]⟩] 9)))
    refine hK.out _ _ ?_ (fun hHeld => ?_)
    · ((try dsimp only); exact KS.out _ hN)
    clear hK K
    try simp only [Act.put, List.setIfInBounds_toArray, List.set_cons_zero, List.set_cons_succ]
    refine wpAnyH_ready (rs := [16]) (by kernel_rfl) (by simp) ?_
    refine (AllReadyH.cons (o := { dst := some 23, op := Op.call { callee := Callee.value (Operand.func 12), args := #[Operand.tmp 21, Operand.tmp 22], argTypes := #[38, 38] }, type := 4, pos := _, after := #[{ on := 14, ground := Ground.data }, { on := 15, ground := Ground.data }, { on := 14, ground := Ground.chain }, { on := 12, ground := Ground.guard }], guard := some (12, true) }) rfl (fun K hK => ?_) AllReadyH.nil)
    go_simp
    refine (textsSame _ _ 1 _ _ [⟨#[]⟩] _ rfl (by decide) HTX.out HLT.out).mono ?_
    rintro x wx ⟨rfl, kx, hkx⟩
    have hN := bel_drewN (KB.out _ hHeld) hkx
    go_wp2_with fail
    refine hK.out _ _ ?_ (fun hHeld => ?_)
    · ((try dsimp only); exact KS.out _ hN)
    clear hK K
    try simp only [Act.put, List.setIfInBounds_toArray, List.set_cons_zero, List.set_cons_succ]
    refine wpAnyH_take (i := 17) (oi := { dst := some 24, op := Op.pick (Operand.tmp 19) (Operand.tmp 23) (Operand.const (Value.bool false)), type := 4, pos := _, after := #[{ on := 12, ground := Ground.data }, { on := 16, ground := Ground.data }], guard := none }) (v := ?_) rfl (by kernel_rfl) (by kernel_rfl) (by kernel_rfl) (fun _ _ _ h => h) (Or.inl ⟨by rfl, ?_⟩) (by assumption) ?_
    rotate_left
    · ((intro w hSw); (try dsimp only at hSw); obtain ⟨⟨s0, s1, s2, s3, s4, s5, s6⟩, _⟩ := hSw; go_simp; (try with_reducible rfl))
    try simp only [Act.put, List.setIfInBounds_toArray, List.set_cons_zero, List.set_cons_succ]
    refine wpAnyH_take (i := 18) (oi := { dst := some 25, op := Op.move (Operand.tmp 24), type := 4, pos := _, after := #[{ on := 17, ground := Ground.data }, { on := 16, ground := Ground.chain }], guard := none }) (v := ?_) rfl (by kernel_rfl) (by kernel_rfl) (by kernel_rfl) (fun _ _ _ h => h) (Or.inl ⟨by rfl, ?_⟩) (by assumption) ?_
    rotate_left
    · ((intro w hSw); (try dsimp only at hSw); obtain ⟨⟨s0, s1, s2, s3, s4, s5, s6⟩, _⟩ := hSw; go_simp; (try with_reducible rfl))
    try simp only [Act.put, List.setIfInBounds_toArray, List.set_cons_zero, List.set_cons_succ]
    refine wpAnyH_take (i := 19) (oi := { dst := some 26, op := Op.load 24 (Operand.tmp 1), type := 24, pos := _, after := #[{ on := 18, ground := Ground.guard }], guard := some (18, true) }) (v := ?_) rfl (by kernel_rfl) (by kernel_rfl) (by kernel_rfl) (fun _ _ _ h => h) (Or.inl ⟨by rfl, ?_⟩) (by assumption) ?_
    rotate_left
    · ((intro w hSw); (try dsimp only at hSw); obtain ⟨⟨s0, s1, s2, s3, s4, s5, s6⟩, _⟩ := hSw; go_simp; (try with_reducible rfl))
    try simp only [Act.put, List.setIfInBounds_toArray, List.set_cons_zero, List.set_cons_succ]
    refine wpAnyH_take (i := 20) (oi := { dst := some 27, op := Op.load 24 (Operand.tmp 1), type := 24, pos := _, after := #[{ on := 18, ground := Ground.guard }], guard := some (18, true) }) (v := ?_) rfl (by kernel_rfl) (by kernel_rfl) (by kernel_rfl) (fun _ _ _ h => h) (Or.inl ⟨by rfl, ?_⟩) (by assumption) ?_
    rotate_left
    · ((intro w hSw); (try dsimp only at hSw); obtain ⟨⟨s0, s1, s2, s3, s4, s5, s6⟩, _⟩ := hSw; go_simp; (try with_reducible rfl))
    try simp only [Act.put, List.setIfInBounds_toArray, List.set_cons_zero, List.set_cons_succ]
    refine wpAnyH_ready (rs := [21]) (by kernel_rfl) (by simp) ?_
    refine (AllReadyH.cons (o := { dst := some 28, op := Op.call { callee := Callee.value (Operand.func 8), args := #[Operand.tmp 27], argTypes := #[24] }, type := 24, pos := _, after := #[{ on := 20, ground := Ground.data }, { on := 18, ground := Ground.chain }, { on := 18, ground := Ground.guard }], guard := some (18, true) }) rfl (fun K hK => ?_) AllReadyH.nil)
    go_simp
    refine (H8.out _ (KB.out _ hHeld)).mono ?_
    rintro x wc ⟨gc, cc, rfl, _, _, hrw, hb⟩
    have hN := bel_then (KB.out _ hHeld) hb
    have HRW := Lib.hid hrw
    go_wp2_with fail
    refine hK.out _ _ ?_ (fun hHeld => ?_)
    · ((try dsimp only); exact KS.out _ hN)
    clear hK K
    try simp only [Act.put, List.setIfInBounds_toArray, List.set_cons_zero, List.set_cons_succ]
    refine wpAnyH_ready (rs := [22]) (by kernel_rfl) (by simp) ?_
    refine (AllReadyH.cons (o := { dst := some 29, op := Op.call { callee := Callee.value (Operand.func 9), args := #[Operand.tmp 26, Operand.tmp 28], argTypes := #[24, 24] }, type := 4, pos := _, after := #[{ on := 19, ground := Ground.data }, { on := 21, ground := Ground.data }, { on := 21, ground := Ground.chain }, { on := 18, ground := Ground.guard }], guard := some (18, true) }) rfl (fun K hK => ?_) AllReadyH.nil)
    go_simp
    refine (H9.out _ (KB.out _ hHeld) gc cc HRW.out).mono ?_
    rintro x ws ⟨rfl, hb⟩
    have hN := bel_then (KB.out _ hHeld) hb
    go_wp2_with fail
    refine hK.out _ _ ?_ (fun hHeld => ?_)
    · ((try dsimp only); exact KS.out _ hN)
    clear hK K
    try simp only [Act.put, List.setIfInBounds_toArray, List.set_cons_zero, List.set_cons_succ]
    refine wpAnyH_take (i := 23) (oi := { dst := some 30, op := Op.pick (Operand.tmp 25) (Operand.tmp 29) (Operand.const (Value.bool false)), type := 4, pos := _, after := #[{ on := 18, ground := Ground.data }, { on := 22, ground := Ground.data }], guard := none }) (v := ?_) rfl (by kernel_rfl) (by kernel_rfl) (by kernel_rfl) (fun _ _ _ h => h) (Or.inl ⟨by rfl, ?_⟩) (by assumption) ?_
    rotate_left
    · ((intro w hSw); (try dsimp only at hSw); obtain ⟨⟨s0, s1, s2, s3, s4, s5, s6⟩, _⟩ := hSw; go_simp; (try with_reducible rfl))
    try simp only [Act.put, List.setIfInBounds_toArray, List.set_cons_zero, List.set_cons_succ]
    refine wpAnyH_take (i := 24) (oi := { dst := some 31, op := Op.move (Operand.tmp 30), type := 4, pos := _, after := #[{ on := 23, ground := Ground.data }, { on := 22, ground := Ground.chain }], guard := none }) (v := ?_) rfl (by kernel_rfl) (by kernel_rfl) (by kernel_rfl) (fun _ _ _ h => h) (Or.inl ⟨by rfl, ?_⟩) (by assumption) ?_
    rotate_left
    · ((intro w hSw); (try dsimp only at hSw); obtain ⟨⟨s0, s1, s2, s3, s4, s5, s6⟩, _⟩ := hSw; go_simp; (try with_reducible rfl))
    try simp only [Act.put, List.setIfInBounds_toArray, List.set_cons_zero, List.set_cons_succ]
    refine wpAnyH_take (i := 25) (oi := { dst := some 32, op := Op.build 24 #[], type := 24, pos := _, after := #[{ on := 24, ground := Ground.guard }], guard := some (24, true) }) (v := ?_) rfl (by kernel_rfl) (by kernel_rfl) (by kernel_rfl) (fun _ _ _ h => h) (Or.inl ⟨by rfl, ?_⟩) (by assumption) ?_
    rotate_left
    · ((intro w hSw); (try dsimp only at hSw); obtain ⟨⟨s0, s1, s2, s3, s4, s5, s6⟩, _⟩ := hSw; go_simp; (try with_reducible rfl))
    try simp only [Act.put, List.setIfInBounds_toArray, List.set_cons_zero, List.set_cons_succ]
    refine wpAnyH_ready (rs := [26]) (by kernel_rfl) (by simp) ?_
    refine (AllReadyH.cons (o := { dst := some 33, op := Op.call { callee := Callee.value (Operand.func 11), args := #[Operand.tmp 32], argTypes := #[24] }, type := 4, pos := _, after := #[{ on := 25, ground := Ground.data }, { on := 24, ground := Ground.chain }, { on := 24, ground := Ground.guard }], guard := some (24, true) }) rfl (fun K hK => ?_) AllReadyH.nil)
    go_simp
    refine (may0 _).mono ?_
    rintro x wy ⟨rfl, hb⟩
    have hN := bel_then (KB.out _ hHeld) hb
    go_wp2_with fail
    refine hK.out _ _ ?_ (fun hHeld => ?_)
    · ((try dsimp only); exact KS.out _ hN)
    clear hK K
    try simp only [Act.put, List.setIfInBounds_toArray, List.set_cons_zero, List.set_cons_succ]
    refine wpAnyH_take (i := 27) (oi := { dst := some 34, op := Op.unOp UnOp.not 4 (Operand.tmp 33), type := 4, pos := _, after := #[{ on := 26, ground := Ground.data }, { on := 24, ground := Ground.guard }], guard := some (24, true) }) (v := ?_) rfl (by kernel_rfl) (by kernel_rfl) (by kernel_rfl) (fun _ _ _ h => h) (Or.inl ⟨by rfl, ?_⟩) (by assumption) ?_
    rotate_left
    · ((intro w hSw); (try dsimp only at hSw); obtain ⟨⟨s0, s1, s2, s3, s4, s5, s6⟩, _⟩ := hSw; go_simp; (try with_reducible rfl))
    try simp only [Act.put, List.setIfInBounds_toArray, List.set_cons_zero, List.set_cons_succ]
    refine wpAnyH_take (i := 28) (oi := { dst := some 35, op := Op.pick (Operand.tmp 31) (Operand.tmp 34) (Operand.const (Value.bool false)), type := 4, pos := _, after := #[{ on := 24, ground := Ground.data }, { on := 27, ground := Ground.data }], guard := none }) (v := ?_) rfl (by kernel_rfl) (by kernel_rfl) (by kernel_rfl) (fun _ _ _ h => h) (Or.inl ⟨by rfl, ?_⟩) (by assumption) ?_
    rotate_left
    · ((intro w hSw); (try dsimp only at hSw); obtain ⟨⟨s0, s1, s2, s3, s4, s5, s6⟩, _⟩ := hSw; go_simp; (try with_reducible rfl))
    try simp only [Act.put, List.setIfInBounds_toArray, List.set_cons_zero, List.set_cons_succ]
    refine wpAnyH_take (i := 29) (oi := { dst := some 0, op := Op.assign (Operand.tmp 35), type := 4, pos := _, after := #[{ on := 28, ground := Ground.data }, { on := 26, ground := Ground.chain }, { on := 0, ground := Ground.phase }, { on := 1, ground := Ground.phase }, { on := 2, ground := Ground.phase }, { on := 3, ground := Ground.phase }, { on := 4, ground := Ground.phase }, { on := 5, ground := Ground.phase }, { on := 6, ground := Ground.phase }, { on := 7, ground := Ground.phase }, { on := 8, ground := Ground.phase }, { on := 9, ground := Ground.phase }, { on := 10, ground := Ground.phase }, { on := 11, ground := Ground.phase }, { on := 12, ground := Ground.phase }, { on := 13, ground := Ground.phase }, { on := 14, ground := Ground.phase }, { on := 15, ground := Ground.phase }, { on := 16, ground := Ground.phase }, { on := 17, ground := Ground.phase }, { on := 18, ground := Ground.phase }, { on := 19, ground := Ground.phase }, { on := 20, ground := Ground.phase }, { on := 21, ground := Ground.phase }, { on := 22, ground := Ground.phase }, { on := 23, ground := Ground.phase }, { on := 24, ground := Ground.phase }, { on := 25, ground := Ground.phase }, { on := 26, ground := Ground.phase }, { on := 27, ground := Ground.phase }, { on := 28, ground := Ground.phase }], guard := none }) (v := ?_) rfl (by kernel_rfl) (by kernel_rfl) (by kernel_rfl) (fun _ _ _ h => h) (Or.inl ⟨by rfl, ?_⟩) (by assumption) ?_
    rotate_left
    · ((intro w hSw); (try dsimp only at hSw); obtain ⟨⟨s0, s1, s2, s3, s4, s5, s6⟩, _⟩ := hSw; go_simp; (try with_reducible rfl))
    try simp only [Act.put, List.setIfInBounds_toArray, List.set_cons_zero]
    refine wpAnyH_done (by kernel_rfl) ?_ _
    go_wp2
    go_ret
    exact ⟨rfl, below_then HB.out (KB.out _ hHeld) HB.out.size⟩
  · skip
    go_simp
    have HLT := Lib.hid (lit_tx wm)
    have hN := bel_then (KB.out _ hHeld) (below_one wm (.cells #[.string ⟨#[]⟩] 9))
    refine hK.out _ _ ?_ (fun hHeld => ?_)
    · ((try dsimp only); exact KS.out _ hN)
    clear hK K
    try simp only [Act.put, List.setIfInBounds_toArray, List.set_cons_zero, List.set_cons_succ]
    refine wpAnyH_ready (rs := [14]) (by kernel_rfl) (by simp) ?_
    refine (AllReadyH.cons (o := { dst := some 21, op := Op.call { callee := Callee.value (Operand.func 13), args := #[Operand.tmp 20], argTypes := #[24] }, type := 38, pos := _, after := #[{ on := 13, ground := Ground.data }, { on := 12, ground := Ground.chain }, { on := 12, ground := Ground.guard }], guard := some (12, true) }) rfl (fun K hK => ?_) AllReadyH.nil)
    go_simp
    refine (H13.out _ (KB.out _ hHeld)).mono ?_
    rintro x wt ⟨ta, tc, rfl, htx, hb⟩
    have hN := bel_then (KB.out _ hHeld) hb
    have HTX := Lib.hid htx
    have HLT := Lib.hid (tx_then HLT.out hb)
    go_wp2_with fail
    refine hK.out _ _ ?_ (fun hHeld => ?_)
    · ((try dsimp only); exact KS.out _ hN)
    clear hK K
    try simp only [Act.put, List.setIfInBounds_toArray, List.set_cons_zero, List.set_cons_succ]
    refine wpAnyH_ready (rs := [16]) (by kernel_rfl) (by simp) ?_
    refine (AllReadyH.cons (o := { dst := some 23, op := Op.call { callee := Callee.value (Operand.func 12), args := #[Operand.tmp 21, Operand.tmp 22], argTypes := #[38, 38] }, type := 4, pos := _, after := #[{ on := 14, ground := Ground.data }, { on := 15, ground := Ground.data }, { on := 14, ground := Ground.chain }, { on := 12, ground := Ground.guard }], guard := some (12, true) }) rfl (fun K hK => ?_) AllReadyH.nil)
    go_simp
    refine (textsSame _ _ 1 _ _ [⟨#[]⟩] _ rfl (by decide) HTX.out HLT.out).mono ?_
    rintro x wx ⟨rfl, kx, hkx⟩
    have hN := bel_drewN (KB.out _ hHeld) hkx
    go_wp2_with fail
    refine hK.out _ _ ?_ (fun hHeld => ?_)
    · ((try dsimp only); exact KS.out _ hN)
    clear hK K
    try simp only [Act.put, List.setIfInBounds_toArray, List.set_cons_zero, List.set_cons_succ]
    refine wpAnyH_take (i := 17) (oi := { dst := some 24, op := Op.pick (Operand.tmp 19) (Operand.tmp 23) (Operand.const (Value.bool false)), type := 4, pos := _, after := #[{ on := 12, ground := Ground.data }, { on := 16, ground := Ground.data }], guard := none }) (v := ?_) rfl (by kernel_rfl) (by kernel_rfl) (by kernel_rfl) (fun _ _ _ h => h) (Or.inl ⟨by rfl, ?_⟩) (by assumption) ?_
    rotate_left
    · ((intro w hSw); (try dsimp only at hSw); obtain ⟨⟨s0, s1, s2, s3, s4, s5, s6⟩, _⟩ := hSw; go_simp; (try with_reducible rfl))
    try simp only [Act.put, List.setIfInBounds_toArray, List.set_cons_zero, List.set_cons_succ]
    refine wpAnyH_take (i := 18) (oi := { dst := some 25, op := Op.move (Operand.tmp 24), type := 4, pos := _, after := #[{ on := 17, ground := Ground.data }, { on := 16, ground := Ground.chain }], guard := none }) (v := ?_) rfl (by kernel_rfl) (by kernel_rfl) (by kernel_rfl) (fun _ _ _ h => h) (Or.inl ⟨by rfl, ?_⟩) (by assumption) ?_
    rotate_left
    · ((intro w hSw); (try dsimp only at hSw); obtain ⟨⟨s0, s1, s2, s3, s4, s5, s6⟩, _⟩ := hSw; go_simp; (try with_reducible rfl))
    try simp only [Act.put, List.setIfInBounds_toArray, List.set_cons_zero, List.set_cons_succ]
    refine wpAnyH_take (i := 19) (oi := { dst := some 26, op := Op.load 24 (Operand.tmp 1), type := 24, pos := _, after := #[{ on := 18, ground := Ground.guard }], guard := some (18, true) }) (v := ?_) rfl (by kernel_rfl) (by kernel_rfl) (by kernel_rfl) (fun _ _ _ h => h) (Or.inl ⟨by rfl, ?_⟩) (by assumption) ?_
    rotate_left
    · ((intro w hSw); (try dsimp only at hSw); obtain ⟨⟨s0, s1, s2, s3, s4, s5, s6⟩, _⟩ := hSw; go_simp; (try with_reducible rfl))
    try simp only [Act.put, List.setIfInBounds_toArray, List.set_cons_zero, List.set_cons_succ]
    refine wpAnyH_take (i := 20) (oi := { dst := some 27, op := Op.load 24 (Operand.tmp 1), type := 24, pos := _, after := #[{ on := 18, ground := Ground.guard }], guard := some (18, true) }) (v := ?_) rfl (by kernel_rfl) (by kernel_rfl) (by kernel_rfl) (fun _ _ _ h => h) (Or.inl ⟨by rfl, ?_⟩) (by assumption) ?_
    rotate_left
    · ((intro w hSw); (try dsimp only at hSw); obtain ⟨⟨s0, s1, s2, s3, s4, s5, s6⟩, _⟩ := hSw; go_simp; (try with_reducible rfl))
    try simp only [Act.put, List.setIfInBounds_toArray, List.set_cons_zero, List.set_cons_succ]
    refine wpAnyH_ready (rs := [21]) (by kernel_rfl) (by simp) ?_
    refine (AllReadyH.cons (o := { dst := some 28, op := Op.call { callee := Callee.value (Operand.func 8), args := #[Operand.tmp 27], argTypes := #[24] }, type := 24, pos := _, after := #[{ on := 20, ground := Ground.data }, { on := 18, ground := Ground.chain }, { on := 18, ground := Ground.guard }], guard := some (18, true) }) rfl (fun K hK => ?_) AllReadyH.nil)
    go_simp
    refine (H8.out _ (KB.out _ hHeld)).mono ?_
    rintro x wc ⟨gc, cc, rfl, _, _, hrw, hb⟩
    have hN := bel_then (KB.out _ hHeld) hb
    have HRW := Lib.hid hrw
    go_wp2_with fail
    refine hK.out _ _ ?_ (fun hHeld => ?_)
    · ((try dsimp only); exact KS.out _ hN)
    clear hK K
    try simp only [Act.put, List.setIfInBounds_toArray, List.set_cons_zero, List.set_cons_succ]
    refine wpAnyH_ready (rs := [22]) (by kernel_rfl) (by simp) ?_
    refine (AllReadyH.cons (o := { dst := some 29, op := Op.call { callee := Callee.value (Operand.func 9), args := #[Operand.tmp 26, Operand.tmp 28], argTypes := #[24, 24] }, type := 4, pos := _, after := #[{ on := 19, ground := Ground.data }, { on := 21, ground := Ground.data }, { on := 21, ground := Ground.chain }, { on := 18, ground := Ground.guard }], guard := some (18, true) }) rfl (fun K hK => ?_) AllReadyH.nil)
    go_simp
    refine (H9.out _ (KB.out _ hHeld) gc cc HRW.out).mono ?_
    rintro x ws ⟨rfl, hb⟩
    have hN := bel_then (KB.out _ hHeld) hb
    go_wp2_with fail
    refine hK.out _ _ ?_ (fun hHeld => ?_)
    · ((try dsimp only); exact KS.out _ hN)
    clear hK K
    try simp only [Act.put, List.setIfInBounds_toArray, List.set_cons_zero, List.set_cons_succ]
    refine wpAnyH_take (i := 23) (oi := { dst := some 30, op := Op.pick (Operand.tmp 25) (Operand.tmp 29) (Operand.const (Value.bool false)), type := 4, pos := _, after := #[{ on := 18, ground := Ground.data }, { on := 22, ground := Ground.data }], guard := none }) (v := ?_) rfl (by kernel_rfl) (by kernel_rfl) (by kernel_rfl) (fun _ _ _ h => h) (Or.inl ⟨by rfl, ?_⟩) (by assumption) ?_
    rotate_left
    · ((intro w hSw); (try dsimp only at hSw); obtain ⟨⟨s0, s1, s2, s3, s4, s5, s6⟩, _⟩ := hSw; go_simp; (try with_reducible rfl))
    try simp only [Act.put, List.setIfInBounds_toArray, List.set_cons_zero, List.set_cons_succ]
    refine wpAnyH_take (i := 24) (oi := { dst := some 31, op := Op.move (Operand.tmp 30), type := 4, pos := _, after := #[{ on := 23, ground := Ground.data }, { on := 22, ground := Ground.chain }], guard := none }) (v := ?_) rfl (by kernel_rfl) (by kernel_rfl) (by kernel_rfl) (fun _ _ _ h => h) (Or.inl ⟨by rfl, ?_⟩) (by assumption) ?_
    rotate_left
    · ((intro w hSw); (try dsimp only at hSw); obtain ⟨⟨s0, s1, s2, s3, s4, s5, s6⟩, _⟩ := hSw; go_simp; (try with_reducible rfl))
    try simp only [Act.put, List.setIfInBounds_toArray, List.set_cons_zero, List.set_cons_succ]
    refine wpAnyH_take (i := 25) (oi := { dst := some 32, op := Op.build 24 #[], type := 24, pos := _, after := #[{ on := 24, ground := Ground.guard }], guard := some (24, true) }) (v := ?_) rfl (by kernel_rfl) (by kernel_rfl) (by kernel_rfl) (fun _ _ _ h => h) (Or.inl ⟨by rfl, ?_⟩) (by assumption) ?_
    rotate_left
    · ((intro w hSw); (try dsimp only at hSw); obtain ⟨⟨s0, s1, s2, s3, s4, s5, s6⟩, _⟩ := hSw; go_simp; (try with_reducible rfl))
    try simp only [Act.put, List.setIfInBounds_toArray, List.set_cons_zero, List.set_cons_succ]
    refine wpAnyH_ready (rs := [26]) (by kernel_rfl) (by simp) ?_
    refine (AllReadyH.cons (o := { dst := some 33, op := Op.call { callee := Callee.value (Operand.func 11), args := #[Operand.tmp 32], argTypes := #[24] }, type := 4, pos := _, after := #[{ on := 25, ground := Ground.data }, { on := 24, ground := Ground.chain }, { on := 24, ground := Ground.guard }], guard := some (24, true) }) rfl (fun K hK => ?_) AllReadyH.nil)
    go_simp
    refine (may0 _).mono ?_
    rintro x wy ⟨rfl, hb⟩
    have hN := bel_then (KB.out _ hHeld) hb
    go_wp2_with fail
    refine hK.out _ _ ?_ (fun hHeld => ?_)
    · ((try dsimp only); exact KS.out _ hN)
    clear hK K
    try simp only [Act.put, List.setIfInBounds_toArray, List.set_cons_zero, List.set_cons_succ]
    refine wpAnyH_take (i := 27) (oi := { dst := some 34, op := Op.unOp UnOp.not 4 (Operand.tmp 33), type := 4, pos := _, after := #[{ on := 26, ground := Ground.data }, { on := 24, ground := Ground.guard }], guard := some (24, true) }) (v := ?_) rfl (by kernel_rfl) (by kernel_rfl) (by kernel_rfl) (fun _ _ _ h => h) (Or.inl ⟨by rfl, ?_⟩) (by assumption) ?_
    rotate_left
    · ((intro w hSw); (try dsimp only at hSw); obtain ⟨⟨s0, s1, s2, s3, s4, s5, s6⟩, _⟩ := hSw; go_simp; (try with_reducible rfl))
    try simp only [Act.put, List.setIfInBounds_toArray, List.set_cons_zero, List.set_cons_succ]
    refine wpAnyH_take (i := 28) (oi := { dst := some 35, op := Op.pick (Operand.tmp 31) (Operand.tmp 34) (Operand.const (Value.bool false)), type := 4, pos := _, after := #[{ on := 24, ground := Ground.data }, { on := 27, ground := Ground.data }], guard := none }) (v := ?_) rfl (by kernel_rfl) (by kernel_rfl) (by kernel_rfl) (fun _ _ _ h => h) (Or.inl ⟨by rfl, ?_⟩) (by assumption) ?_
    rotate_left
    · ((intro w hSw); (try dsimp only at hSw); obtain ⟨⟨s0, s1, s2, s3, s4, s5, s6⟩, _⟩ := hSw; go_simp; (try with_reducible rfl))
    try simp only [Act.put, List.setIfInBounds_toArray, List.set_cons_zero, List.set_cons_succ]
    refine wpAnyH_take (i := 29) (oi := { dst := some 0, op := Op.assign (Operand.tmp 35), type := 4, pos := _, after := #[{ on := 28, ground := Ground.data }, { on := 26, ground := Ground.chain }, { on := 0, ground := Ground.phase }, { on := 1, ground := Ground.phase }, { on := 2, ground := Ground.phase }, { on := 3, ground := Ground.phase }, { on := 4, ground := Ground.phase }, { on := 5, ground := Ground.phase }, { on := 6, ground := Ground.phase }, { on := 7, ground := Ground.phase }, { on := 8, ground := Ground.phase }, { on := 9, ground := Ground.phase }, { on := 10, ground := Ground.phase }, { on := 11, ground := Ground.phase }, { on := 12, ground := Ground.phase }, { on := 13, ground := Ground.phase }, { on := 14, ground := Ground.phase }, { on := 15, ground := Ground.phase }, { on := 16, ground := Ground.phase }, { on := 17, ground := Ground.phase }, { on := 18, ground := Ground.phase }, { on := 19, ground := Ground.phase }, { on := 20, ground := Ground.phase }, { on := 21, ground := Ground.phase }, { on := 22, ground := Ground.phase }, { on := 23, ground := Ground.phase }, { on := 24, ground := Ground.phase }, { on := 25, ground := Ground.phase }, { on := 26, ground := Ground.phase }, { on := 27, ground := Ground.phase }, { on := 28, ground := Ground.phase }], guard := none }) (v := ?_) rfl (by kernel_rfl) (by kernel_rfl) (by kernel_rfl) (fun _ _ _ h => h) (Or.inl ⟨by rfl, ?_⟩) (by assumption) ?_
    rotate_left
    · ((intro w hSw); (try dsimp only at hSw); obtain ⟨⟨s0, s1, s2, s3, s4, s5, s6⟩, _⟩ := hSw; go_simp; (try with_reducible rfl))
    try simp only [Act.put, List.setIfInBounds_toArray, List.set_cons_zero]
    refine wpAnyH_done (by kernel_rfl) ?_ _
    go_wp2
    go_ret
    exact ⟨rfl, below_then HB.out (KB.out _ hHeld) HB.out.size⟩
end Go.Proofs.YtjfeejoplchmpaaDoor.Sn
