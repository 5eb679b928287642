/- tiklaw10.TabsSteps: the walk. -/
import Derived.Test.YtkpneocolbmnpaaTabs4
set_option linter.unusedVariables false
namespace Go.Proofs.Ytkpneocolbmnpaa.TabsStepsW
open Go Go.RowKit Kit Ints TabsMath Tabs

def OutP (w : World) (e : Ending) (w' : World) : Prop := e = .returned (.bool true) ∧ Below w.heap.size w w'
/-- some stops in so many columns. -/
def SW (w : World) (p b N : Nat) (W : World) : Prop := (∃ l : List Bool, l.length = N ∧ St W p b l) ∧ Below w.heap.size w W ∧ w.heap.size ≤ b
def inN (N : Nat) (x : Int) : Bool := decide (0 ≤ x ∧ x < N)
theorem setSW {w : World} (p b N : Nat) (x : Int) (W : World) (hN : N ≤ 200) (h : SW w p b N W) :
    Calls Try.prog 29 #[.pointer (some ⟨p, 0, none⟩), .int .i64 x] W fun e w' => e = .returned (.bool (inN N x)) ∧ SW w p b N w' ∧ W.grownBy w' (some b) := by
  obtain ⟨⟨l, hl, hst⟩, hb, hbo⟩ := h
  refine (setC p b l x W hst (by omega)).mono ?_
  rintro e w' ⟨rfl, hs, hg⟩
  refine ⟨by rw [inB, inN, hl], ⟨⟨_, ?_, hs⟩, hb.trans (below_of_grown hg hbo hb.size), hbo⟩, hg⟩
  split <;> simp [hl]
theorem keepC {W W' : World} {b o c : Nat} {v : Value} (h : W.grownBy W' (some b)) (hne : c ≠ b) (hc : W.cell? ⟨c, o, none⟩ = some v) : W'.cell? ⟨c, o, none⟩ = some v := by
  rw [World.cell?_of_block (h.block c (World.block_lt_of_cell? W _ hc) (fun e => hne (by injection e)))]; exact hc
set_option maxRecDepth 100000 in
set_option maxHeartbeats 2000000 in
theorem outNo (cols : Int) (a : Option Addr) (len cap : Nat) (col n : Int) (w : World) (hm : len ≤ 9223372036854775807) (hc : cols < 1 ∨ 200 < cols) :
    Calls Try.prog 10 #[.int .i64 cols, .slice a len cap, .int .i64 col, .int .i64 n] w (OutP w) := by
  go_enter Try.func10, Try.ntmps10
  go_wp2_with fail
  refine (first _).mono ?_
  rintro e w1 ⟨rfl, hb1⟩
  go_wp2_with fail
  refine (newNo cols _ hc).mono ?_
  rintro e w2 ⟨rfl, hb2⟩
  go_wp2_with fail
  refine (first _).mono ?_
  rintro e w3 ⟨rfl, hb3⟩
  go_wp2
  go_ret
  exact ⟨rfl, below_next (below_next hb1 hb2) hb3⟩
set_option maxRecDepth 100000 in
set_option maxHeartbeats 2000000 in
theorem outC (N : Nat) (a : Option Addr) (len cap : Nat) (col n : Int) (w : World) (hm : len ≤ 9223372036854775807) (h1 : 1 ≤ N) (h2 : N ≤ 200) (hc : 200 < len ∨ col < 0 ∨ (N : Int) ≤ col ∨ n < 1 ∨ 50 < n) :
    Calls Try.prog 10 #[.int .i64 (N : Int), .slice a len cap, .int .i64 col, .int .i64 n] w (OutP w) := by
  rcases hc with hc | hc | hc | hc | hc
  all_goals
    go_enter Try.func10, Try.ntmps10
    go_wp2_with fail
    refine (first _).mono ?_
    rintro e w1 ⟨rfl, hb1⟩
    go_wp2_with fail
    refine (newC N _ h1 h2).mono ?_
    rintro e w2 ⟨b, rfl, hst, hb2, _⟩
    clear hst
    go_wp2_with fail
  all_goals
    refine (first _).mono ?_
    rintro e w3 ⟨rfl, hb3⟩
    go_wp2
    go_ret
    exact ⟨rfl, below_next (below_next hb1 hb2) hb3⟩
theorem nextZ_nat (l : List Bool) (a n : Nat) (h : a ≤ l.length - 1) (h1 : 1 ≤ n) : nextZ l (a : Int) (n : Int) = (nextN l n a : Int) := by
  rw [nextZ, show (max (n : Int) 1).toNat = n by omega, show clampN (a : Int) (l.length - 1) = a by unfold clampN; omega]
theorem prevZ_nat (l : List Bool) (a n : Nat) (h : a ≤ l.length - 1) (h1 : 1 ≤ n) : prevZ l (a : Int) (n : Int) = (prevN l n a : Int) := by
  rw [prevZ, show (max (n : Int) 1).toNat = n by omega, show clampN (a : Int) (l.length - 1) = a by unfold clampN; omega]
theorem iter_next_le (l : List Bool) (i a : Nat) (h : a ≤ l.length - 1) : iter (nextN l 1) i a ≤ l.length - 1 := by
  induction i with
  | zero => exact h
  | succ i ih => exact nextN_le l 1 _ ih
theorem prevN_le (l : List Bool) (n a : Nat) : prevN l n a ≤ a := by have := prevG_le l (a - 1) n; unfold prevN; omega
theorem iter_prev_le (l : List Bool) (i a : Nat) : iter (prevN l 1) i a ≤ a := by
  induction i with
  | zero => exact Nat.le_refl _
  | succ i ih => exact Nat.le_trans (prevN_le l 1 _) ih
theorem stops_at {l : List Bool} {k : Nat} (hk : k < (stops l).length) : ∃ i : Nat, (stops l)[k] = (i : Int) ∧ l.getD i false = true := by
  obtain ⟨i, h1, _, h3⟩ := stopsU_mem l l.length _ (List.getElem_mem hk)
  exact ⟨i, h1, h3⟩
theorem stops_len (l : List Bool) : (stops l).length ≤ l.length := stopsU_len l l.length
set_option maxRecDepth 100000 in
set_option maxHeartbeats 4000000 in
theorem main (N : Nat) (a : Option Addr) (L : List Int) (cap c m : Nat) (w : World) (hcap : L.length ≤ cap) (hi : Ints w a L) (h1 : 1 ≤ N) (h2 : N ≤ 200) (hl : L.length ≤ 200) (hc : c < N) (hm1 : 1 ≤ m) (hm2 : m ≤ 50) :
    Calls Try.prog 10 #[.int .i64 (N : Int), .slice a L.length cap, .int .i64 (c : Int), .int .i64 (m : Int)] w (OutP w) := by
  go_enter Try.func10, Try.ntmps10
  go_wp2_with fail
  refine (first _).mono ?_
  rintro e w1 ⟨rfl, hb1⟩
  go_wp2_with fail
  refine (newC N _ h1 h2).mono ?_
  rintro e w2 ⟨b, rfl, hst, hb2, hbb⟩
  have hP := hb1.size
  have hb : Below w.heap.size w w2 := below_next hb1 hb2
  generalize w1.heap.size = P at *
  have hbo : w.heap.size ≤ b := by omega
  have hlen := Lib.hid (resL_len [] N)
  generalize resL [] N = l0 at *
  clear hb1 hb2
  go_wp2_with fail
  refine (clearAllC P b l0 w2 hst (by rw [hlen.out]; omega) (by rw [hlen.out]; omega)).mono ?_
  rw [hlen.out]
  rintro e w3 ⟨rfl, hst3, hg3⟩
  have hS3 : SW w P b N w3 := ⟨⟨_, by simp, hst3⟩, hb.trans (below_of_grown hg3 hbo hb.size), hbo⟩
  clear hst3 hg3 hst hb hlen
  have HI := Lib.hid hi
  clear hi
  have hN := h2
  go_wp2
  go_loopw [11] (fun s11 wr => ∃ k : Nat, k ≤ L.length ∧ s11 = .int .i64 (k : Int) ∧ SW w P b N wr) (fun s11 _ => L.length - (intOf s11).toNat)
  case atStart => exact ⟨0, Nat.zero_le _, rfl, hS3⟩
  case round =>
    clear hS3
    obtain ⟨k, hk, rfl, hSW⟩ := hrel
    by_cases hlt : k < L.length
    · obtain ⟨sb, so, rfl, hcell⟩ : ∃ sb so, a = some ⟨sb, so, none⟩ ∧ w.cell? ⟨sb, so + k, none⟩ = some (.int .i64 L[k]) := by
        rcases HI.out with h | ⟨sb, so, h, hh⟩
        · subst h; simp at hlt
        · exact ⟨sb, so, h, hh k hlt⟩
      have hsb := World.block_lt_of_cell? w _ hcell
      have hne : sb ≠ b := by simp at hsb; omega
      have hcw : wr.cell? ⟨sb, so + k, none⟩ = some (.int .i64 L[k]) := cell_then hSW.2.1 (Nat.le_refl _) hcell
      clear hcell
      generalize L[k] = x at hcw
      have hbo := hne
      have g0 : (0 : Int) ≤ (k : Int) := by omega
      have g1 : (k : Int) < (L.length : Int) := by omega
      have hSd : SW w P b N wr.drew := ⟨hSW.1, hSW.2.1.drew, hSW.2.2⟩
      have hcd : wr.drew.cell? ⟨sb, so + k, none⟩ = some (.int .i64 x) := hcw
      clear hcw hSW
      by_cases hx0 : 0 ≤ x
      · by_cases hx1 : x < (N : Int)
        · have HV := Lib.hid (show inN N x = true by unfold inN; exact decide_eq_true ⟨hx0, hx1⟩)
          have d0 : decide ((0 : Int) ≤ x) = true := decide_eq_true hx0
          have d1 : decide (x < (N : Int)) = true := decide_eq_true hx1
          go_wp2_with fail
          refine wp_region_held_drew (S := (fun W => W.cell? ⟨sb, so + k, none⟩ = some (.int .i64 x) ∧ SW w P b N W)) (by kernel_rfl) ?_ (fun hHeld => ?_)
          · ((try dsimp only); (go_split_ands; exact ⟨by assumption, by assumption⟩))
          refine wpAnyH_take (i := 0) (oi := { dst := some 63, op := Op.move (Operand.tmp 9), type := 43, pos := _, after := #[], guard := none }) (v := ?_) rfl (by kernel_rfl) (by kernel_rfl) (by kernel_rfl) (fun _ _ _ h => h) (Or.inl ⟨by rfl, ?_⟩) (by assumption) ?_
          rotate_left
          · ((intro w hSw); (try dsimp only at hSw); go_simp; (try with_reducible rfl))
          try simp only [Act.put, List.setIfInBounds_toArray, List.set_cons_zero, List.set_cons_succ]
          refine wpAnyH_take (i := 1) (oi := { dst := some 64, op := Op.move (Operand.tmp 1), type := 34, pos := _, after := #[], guard := none }) (v := ?_) rfl (by kernel_rfl) (by kernel_rfl) (by kernel_rfl) (fun _ _ _ h => h) (Or.inl ⟨by rfl, ?_⟩) (by assumption) ?_
          rotate_left
          · ((intro w hSw); (try dsimp only at hSw); go_simp; (try with_reducible rfl))
          try simp only [Act.put, List.setIfInBounds_toArray, List.set_cons_zero, List.set_cons_succ]
          refine wpAnyH_take (i := 2) (oi := { dst := some 65, op := Op.move (Operand.tmp 11), type := 3, pos := _, after := #[], guard := none }) (v := ?_) rfl (by kernel_rfl) (by kernel_rfl) (by kernel_rfl) (fun _ _ _ h => h) (Or.inl ⟨by rfl, ?_⟩) (by assumption) ?_
          rotate_left
          · ((intro w hSw); (try dsimp only at hSw); go_simp; (try with_reducible rfl))
          try simp only [Act.put, List.setIfInBounds_toArray, List.set_cons_zero, List.set_cons_succ]
          refine wpAnyH_take (i := 3) (oi := { dst := some 66, op := Op.indexAddr 34 (Operand.tmp 64) (Operand.tmp 65), type := 0, pos := _, after := #[{ on := 1, ground := Ground.data }, { on := 2, ground := Ground.data }], guard := none }) (v := ?_) rfl (by kernel_rfl) (by kernel_rfl) (by kernel_rfl) (fun _ _ _ h => h) (Or.inl ⟨by rfl, ?_⟩) (by assumption) ?_
          rotate_left
          · ((intro w hSw); (try dsimp only at hSw); go_simp; (try with_reducible rfl))
          try simp only [Act.put, List.setIfInBounds_toArray, List.set_cons_zero, List.set_cons_succ]
          refine wpAnyH_take (i := 4) (oi := { dst := some 67, op := Op.load 3 (Operand.tmp 66), type := 3, pos := _, after := #[{ on := 3, ground := Ground.data }], guard := none }) (v := ?_) rfl (by kernel_rfl) (by kernel_rfl) (by kernel_rfl) (fun _ _ _ h => h) (Or.inl ⟨by rfl, ?_⟩) (by assumption) ?_
          rotate_left
          · ((intro w hSw); (try dsimp only at hSw); go_simp; (try with_reducible rfl))
          try simp only [Act.put, List.setIfInBounds_toArray, List.set_cons_zero, List.set_cons_succ]
          refine wpAnyH_take (i := 6) (oi := { dst := some 69, op := Op.move (Operand.tmp 1), type := 34, pos := _, after := #[], guard := none }) (v := ?_) rfl (by kernel_rfl) (by kernel_rfl) (by kernel_rfl) (fun _ _ _ h => h) (Or.inl ⟨by rfl, ?_⟩) (by assumption) ?_
          rotate_left
          · ((intro w hSw); (try dsimp only at hSw); go_simp; (try with_reducible rfl))
          try simp only [Act.put, List.setIfInBounds_toArray, List.set_cons_zero, List.set_cons_succ]
          refine wpAnyH_take (i := 7) (oi := { dst := some 70, op := Op.move (Operand.tmp 11), type := 3, pos := _, after := #[], guard := none }) (v := ?_) rfl (by kernel_rfl) (by kernel_rfl) (by kernel_rfl) (fun _ _ _ h => h) (Or.inl ⟨by rfl, ?_⟩) (by assumption) ?_
          rotate_left
          · ((intro w hSw); (try dsimp only at hSw); go_simp; (try with_reducible rfl))
          try simp only [Act.put, List.setIfInBounds_toArray, List.set_cons_zero, List.set_cons_succ]
          refine wpAnyH_take (i := 8) (oi := { dst := some 71, op := Op.indexAddr 34 (Operand.tmp 69) (Operand.tmp 70), type := 0, pos := _, after := #[{ on := 6, ground := Ground.data }, { on := 7, ground := Ground.data }], guard := none }) (v := ?_) rfl (by kernel_rfl) (by kernel_rfl) (by kernel_rfl) (fun _ _ _ h => h) (Or.inl ⟨by rfl, ?_⟩) (by assumption) ?_
          rotate_left
          · ((intro w hSw); (try dsimp only at hSw); go_simp; (try with_reducible rfl))
          try simp only [Act.put, List.setIfInBounds_toArray, List.set_cons_zero, List.set_cons_succ]
          refine wpAnyH_take (i := 9) (oi := { dst := some 72, op := Op.load 3 (Operand.tmp 71), type := 3, pos := _, after := #[{ on := 8, ground := Ground.data }], guard := none }) (v := ?_) rfl (by kernel_rfl) (by kernel_rfl) (by kernel_rfl) (fun _ _ _ h => h) (Or.inl ⟨by rfl, ?_⟩) (by assumption) ?_
          rotate_left
          · ((intro w hSw); (try dsimp only at hSw); go_simp; (try with_reducible rfl))
          try simp only [Act.put, List.setIfInBounds_toArray, List.set_cons_zero, List.set_cons_succ]
          refine wpAnyH_take (i := 10) (oi := { dst := some 73, op := Op.binOp BinOp.geq 3 (Operand.tmp 72) (Operand.const (Value.int IntKind.i64 0)) 3, type := 4, pos := _, after := #[{ on := 9, ground := Ground.data }], guard := none }) (v := ?_) rfl (by kernel_rfl) (by kernel_rfl) (by kernel_rfl) (fun _ _ _ h => h) (Or.inl ⟨by rfl, ?_⟩) (by assumption) ?_
          rotate_left
          · ((intro w hSw); (try dsimp only at hSw); go_simp; (try with_reducible rfl))
          try simp only [Act.put, List.setIfInBounds_toArray, List.set_cons_zero, List.set_cons_succ]
          refine wpAnyH_ready (rs := [5]) (by kernel_rfl) (by simp) ?_
          refine (AllReadyH.cons (o := { dst := some 68, op := Op.call { callee := Callee.value (Operand.func 29), args := #[Operand.tmp 63, Operand.tmp 67], argTypes := #[43, 3] }, type := 4, pos := _, after := #[{ on := 0, ground := Ground.data }, { on := 4, ground := Ground.data }], guard := none }) rfl (fun K hK => ?_) AllReadyH.nil)
          go_simp
          (refine (setSW P b N x _ hN (by go_split_ands; assumption)).mono ?_; rw [HV.out]; rintro e w4 ⟨rfl, hS4, hb4⟩)
          go_wp2_with fail
          refine hK.out _ _ ?_ (fun hHeld => ?_)
          · ((try dsimp only); (refine ⟨?_, hS4⟩; exact keepC hb4 hbo (by go_split_ands; assumption)))
          clear hK K
          try simp only [Act.put, List.setIfInBounds_toArray, List.set_cons_zero, List.set_cons_succ]
          refine wpAnyH_take (i := 11) (oi := { dst := some 74, op := Op.move (Operand.tmp 73), type := 4, pos := _, after := #[{ on := 10, ground := Ground.data }, { on := 5, ground := Ground.chain }], guard := none }) (v := ?_) rfl (by kernel_rfl) (by kernel_rfl) (by kernel_rfl) (fun _ _ _ h => h) (Or.inl ⟨by rfl, ?_⟩) (by assumption) ?_
          rotate_left
          · ((intro w hSw); (try dsimp only at hSw); go_simp; (try with_reducible rfl))
          try simp only [Act.put, List.setIfInBounds_toArray, List.set_cons_zero, List.set_cons_succ]
          refine wpAnyH_take (i := 12) (oi := { dst := some 75, op := Op.move (Operand.tmp 1), type := 34, pos := _, after := #[{ on := 11, ground := Ground.guard }], guard := some (11, true) }) (v := ?_) rfl (by kernel_rfl) (by kernel_rfl) (by kernel_rfl) (fun _ _ _ h => h) (Or.inl ⟨by rfl, ?_⟩) (by assumption) ?_
          rotate_left
          · ((intro w hSw); (try dsimp only at hSw); go_simp; (try with_reducible rfl))
          try simp only [Act.put, List.setIfInBounds_toArray, List.set_cons_zero, List.set_cons_succ]
          refine wpAnyH_take (i := 13) (oi := { dst := some 76, op := Op.move (Operand.tmp 11), type := 3, pos := _, after := #[{ on := 11, ground := Ground.guard }], guard := some (11, true) }) (v := ?_) rfl (by kernel_rfl) (by kernel_rfl) (by kernel_rfl) (fun _ _ _ h => h) (Or.inl ⟨by rfl, ?_⟩) (by assumption) ?_
          rotate_left
          · ((intro w hSw); (try dsimp only at hSw); go_simp; (try with_reducible rfl))
          try simp only [Act.put, List.setIfInBounds_toArray, List.set_cons_zero, List.set_cons_succ]
          refine wpAnyH_take (i := 14) (oi := { dst := some 77, op := Op.indexAddr 34 (Operand.tmp 75) (Operand.tmp 76), type := 0, pos := _, after := #[{ on := 12, ground := Ground.data }, { on := 13, ground := Ground.data }, { on := 11, ground := Ground.guard }], guard := some (11, true) }) (v := ?_) rfl (by kernel_rfl) (by kernel_rfl) (by kernel_rfl) (fun _ _ _ h => h) (Or.inl ⟨by rfl, ?_⟩) (by assumption) ?_
          rotate_left
          · ((intro w hSw); (try dsimp only at hSw); go_simp; (try with_reducible rfl))
          try simp only [Act.put, List.setIfInBounds_toArray, List.set_cons_zero, List.set_cons_succ]
          refine wpAnyH_take (i := 15) (oi := { dst := some 78, op := Op.load 3 (Operand.tmp 77), type := 3, pos := _, after := #[{ on := 14, ground := Ground.data }, { on := 11, ground := Ground.guard }], guard := some (11, true) }) (v := ?_) rfl (by kernel_rfl) (by kernel_rfl) (by kernel_rfl) (fun _ _ _ h => h) (Or.inl ⟨by rfl, ?_⟩) (by assumption) ?_
          rotate_left
          · ((intro w hSw); (try dsimp only at hSw); go_simp; (try with_reducible rfl))
          try simp only [Act.put, List.setIfInBounds_toArray, List.set_cons_zero, List.set_cons_succ]
          refine wpAnyH_take (i := 16) (oi := { dst := some 79, op := Op.move (Operand.tmp 0), type := 3, pos := _, after := #[{ on := 11, ground := Ground.guard }], guard := some (11, true) }) (v := ?_) rfl (by kernel_rfl) (by kernel_rfl) (by kernel_rfl) (fun _ _ _ h => h) (Or.inl ⟨by rfl, ?_⟩) (by assumption) ?_
          rotate_left
          · ((intro w hSw); (try dsimp only at hSw); go_simp; (try with_reducible rfl))
          try simp only [Act.put, List.setIfInBounds_toArray, List.set_cons_zero, List.set_cons_succ]
          refine wpAnyH_take (i := 17) (oi := { dst := some 80, op := Op.binOp BinOp.lss 3 (Operand.tmp 78) (Operand.tmp 79) 3, type := 4, pos := _, after := #[{ on := 15, ground := Ground.data }, { on := 16, ground := Ground.data }, { on := 11, ground := Ground.guard }], guard := some (11, true) }) (v := ?_) rfl (by kernel_rfl) (by kernel_rfl) (by kernel_rfl) (fun _ _ _ h => h) (Or.inl ⟨by rfl, ?_⟩) (by assumption) ?_
          rotate_left
          · ((intro w hSw); (try dsimp only at hSw); go_simp; (try with_reducible rfl))
          try simp only [Act.put, List.setIfInBounds_toArray, List.set_cons_zero, List.set_cons_succ]
          refine wpAnyH_take (i := 18) (oi := { dst := some 81, op := Op.pick (Operand.tmp 74) (Operand.tmp 80) (Operand.const (Value.bool false)), type := 4, pos := _, after := #[{ on := 11, ground := Ground.data }, { on := 17, ground := Ground.data }], guard := none }) (v := ?_) rfl (by kernel_rfl) (by kernel_rfl) (by kernel_rfl) (fun _ _ _ h => h) (Or.inl ⟨by rfl, ?_⟩) (by assumption) ?_
          rotate_left
          · ((intro w hSw); (try dsimp only at hSw); go_simp; (try with_reducible rfl))
          try simp only [Act.put, List.setIfInBounds_toArray, List.set_cons_zero, List.set_cons_succ]
          refine wpAnyH_take (i := 19) (oi := { dst := some 82, op := Op.binOp BinOp.neq 4 (Operand.tmp 68) (Operand.tmp 81) 4, type := 4, pos := _, after := #[{ on := 5, ground := Ground.data }, { on := 18, ground := Ground.data }], guard := none }) (v := ?_) rfl (by kernel_rfl) (by kernel_rfl) (by kernel_rfl) (fun _ _ _ h => h) (Or.inl ⟨by rfl, ?_⟩) (by assumption) ?_
          rotate_left
          · ((intro w hSw); (try dsimp only at hSw); go_simp; (try with_reducible rfl))
          try simp only [Act.put, List.setIfInBounds_toArray, List.set_cons_zero, List.set_cons_succ]
          refine wpAnyH_done (by kernel_rfl) ?_ _
          go_wp2
          go_roundw
          case rel => exact ⟨k + 1, by omega, by go_num, by go_split_ands; assumption⟩
          case measure => simp [intOf]; omega
        · have HV := Lib.hid (show inN N x = false by unfold inN; exact decide_eq_false (fun h => hx1 h.2))
          have d0 : decide ((0 : Int) ≤ x) = true := decide_eq_true hx0
          have d1 : decide (x < (N : Int)) = false := decide_eq_false hx1
          go_wp2_with fail
          refine wp_region_held_drew (S := (fun W => W.cell? ⟨sb, so + k, none⟩ = some (.int .i64 x) ∧ SW w P b N W)) (by kernel_rfl) ?_ (fun hHeld => ?_)
          · ((try dsimp only); (go_split_ands; exact ⟨by assumption, by assumption⟩))
          refine wpAnyH_take (i := 0) (oi := { dst := some 63, op := Op.move (Operand.tmp 9), type := 43, pos := _, after := #[], guard := none }) (v := ?_) rfl (by kernel_rfl) (by kernel_rfl) (by kernel_rfl) (fun _ _ _ h => h) (Or.inl ⟨by rfl, ?_⟩) (by assumption) ?_
          rotate_left
          · ((intro w hSw); (try dsimp only at hSw); go_simp; (try with_reducible rfl))
          try simp only [Act.put, List.setIfInBounds_toArray, List.set_cons_zero, List.set_cons_succ]
          refine wpAnyH_take (i := 1) (oi := { dst := some 64, op := Op.move (Operand.tmp 1), type := 34, pos := _, after := #[], guard := none }) (v := ?_) rfl (by kernel_rfl) (by kernel_rfl) (by kernel_rfl) (fun _ _ _ h => h) (Or.inl ⟨by rfl, ?_⟩) (by assumption) ?_
          rotate_left
          · ((intro w hSw); (try dsimp only at hSw); go_simp; (try with_reducible rfl))
          try simp only [Act.put, List.setIfInBounds_toArray, List.set_cons_zero, List.set_cons_succ]
          refine wpAnyH_take (i := 2) (oi := { dst := some 65, op := Op.move (Operand.tmp 11), type := 3, pos := _, after := #[], guard := none }) (v := ?_) rfl (by kernel_rfl) (by kernel_rfl) (by kernel_rfl) (fun _ _ _ h => h) (Or.inl ⟨by rfl, ?_⟩) (by assumption) ?_
          rotate_left
          · ((intro w hSw); (try dsimp only at hSw); go_simp; (try with_reducible rfl))
          try simp only [Act.put, List.setIfInBounds_toArray, List.set_cons_zero, List.set_cons_succ]
          refine wpAnyH_take (i := 3) (oi := { dst := some 66, op := Op.indexAddr 34 (Operand.tmp 64) (Operand.tmp 65), type := 0, pos := _, after := #[{ on := 1, ground := Ground.data }, { on := 2, ground := Ground.data }], guard := none }) (v := ?_) rfl (by kernel_rfl) (by kernel_rfl) (by kernel_rfl) (fun _ _ _ h => h) (Or.inl ⟨by rfl, ?_⟩) (by assumption) ?_
          rotate_left
          · ((intro w hSw); (try dsimp only at hSw); go_simp; (try with_reducible rfl))
          try simp only [Act.put, List.setIfInBounds_toArray, List.set_cons_zero, List.set_cons_succ]
          refine wpAnyH_take (i := 4) (oi := { dst := some 67, op := Op.load 3 (Operand.tmp 66), type := 3, pos := _, after := #[{ on := 3, ground := Ground.data }], guard := none }) (v := ?_) rfl (by kernel_rfl) (by kernel_rfl) (by kernel_rfl) (fun _ _ _ h => h) (Or.inl ⟨by rfl, ?_⟩) (by assumption) ?_
          rotate_left
          · ((intro w hSw); (try dsimp only at hSw); go_simp; (try with_reducible rfl))
          try simp only [Act.put, List.setIfInBounds_toArray, List.set_cons_zero, List.set_cons_succ]
          refine wpAnyH_take (i := 6) (oi := { dst := some 69, op := Op.move (Operand.tmp 1), type := 34, pos := _, after := #[], guard := none }) (v := ?_) rfl (by kernel_rfl) (by kernel_rfl) (by kernel_rfl) (fun _ _ _ h => h) (Or.inl ⟨by rfl, ?_⟩) (by assumption) ?_
          rotate_left
          · ((intro w hSw); (try dsimp only at hSw); go_simp; (try with_reducible rfl))
          try simp only [Act.put, List.setIfInBounds_toArray, List.set_cons_zero, List.set_cons_succ]
          refine wpAnyH_take (i := 7) (oi := { dst := some 70, op := Op.move (Operand.tmp 11), type := 3, pos := _, after := #[], guard := none }) (v := ?_) rfl (by kernel_rfl) (by kernel_rfl) (by kernel_rfl) (fun _ _ _ h => h) (Or.inl ⟨by rfl, ?_⟩) (by assumption) ?_
          rotate_left
          · ((intro w hSw); (try dsimp only at hSw); go_simp; (try with_reducible rfl))
          try simp only [Act.put, List.setIfInBounds_toArray, List.set_cons_zero, List.set_cons_succ]
          refine wpAnyH_take (i := 8) (oi := { dst := some 71, op := Op.indexAddr 34 (Operand.tmp 69) (Operand.tmp 70), type := 0, pos := _, after := #[{ on := 6, ground := Ground.data }, { on := 7, ground := Ground.data }], guard := none }) (v := ?_) rfl (by kernel_rfl) (by kernel_rfl) (by kernel_rfl) (fun _ _ _ h => h) (Or.inl ⟨by rfl, ?_⟩) (by assumption) ?_
          rotate_left
          · ((intro w hSw); (try dsimp only at hSw); go_simp; (try with_reducible rfl))
          try simp only [Act.put, List.setIfInBounds_toArray, List.set_cons_zero, List.set_cons_succ]
          refine wpAnyH_take (i := 9) (oi := { dst := some 72, op := Op.load 3 (Operand.tmp 71), type := 3, pos := _, after := #[{ on := 8, ground := Ground.data }], guard := none }) (v := ?_) rfl (by kernel_rfl) (by kernel_rfl) (by kernel_rfl) (fun _ _ _ h => h) (Or.inl ⟨by rfl, ?_⟩) (by assumption) ?_
          rotate_left
          · ((intro w hSw); (try dsimp only at hSw); go_simp; (try with_reducible rfl))
          try simp only [Act.put, List.setIfInBounds_toArray, List.set_cons_zero, List.set_cons_succ]
          refine wpAnyH_take (i := 10) (oi := { dst := some 73, op := Op.binOp BinOp.geq 3 (Operand.tmp 72) (Operand.const (Value.int IntKind.i64 0)) 3, type := 4, pos := _, after := #[{ on := 9, ground := Ground.data }], guard := none }) (v := ?_) rfl (by kernel_rfl) (by kernel_rfl) (by kernel_rfl) (fun _ _ _ h => h) (Or.inl ⟨by rfl, ?_⟩) (by assumption) ?_
          rotate_left
          · ((intro w hSw); (try dsimp only at hSw); go_simp; (try with_reducible rfl))
          try simp only [Act.put, List.setIfInBounds_toArray, List.set_cons_zero, List.set_cons_succ]
          refine wpAnyH_ready (rs := [5]) (by kernel_rfl) (by simp) ?_
          refine (AllReadyH.cons (o := { dst := some 68, op := Op.call { callee := Callee.value (Operand.func 29), args := #[Operand.tmp 63, Operand.tmp 67], argTypes := #[43, 3] }, type := 4, pos := _, after := #[{ on := 0, ground := Ground.data }, { on := 4, ground := Ground.data }], guard := none }) rfl (fun K hK => ?_) AllReadyH.nil)
          go_simp
          (refine (setSW P b N x _ hN (by go_split_ands; assumption)).mono ?_; rw [HV.out]; rintro e w4 ⟨rfl, hS4, hb4⟩)
          go_wp2_with fail
          refine hK.out _ _ ?_ (fun hHeld => ?_)
          · ((try dsimp only); (refine ⟨?_, hS4⟩; exact keepC hb4 hbo (by go_split_ands; assumption)))
          clear hK K
          try simp only [Act.put, List.setIfInBounds_toArray, List.set_cons_zero, List.set_cons_succ]
          refine wpAnyH_take (i := 11) (oi := { dst := some 74, op := Op.move (Operand.tmp 73), type := 4, pos := _, after := #[{ on := 10, ground := Ground.data }, { on := 5, ground := Ground.chain }], guard := none }) (v := ?_) rfl (by kernel_rfl) (by kernel_rfl) (by kernel_rfl) (fun _ _ _ h => h) (Or.inl ⟨by rfl, ?_⟩) (by assumption) ?_
          rotate_left
          · ((intro w hSw); (try dsimp only at hSw); go_simp; (try with_reducible rfl))
          try simp only [Act.put, List.setIfInBounds_toArray, List.set_cons_zero, List.set_cons_succ]
          refine wpAnyH_take (i := 12) (oi := { dst := some 75, op := Op.move (Operand.tmp 1), type := 34, pos := _, after := #[{ on := 11, ground := Ground.guard }], guard := some (11, true) }) (v := ?_) rfl (by kernel_rfl) (by kernel_rfl) (by kernel_rfl) (fun _ _ _ h => h) (Or.inl ⟨by rfl, ?_⟩) (by assumption) ?_
          rotate_left
          · ((intro w hSw); (try dsimp only at hSw); go_simp; (try with_reducible rfl))
          try simp only [Act.put, List.setIfInBounds_toArray, List.set_cons_zero, List.set_cons_succ]
          refine wpAnyH_take (i := 13) (oi := { dst := some 76, op := Op.move (Operand.tmp 11), type := 3, pos := _, after := #[{ on := 11, ground := Ground.guard }], guard := some (11, true) }) (v := ?_) rfl (by kernel_rfl) (by kernel_rfl) (by kernel_rfl) (fun _ _ _ h => h) (Or.inl ⟨by rfl, ?_⟩) (by assumption) ?_
          rotate_left
          · ((intro w hSw); (try dsimp only at hSw); go_simp; (try with_reducible rfl))
          try simp only [Act.put, List.setIfInBounds_toArray, List.set_cons_zero, List.set_cons_succ]
          refine wpAnyH_take (i := 14) (oi := { dst := some 77, op := Op.indexAddr 34 (Operand.tmp 75) (Operand.tmp 76), type := 0, pos := _, after := #[{ on := 12, ground := Ground.data }, { on := 13, ground := Ground.data }, { on := 11, ground := Ground.guard }], guard := some (11, true) }) (v := ?_) rfl (by kernel_rfl) (by kernel_rfl) (by kernel_rfl) (fun _ _ _ h => h) (Or.inl ⟨by rfl, ?_⟩) (by assumption) ?_
          rotate_left
          · ((intro w hSw); (try dsimp only at hSw); go_simp; (try with_reducible rfl))
          try simp only [Act.put, List.setIfInBounds_toArray, List.set_cons_zero, List.set_cons_succ]
          refine wpAnyH_take (i := 15) (oi := { dst := some 78, op := Op.load 3 (Operand.tmp 77), type := 3, pos := _, after := #[{ on := 14, ground := Ground.data }, { on := 11, ground := Ground.guard }], guard := some (11, true) }) (v := ?_) rfl (by kernel_rfl) (by kernel_rfl) (by kernel_rfl) (fun _ _ _ h => h) (Or.inl ⟨by rfl, ?_⟩) (by assumption) ?_
          rotate_left
          · ((intro w hSw); (try dsimp only at hSw); go_simp; (try with_reducible rfl))
          try simp only [Act.put, List.setIfInBounds_toArray, List.set_cons_zero, List.set_cons_succ]
          refine wpAnyH_take (i := 16) (oi := { dst := some 79, op := Op.move (Operand.tmp 0), type := 3, pos := _, after := #[{ on := 11, ground := Ground.guard }], guard := some (11, true) }) (v := ?_) rfl (by kernel_rfl) (by kernel_rfl) (by kernel_rfl) (fun _ _ _ h => h) (Or.inl ⟨by rfl, ?_⟩) (by assumption) ?_
          rotate_left
          · ((intro w hSw); (try dsimp only at hSw); go_simp; (try with_reducible rfl))
          try simp only [Act.put, List.setIfInBounds_toArray, List.set_cons_zero, List.set_cons_succ]
          refine wpAnyH_take (i := 17) (oi := { dst := some 80, op := Op.binOp BinOp.lss 3 (Operand.tmp 78) (Operand.tmp 79) 3, type := 4, pos := _, after := #[{ on := 15, ground := Ground.data }, { on := 16, ground := Ground.data }, { on := 11, ground := Ground.guard }], guard := some (11, true) }) (v := ?_) rfl (by kernel_rfl) (by kernel_rfl) (by kernel_rfl) (fun _ _ _ h => h) (Or.inl ⟨by rfl, ?_⟩) (by assumption) ?_
          rotate_left
          · ((intro w hSw); (try dsimp only at hSw); go_simp; (try with_reducible rfl))
          try simp only [Act.put, List.setIfInBounds_toArray, List.set_cons_zero, List.set_cons_succ]
          refine wpAnyH_take (i := 18) (oi := { dst := some 81, op := Op.pick (Operand.tmp 74) (Operand.tmp 80) (Operand.const (Value.bool false)), type := 4, pos := _, after := #[{ on := 11, ground := Ground.data }, { on := 17, ground := Ground.data }], guard := none }) (v := ?_) rfl (by kernel_rfl) (by kernel_rfl) (by kernel_rfl) (fun _ _ _ h => h) (Or.inl ⟨by rfl, ?_⟩) (by assumption) ?_
          rotate_left
          · ((intro w hSw); (try dsimp only at hSw); go_simp; (try with_reducible rfl))
          try simp only [Act.put, List.setIfInBounds_toArray, List.set_cons_zero, List.set_cons_succ]
          refine wpAnyH_take (i := 19) (oi := { dst := some 82, op := Op.binOp BinOp.neq 4 (Operand.tmp 68) (Operand.tmp 81) 4, type := 4, pos := _, after := #[{ on := 5, ground := Ground.data }, { on := 18, ground := Ground.data }], guard := none }) (v := ?_) rfl (by kernel_rfl) (by kernel_rfl) (by kernel_rfl) (fun _ _ _ h => h) (Or.inl ⟨by rfl, ?_⟩) (by assumption) ?_
          rotate_left
          · ((intro w hSw); (try dsimp only at hSw); go_simp; (try with_reducible rfl))
          try simp only [Act.put, List.setIfInBounds_toArray, List.set_cons_zero, List.set_cons_succ]
          refine wpAnyH_done (by kernel_rfl) ?_ _
          go_wp2
          go_roundw
          case rel => exact ⟨k + 1, by omega, by go_num, by go_split_ands; assumption⟩
          case measure => simp [intOf]; omega
      · have HV := Lib.hid (show inN N x = false by unfold inN; exact decide_eq_false (fun h => hx0 h.1))
        have d0 : decide ((0 : Int) ≤ x) = false := decide_eq_false hx0
        go_wp2_with fail
        refine wp_region_held_drew (S := (fun W => W.cell? ⟨sb, so + k, none⟩ = some (.int .i64 x) ∧ SW w P b N W)) (by kernel_rfl) ?_ (fun hHeld => ?_)
        · ((try dsimp only); (go_split_ands; exact ⟨by assumption, by assumption⟩))
        refine wpAnyH_take (i := 0) (oi := { dst := some 63, op := Op.move (Operand.tmp 9), type := 43, pos := _, after := #[], guard := none }) (v := ?_) rfl (by kernel_rfl) (by kernel_rfl) (by kernel_rfl) (fun _ _ _ h => h) (Or.inl ⟨by rfl, ?_⟩) (by assumption) ?_
        rotate_left
        · ((intro w hSw); (try dsimp only at hSw); go_simp; (try with_reducible rfl))
        try simp only [Act.put, List.setIfInBounds_toArray, List.set_cons_zero, List.set_cons_succ]
        refine wpAnyH_take (i := 1) (oi := { dst := some 64, op := Op.move (Operand.tmp 1), type := 34, pos := _, after := #[], guard := none }) (v := ?_) rfl (by kernel_rfl) (by kernel_rfl) (by kernel_rfl) (fun _ _ _ h => h) (Or.inl ⟨by rfl, ?_⟩) (by assumption) ?_
        rotate_left
        · ((intro w hSw); (try dsimp only at hSw); go_simp; (try with_reducible rfl))
        try simp only [Act.put, List.setIfInBounds_toArray, List.set_cons_zero, List.set_cons_succ]
        refine wpAnyH_take (i := 2) (oi := { dst := some 65, op := Op.move (Operand.tmp 11), type := 3, pos := _, after := #[], guard := none }) (v := ?_) rfl (by kernel_rfl) (by kernel_rfl) (by kernel_rfl) (fun _ _ _ h => h) (Or.inl ⟨by rfl, ?_⟩) (by assumption) ?_
        rotate_left
        · ((intro w hSw); (try dsimp only at hSw); go_simp; (try with_reducible rfl))
        try simp only [Act.put, List.setIfInBounds_toArray, List.set_cons_zero, List.set_cons_succ]
        refine wpAnyH_take (i := 3) (oi := { dst := some 66, op := Op.indexAddr 34 (Operand.tmp 64) (Operand.tmp 65), type := 0, pos := _, after := #[{ on := 1, ground := Ground.data }, { on := 2, ground := Ground.data }], guard := none }) (v := ?_) rfl (by kernel_rfl) (by kernel_rfl) (by kernel_rfl) (fun _ _ _ h => h) (Or.inl ⟨by rfl, ?_⟩) (by assumption) ?_
        rotate_left
        · ((intro w hSw); (try dsimp only at hSw); go_simp; (try with_reducible rfl))
        try simp only [Act.put, List.setIfInBounds_toArray, List.set_cons_zero, List.set_cons_succ]
        refine wpAnyH_take (i := 4) (oi := { dst := some 67, op := Op.load 3 (Operand.tmp 66), type := 3, pos := _, after := #[{ on := 3, ground := Ground.data }], guard := none }) (v := ?_) rfl (by kernel_rfl) (by kernel_rfl) (by kernel_rfl) (fun _ _ _ h => h) (Or.inl ⟨by rfl, ?_⟩) (by assumption) ?_
        rotate_left
        · ((intro w hSw); (try dsimp only at hSw); go_simp; (try with_reducible rfl))
        try simp only [Act.put, List.setIfInBounds_toArray, List.set_cons_zero, List.set_cons_succ]
        refine wpAnyH_take (i := 6) (oi := { dst := some 69, op := Op.move (Operand.tmp 1), type := 34, pos := _, after := #[], guard := none }) (v := ?_) rfl (by kernel_rfl) (by kernel_rfl) (by kernel_rfl) (fun _ _ _ h => h) (Or.inl ⟨by rfl, ?_⟩) (by assumption) ?_
        rotate_left
        · ((intro w hSw); (try dsimp only at hSw); go_simp; (try with_reducible rfl))
        try simp only [Act.put, List.setIfInBounds_toArray, List.set_cons_zero, List.set_cons_succ]
        refine wpAnyH_take (i := 7) (oi := { dst := some 70, op := Op.move (Operand.tmp 11), type := 3, pos := _, after := #[], guard := none }) (v := ?_) rfl (by kernel_rfl) (by kernel_rfl) (by kernel_rfl) (fun _ _ _ h => h) (Or.inl ⟨by rfl, ?_⟩) (by assumption) ?_
        rotate_left
        · ((intro w hSw); (try dsimp only at hSw); go_simp; (try with_reducible rfl))
        try simp only [Act.put, List.setIfInBounds_toArray, List.set_cons_zero, List.set_cons_succ]
        refine wpAnyH_take (i := 8) (oi := { dst := some 71, op := Op.indexAddr 34 (Operand.tmp 69) (Operand.tmp 70), type := 0, pos := _, after := #[{ on := 6, ground := Ground.data }, { on := 7, ground := Ground.data }], guard := none }) (v := ?_) rfl (by kernel_rfl) (by kernel_rfl) (by kernel_rfl) (fun _ _ _ h => h) (Or.inl ⟨by rfl, ?_⟩) (by assumption) ?_
        rotate_left
        · ((intro w hSw); (try dsimp only at hSw); go_simp; (try with_reducible rfl))
        try simp only [Act.put, List.setIfInBounds_toArray, List.set_cons_zero, List.set_cons_succ]
        refine wpAnyH_take (i := 9) (oi := { dst := some 72, op := Op.load 3 (Operand.tmp 71), type := 3, pos := _, after := #[{ on := 8, ground := Ground.data }], guard := none }) (v := ?_) rfl (by kernel_rfl) (by kernel_rfl) (by kernel_rfl) (fun _ _ _ h => h) (Or.inl ⟨by rfl, ?_⟩) (by assumption) ?_
        rotate_left
        · ((intro w hSw); (try dsimp only at hSw); go_simp; (try with_reducible rfl))
        try simp only [Act.put, List.setIfInBounds_toArray, List.set_cons_zero, List.set_cons_succ]
        refine wpAnyH_take (i := 10) (oi := { dst := some 73, op := Op.binOp BinOp.geq 3 (Operand.tmp 72) (Operand.const (Value.int IntKind.i64 0)) 3, type := 4, pos := _, after := #[{ on := 9, ground := Ground.data }], guard := none }) (v := ?_) rfl (by kernel_rfl) (by kernel_rfl) (by kernel_rfl) (fun _ _ _ h => h) (Or.inl ⟨by rfl, ?_⟩) (by assumption) ?_
        rotate_left
        · ((intro w hSw); (try dsimp only at hSw); go_simp; (try with_reducible rfl))
        try simp only [Act.put, List.setIfInBounds_toArray, List.set_cons_zero, List.set_cons_succ]
        refine wpAnyH_ready (rs := [5]) (by kernel_rfl) (by simp) ?_
        refine (AllReadyH.cons (o := { dst := some 68, op := Op.call { callee := Callee.value (Operand.func 29), args := #[Operand.tmp 63, Operand.tmp 67], argTypes := #[43, 3] }, type := 4, pos := _, after := #[{ on := 0, ground := Ground.data }, { on := 4, ground := Ground.data }], guard := none }) rfl (fun K hK => ?_) AllReadyH.nil)
        go_simp
        (refine (setSW P b N x _ hN (by go_split_ands; assumption)).mono ?_; rw [HV.out]; rintro e w4 ⟨rfl, hS4, hb4⟩)
        go_wp2_with fail
        refine hK.out _ _ ?_ (fun hHeld => ?_)
        · ((try dsimp only); (refine ⟨?_, hS4⟩; exact keepC hb4 hbo (by go_split_ands; assumption)))
        clear hK K
        try simp only [Act.put, List.setIfInBounds_toArray, List.set_cons_zero, List.set_cons_succ]
        refine wpAnyH_take (i := 11) (oi := { dst := some 74, op := Op.move (Operand.tmp 73), type := 4, pos := _, after := #[{ on := 10, ground := Ground.data }, { on := 5, ground := Ground.chain }], guard := none }) (v := ?_) rfl (by kernel_rfl) (by kernel_rfl) (by kernel_rfl) (fun _ _ _ h => h) (Or.inl ⟨by rfl, ?_⟩) (by assumption) ?_
        rotate_left
        · ((intro w hSw); (try dsimp only at hSw); go_simp; (try with_reducible rfl))
        try simp only [Act.put, List.setIfInBounds_toArray, List.set_cons_zero, List.set_cons_succ]
        refine wpAnyH_take (i := 12) (oi := { dst := some 75, op := Op.move (Operand.tmp 1), type := 34, pos := _, after := #[{ on := 11, ground := Ground.guard }], guard := some (11, true) }) (v := undef) rfl (by kernel_rfl) (by kernel_rfl) (by kernel_rfl) (fun _ _ _ h => h) (Or.inr ⟨by rfl, rfl⟩) (by assumption) ?_
        try simp only [Act.put, List.setIfInBounds_toArray, List.set_cons_zero, List.set_cons_succ]
        refine wpAnyH_take (i := 13) (oi := { dst := some 76, op := Op.move (Operand.tmp 11), type := 3, pos := _, after := #[{ on := 11, ground := Ground.guard }], guard := some (11, true) }) (v := undef) rfl (by kernel_rfl) (by kernel_rfl) (by kernel_rfl) (fun _ _ _ h => h) (Or.inr ⟨by rfl, rfl⟩) (by assumption) ?_
        try simp only [Act.put, List.setIfInBounds_toArray, List.set_cons_zero, List.set_cons_succ]
        refine wpAnyH_take (i := 14) (oi := { dst := some 77, op := Op.indexAddr 34 (Operand.tmp 75) (Operand.tmp 76), type := 0, pos := _, after := #[{ on := 12, ground := Ground.data }, { on := 13, ground := Ground.data }, { on := 11, ground := Ground.guard }], guard := some (11, true) }) (v := undef) rfl (by kernel_rfl) (by kernel_rfl) (by kernel_rfl) (fun _ _ _ h => h) (Or.inr ⟨by rfl, rfl⟩) (by assumption) ?_
        try simp only [Act.put, List.setIfInBounds_toArray, List.set_cons_zero, List.set_cons_succ]
        refine wpAnyH_take (i := 15) (oi := { dst := some 78, op := Op.load 3 (Operand.tmp 77), type := 3, pos := _, after := #[{ on := 14, ground := Ground.data }, { on := 11, ground := Ground.guard }], guard := some (11, true) }) (v := undef) rfl (by kernel_rfl) (by kernel_rfl) (by kernel_rfl) (fun _ _ _ h => h) (Or.inr ⟨by rfl, rfl⟩) (by assumption) ?_
        try simp only [Act.put, List.setIfInBounds_toArray, List.set_cons_zero, List.set_cons_succ]
        refine wpAnyH_take (i := 16) (oi := { dst := some 79, op := Op.move (Operand.tmp 0), type := 3, pos := _, after := #[{ on := 11, ground := Ground.guard }], guard := some (11, true) }) (v := undef) rfl (by kernel_rfl) (by kernel_rfl) (by kernel_rfl) (fun _ _ _ h => h) (Or.inr ⟨by rfl, rfl⟩) (by assumption) ?_
        try simp only [Act.put, List.setIfInBounds_toArray, List.set_cons_zero, List.set_cons_succ]
        refine wpAnyH_take (i := 17) (oi := { dst := some 80, op := Op.binOp BinOp.lss 3 (Operand.tmp 78) (Operand.tmp 79) 3, type := 4, pos := _, after := #[{ on := 15, ground := Ground.data }, { on := 16, ground := Ground.data }, { on := 11, ground := Ground.guard }], guard := some (11, true) }) (v := undef) rfl (by kernel_rfl) (by kernel_rfl) (by kernel_rfl) (fun _ _ _ h => h) (Or.inr ⟨by rfl, rfl⟩) (by assumption) ?_
        try simp only [Act.put, List.setIfInBounds_toArray, List.set_cons_zero, List.set_cons_succ]
        refine wpAnyH_take (i := 18) (oi := { dst := some 81, op := Op.pick (Operand.tmp 74) (Operand.tmp 80) (Operand.const (Value.bool false)), type := 4, pos := _, after := #[{ on := 11, ground := Ground.data }, { on := 17, ground := Ground.data }], guard := none }) (v := ?_) rfl (by kernel_rfl) (by kernel_rfl) (by kernel_rfl) (fun _ _ _ h => h) (Or.inl ⟨by rfl, ?_⟩) (by assumption) ?_
        rotate_left
        · ((intro w hSw); (try dsimp only at hSw); go_simp; (try with_reducible rfl))
        try simp only [Act.put, List.setIfInBounds_toArray, List.set_cons_zero, List.set_cons_succ]
        refine wpAnyH_take (i := 19) (oi := { dst := some 82, op := Op.binOp BinOp.neq 4 (Operand.tmp 68) (Operand.tmp 81) 4, type := 4, pos := _, after := #[{ on := 5, ground := Ground.data }, { on := 18, ground := Ground.data }], guard := none }) (v := ?_) rfl (by kernel_rfl) (by kernel_rfl) (by kernel_rfl) (fun _ _ _ h => h) (Or.inl ⟨by rfl, ?_⟩) (by assumption) ?_
        rotate_left
        · ((intro w hSw); (try dsimp only at hSw); go_simp; (try with_reducible rfl))
        try simp only [Act.put, List.setIfInBounds_toArray, List.set_cons_zero, List.set_cons_succ]
        refine wpAnyH_done (by kernel_rfl) ?_ _
        go_wp2
        go_roundw
        case rel => exact ⟨k + 1, by omega, by go_num, by go_split_ands; assumption⟩
        case measure => simp [intOf]; omega
    · obtain ⟨⟨l, hlN, hst⟩, hbw, hbo⟩ := hSW
      clear HI
      subst hlN
      obtain ⟨wo, rfl⟩ : ∃ wo : World, wo = wr := ⟨_, rfl⟩
      have HST := Lib.hid hst
      have hbw0 := hbw
      have HB := Lib.hid hbw0
      clear hst hbw hbw0
      have h0 : 0 < l.length := h1
      go_wp2
      go_loopw [12, 13, 14] (fun s12 s13 s14 W => ∃ i : Nat, i ≤ m ∧ s12 = .int .i64 (iter (nextN l 1) i c : Nat) ∧ s13 = .int .i64 (iter (prevN l 1) i c : Nat) ∧ s14 = .int .i64 (i : Int) ∧ Below wo.heap.size wo W) (fun _ _ s14 _ => m - (intOf s14).toNat)
      case atStart => exact ⟨0, Nat.zero_le _, rfl, rfl, rfl, Below.refl _ _⟩
      case round =>
        obtain ⟨i, hi, rfl, rfl, rfl, hB⟩ := hrel
        have hst := HST.out.then_ hB (Nat.le_refl _)
        by_cases hlt : i < m
        · have hA := iter_next_le l i c (by omega)
          have hC := iter_prev_le l i c
          have HA := Lib.hid (show iter (nextN l 1) (i + 1) c = nextN l 1 (iter (nextN l 1) i c) from rfl)
          have HC := Lib.hid (show iter (prevN l 1) (i + 1) c = prevN l 1 (iter (prevN l 1) i c) from rfl)
          generalize iter (nextN l 1) i c = A at *
          generalize iter (prevN l 1) i c = B at *
          have hA1 := nextN_le l 1 A hA
          have hC1 := prevN_le l 1 B
          have HN1 := Lib.hid (nextN_none l A hA)
          have HN2 := Lib.hid (prevN_none l B)
          have hAA : A = l.length - 1 ∨ A < nextN l 1 A := by
            by_cases h : A = l.length - 1
            · exact .inl h
            · exact .inr (nextN_gt l 1 A (by omega))
          have hAle : A ≤ nextN l 1 A := by
            rcases hAA with h | h
            · rw [h, nextN_last]; exact Nat.le_refl _
            · omega
          have hBB : B = 0 ∨ prevN l 1 B < B := by
            by_cases h : B = 0
            · exact .inl h
            · exact .inr (prevN_lt l 1 B (by omega))
          have NZ := Lib.hid (show nextZ l (A : Int) 1 = (nextN l 1 A : Int) from nextZ_nat l A 1 hA (by omega))
          have PZ := Lib.hid (show prevZ l (B : Int) 1 = (prevN l 1 B : Int) from prevZ_nat l B 1 (by omega) (by omega))
          generalize nextN l 1 A = C at *
          generalize prevN l 1 B = D at *
          have t1 : decide ((C : Int) < (A : Int)) = false := decide_eq_false (by omega)
          have t2 : decide ((B : Int) < (D : Int)) = false := decide_eq_false (by omega)
          have HAA := Lib.hid hAA
          have HBB := Lib.hid hBB
          clear hAA hBB
          go_wp2_with fail
          refine (nextC P b l A 1 _ hst h0 h2 (by omega)).mono ?_
          rw [NZ.out]
          rintro e w4 ⟨rfl, rfl⟩
          go_wp2_with fail
          refine (prevC P b l B 1 _ hst h0 h2 (by omega)).mono ?_
          rw [PZ.out]
          rintro e w4 ⟨rfl, rfl⟩
          have t3 : ((C : Int) == (A : Int)) = false ∨ (((C : Int) == (A : Int)) = true ∧ ((A : Int) != (l.length : Int) - 1) = false) := by
            rcases HAA.out with h | h
            · right; simp; omega
            · left; simp; omega
          have t4 : ((D : Int) == (B : Int)) = false ∨ (((D : Int) == (B : Int)) = true ∧ ((B : Int) != 0) = false) := by
            rcases HBB.out with h | h
            · right; simp; omega
            · left; simp; omega
          rcases t3 with t3 | ⟨t3, t3'⟩ <;> rcases t4 with t4 | ⟨t4, t4'⟩
          all_goals
            go_wp2_with fail
            refine (listC P b l _ hst h2).mono ?_
            rintro e w5 ⟨la, lcap, rfl, hcap5, hI5, hb5⟩
            have hB5 : Below wo.heap.size wo w5 := below_next hB hb5
            have HI5 := Lib.hid hI5
            have HSA := Lib.hid (fun k hk => stops_at (l := l) (k := k) hk)
            have hsl := stops_len l
            generalize stops l = M at *
            clear hI5 hb5 hst
            obtain ⟨wi, rfl⟩ : ∃ wi : World, wi = wr := ⟨_, rfl⟩
            go_wp2
            go_loopw [18] (fun s18 W => ∃ k : Nat, k ≤ M.length ∧ s18 = .int .i64 (k : Int) ∧ W = w5) (fun s18 _ => M.length - (intOf s18).toNat)
            case atStart => exact ⟨0, Nat.zero_le _, rfl, rfl⟩
            case round =>
              obtain ⟨k, hk, rfl, rfl⟩ := hrel
              by_cases hlt2 : k < M.length
              · obtain ⟨lb, lo, rfl, hcell⟩ : ∃ lb lo, la = some ⟨lb, lo, none⟩ ∧ wr.cell? ⟨lb, lo + k, none⟩ = some (.int .i64 M[k]) := by
                  rcases HI5.out with h | ⟨sb, so, h, hh⟩
                  · subst h; simp at hlt2
                  · exact ⟨sb, so, h, hh k hlt2⟩
                obtain ⟨y, hy, hyt⟩ := HSA.out k hlt2
                rw [hy] at hcell
                have u1 : ¬ (A < y ∧ y < C) := fun h => by rw [HN1.out y h.1 h.2] at hyt; cases hyt
                have u2 : ¬ (y < B ∧ D < y) := fun h => by rw [HN2.out y h.1 h.2] at hyt; cases hyt
                clear hy hyt
                by_cases v1 : A < y
                · have t6 : C ≤ y := by omega
                  have t7 : y < B ∧ y ≤ D ∨ B ≤ y := by omega
                  clear u1 u2
                  rcases t7 with ⟨t7, t8⟩ | t7
                  all_goals
                    go_wp2
                    go_roundw
                    case rel => exact ⟨k + 1, by omega, by go_num, by first | rfl | trivial⟩
                    case measure => simp [intOf]; omega
                · have t5 : y ≤ A := by omega
                  have t7 : y < B ∧ y ≤ D ∨ B ≤ y := by omega
                  clear u1 u2 v1
                  rcases t7 with ⟨t7, t8⟩ | t7
                  all_goals
                    go_wp2
                    go_roundw
                    case rel => exact ⟨k + 1, by omega, by go_num, by first | rfl | trivial⟩
                    case measure => simp [intOf]; omega
              · obtain rfl : k = M.length := by omega
                go_wp2
                go_roundw
                case rel => exact ⟨i + 1, by omega, by rw [HA.out], by rw [HC.out], by go_num, hB5⟩
                case measure => simp [intOf]; omega
        · obtain rfl : i = m := by omega
          obtain ⟨j, rfl⟩ : ∃ j, i = j + 1 := ⟨i - 1, by omega⟩
          have NZ := Lib.hid ((nextZ_nat l c (j + 1) (by omega) (by omega)).trans (by rw [nextN_iter l j c (by omega)]))
          have PZ := Lib.hid ((prevZ_nat l c (j + 1) (by omega) (by omega)).trans (by rw [prevN_iter l j c]))
          generalize iter (nextN l 1) (j + 1) c = A at *
          generalize iter (prevN l 1) (j + 1) c = B at *
          generalize j + 1 = i at *
          go_wp2_with fail
          refine (first _).mono ?_
          rintro e w6 ⟨rfl, hb6⟩
          have hst6 := hst.then_ hb6 (Nat.le_refl _)
          go_wp2_with fail
          refine (nextC P b l c i _ hst6 h0 h2 (by omega)).mono ?_
          rw [NZ.out]
          rintro e w4 ⟨rfl, rfl⟩
          go_wp2_with fail
          refine (prevC P b l c i _ hst6 h0 h2 (by omega)).mono ?_
          rw [PZ.out]
          rintro e w4 ⟨rfl, rfl⟩
          go_wp2
          go_ret
          exact ⟨rfl, below_next (below_next HB.out hB) hb6⟩
theorem walk (cols : Int) (al : Option Addr) (len cap : Nat) (zs : List Int) (col n : Int) (W : World) (_w0 : (Lit.int .i64 cols).wf = true) (w1 : IsRow .i64 W al len cap zs) (_w2 : (Lit.int .i64 col).wf = true) (_w3 : (Lit.int .i64 n).wf = true) :
    Calls Try.prog 10 #[.int .i64 cols, .slice al len cap, .int .i64 col, .int .i64 n] W fun e w' => e = .returned (.bool true) ∧ Below W.heap.size W w' := by
  obtain ⟨l, rfl, hcap, hcm, h0, hi⟩ := row_l w1
  by_cases hc : 1 ≤ cols ∧ cols ≤ 200
  · obtain ⟨N, rfl⟩ := Int.eq_ofNat_of_zero_le (show 0 ≤ cols by omega)
    by_cases h : 200 < l.length ∨ col < 0 ∨ (N : Int) ≤ col ∨ n < 1 ∨ 50 < n
    · exact outC N al _ cap col n W (by omega) (by omega) (by omega) h
    · obtain ⟨c, rfl⟩ := Int.eq_ofNat_of_zero_le (show 0 ≤ col by omega)
      obtain ⟨m, rfl⟩ := Int.eq_ofNat_of_zero_le (show 0 ≤ n by omega)
      exact main N al l cap c m W hcap hi (by omega) (by omega) (by omega) (by omega) (by omega) (by omega)
  · exact outNo cols al _ cap col n W (by omega) (by omega)
end Go.Proofs.Ytkpneocolbmnpaa.TabsStepsW
