/- WireBack: the walk. -/
import Derived.Test.YtlhapnnepcnfbaaDoorRdC
import Derived.Test.YtlhapnnepcnfbaaDoorWbM
import Derived.Test.YtlhapnnepcnfbaaDoorArgB
import Derived.LoopTactic
import Derived.Deep.RegionHeld3
set_option linter.unusedVariables false
namespace Go.Proofs.YtlhapnnepcnfbaaDoor.WbW
open Go Go.RowKit Kit Crc Var Get WireFirst Ref3 Copy Rd RdA RdB RdC WbM

theorem below_next {w W W1 : World} (h : Below w.heap.size w W) (k : Below W.heap.size W W1) : Below w.heap.size w W1 := below_then h k h.size
theorem own_then {w w1 : World} {base : Nat} {v : Value} {n : Nat} {xs : List Value} (h : w.ownsRow base 5 1 v n xs) (hb : Below w.heap.size w w1) : w1.ownsRow base 5 1 v n xs :=
  h.kept (grown_below hb none) (by cases v.ownBlock <;> simp)
/-- a row of numbers of 64 bits. -/
def Cells64 (w : World) (b off : Nat) (Z : List Nat) : Prop := ∀ i, (h : i < Z.length) → w.cell? ⟨b, off + i, none⟩ = some (.int .u64 ((Z[i] : Nat) : Int)) ∧ Z[i] < 18446744073709551616
theorem By.grown {w w' : World} {p : Nat} {r r0 : Rdr} {l : List Nat} (hp : Rc w p r0) (h : By w r l) (hg : w.grownBy w' (some p)) : By w' r l := by
  refine ⟨h.len, ?_, h.cap, h.small, h.byte⟩
  rcases h.sl with h0 | ⟨b, off, ha, hc⟩
  · exact .inl h0
  · by_cases hl : l.length = 0
    · exact .inl (List.eq_nil_of_length_eq_zero hl)
    · right
      have hne : b ≠ p := by
        rintro rfl
        have h1 := hc 0 (by omega)
        have h' : w.heap[b]? = _ := hp
        simp [World.cell?, h'] at h1
        match off, h1 with
        | 0, h1 => simp at h1
        | 1, h1 => simp at h1
        | 2, h1 => simp at h1
        | n + 3, h1 => simp at h1
      exact ⟨b, off, ha, fun i hi => cell_grown hg hne (hc i hi)⟩
theorem catL_pos {Z : List Nat} (h : 1 ≤ Z.length) : 1 ≤ (catL Z).length := by
  match Z, h with
  | a :: l, _ =>
    have := varL_pos a
    simp only [catL, List.flatMap_cons, List.length_append]; omega
theorem num_next {w : World} {p : Nat} {r : Rdr} (Z : List Nat) (j : Nat) (hj : j < Z.length) (hn : Z[j] < 18446744073709551616) (hp : Rc w p r) (hb : By w r (catL Z)) (he : r.err = 0) (ha : r.at_ = (catL (Z.take j)).length) :
    Calls Tryd.prog 46 #[.pointer (some ⟨p, 0, none⟩), .int .u64 18446744073709551615] w (RdQ w p (((Z[j] : Nat) : Int), { r with at_ := (catL (Z.take (j + 1))).length })) := by
  have h := numC 18446744073709551615 (catL Z) hp hb
  have e : numN (catL Z) r 18446744073709551615 = (((Z[j] : Nat) : Int), { r with at_ := (catL (Z.take (j + 1))).length }) := by
    unfold numN
    rw [if_neg (by simp [he]), ha, getA_cat Z j hj hn, if_neg (by simp), if_neg (by simp only; omega)]
    simp
  rw [e] at h
  exact h
theorem num_end {w : World} {p : Nat} {r : Rdr} (l : List Nat) (hp : Rc w p r) (hb : By w r l) (he : r.err = 0) (ha : r.at_ = l.length) :
    Calls Tryd.prog 46 #[.pointer (some ⟨p, 0, none⟩), .int .u64 5] w (RdQ w p (0, { r with err := 3 })) := by
  have h := numC 5 l hp hb
  have e : numN l r 5 = (0, { r with err := 3 }) := by
    unfold numN
    rw [if_neg (by simp [he]), ha, getA_end, if_pos (by simp)]
  rw [e] at h
  exact h
theorem walkOut (a : Option Addr) (len cap : Nat) (cut : Int) (w : World) (hT : TabC w) (b1 b2 b3 : Bool) (h1 : decide ((len : Int) < 1) = b1) (h2 : decide ((300 : Int) < (len : Int)) = b2) (h3 : decide (cut < 0) = b3) (hc : (b1 || b2 || b3) = true) :
    Calls Tryd.prog 13 #[.slice a len cap, .int .i64 cut] w fun e w' => e = .returned (.bool true) ∧ Below w.heap.size w w' := by
  have h1' : decide (len < 1) = b1 := by rw [← h1]; exact decide_eq_decide.2 (by omega)
  have HF := Lib.hid (fun w h => first w h)
  have HT := Lib.hid hT
  clear hT
  have hcs : b1 = true ∨ (b1 = false ∧ b2 = true) ∨ (b1 = false ∧ b2 = false ∧ b3 = true) := by
    revert hc; cases b1 <;> cases b2 <;> cases b3 <;> decide
  clear hc
  rcases hcs with rfl | ⟨rfl, rfl⟩ | ⟨rfl, rfl, rfl⟩
  all_goals
    go_enter Tryd.func13, Tryd.ntmps13
    go_wp2_with fail
    refine (HF.out _ HT.out).mono ?_
    rintro e w1 ⟨rfl, hb1⟩
    have HT1 := Lib.hid (tab_then hb1 (Nat.le_refl _) HT.out)
    go_wp2_with fail
    refine (HF.out _ HT1.out).mono ?_
    rintro e w2 ⟨rfl, hb2⟩
    go_wp2
    go_ret
    exact ⟨rfl, below_next hb1 hb2⟩
set_option maxRecDepth 100000 in
set_option maxHeartbeats 8000000 in
theorem main (bb off cap : Nat) (Z : List Nat) (cut : Nat) (w : World) (hT : TabC w) (hZ : Cells64 w bb off Z) (h1 : 1 ≤ Z.length) (h2 : Z.length ≤ 300) :
    Calls Tryd.prog 13 #[.slice (some ⟨bb, off, none⟩) Z.length cap, .int .i64 (cut : Int)] w fun e w' => e = .returned (.bool true) ∧ Below w.heap.size w w' := by
  have b1 : decide ((Z.length : Int) < 1) = false := decide_eq_false (by omega)
  have b1' : decide (Z.length < 1) = false := decide_eq_false (by omega)
  have b2 : decide ((300 : Int) < (Z.length : Int)) = false := decide_eq_false (by omega)
  have b3 : decide ((cut : Int) < 0) = false := decide_eq_false (by omega)
  obtain ⟨i0, hi, hz0, hz1, hz2⟩ := info_parts info5
  have HF := Lib.hid (fun w h => first w h)
  have HT := Lib.hid hT
  have HZ := Lib.hid hZ
  have hlen : ∀ n, n ≤ Z.length → (catL (Z.take n)).length ≤ 3000 := fun n hn => by
    have h3 := catL_len (Z.take n) (fun m hm => by
      have h4 := List.mem_of_mem_take hm
      obtain ⟨i, hi, rfl⟩ := List.mem_iff_getElem.1 h4
      exact (hZ i hi).2)
    have h4 : (Z.take n).length ≤ n := List.length_take_le _ _
    omega
  have HL := Lib.hid hlen
  have HN1 := Lib.hid h1
  have HN2 := Lib.hid h2
  clear hT hZ hlen
  obtain ⟨N, hN⟩ : ∃ N, N = Z.length := ⟨_, rfl⟩
  rw [← hN] at b1 b1' b2 h1 h2 HL HN1 HN2 ⊢
  have HN := Lib.hid hN
  clear hN
  go_enter Tryd.func13, Tryd.ntmps13
  go_wp2_with fail
  refine (HF.out _ HT.out).mono ?_
  rintro e w1 ⟨rfl, hb1⟩
  have HB1 := Lib.hid hb1
  clear hb1
  go_wp2_with fail
  go_loopw [5, 6] (fun s5 s6 wr => ∃ (i : Nat) (v : Value), i ≤ N ∧ s6 = .int .i64 (i : Int) ∧ s5 = v ∧ wr.ownsRow w.heap.size 5 1 v (catL (Z.take i)).length (cellsOf (catL (Z.take i))) ∧ Below w.heap.size w wr) (fun _ s6 _ => N - (intOf s6).toNat)
  case atStart => exact ⟨0, _, Nat.zero_le _, rfl, rfl, World.ownsRow_nil _ _ _ _, HB1.out⟩
  case round =>
    clear HB1
    obtain ⟨i, v, hi', rfl, rfl, hown, hW⟩ := hrel
    by_cases hlt : i < N
    · have hiz : i < Z.length := by rw [← HN.out]; exact hlt
      obtain ⟨hc0, hn64⟩ := HZ.out i hiz
      have hcell : wr.cell? ⟨bb, off + i, none⟩ = some (.int .u64 ((Z[i] : Nat) : Int)) := cell_then hW (Nat.le_refl _) hc0
      have hten := varL_ten hn64
      have hpos := varL_pos Z[i]
      have hbyt := varL_bytes Z[i]
      have hg0 : getA (varL Z[i]) 0 = (((Z[i] : Nat) : Int), ((varL Z[i]).length : Int), 0) := by
        have h := getA_front [] [] Z[i] hn64
        rw [List.nil_append, List.append_nil] at h
        rw [show (0 : Int) = (([] : List Nat).length : Nat) from rfl, h]
        simp
      have hcut := fun (k : Nat) (hk2 : k < (varL Z[i]).length) => getA_cut Z[i] k hn64 hk2
      have hct := catL_take Z i hiz
      have hl0 := HL.out i hi'
      have CV := Lib.hid (fun W => varC Z[i] W hn64)
      clear hc0 hn64
      generalize Z[i] = n at *
      generalize hVL : varL n = VL at *
      generalize catL (Z.take i) = CL at *
      have HCT := Lib.hid hct
      have HG0 := Lib.hid hg0
      have HCUT := Lib.hid hcut
      have HBY := Lib.hid hbyt
      have HOWN := Lib.hid hown
      have HVL := Lib.hid hVL
      clear hct hg0 hcut hbyt hown hVL
      go_wp2_with fail
      refine (CV.out _).mono ?_
      rintro e w2 ⟨v7, rfl, hown7, hb2⟩
      rw [HVL.out] at hown7
      obtain ⟨a7, cap7, rfl, hcap7, hs7, _⟩ := row_sl hown7
      obtain ⟨g, go_, rfl, hc7⟩ : ∃ g o, a7 = some ⟨g, o, none⟩ ∧ Cells w2 g o VL := by
        rcases hs7 with h | h
        · rw [h] at hpos; simp at hpos
        · exact h
      have hW2 := below_next hW hb2
      have hownB := own_then HOWN.out hb2
      have hcell2 : w2.cell? ⟨bb, off + i, none⟩ = some (.int .u64 (n : Int)) := cell_then hb2 (Nat.le_refl _) hcell
      have hz2' := hW2.size
      have HS7 := Lib.hid hs7
      have HG1 := Lib.hid (fun W (h : Sl W (some ⟨g, go_, none⟩) VL) => get36 (some ⟨g, go_, none⟩) cap7 VL 0 W HBY.out (by omega) h)
      unfold GetP at HG1
      rw [HG0.out] at HG1
      have l1 : decide ((VL.length : Int) < 1) = false := decide_eq_false (by omega)
      have l1' : decide (VL.length < 1) = false := decide_eq_false (by omega)
      have l2 : decide ((10 : Int) < (VL.length : Int)) = false := decide_eq_false (by omega)
      have l2' : decide (10 < VL.length) = false := decide_eq_false (by omega)
      obtain ⟨k, hk⟩ : ∃ k, k = cut % VL.length := ⟨_, rfl⟩
      have hkl : k < VL.length := by rw [hk]; exact Nat.mod_lt _ (by omega)
      have r1 : (cut : Int).tmod (VL.length : Int) = (k : Int) := by rw [hk]; rfl
      have r2 : ¬ (VL.length : Int) = 0 := by omega
      have r2' : ¬ VL.length = 0 := by omega
      have HK : Hid (∀ W, Cells W g go_ VL → Calls Tryd.prog 36 #[.slice (some ⟨g, go_, none⟩) k cap7, .int .i64 0] W fun e w' => e = .returned (.tuple #[.int .u64 0, .int .i64 0, .int .i64 3]) ∧ W = w') := Lib.hid (fun W h => by
        have h1 := get36 (some ⟨g, go_, none⟩) cap7 (VL.take k) 0 W (fun c hc => HBY.out c (List.mem_of_mem_take hc)) (by rw [List.length_take]; omega) (.inr ⟨g, go_, rfl, fun j hj => by
          rw [List.length_take] at hj
          rw [h j (by omega), List.getElem_take]⟩)
        unfold GetP at h1
        rw [HCUT.out k hkl, List.length_take, Nat.min_eq_left (by omega)] at h1
        exact h1)
      have HC7 := Lib.hid hc7
      have hcs := cellsOf_at hc7
      have hlenc : (cellsOf VL).length = VL.length * 1 := by simp [cellsOf]
      clear hk hs7 hc7
      go_wp2_with fail
      refine (HG1.out _ HS7.out).mono ?_
      rintro e w3 ⟨rfl, rfl⟩
      go_wp2_with fail
      refine (HK.out _ HC7.out).mono ?_
      rintro e w3 ⟨rfl, rfl⟩
      go_wp2_with (at_builtin; refine wpList_append_own _ rfl _ _ 54 rfl w.heap.size 5 i0 (.int .u8 0) 1 1 Tryd.underlying54 hi hz0 hz1 hz2 rfl (by decide) _ _ _ rfl hownB ⟨g, go_, none⟩ VL.length cap7 (cellsOf VL) rfl hlenc hcs cellsOf_one (by unfold maxLen; omega) (by omega) (by omega) ?_; intro v' w4 hown' hgrow4 hnil4)
      have hB4 := hW2.grown hgrow4 hW2.size (fun j hj => (hownB.lt j hj).1)
      go_roundw
      case rel =>
        refine ⟨i + 1, v', by omega, by go_num, rfl, ?_, hB4⟩
        rw [HCT.out, List.length_append]
        have e : cellsOf (CL ++ VL) = cellsOf CL ++ cellsOf VL := by simp [cellsOf]
        rw [e]; exact hown'
      case measure => simp [intOf]; omega
    · obtain rfl : i = N := by omega
      have hfull : catL (Z.take i) = catL Z := by rw [HN.out, List.take_length]
      have h30 := HL.out i (Nat.le_refl _)
      rw [hfull] at hown h30
      have hcp := catL_pos (Z := Z) (by rw [← HN.out]; exact h1)
      have hbyt := catL_byte Z
      have HX := Lib.hid (fun W p r j hj h1 h2 h3 h4 h5 => @num_next W p r Z j hj h1 h2 h3 h4 h5)
      have HFU := Lib.hid hfull
      obtain ⟨a5, cap5, rfl, hcap5, hs5, _⟩ := row_sl hown
      have h05 : a5 = none → cap5 = 0 := by
        rintro rfl
        rcases hs5 with h | ⟨b, o, h, _⟩
        · rw [h] at hcp; simp at hcp
        · cases h
      have HNEW := Lib.hid (newC a5 cap5 (catL Z) wr (by omega) hbyt hs5 h05)
      have HW := Lib.hid hW
      generalize catL Z = CL at *
      clear hown hs5 h05 hbyt hfull hcp hW
      obtain ⟨wo, rfl⟩ : ∃ wo : World, wo = wr := ⟨_, rfl⟩
      go_wp2_with fail
      refine HNEW.out.mono ?_
      rintro e w5 ⟨p, r, hpge, rfl, hRc, hat, herr, hBy, hb5⟩
      have hz5 := HW.out.size
      have hpw : w.heap.size ≤ p := by omega
      have HS := Lib.hid (show ∃ (j : Nat) (r : Rdr), j ≤ i ∧ Value.int .i64 0 = .int .i64 (j : Int) ∧ Rc w5 p r ∧ By w5 r CL ∧ r.err = 0 ∧ r.at_ = (catL (Z.take j)).length ∧ Below w.heap.size w w5 from ⟨0, r, Nat.zero_le _, rfl, hRc, hBy, herr, by rw [hat]; rfl, below_next HW.out hb5⟩)
      clear hRc hat herr hBy hb5 hz5 hpge HNEW HW
      go_wp2_with fail
      go_loopw [15] (fun s15 wr => ∃ (j : Nat) (r : Rdr), j ≤ i ∧ s15 = .int .i64 (j : Int) ∧ Rc wr p r ∧ By wr r CL ∧ r.err = 0 ∧ r.at_ = (catL (Z.take j)).length ∧ Below w.heap.size w wr) (fun s15 _ => i - (intOf s15).toNat)
      case atStart => exact HS.out
      case round =>
        clear HS
        obtain ⟨j, r, hj', rfl, hRc, hBy, herr, hat, hW⟩ := hrel
        by_cases hlt2 : j < i
        · have hjz : j < Z.length := by rw [← HN.out]; exact hlt2
          obtain ⟨hc0, hn64⟩ := HZ.out j hjz
          have hcell : wr.cell? ⟨bb, off + j, none⟩ = some (.int .u64 ((Z[j] : Nat) : Int)) := cell_then hW (Nat.le_refl _) hc0
          have HNX := Lib.hid (HX.out wr.drew p r j hjz hn64 hRc ⟨hBy.len, hBy.sl, hBy.cap, hBy.small, hBy.byte⟩ herr hat)
          have HBY := Lib.hid hBy
          have HRC := Lib.hid hRc
          have HW := Lib.hid hW
          have HER := Lib.hid herr
          have hbne : bb ≠ p := by have := World.block_lt_of_cell? w _ hc0; simp only at this; omega
          clear hc0 hn64 hRc hBy herr hat hW
          generalize Z[j] = n at *
          have u1 : ((n : Int) != (n : Int)) = false := by simp
          go_wp2_with fail
          refine wp_region_held_drew (S := (fun W => W.cell? ⟨bb, off + j, none⟩ = some (.int .u64 (n : Int)))) (by kernel_rfl) ?_ (fun hHeld => ?_)
          · ((try dsimp only); exact past_drew hcell)
          refine wpAnyH_take (i := 0) (oi := { dst := some 100, op := Op.move (Operand.tmp 14), type := 64, pos := _, after := #[], guard := none }) (v := ?_) rfl (by kernel_rfl) (by kernel_rfl) (by kernel_rfl) (fun _ _ _ h => h) (Or.inl ⟨by rfl, ?_⟩) (by assumption) ?_
          rotate_left
          · ((intro w hSw); (try dsimp only at hSw); go_simp; (try with_reducible rfl))
          try simp only [Act.put, List.setIfInBounds_toArray, List.set_cons_zero, List.set_cons_succ]
          refine wpAnyH_take (i := 2) (oi := { dst := some 102, op := Op.move (Operand.tmp 0), type := 78, pos := _, after := #[], guard := none }) (v := ?_) rfl (by kernel_rfl) (by kernel_rfl) (by kernel_rfl) (fun _ _ _ h => h) (Or.inl ⟨by rfl, ?_⟩) (by assumption) ?_
          rotate_left
          · ((intro w hSw); (try dsimp only at hSw); go_simp; (try with_reducible rfl))
          try simp only [Act.put, List.setIfInBounds_toArray, List.set_cons_zero, List.set_cons_succ]
          refine wpAnyH_take (i := 3) (oi := { dst := some 103, op := Op.move (Operand.tmp 15), type := 3, pos := _, after := #[], guard := none }) (v := ?_) rfl (by kernel_rfl) (by kernel_rfl) (by kernel_rfl) (fun _ _ _ h => h) (Or.inl ⟨by rfl, ?_⟩) (by assumption) ?_
          rotate_left
          · ((intro w hSw); (try dsimp only at hSw); go_simp; (try with_reducible rfl))
          try simp only [Act.put, List.setIfInBounds_toArray, List.set_cons_zero, List.set_cons_succ]
          refine wpAnyH_take (i := 4) (oi := { dst := some 104, op := Op.indexAddr 78 (Operand.tmp 102) (Operand.tmp 103), type := 0, pos := _, after := #[{ on := 2, ground := Ground.data }, { on := 3, ground := Ground.data }], guard := none }) (v := ?_) rfl (by kernel_rfl) (by kernel_rfl) (by kernel_rfl) (fun _ _ _ h => h) (Or.inl ⟨by rfl, ?_⟩) (by assumption) ?_
          rotate_left
          · ((intro w hSw); (try dsimp only at hSw); go_simp; (try with_reducible rfl))
          try simp only [Act.put, List.setIfInBounds_toArray, List.set_cons_zero, List.set_cons_succ]
          refine wpAnyH_take (i := 5) (oi := { dst := some 105, op := Op.load 22 (Operand.tmp 104), type := 22, pos := _, after := #[{ on := 4, ground := Ground.data }], guard := none }) (v := ?_) rfl (by kernel_rfl) (by kernel_rfl) (by kernel_rfl) (fun _ _ _ h => h) (Or.inl ⟨by rfl, ?_⟩) (by assumption) ?_
          rotate_left
          · ((intro w hSw); (try dsimp only at hSw); go_simp; (try with_reducible rfl))
          try simp only [Act.put, List.setIfInBounds_toArray, List.set_cons_zero, List.set_cons_succ]
          refine wpAnyH_ready (rs := [1]) (by kernel_rfl) (by simp) ?_
          refine (AllReadyH.cons (o := { dst := some 101, op := Op.call { callee := Callee.value (Operand.func 46), args := #[Operand.tmp 100, Operand.const (Value.int IntKind.u64 18446744073709551615)], argTypes := #[64, 22] }, type := 22, pos := _, after := #[{ on := 0, ground := Ground.data }], guard := none }) rfl (fun K hK => ?_) AllReadyH.nil)
          go_simp
          (refine HNX.out.mono ?_; rintro e w6 ⟨rfl, hRc6, hg6⟩)
          go_wp2_with fail
          refine hK.out _ _ ?_ (fun hHeld => ?_)
          · ((try dsimp only); exact cell_grown hg6 hbne (past_drew hcell))
          clear hK K
          try simp only [Act.put, List.setIfInBounds_toArray, List.set_cons_zero, List.set_cons_succ]
          refine wpAnyH_take (i := 6) (oi := { dst := some 106, op := Op.binOp BinOp.neq 22 (Operand.tmp 101) (Operand.tmp 105) 22, type := 4, pos := _, after := #[{ on := 1, ground := Ground.data }, { on := 5, ground := Ground.data }], guard := none }) (v := ?_) rfl (by kernel_rfl) (by kernel_rfl) (by kernel_rfl) (fun _ _ _ h => h) (Or.inl ⟨by rfl, ?_⟩) (by assumption) ?_
          rotate_left
          · ((intro w hSw); (try dsimp only at hSw); go_simp; (try with_reducible rfl))
          try simp only [Act.put, List.setIfInBounds_toArray, List.set_cons_zero, List.set_cons_succ]
          refine wpAnyH_done (by kernel_rfl) ?_ _
          have hBy6 : By w6 r CL := By.grown (show Rc wr.drew p r from HRC.out) ⟨HBY.out.len, HBY.out.sl, HBY.out.cap, HBY.out.small, HBY.out.byte⟩ hg6
          have HW6 := Lib.hid ((show Below w.heap.size w wr.drew from HW.out.drew).grown hg6 HW.out.size (fun k hk => by cases hk; exact hpw))
          have HR6 := Lib.hid hRc6
          have HB6 := Lib.hid hBy6
          clear hRc6 hBy6 hg6
          go_wp2
          go_roundw
          case rel => exact ⟨j + 1, _, by omega, by go_num, HR6.out, ⟨HB6.out.len, HB6.out.sl, HB6.out.cap, HB6.out.small, HB6.out.byte⟩, HER.out, rfl, HW6.out⟩
          case measure => simp [intOf]; omega
        · obtain rfl : j = i := by omega
          rw [HFU.out] at hat
          have HLT : Hid (r.len = CL.length) := Lib.hid hBy.len
          have hT2 := Lib.hid (tab_then hW (Nat.le_refl _) HT.out)
          have HRC := Lib.hid hRc
          have HBY := Lib.hid hBy
          have HER := Lib.hid herr
          have HAT := Lib.hid hat
          have HW := Lib.hid hW
          clear hRc hBy herr hat hW
          go_wp2_with fail
          refine (HF.out _ hT2.out).mono ?_
          rintro e w6 ⟨rfl, hb6⟩
          have hRc6 := HRC.out.then_ hb6
          have hBy6 := HBY.out.then_ hb6
          have HW6 := Lib.hid (below_next HW.out hb6)
          clear hb6
          go_wp2_with fail
          refine (endC hRc6 (by rw [HAT.out, HLT.out]; exact Nat.le_refl _) (by rw [HLT.out]; omega)).mono ?_
          rintro e w7 ⟨rfl, hb7⟩
          rw [show endN r = 0 by unfold endN; rw [if_neg (by rw [HAT.out, HLT.out]; omega)]; exact HER.out]
          have hRc7 := hRc6.then_ hb7
          have hBy7 := hBy6.then_ hb7
          have HW7 := Lib.hid (below_next HW6.out hb7)
          clear hb7 hRc6 hBy6
          have HEN := Lib.hid (num_end CL hRc7 hBy7 HER.out HAT.out)
          clear hRc7 hBy7
          go_wp2_with fail
          refine HEN.out.mono ?_
          rintro e w8 ⟨rfl, hRc8, hg8⟩
          have HRC8 := Lib.hid hRc8
          have HW8 := Lib.hid (HW7.out.grown hg8 HW7.out.size (fun j hj => by cases hj; exact hpw))
          clear hRc8 hg8
          go_wp2_with fail
          refine (errC HRC8.out).mono ?_
          rintro e w9 ⟨rfl, rfl⟩
          go_wp2
          go_ret
          exact ⟨rfl, HW8.out⟩
theorem in64 {n : Int} (h : (Lit.int .u64 n).wf = true) : 0 ≤ n ∧ n < 18446744073709551616 := by
  simp only [Lit.wf, Bool.and_eq_true, decide_eq_true_eq] at h
  have h1 : IntKind.u64.min = 0 := by decide
  have h2 : IntKind.u64.max = 18446744073709551615 := by decide
  omega
theorem row64 {w : World} {a : Option Addr} {len cap : Nat} {zs : List Int} (h : IsRow .u64 w a len cap zs) (h1 : 1 ≤ len) : ∃ b off Z, a = some ⟨b, off, none⟩ ∧ len = Z.length ∧ Cells64 w b off Z := by
  rcases h with ⟨_, rfl, _, _⟩ | ⟨⟨b, o, sp⟩, rfl, hlc, hm, hz, hcell, hwf⟩
  · omega
  · have hspot : sp = none := by simpa [Addr.add] using World.cell?_spot (hcell 0 (by omega))
    subst hspot
    refine ⟨b, o, (zs.take len).map Int.toNat, rfl, by simp; omega, fun i hi => ?_⟩
    have hi' : i < len := by simp at hi; omega
    have hiz : i < zs.length := by omega
    have g := hcell i hiz
    have hadd : (⟨b, o, none⟩ : Addr).add i = ⟨b, o + i, none⟩ := by unfold Addr.add; split <;> simp_all
    have hmem : zs[i] ∈ zs := List.getElem_mem _
    obtain ⟨h0, h2⟩ := in64 (hwf _ hmem)
    have he : ((zs.take len).map Int.toNat)[i] = zs[i].toNat := by simp
    rw [hadd, List.getD_eq_getElem?_getD, List.getElem?_eq_getElem hiz] at g
    rw [he]
    refine ⟨?_, by omega⟩
    rw [g]
    simp only [Option.getD_some]
    congr 2
    omega
theorem row_len {w : World} {a : Option Addr} {len cap : Nat} {zs : List Int} (h : IsRow .u64 w a len cap zs) : len ≤ 9223372036854775807 := by
  rcases h with ⟨_, rfl, _, _⟩ | ⟨_, _, hlc, hm, _⟩
  · decide
  · unfold maxLen at hm; omega
theorem walk (a : Option Addr) (len cap : Nat) (zs : List Int) (cut : Int) (W : World) (w0 : IsRow .u64 W a len cap zs) (w1 : (Lit.int .i64 cut).wf = true)
    (hL : Lib.TabIs Tryd.prog W "tickertape/wire.crcSteps" .u32 [0, 498536548, 997073096, 651767980, 1994146192, 1802195444, 1303535960, 1342533948, 3988292384, 4027552580, 3604390888, 3412177804, 2607071920, 2262029012, 2685067896, 3183342108]) :
    Calls Tryd.prog 13 #[.slice a len cap, .int .i64 cut] W fun e w' => e = .returned (.bool true) ∧ Below W.heap.size W w' := by
  have hT := ArgB.tab hL (by kernel_rfl)
  by_cases h : 1 ≤ len ∧ len ≤ 300 ∧ 0 ≤ cut
  · obtain ⟨c, rfl⟩ := Int.eq_ofNat_of_zero_le h.2.2
    obtain ⟨b, off, Z, rfl, rfl, hZ⟩ := row64 w0 h.1
    exact main b off cap Z c W hT hZ h.1 h.2.1
  · have hl := row_len w0
    refine walkOut a len cap cut W hT _ _ _ rfl rfl rfl ?_
    simp only [Bool.or_eq_true, decide_eq_true_eq]
    omega
end Go.Proofs.YtlhapnnepcnfbaaDoor.WbW
