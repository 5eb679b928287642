/- WireTexts: the walk. -/
import Derived.Test.YtlhapnnepcnfbabDoorRdF
import Derived.Test.YtlhapnnepcnfbabDoorTxM
import Derived.Test.YtlhapnnepcnfbabDoorArgB
import Derived.LoopTactic
import Derived.Deep.CutRange
set_option linter.unusedVariables false
namespace Go.Proofs.YtlhapnnepcnfbabDoor.TxW
open Go Go.RowKit Kit Crc Var Get Bytes WireFirst Fronts Copy Rd RdA RdB RdC RdD RdE TxM
open RdF (textN textC TextQ)

theorem below_next {w W W1 : World} (h : Below w.heap.size w W) (k : Below W.heap.size W W1) : Below w.heap.size w W1 := below_then h k h.size
variable {w w' w2 : World} {p : Nat} {r : Rdr}
theorem own_then {w w1 : World} {base : Nat} {v : Value} {n : Nat} {xs : List Value} (h : w.ownsRow base 5 1 v n xs) (hb : Below w.heap.size w w1) : w1.ownsRow base 5 1 v n xs :=
  h.kept (grown_below hb none) (by cases v.ownBlock <;> simp)
theorem by_to {r2 : Rdr} {l : List Nat} (h : By w r l) (h1 : r2.a = r.a) (h2 : r2.len = r.len) (h3 : r2.cap = r.cap) : By w r2 l := ⟨h2.trans h.len, by rw [h1]; exact h.sl, by rw [h2, h3]; exact h.cap, h.small, h.byte⟩
/-- the strings of a slice. -/
def IsStrs (w : World) (A : Option Addr) (S : List ByteArray) : Prop := ∀ i, (h : i < S.length) → S[i].size ≤ maxLen ∧ ∃ b off, A = some ⟨b, off, none⟩ ∧ w.cell? ⟨b, off + i, none⟩ = some (.string S[i])
theorem IsStrs.then_ {A : Option Addr} {S : List ByteArray} (h : IsStrs w A S) (hb : Below w.heap.size w w') : IsStrs w' A S := by
  intro i hi
  obtain ⟨h1, b, off, h2, h3⟩ := h i hi
  exact ⟨h1, b, off, h2, cell_then hb (Nat.le_refl _) h3⟩
/-- Text, where the text fits. -/
theorem text_fit (S : List ByteArray) (i : Nat) (h : i < S.length) (hs : S[i].size ≤ 3000) (k : Nat) (hk : S[i].size ≤ k) (he : r.err = 0) (ha : r.at_ = (encL (S.take i)).length) :
    textN (encL S) r (k : Int) = (S[i], { r with at_ := (encL (S.take (i + 1))).length }) := by
  have hg := getA_enc S i h (by omega)
  have hf := enc_fit S i h
  have hc := enc_cut S i h
  have hn := enc_next S i h
  unfold textN
  rw [if_neg (by simp [he]), ha, hg, hn]
  simp only
  rw [if_neg (by simp), if_neg (by omega), if_neg (by omega)]
  simp only [Int.toNat_natCast]
  rw [hc, strL_byL]
theorem text_long (S : List ByteArray) (i : Nat) (h : i < S.length) (hs : S[i].size ≤ 3000) (k : Nat) (hk : k < S[i].size) (he : r.err = 0) (ha : r.at_ = (encL (S.take i)).length) :
    textN (encL S) r (k : Int) = (⟨#[]⟩, { r with err := 1 }) := by
  have hg := getA_enc S i h (by omega)
  unfold textN
  rw [if_neg (by simp [he]), ha, hg]
  simp only
  rw [if_neg (by simp), if_pos (by omega)]
  rfl
theorem sl_some {a : Option Addr} {l : List Nat} (h : Sl w a l) (h1 : 1 ≤ l.length) : ∃ g o, a = some ⟨g, o, none⟩ ∧ Cells w g o l := by
  rcases h with h | h
  · rw [h] at h1; simp at h1
  · exact h
theorem min_int (n : Nat) : (if (3001 : Int) < (n : Int) then (3001 : Int) else (n : Int)) = ((min n 3001 : Nat) : Int) := by
  by_cases h : n ≤ 3001
  · rw [if_neg (by omega), Nat.min_eq_left h]
  · rw [if_pos (by omega), Nat.min_eq_right (by omega)]; rfl
set_option maxRecDepth 100000 in
set_option maxHeartbeats 8000000 in
theorem main (A : Option Addr) (S : List ByteArray) (cap : Nat) (k : Int) (w : World) (hT : TabC w) (hS : IsStrs w A S) (hmx : S.length ≤ 9223372036854775807) :
    Calls Tryd.prog 4 #[.slice A S.length cap, .int .i64 k] w fun e w' => e = .returned (.bool true) ∧ Below w.heap.size w w' := by
  obtain ⟨j0, hj, hy0, hy1, hy2⟩ := info_parts info5
  have HF := Lib.hid (fun w h => first w h)
  have HT := Lib.hid hT
  have HS := Lib.hid hS
  have HM := Lib.hid hmx
  obtain ⟨N, hN⟩ : ∃ N, N = S.length := ⟨_, rfl⟩
  rw [← hN] at hmx HM ⊢
  have HN := Lib.hid hN
  clear hT hS hN
  go_enter Tryd.func4, Tryd.ntmps4
  go_wp2_with fail
  refine (HF.out _ HT.out).mono ?_
  rintro e w1 ⟨rfl, hb1⟩
  have HB1 := Lib.hid hb1
  clear hb1
  go_wp2_with fail
  go_loopw [5, 6] (fun s5 s6 wr => ∃ (i : Nat), i ≤ N ∧ i ≤ 60 ∧ s6 = .int .i64 (i : Int) ∧ s5 = .int .i64 ((sumM (S.take i) : Nat) : Int) ∧ Below w.heap.size w wr) (fun _ s6 _ => N - (intOf s6).toNat)
  case atStart => exact ⟨0, Nat.zero_le _, Nat.zero_le _, rfl, rfl, HB1.out⟩
  case round =>
    clear HB1
    obtain ⟨i, hi', hi60, rfl, rfl, hW⟩ := hrel
    by_cases hlt : i < N ∧ i < 60
    · obtain ⟨hlt, hl60⟩ := hlt
      have hiz : i < S.length := by rw [← HN.out]; exact hlt
      obtain ⟨hsz, bb, off, rfl, hc0⟩ := HS.out i hiz
      have hcell : wr.cell? ⟨bb, off + i, none⟩ = some (.string S[i]) := cell_then hW (Nat.le_refl _) hc0
      have hst := sumM_take S i hiz
      have hsl := sumM_le (S.take i)
      have hln : (S.take i).length ≤ i := List.length_take_le _ _
      have hmn := min_int S[i].size
      have hm1 : min S[i].size 3001 ≤ 3001 := Nat.min_le_right _ _
      have d1 : decide ((i : Int) < (N : Int)) = true := decide_eq_true (by omega)
      have d2 : decide ((i : Int) < 60) = true := decide_eq_true (by omega)
      have d1' : decide (i < N) = true := decide_eq_true (by omega)
      have d2' : decide (i < 60) = true := decide_eq_true (by omega)
      generalize sumM (S.take i) = M at *
      generalize S[i] = s at *
      generalize min s.size 3001 = mn at *
      have hwr : IntKind.i64.wrap ((M : Int) + (mn : Int)) = ((M + mn : Nat) : Int) := by rw [IntWalk.i64_in _ (by omega)]; push_cast; rfl
      have HST := Lib.hid hst
      clear hc0 hsl hst hm1
      go_wp2
      go_roundw
      case rel => exact ⟨i + 1, by omega, by omega, by go_num, by rw [HST.out]; go_num, hW⟩
      case measure => simp [intOf]; omega
    · have hT2 := Lib.hid (tab_then hW (Nat.le_refl _) HT.out)
      have HW := Lib.hid hW
      by_cases hl1 : i < N
      · have d1 : decide ((i : Int) < (N : Int)) = true := decide_eq_true (by omega)
        have d1' : decide (i < N) = true := decide_eq_true hl1
        have d2 : decide ((i : Int) < 60) = false := decide_eq_false (by omega)
        have d2' : decide (i < 60) = false := decide_eq_false (by omega)
        have e1 : decide ((60 : Int) < (N : Int)) = true := decide_eq_true (by omega)
        have e1' : decide (60 < N) = true := decide_eq_true (by omega)
        generalize sumM (S.take i) = M at *
        clear hW
        go_wp2_with fail
        refine (HF.out _ hT2.out).mono ?_
        rintro e w2 ⟨rfl, hb2⟩
        go_wp2
        go_ret
        exact ⟨rfl, below_next HW.out hb2⟩
      · obtain rfl : i = N := by omega
        have hfl : S.take i = S := by rw [HN.out, List.take_length]
        rw [hfl]
        have d1 : decide ((i : Int) < (i : Int)) = false := decide_eq_false (by omega)
        have d1' : decide (i < i) = false := decide_eq_false (by omega)
        have e1 : decide ((60 : Int) < (i : Int)) = false := decide_eq_false (by omega)
        have e1' : decide (60 < i) = false := decide_eq_false (by omega)
        have HSM := Lib.hid (@sumM_small S)
        generalize sumM S = M at *
        clear hW
        by_cases hout : 3000 < M ∨ k < 0 ∨ 4000 < k
        · obtain ⟨b2, hb2⟩ : ∃ b, decide ((3000 : Int) < (M : Int)) = b := ⟨_, rfl⟩
          obtain ⟨b3, hb3⟩ : ∃ b, decide (k < 0) = b := ⟨_, rfl⟩
          obtain ⟨b4, hb4⟩ : ∃ b, decide (4000 < k) = b := ⟨_, rfl⟩
          have hb2' : decide (3000 < M) = b2 := by rw [← hb2]; exact decide_eq_decide.2 (by omega)
          have hcs : b2 = true ∨ (b2 = false ∧ b3 = true) ∨ (b2 = false ∧ b3 = false ∧ b4 = true) := by
            have hc : (b2 || b3 || b4) = true := by
              rw [← hb2, ← hb3, ← hb4]
              simp only [Bool.or_eq_true, decide_eq_true_eq]
              omega
            revert hc; cases b2 <;> cases b3 <;> cases b4 <;> decide
          clear hout
          rcases hcs with rfl | ⟨rfl, rfl⟩ | ⟨rfl, rfl, rfl⟩
          all_goals
            go_wp2_with fail
            refine (HF.out _ hT2.out).mono ?_
            rintro e w2 ⟨rfl, hb2⟩
            go_wp2
            go_ret
            exact ⟨rfl, below_next HW.out hb2⟩
        · have e2 : decide ((3000 : Int) < (M : Int)) = false := decide_eq_false (by omega)
          have e2' : decide (3000 < M) = false := decide_eq_false (by omega)
          have e3 : decide (k < 0) = false := decide_eq_false (by omega)
          have e4 : decide (4000 < k) = false := decide_eq_false (by omega)
          have hsm := HSM.out (by omega)
          obtain ⟨kk, hk4, rfl⟩ : ∃ K : Nat, K ≤ 4000 ∧ k = (K : Int) := ⟨k.toNat, by omega, by omega⟩
          have HSZ := Lib.hid hsm
          have HEL := Lib.hid (encL_len S hsm)
          have HI6 := Lib.hid (show i ≤ 60 by omega)
          have H4 := Lib.hid hk4
          clear hsm hout hlt hl1 HSM hT2
          obtain ⟨wo, rfl⟩ : ∃ wo : World, wo = wr := ⟨_, rfl⟩
          go_wp2_with fail
          go_loopw [7, 8] (fun s7 s8 wr => ∃ (j : Nat) (v : Value), j ≤ i ∧ s8 = .int .i64 (j : Int) ∧ s7 = v ∧ wr.ownsRow w.heap.size 5 1 v (encL (S.take j)).length (cellsOf (encL (S.take j))) ∧ Below w.heap.size w wr) (fun _ s8 _ => i - (intOf s8).toNat)
          case atStart => exact ⟨0, _, Nat.zero_le _, rfl, rfl, World.ownsRow_nil _ _ _ _, HW.out⟩
          case round =>
            obtain ⟨j, v, hj', rfl, rfl, hown, hW⟩ := hrel
            by_cases hlt : j < i
            · have hjz : j < S.length := by rw [← HN.out]; exact hlt
              obtain ⟨_, bb, off, rfl, hc0⟩ := HS.out j hjz
              have hsz := HSZ.out S[j] (List.getElem_mem _)
              have hcell : wr.cell? ⟨bb, off + j, none⟩ = some (.string S[j]) := cell_then hW (Nat.le_refl _) hc0
              have hct := encL_take S j hjz
              have hl0 : (encL (S.take j)).length ≤ 200000 := by
                have h1 := encL_len (S.take j) (fun s hs => HSZ.out s (List.mem_of_mem_take hs))
                have h2 : (S.take j).length ≤ j := List.length_take_le _ _
                have := HI6.out
                omega
              have HC0 := Lib.hid hc0
              clear hc0
              generalize S[j] = s at *
              have hten := varL_ten (n := s.size) (by omega)
              have hpos : 1 ≤ (varL s.size).length := by
                by_cases hs : s.size < 128
                · rw [varL_small hs]; simp
                · rw [varL_more hs]; simp
              have CV := Lib.hid (fun W => varC s.size W (by omega))
              have hu : IntKind.u64.wrap (s.size : Int) = (s.size : Int) := by rw [IntKind.wrap_u64]; omega
              generalize hVL : varL s.size = VL at *
              have HVL := Lib.hid hVL
              generalize encL (S.take j) = CL at *
              have HCT := Lib.hid hct
              have HOWN := Lib.hid hown
              have HW2 := Lib.hid hW
              clear hct hVL hown hW
              go_wp2_with fail
              refine wp_region_held_drew (S := (fun W => W.cell? ⟨bb, off + j, none⟩ = some (.string s))) (by kernel_rfl) ?_ (fun hHeld => ?_)
              · ((try dsimp only); exact past_drew hcell)
              refine wpAnyH_take (i := 0) (oi := { dst := some 55, op := Op.move (Operand.tmp 7), type := 22, pos := _, after := #[], guard := none }) (v := ?_) rfl (by kernel_rfl) (by kernel_rfl) (by kernel_rfl) (fun _ _ _ h => h) (Or.inl ⟨by rfl, ?_⟩) (by assumption) ?_
              rotate_left
              · ((intro w hSw); (try dsimp only at hSw); go_simp; (try with_reducible rfl))
              try simp only [Act.put, List.setIfInBounds_toArray, List.set_cons_zero, List.set_cons_succ]
              refine wpAnyH_take (i := 1) (oi := { dst := some 56, op := Op.move (Operand.tmp 0), type := 31, pos := _, after := #[], guard := none }) (v := ?_) rfl (by kernel_rfl) (by kernel_rfl) (by kernel_rfl) (fun _ _ _ h => h) (Or.inl ⟨by rfl, ?_⟩) (by assumption) ?_
              rotate_left
              · ((intro w hSw); (try dsimp only at hSw); go_simp; (try with_reducible rfl))
              try simp only [Act.put, List.setIfInBounds_toArray, List.set_cons_zero, List.set_cons_succ]
              refine wpAnyH_take (i := 2) (oi := { dst := some 57, op := Op.move (Operand.tmp 8), type := 3, pos := _, after := #[], guard := none }) (v := ?_) rfl (by kernel_rfl) (by kernel_rfl) (by kernel_rfl) (fun _ _ _ h => h) (Or.inl ⟨by rfl, ?_⟩) (by assumption) ?_
              rotate_left
              · ((intro w hSw); (try dsimp only at hSw); go_simp; (try with_reducible rfl))
              try simp only [Act.put, List.setIfInBounds_toArray, List.set_cons_zero, List.set_cons_succ]
              refine wpAnyH_take (i := 3) (oi := { dst := some 58, op := Op.indexAddr 31 (Operand.tmp 56) (Operand.tmp 57), type := 0, pos := _, after := #[{ on := 1, ground := Ground.data }, { on := 2, ground := Ground.data }], guard := none }) (v := ?_) rfl (by kernel_rfl) (by kernel_rfl) (by kernel_rfl) (fun _ _ _ h => h) (Or.inl ⟨by rfl, ?_⟩) (by assumption) ?_
              rotate_left
              · ((intro w hSw); (try dsimp only at hSw); go_simp; (try with_reducible rfl))
              try simp only [Act.put, List.setIfInBounds_toArray, List.set_cons_zero, List.set_cons_succ]
              refine wpAnyH_take (i := 4) (oi := { dst := some 59, op := Op.load 9 (Operand.tmp 58), type := 9, pos := _, after := #[{ on := 3, ground := Ground.data }], guard := none }) (v := ?_) rfl (by kernel_rfl) (by kernel_rfl) (by kernel_rfl) (fun _ _ _ h => h) (Or.inl ⟨by rfl, ?_⟩) (by assumption) ?_
              rotate_left
              · ((intro w hSw); (try dsimp only at hSw); go_simp; (try with_reducible rfl))
              try simp only [Act.put, List.setIfInBounds_toArray, List.set_cons_zero, List.set_cons_succ]
              refine wpAnyH_take (i := 5) (oi := { dst := some 60, op := Op.call { callee := Callee.builtin Builtin.len, args := #[Operand.tmp 59], argTypes := #[9] }, type := 3, pos := _, after := #[{ on := 4, ground := Ground.data }], guard := none }) (v := ?_) rfl (by kernel_rfl) (by kernel_rfl) (by kernel_rfl) (fun _ _ _ h => h) (Or.inl ⟨by rfl, ?_⟩) (by assumption) ?_
              rotate_left
              · ((intro w hSw); (try dsimp only at hSw); go_simp; (try with_reducible rfl))
              try simp only [Act.put, List.setIfInBounds_toArray, List.set_cons_zero, List.set_cons_succ]
              refine wpAnyH_take (i := 6) (oi := { dst := some 61, op := Op.convert 3 23 (Operand.tmp 60), type := 23, pos := _, after := #[{ on := 5, ground := Ground.data }], guard := none }) (v := ?_) rfl (by kernel_rfl) (by kernel_rfl) (by kernel_rfl) (fun _ _ _ h => h) (Or.inl ⟨by rfl, ?_⟩) (by assumption) ?_
              rotate_left
              · ((intro w hSw); (try dsimp only at hSw); go_simp; (try with_reducible rfl))
              try simp only [Act.put, List.setIfInBounds_toArray, List.set_cons_zero, List.set_cons_succ]
              refine wpAnyH_take (i := 9) (oi := { dst := some 64, op := Op.move (Operand.tmp 0), type := 31, pos := _, after := #[], guard := none }) (v := ?_) rfl (by kernel_rfl) (by kernel_rfl) (by kernel_rfl) (fun _ _ _ h => h) (Or.inl ⟨by rfl, ?_⟩) (by assumption) ?_
              rotate_left
              · ((intro w hSw); (try dsimp only at hSw); go_simp; (try with_reducible rfl))
              try simp only [Act.put, List.setIfInBounds_toArray, List.set_cons_zero, List.set_cons_succ]
              refine wpAnyH_take (i := 10) (oi := { dst := some 65, op := Op.move (Operand.tmp 8), type := 3, pos := _, after := #[], guard := none }) (v := ?_) rfl (by kernel_rfl) (by kernel_rfl) (by kernel_rfl) (fun _ _ _ h => h) (Or.inl ⟨by rfl, ?_⟩) (by assumption) ?_
              rotate_left
              · ((intro w hSw); (try dsimp only at hSw); go_simp; (try with_reducible rfl))
              try simp only [Act.put, List.setIfInBounds_toArray, List.set_cons_zero, List.set_cons_succ]
              refine wpAnyH_take (i := 11) (oi := { dst := some 66, op := Op.indexAddr 31 (Operand.tmp 64) (Operand.tmp 65), type := 0, pos := _, after := #[{ on := 9, ground := Ground.data }, { on := 10, ground := Ground.data }], guard := none }) (v := ?_) rfl (by kernel_rfl) (by kernel_rfl) (by kernel_rfl) (fun _ _ _ h => h) (Or.inl ⟨by rfl, ?_⟩) (by assumption) ?_
              rotate_left
              · ((intro w hSw); (try dsimp only at hSw); go_simp; (try with_reducible rfl))
              try simp only [Act.put, List.setIfInBounds_toArray, List.set_cons_zero, List.set_cons_succ]
              refine wpAnyH_take (i := 12) (oi := { dst := some 67, op := Op.load 9 (Operand.tmp 66), type := 9, pos := _, after := #[{ on := 11, ground := Ground.data }], guard := none }) (v := ?_) rfl (by kernel_rfl) (by kernel_rfl) (by kernel_rfl) (fun _ _ _ h => h) (Or.inl ⟨by rfl, ?_⟩) (by assumption) ?_
              rotate_left
              · ((intro w hSw); (try dsimp only at hSw); go_simp; (try with_reducible rfl))
              try simp only [Act.put, List.setIfInBounds_toArray, List.set_cons_zero, List.set_cons_succ]
              refine wpAnyH_ready (rs := [7]) (by kernel_rfl) (by simp) ?_
              refine (AllReadyH.cons (o := { dst := some 62, op := Op.call { callee := Callee.value (Operand.func 9), args := #[Operand.tmp 61], argTypes := #[23] }, type := 22, pos := _, after := #[{ on := 6, ground := Ground.data }], guard := none }) rfl (fun K hK => ?_) AllReadyH.nil)
              go_simp
              (refine (CV.out _).mono ?_; rintro e w2 ⟨v7, rfl, hown7, hb2⟩; rw [HVL.out] at hown7; obtain ⟨a7, cap7, rfl, hcap7, hs7, _⟩ := row_sl hown7; obtain ⟨g, go_, rfl, hc7⟩ := sl_some hs7 hpos; have hW2 : Below w.heap.size w w2 := below_next (show Below w.heap.size w wr.drew from HW2.out.drew) hb2; have hownB := own_then (w := wr.drew) HOWN.out hb2; have hz2' := hW2.size; have hcs := cellsOf_at hc7; have hlenc : (cellsOf VL).length = VL.length * 1 := (by simp [cellsOf]); have k2 := cell_then hW2 (Nat.le_refl _) HC0.out; clear hs7 hown7 hc7)
              go_wp2_with fail
              refine hK.out _ _ ?_ (fun hHeld => ?_)
              · ((try dsimp only); exact k2)
              clear hK K
              try simp only [Act.put, List.setIfInBounds_toArray, List.set_cons_zero, List.set_cons_succ]
              refine wpAnyH_ready (rs := [8]) (by kernel_rfl) (by simp) ?_
              refine (AllReadyH.cons (o := { dst := some 63, op := Op.call { callee := Callee.builtin Builtin.append, args := #[Operand.tmp 55, Operand.tmp 62], argTypes := #[22, 22] }, type := 22, pos := _, after := #[{ on := 0, ground := Ground.data }, { on := 7, ground := Ground.data }, { on := 7, ground := Ground.chain }], guard := none }) rfl (fun K hK => ?_) AllReadyH.nil)
              refine wp_append_own _ _ _ 22 rfl w.heap.size 5 j0 (.int .u8 0) 1 1 Tryd.underlying22 hj hy0 hy1 hy2 rfl (by decide) _ _ _ rfl hownB ⟨g, go_, none⟩ VL.length cap7 (cellsOf VL) rfl hlenc hcs cellsOf_one (by unfold maxLen; omega) (by omega) (by omega) ?_
              intro v3 w3 hown3 hgrow3 hnil3
              have hW3 := hW2.grown hgrow3 hW2.size (fun j hj => (hownB.lt j hj).1)
              have hz3 := hW3.size
              have k3 := cell_then hW3 (Nat.le_refl _) HC0.out
              clear hgrow3 hnil3 hcs hlenc k2
              refine hK.out _ _ ?_ (fun hHeld => ?_)
              · ((try dsimp only); exact k3)
              clear hK K
              try simp only [Act.put, List.setIfInBounds_toArray, List.set_cons_zero, List.set_cons_succ]
              refine wpAnyH_ready (rs := [13]) (by kernel_rfl) (by simp) ?_
              refine (AllReadyH.cons (o := { dst := some 68, op := Op.call { callee := Callee.builtin Builtin.append, args := #[Operand.tmp 63, Operand.tmp 67], argTypes := #[22, 9] }, type := 22, pos := _, after := #[{ on := 8, ground := Ground.data }, { on := 12, ground := Ground.data }, { on := 8, ground := Ground.chain }], guard := none }) rfl (fun K hK => ?_) AllReadyH.nil)
              refine wp_append_str _ _ 22 9 rfl w.heap.size 5 j0 Tryd.underlying22 Tryd.underlying9 hj hy0 hy1 hy2 _ _ _ rfl hown3 s rfl (by unfold maxLen; omega) (by omega) (by omega) ?_
              intro v4 w4 hown4 hgrow4
              have hW4 := hW3.grown hgrow4 hW3.size (fun j hj => (hown3.lt j hj).1)
              have k4 := cell_then hW4 (Nat.le_refl _) HC0.out
              have hown5 : w4.ownsRow w.heap.size 5 1 v4 (CL ++ VL ++ byL s).length (cellsOf (CL ++ VL ++ byL s)) := by rw [← cellsOf_app, ← cellsOf_app, List.length_append, List.length_append, byL_len, ← strCells_eq]; exact hown4
              have H5 := Lib.hid hown5
              have HW4 := Lib.hid hW4
              clear hgrow4 hown4 hown5 hW4 hown3 hW3 k3
              refine hK.out _ _ ?_ (fun hHeld => ?_)
              · ((try dsimp only); exact k4)
              clear hK K
              try simp only [Act.put, List.setIfInBounds_toArray, List.set_cons_zero, List.set_cons_succ]
              refine wpAnyH_take (i := 14) (oi := { dst := some 7, op := Op.assign (Operand.tmp 68), type := 22, pos := _, after := #[{ on := 13, ground := Ground.data }, { on := 13, ground := Ground.chain }, { on := 0, ground := Ground.phase }, { on := 1, ground := Ground.phase }, { on := 2, ground := Ground.phase }, { on := 3, ground := Ground.phase }, { on := 4, ground := Ground.phase }, { on := 5, ground := Ground.phase }, { on := 6, ground := Ground.phase }, { on := 7, ground := Ground.phase }, { on := 8, ground := Ground.phase }, { on := 9, ground := Ground.phase }, { on := 10, ground := Ground.phase }, { on := 11, ground := Ground.phase }, { on := 12, ground := Ground.phase }, { on := 13, ground := Ground.phase }], guard := none }) (v := ?_) rfl (by kernel_rfl) (by kernel_rfl) (by kernel_rfl) (fun _ _ _ h => h) (Or.inl ⟨by rfl, ?_⟩) (by assumption) ?_
              rotate_left
              · ((intro w hSw); (try dsimp only at hSw); go_simp; (try with_reducible rfl))
              try simp only [Act.put, List.setIfInBounds_toArray, List.set_cons_zero, List.set_cons_succ]
              refine wpAnyH_done (by kernel_rfl) ?_ _
              go_wp2
              go_roundw
              case rel => exact ⟨j + 1, v4, by omega, by go_num, rfl, by rw [HCT.out]; exact H5.out, HW4.out⟩
              case measure => simp [intOf]; omega
            · obtain rfl : j = i := by omega
              have hfl2 : encL (S.take j) = encL S := by rw [hfl]
              rw [hfl2] at hown
              obtain ⟨a5, cap5, rfl, hcap5, hs5, _⟩ := row_sl hown
              have h05 : a5 = none → cap5 = 0 := by
                intro hn
                rcases hown.2 with ⟨h, _⟩ | ⟨g, c, cur, h, _⟩
                · injection h
                · injection h with h1; rw [hn] at h1; cases h1
              have hEL : (encL S).length ≤ 1000000 := by
                have h1 := HEL.out
                have h2 := HI6.out
                have h3 := HN.out
                omega
              have HNEW := Lib.hid (newC a5 cap5 (encL S) wr hEL (encL_byte S) hs5 h05)
              have HEL2 := Lib.hid hEL
              have HW2 := Lib.hid hW
              have HAT := Lib.hid (fun j (h : j < S.length) => enc_fit S j h)
              have HTF := Lib.hid (fun r j h h1 h2 h3 => @text_fit r S j h h1 kk h2 h3)
              have HTL := Lib.hid (fun r j h h1 h2 h3 => @text_long r S j h h1 kk h2 h3)
              have HFU := Lib.hid hfl2
              generalize encL S = CL at *
              clear hown hs5 h05 hEL hW hfl2 hfl hlt d1 d1' e1 e1' e2 e2' e3 e4
              obtain ⟨wp, rfl⟩ : ∃ wp : World, wp = wr := ⟨_, rfl⟩
              go_wp2_with fail
              refine HNEW.out.mono ?_
              rintro e w5 ⟨p, r, hpge, rfl, hRc, hat, herr, hBy, hb5⟩
              have hz5 := HW2.out.size
              have hpw : w.heap.size ≤ p := by omega
              have HSt := Lib.hid (show ∃ (m : Nat) (r : Rdr), m ≤ j ∧ Value.int .i64 0 = .int .i64 (m : Int) ∧ Rc w5 p r ∧ By w5 r CL ∧ r.err = 0 ∧ r.at_ = (encL (S.take m)).length ∧ Below w.heap.size w w5 from ⟨0, r, Nat.zero_le _, rfl, hRc, hBy, herr, by rw [hat]; rfl, below_next HW2.out hb5⟩)
              clear hRc hat herr hBy hb5 hz5 hpge HNEW HW2 HW
              go_wp2_with fail
              go_loopw [10, 11, 12] (fun s10 s11 s12 wr => ∃ (m : Nat) (r : Rdr), m ≤ j ∧ s10 = .int .i64 (m : Int) ∧ Rc wr p r ∧ By wr r CL ∧ r.err = 0 ∧ r.at_ = (encL (S.take m)).length ∧ Below w.heap.size w wr) (fun s10 _ _ _ => j - (intOf s10).toNat)
              case atStart => exact HSt.out
              case round =>
                clear HSt
                obtain ⟨m, r, hm', rfl, hRc, hBy, herr, hat, hW⟩ := hrel
                by_cases hlt : m < j
                · have hmz : m < S.length := by rw [← HN.out]; exact hlt
                  obtain ⟨_, bb, off, rfl, hc0⟩ := HS.out m hmz
                  have hsz := HSZ.out S[m] (List.getElem_mem _)
                  have hcell : wr.cell? ⟨bb, off + m, none⟩ = some (.string S[m]) := cell_then hW (Nat.le_refl _) hc0
                  have hbne : bb ≠ p := by have := World.block_lt_of_cell? w _ hc0; simp only at this; omega
                  have hle : r.at_ ≤ CL.length := by rw [hat]; have := HAT.out m hmz; omega
                  have hle2 : r.at_ ≤ r.len := by rw [hBy.len]; exact hle
                  have hln : r.len ≤ 9223372036854775807 := by rw [hBy.len]; have := HEL2.out; omega
                  have hk63 : (kk : Int) < 9223372036854775808 := by have := H4.out; omega
                  have HLF := Lib.hid (fun W (h : Rc W p r) => leftC h hle2 hln)
                  have HTX := Lib.hid (fun W (h : Rc W p r) (h2 : By W r CL) => textC (kk : Int) CL h h2 hle HEL2.out hk63)
                  have d1 : decide ((m : Int) < (j : Int)) = true := decide_eq_true (by omega)
                  have d1' : decide (m < j) = true := decide_eq_true hlt
                  by_cases hk : S[m].size ≤ kk
                  · have htn := HTF.out r m hmz hsz hk herr hat
                    rw [htn] at HTX
                    have d2 : decide ((kk : Int) < (S[m].size : Int)) = false := decide_eq_false (by omega)
                    have d2' : decide (kk < S[m].size) = false := decide_eq_false (by omega)
                    have u1 : (S[m].toList == S[m].toList) = true := by simp
                    generalize S[m] = s at *
                    have HRC := Lib.hid hRc
                    have HBY := Lib.hid hBy
                    have HER := Lib.hid herr
                    have HCE := Lib.hid hcell
                    have HW2 := Lib.hid hW
                    clear hc0 hRc hBy herr hat hW hle hle2 hln hk63 htn hk hsz hcell
                    generalize hlv : (r.len : Int) - (r.at_ : Int) = LV at *
                    unfold LeftQ at HLF
                    rw [hlv] at HLF
                    go_wp2_with fail
                    refine (HLF.out _ (by exact HRC.out)).mono ?_
                    rintro e w6 ⟨rfl, n, rfl⟩
                    go_wp2_with fail
                    refine (HTX.out _ (by exact HRC.out) (by exact ⟨HBY.out.len, HBY.out.sl, HBY.out.cap, HBY.out.small, HBY.out.byte⟩)).mono ?_
                    rintro e w7 ⟨rfl, hRc7, hg7⟩
                    have hcell7 : w7.cell? ⟨bb, off + m, none⟩ = some (.string s) := cell_grown (w := wr) ⟨hg7.os, hg7.tape, hg7.output, hg7.size, hg7.block⟩ hbne HCE.out
                    have hBy7 : By w7 r CL := RdF.By.grown HRC.out HBY.out (show wr.grownBy w7 (some p) from ⟨hg7.os, hg7.tape, hg7.output, hg7.size, hg7.block⟩)
                    have HW7 := Lib.hid (HW2.out.grown (show wr.grownBy w7 (some p) from ⟨hg7.os, hg7.tape, hg7.output, hg7.size, hg7.block⟩) HW2.out.size (fun k hk => by cases hk; exact hpw))
                    have HR7 := Lib.hid hRc7
                    have HB7 := Lib.hid hBy7
                    clear hRc7 hBy7 hg7
                    go_wp2_with fail
                    go_roundw
                    case rel => exact ⟨m + 1, _, by omega, by go_num, HR7.out, by_to HB7.out rfl rfl rfl, HER.out, rfl, HW7.out⟩
                    case measure => simp [intOf]; omega
                  · have htn := HTL.out r m hmz hsz (by omega) herr hat
                    rw [htn] at HTX
                    have d2 : decide ((kk : Int) < (S[m].size : Int)) = true := decide_eq_true (by omega)
                    have d2' : decide (kk < S[m].size) = true := decide_eq_true (by omega)
                    have u1 : ((⟨#[]⟩ : ByteArray).toList == (⟨#[]⟩ : ByteArray).toList) = true := by simp
                    generalize S[m] = s at *
                    obtain ⟨q, hq⟩ : ∃ q : Rdr, q = { r with err := 1 } := ⟨_, rfl⟩
                    have hq1 : q.err = 1 := by rw [hq]
                    have hle3 : q.at_ ≤ CL.length := by rw [hq]; exact hle
                    have hle4 : q.at_ ≤ q.len := by rw [hq]; exact hle2
                    have hln4 : q.len ≤ 9223372036854775807 := by rw [hq]; exact hln
                    have HLF2 := Lib.hid (fun W (h : Rc W p q) => leftC h hle4 hln4)
                    have HER2 := Lib.hid (fun W (h : Rc W p q) => errC h)
                    have HEN2 := Lib.hid (fun W (h : Rc W p q) => endC h hle4 hln4)
                    have HRW2 := Lib.hid (fun W (h : Rc W p q) (h2 : By W q CL) => rawC 1 CL h h2 hle3 HEL2.out)
                    have HNU2 := Lib.hid (fun W (h : Rc W p q) (h2 : By W q CL) => numC 5 CL h h2)
                    rw [show rawN CL q 1 = ([], q) by unfold rawN; rw [if_pos (by rw [hq1]; decide)]] at HRW2
                    rw [show numN CL q 5 = (0, q) by unfold numN; rw [if_pos (by rw [hq1]; decide)]] at HNU2
                    unfold EndQ at HEN2
                    rw [show endN q = 1 by unfold endN; rw [if_neg (by rw [hq1]; intro h; exact absurd h.1 (by decide)), hq1]] at HEN2
                    rw [hq1] at HER2
                    rw [← hq] at HTX
                    have hto : ∀ W, By W r CL → By W q CL := fun W h => by_to h (by rw [hq]) (by rw [hq]) (by rw [hq])
                    have HTO := Lib.hid hto
                    have hlv2 : (q.len : Int) - (q.at_ : Int) = (r.len : Int) - (r.at_ : Int) := by rw [hq]
                    have HRC := Lib.hid hRc
                    have HBY := Lib.hid hBy
                    have HCE := Lib.hid hcell
                    have HW2 := Lib.hid hW
                    have HT2 := Lib.hid (tab_then hW (Nat.le_refl _) HT.out)
                    unfold LeftQ at HLF HLF2
                    rw [hlv2] at HLF2
                    clear hc0 hRc hBy herr hat hW hle hle2 hln hk63 htn hk hsz hcell hq hq1 hle3 hle4 hln4 hlv2 hto
                    generalize hlv : (r.len : Int) - (r.at_ : Int) = LV at *
                    go_wp2_with fail
                    refine (HLF.out _ (by exact HRC.out)).mono ?_
                    rintro e w6 ⟨rfl, n, rfl⟩
                    go_wp2_with fail
                    refine (HTX.out _ (by exact HRC.out) (by exact ⟨HBY.out.len, HBY.out.sl, HBY.out.cap, HBY.out.small, HBY.out.byte⟩)).mono ?_
                    rintro e w7 ⟨rfl, hRc7, hg7⟩
                    have hg7' : wr.grownBy w7 (some p) := ⟨hg7.os, hg7.tape, hg7.output, hg7.size, hg7.block⟩
                    have hcell7 : w7.cell? ⟨bb, off + m, none⟩ = some (.string s) := cell_grown hg7' hbne HCE.out
                    have hBy7 : By w7 q CL := HTO.out _ (RdF.By.grown HRC.out HBY.out hg7')
                    have hW7 := HW2.out.grown hg7' HW2.out.size (fun k hk => by cases hk; exact hpw)
                    have HW7 := Lib.hid hW7
                    have HT7 := Lib.hid (tab_then hW7 (Nat.le_refl _) HT.out)
                    have HR7 := Lib.hid hRc7
                    have HB7 := Lib.hid hBy7
                    clear hRc7 hBy7 hg7 hg7' hW7
                    go_wp2_with fail
                    refine (HF.out _ (by exact HT7.out)).mono ?_
                    rintro e w8 ⟨rfl, hb8⟩
                    have HR8 := Lib.hid (HR7.out.then_ hb8)
                    have HB8 := Lib.hid (HB7.out.then_ hb8)
                    have HW8 := Lib.hid (below_next HW7.out hb8)
                    clear hb8
                    go_wp2_with fail
                    refine (HER2.out _ (by exact HR8.out)).mono ?_
                    rintro e w9 ⟨rfl, rfl⟩
                    go_wp2_with fail
                    refine (HLF2.out _ (by exact HR8.out)).mono ?_
                    rintro e w9 ⟨rfl, n9, rfl⟩
                    go_wp2_with fail
                    refine (HRW2.out _ (by exact HR8.out) (by exact ⟨HB8.out.len, HB8.out.sl, HB8.out.cap, HB8.out.small, HB8.out.byte⟩)).mono ?_
                    rintro e w10 ⟨a10, cap10, rfl, _, _, _, hRc10, hg10⟩
                    have hg10' : w8.grownBy w10 (some p) := ⟨hg10.os, hg10.tape, hg10.output, hg10.size, hg10.block⟩
                    have hBy10 : By w10 q CL := RdF.By.grown HR8.out HB8.out hg10'
                    have hW10 := HW8.out.grown hg10' HW8.out.size (fun k hk => by cases hk; exact hpw)
                    have HW10 := Lib.hid hW10
                    have HR10 := Lib.hid hRc10
                    have HB10 := Lib.hid hBy10
                    clear hRc10 hBy10 hg10 hg10' hW10
                    go_wp2_with fail
                    refine (HNU2.out _ (by exact HR10.out) (by exact ⟨HB10.out.len, HB10.out.sl, HB10.out.cap, HB10.out.small, HB10.out.byte⟩)).mono ?_
                    rintro e w11 ⟨rfl, hRc11, hg11⟩
                    have hg11' : w10.grownBy w11 (some p) := ⟨hg11.os, hg11.tape, hg11.output, hg11.size, hg11.block⟩
                    have HW11 := Lib.hid (HW10.out.grown hg11' HW10.out.size (fun k hk => by cases hk; exact hpw))
                    have HR11 := Lib.hid hRc11
                    clear hRc11 hg11 hg11'
                    go_wp2_with fail
                    refine (HEN2.out _ (by exact HR11.out)).mono ?_
                    rintro e w12 ⟨rfl, hb12⟩
                    have HW12 := Lib.hid (below_next HW11.out hb12)
                    clear hb12
                    go_wp2
                    go_ret
                    exact ⟨rfl, HW12.out⟩
                · obtain rfl : m = j := by omega
                  rw [HFU.out] at hat
                  have hlen := hBy.len
                  have hle : r.at_ ≤ r.len := by omega
                  have hln : r.len ≤ 9223372036854775807 := by rw [hlen]; have := HEL2.out; omega
                  have HLF := Lib.hid (fun W (h : Rc W p r) => leftC h hle hln)
                  have HEN := Lib.hid (fun W (h : Rc W p r) => endC h hle hln)
                  unfold LeftQ at HLF
                  unfold EndQ at HEN
                  rw [show (r.len : Int) - (r.at_ : Int) = 0 by rw [hat, hlen]; omega] at HLF
                  rw [show endN r = 0 by unfold endN; rw [if_neg (by rw [hat, hlen]; omega)]; exact herr] at HEN
                  have d1 : decide ((m : Int) < (m : Int)) = false := decide_eq_false (by omega)
                  have d1' : decide (m < m) = false := decide_eq_false (by omega)
                  have HRC := Lib.hid hRc
                  have HW2 := Lib.hid hW
                  have HT2 := Lib.hid (tab_then hW (Nat.le_refl _) HT.out)
                  clear hRc hBy herr hat hW hlen hle hln hlt
                  go_wp2_with fail
                  refine (HF.out _ (by exact HT2.out)).mono ?_
                  rintro e w8 ⟨rfl, hb8⟩
                  have HR8 := Lib.hid (HRC.out.then_ hb8)
                  have HW8 := Lib.hid (below_next HW2.out hb8)
                  clear hb8
                  go_wp2_with fail
                  refine (HEN.out _ (by exact HR8.out)).mono ?_
                  rintro e w9 ⟨rfl, hb9⟩
                  have HR9 := Lib.hid (HR8.out.then_ hb9)
                  have HW9 := Lib.hid (below_next HW8.out hb9)
                  clear hb9
                  go_wp2_with fail
                  refine (HLF.out _ (by exact HR9.out)).mono ?_
                  rintro e w10 ⟨rfl, n10, rfl⟩
                  go_wp2
                  go_ret
                  have h9 := HW9.out
                  exact ⟨rfl, ⟨h9.os, h9.tape, h9.output, h9.size, h9.block⟩⟩
/-- a slice of strings, opened. -/
def IsStrings (w : World) (a : Option Addr) (len : Nat) (S : List ByteArray) : Prop := S.length = len ∧ IsStrs w a S ∧ len ≤ 9223372036854775807
theorem strs_nil : IsStrings w none 0 [] := ⟨rfl, fun i h => absurd h (by simp), by decide⟩
theorem strs_is {a : Addr} {len cap : Nat} {ss : List ByteArray} (hl : len ≤ cap) (hm : cap ≤ maxLen) (hz : ss.length = cap) (hc : ∀ i, i < ss.length → w.cell? (a.add i) = some (.string (ss.getD i ByteArray.empty))) (hs : ∀ s ∈ ss, s.size ≤ maxLen) : IsStrings w (some a) len (ss.take len) := by
  refine ⟨by rw [List.length_take]; omega, fun i hi0 => ?_, by unfold maxLen at hm; omega⟩
  have hi : i < ss.length := by rw [List.length_take] at hi0; omega
  rw [List.getElem_take]
  obtain ⟨b, o, sp⟩ := a
  have hspot : sp = none := by simpa [Addr.add] using World.cell?_spot (hc 0 (by omega))
  subst hspot
  have g := hc i hi
  have hadd : (⟨b, o, none⟩ : Addr).add i = ⟨b, o + i, none⟩ := by unfold Addr.add; split <;> simp_all
  rw [hadd, List.getD_eq_getElem?_getD, List.getElem?_eq_getElem hi] at g
  simp only [Option.getD_some] at g
  exact ⟨hs _ (List.getElem_mem _), b, o, rfl, g⟩
theorem walk (a : Option Addr) (len cap : Nat) (S : List ByteArray) (k : Int) (W : World) (w0 : IsStrings W a len S) (w1 : (Lit.int .i64 k).wf = true)
    (hL : Lib.TabIs Tryd.prog W "tickertape/wire.crcSteps" .u32 [0, 498536548, 997073096, 651767980, 1994146192, 1802195444, 1303535960, 1342533948, 3988292384, 4027552580, 3604390888, 3412177804, 2607071920, 2262029012, 2685067896, 3183342108]) :
    Calls Tryd.prog 4 #[.slice a len cap, .int .i64 k] W fun e w' => e = .returned (.bool true) ∧ Below W.heap.size W w' := by
  have hT := ArgB.tab hL (by kernel_rfl)
  obtain ⟨rfl, hS, hm⟩ := w0
  exact main a S cap k W hT hS hm
end Go.Proofs.YtlhapnnepcnfbabDoor.TxW
