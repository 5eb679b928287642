/- tiklaw3.UtfSigns: the walk. -/
import Derived.Test.YtlhapnnepcnfbabUEnc
import Derived.Test.YtlhapnnepcnfbabUSgn
import Derived.Deep.CutRange
set_option linter.unusedVariables false
namespace Go.Proofs.Ytlhapnnepcnfbab.UtfSignsW
open Go Go.RowKit Words UMath UDec

def OutP (w : World) (e : Ending) (w' : World) : Prop := e = .returned (.bool true) ∧ Below w.heap.size w w'
theorem strL_size (l : List Int) : (UBytes.strL l).size = l.length := by
  have := congrArg List.length (UBytes.strL_list l)
  rw [ByteArray.toList_eq] at this
  simpa using this
def thr : Nat → Int
  | 0 => 128
  | 1 => 2048
  | _ => 65536
/-- as many as are not above. -/
def cnt (a : Int) : Nat → Int
  | 0 => 1
  | k + 1 => cnt a k + (if thr k ≤ a then 1 else 0)
theorem cnt_le (a : Int) (k : Nat) : 1 ≤ cnt a k ∧ cnt a k ≤ k + 1 := by
  induction k with
  | zero => simp [cnt]
  | succ k ih => rw [cnt]; split <;> omega
theorem cnt_size (a : Int) (h : 0 ≤ a) (h2 : signB a = true) : cnt a 3 = sizeZ a := by
  have hf : fixZ a = a := by unfold fixZ; rw [h2]; rfl
  unfold sizeZ
  rw [hf]
  simp only [cnt, thr]
  repeat' split
  all_goals omega
theorem enc_one (r : Int) : encL [r] = encZ r := by simp [encL]
set_option maxRecDepth 100000 in
set_option maxHeartbeats 2000000 in
theorem out (a b : Int) (w : World) (h : a < 0 ∨ 1114111 < a ∨ (55296 ≤ a ∧ a ≤ 57343) ∨ b < 0 ∨ 1114111 < b ∨ (55296 ≤ b ∧ b ≤ 57343)) : Calls Try.prog 7 #[.int .i32 a, .int .i32 b] w (OutP w) := by
  have S1 := Lib.hid (show sizeZ 55296 = 3 by decide)
  have S2 := Lib.hid (show sizeZ (-1) = 3 by decide)
  rcases h with h | h | ⟨h, h2⟩ | h | h | ⟨h, h2⟩
  all_goals
    go_enter Try.func7, Try.ntmps7
    go_wp2_with fail
    refine (first _).mono ?_
    rintro e w1 ⟨rfl, hb1⟩
    go_wp2_with fail
  all_goals
    refine (first _).mono ?_
    rintro e w2 ⟨rfl, hb2⟩
    go_wp2_with fail
    refine (sizeC 55296 _).mono ?_
    rw [S1.out]
    rintro e w3 ⟨rfl, rfl⟩
    go_wp2_with fail
    refine (sizeC (-1) _).mono ?_
    rw [S2.out]
    rintro e w3 ⟨rfl, rfl⟩
    go_wp2
    go_ret
    exact ⟨rfl, below_next hb1 hb2⟩
set_option maxRecDepth 100000 in
set_option maxHeartbeats 8000000 in
theorem main (a b : Int) (w : World) (a0 : 0 ≤ a) (a1 : a ≤ 1114111) (a2 : a < 55296 ∨ 57343 < a) (b0 : 0 ≤ b) (b1 : b ≤ 1114111) (b2 : b < 55296 ∨ 57343 < b) : Calls Try.prog 7 #[.int .i32 a, .int .i32 b] w (OutP w) := by
  have t1 : decide (55296 ≤ a) = false ∨ decide (55296 ≤ a) = true ∧ decide (a ≤ 57343) = false := by simp; omega
  have t2 : decide (55296 ≤ b) = false ∨ decide (55296 ≤ b) = true ∧ decide (b ≤ 57343) = false := by simp; omega
  have sa : signB a = true := by simp [signB]; omega
  have sb : signB b = true := by simp [signB]; omega
  rcases t1 with t1 | ⟨t1, t1'⟩ <;> rcases t2 with t2 | ⟨t2, t2'⟩
  all_goals
    go_enter Try.func7, Try.ntmps7
    go_wp2_with fail
    refine (first _).mono ?_
    rintro e w1 ⟨rfl, hb1⟩
    have hq : Below w1.heap.size w1 w1.drew := (Below.refl _ _).drew
    go_upto_region 5 with fail
    go_cut [5, 6] from 50 to 57 (fun s5 s6 wx => s5 = .string (UBytes.strL (encZ a)) ∧ s6 = .string (UBytes.strL (encZ b)) ∧ Below w.heap.size w wx)
    case first =>
      refine wp_region_held_drew (S := (fun W => Below w.heap.size w W)) (by kernel_rfl) ?_ (fun hHeld => ?_)
      · ((try dsimp only); exact below_next hb1 hq)
      refine wpAnyH_take (i := 0) (oi := { dst := some 50, op := Op.move (Operand.tmp 0), type := 21, pos := _, after := #[], guard := none }) (v := ?_) rfl (by kernel_rfl) (by kernel_rfl) (by kernel_rfl) (fun _ _ _ h => h) (Or.inl ⟨by rfl, ?_⟩) (by assumption) ?_
      rotate_left
      · ((intro w hSw); (try dsimp only at hSw); go_simp; (try with_reducible rfl))
      try simp only [Act.put, List.setIfInBounds_toArray, List.set_cons_zero, List.set_cons_succ]
      refine wpAnyH_take (i := 4) (oi := { dst := some 54, op := Op.move (Operand.tmp 1), type := 21, pos := _, after := #[], guard := none }) (v := ?_) rfl (by kernel_rfl) (by kernel_rfl) (by kernel_rfl) (fun _ _ _ h => h) (Or.inl ⟨by rfl, ?_⟩) (by assumption) ?_
      rotate_left
      · ((intro w hSw); (try dsimp only at hSw); go_simp; (try with_reducible rfl))
      try simp only [Act.put, List.setIfInBounds_toArray, List.set_cons_zero, List.set_cons_succ]
      refine wpAnyH_ready (rs := [1, 5]) (by kernel_rfl) (by simp) ?_
      refine (AllReadyH.cons (o := { dst := some 51, op := Op.buildSlice 31 1 #[(0, Operand.tmp 50)], type := 31, pos := _, after := #[{ on := 0, ground := Ground.data }], guard := none }) rfl (fun K hK => ?_) (AllReadyH.cons (o := { dst := some 55, op := Op.buildSlice 31 1 #[(0, Operand.tmp 54)], type := 31, pos := _, after := #[{ on := 4, ground := Ground.data }], guard := none }) rfl (fun K hK => ?_) AllReadyH.nil))
      · skip
        go_simp
        have hq1 := hq.alloc hq.size (.cells #[.int .i32 a] 21)
        refine hK.out _ _ ?_ (fun hHeld => ?_)
        · ((try dsimp only); exact below_next hb1 hq1)
        clear hK K
        try simp only [Act.put, List.setIfInBounds_toArray, List.set_cons_zero, List.set_cons_succ]
        refine wpAnyH_ready (rs := [2, 5]) (by kernel_rfl) (by simp) ?_
        refine (AllReadyH.cons (o := { dst := some 52, op := Op.call { callee := Callee.value (Operand.func 20), args := #[Operand.tmp 51], argTypes := #[31] }, type := 22, pos := _, after := #[{ on := 1, ground := Ground.data }], guard := none }) rfl (fun K hK => ?_) (AllReadyH.cons (o := { dst := some 55, op := Op.buildSlice 31 1 #[(0, Operand.tmp 54)], type := 31, pos := _, after := #[{ on := 4, ground := Ground.data }], guard := none }) rfl (fun K hK => ?_) AllReadyH.nil))
        · skip
          go_simp
          refine (encC (some ⟨(w1.heap.size), 0, none⟩) [a] 1 _ (by simp) (Row.new (k := .i32) (w := w1.drew) (l := [a]) (n := (w1.heap.size)) (by simp) rfl 21)).mono ?_
          rintro e w2 ⟨v2, rfl, ho2, h2⟩
          rw [enc_one] at ho2
          obtain ⟨a2, cap2, rfl, _, hr2, _, _⟩ := row_own ho2
          clear ho2
          have hq2 := hq1.trans (h2.mono hq1.size)
          go_wp2_with fail
          refine hK.out _ _ ?_ (fun hHeld => ?_)
          · ((try dsimp only); exact below_next hb1 hq2)
          clear hK K
          try simp only [Act.put, List.setIfInBounds_toArray, List.set_cons_zero, List.set_cons_succ]
          refine wpAnyH_ready (rs := [3, 5]) (by kernel_rfl) (by simp) ?_
          refine (AllReadyH.cons (o := { dst := some 53, op := Op.convert 22 9 (Operand.tmp 52), type := 9, pos := _, after := #[{ on := 2, ground := Ground.data }], guard := none }) rfl (fun K hK => ?_) (AllReadyH.cons (o := { dst := some 55, op := Op.buildSlice 31 1 #[(0, Operand.tmp 54)], type := 31, pos := _, after := #[{ on := 4, ground := Ground.data }], guard := none }) rfl (fun K hK => ?_) AllReadyH.nil))
          · skip
            have kc3 := UBytes.conv_sl a2 cap2 _ w2 hr2
            go_simp
            clear kc3
            refine hK.out _ _ ?_ (fun hHeld => ?_)
            · ((try dsimp only); exact below_next hb1 hq2)
            clear hK K
            try simp only [Act.put, List.setIfInBounds_toArray, List.set_cons_zero, List.set_cons_succ]
            refine wpAnyH_ready (rs := [5]) (by kernel_rfl) (by simp) ?_
            refine (AllReadyH.cons (o := { dst := some 55, op := Op.buildSlice 31 1 #[(0, Operand.tmp 54)], type := 31, pos := _, after := #[{ on := 4, ground := Ground.data }], guard := none }) rfl (fun K hK => ?_) AllReadyH.nil)
            go_simp
            have hq5 := hq2.alloc hq2.size (.cells #[.int .i32 b] 21)
            refine hK.out _ _ ?_ (fun hHeld => ?_)
            · ((try dsimp only); exact below_next hb1 hq5)
            clear hK K
            try simp only [Act.put, List.setIfInBounds_toArray, List.set_cons_zero, List.set_cons_succ]
            refine wpAnyH_ready (rs := [6]) (by kernel_rfl) (by simp) ?_
            refine (AllReadyH.cons (o := { dst := some 56, op := Op.call { callee := Callee.value (Operand.func 20), args := #[Operand.tmp 55], argTypes := #[31] }, type := 22, pos := _, after := #[{ on := 5, ground := Ground.data }, { on := 2, ground := Ground.chain }], guard := none }) rfl (fun K hK => ?_) AllReadyH.nil)
            go_simp
            refine (encC (some ⟨(w2.heap.size), 0, none⟩) [b] 1 _ (by simp) (Row.new (k := .i32) (w := w2) (l := [b]) (n := (w2.heap.size)) (by simp) rfl 21)).mono ?_
            rintro e w6 ⟨v6, rfl, ho6, h6⟩
            rw [enc_one] at ho6
            obtain ⟨a6, cap6, rfl, _, hr6, _, _⟩ := row_own ho6
            clear ho6
            have hq6 := hq5.trans (h6.mono hq5.size)
            go_wp2_with fail
            refine hK.out _ _ ?_ (fun hHeld => ?_)
            · ((try dsimp only); exact below_next hb1 hq6)
            clear hK K
            try simp only [Act.put, List.setIfInBounds_toArray, List.set_cons_zero, List.set_cons_succ]
            refine wpAnyH_take (i := 8) (oi := { dst := some 5, op := Op.assign (Operand.tmp 53), type := 9, pos := _, after := #[{ on := 3, ground := Ground.data }, { on := 6, ground := Ground.chain }, { on := 0, ground := Ground.phase }, { on := 1, ground := Ground.phase }, { on := 2, ground := Ground.phase }, { on := 3, ground := Ground.phase }, { on := 4, ground := Ground.textOnly Departure.lateStores }, { on := 5, ground := Ground.textOnly Departure.lateStores }, { on := 6, ground := Ground.textOnly Departure.lateStoresUnsure }, { on := 7, ground := Ground.textOnly Departure.lateStores }], guard := none }) (v := ?_) rfl (by kernel_rfl) (by kernel_rfl) (by kernel_rfl) (fun _ _ _ h => h) (Or.inl ⟨by rfl, ?_⟩) (by assumption) ?_
            rotate_left
            · ((intro w hSw); (try dsimp only at hSw); go_simp; (try with_reducible rfl))
            try simp only [Act.put, List.setIfInBounds_toArray, List.set_cons_zero, List.set_cons_succ]
            refine wpAnyH_ready (rs := [7]) (by kernel_rfl) (by simp) ?_
            refine (AllReadyH.cons (o := { dst := some 57, op := Op.convert 22 9 (Operand.tmp 56), type := 9, pos := _, after := #[{ on := 6, ground := Ground.data }, { on := 8, ground := Ground.gcOnly Departure.lateStores }], guard := none }) rfl (fun K hK => ?_) AllReadyH.nil)
            have kc7 := UBytes.conv_sl a6 cap6 _ w6 hr6
            go_simp
            clear kc7
            refine hK.out _ _ ?_ (fun hHeld => ?_)
            · ((try dsimp only); exact below_next hb1 hq6)
            clear hK K
            try simp only [Act.put, List.setIfInBounds_toArray, List.set_cons_zero, List.set_cons_succ]
            refine wpAnyH_take (i := 9) (oi := { dst := some 6, op := Op.assign (Operand.tmp 57), type := 9, pos := _, after := #[{ on := 7, ground := Ground.data }, { on := 8, ground := Ground.chain }, { on := 0, ground := Ground.phase }, { on := 1, ground := Ground.phase }, { on := 2, ground := Ground.phase }, { on := 3, ground := Ground.phase }, { on := 4, ground := Ground.phase }, { on := 5, ground := Ground.phase }, { on := 6, ground := Ground.phase }, { on := 7, ground := Ground.phase }, { on := 8, ground := Ground.phase }], guard := none }) (v := ?_) rfl (by kernel_rfl) (by kernel_rfl) (by kernel_rfl) (fun _ _ _ h => h) (Or.inl ⟨by rfl, ?_⟩) (by assumption) ?_
            rotate_left
            · ((intro w hSw); (try dsimp only at hSw); go_simp; (try with_reducible rfl))
            try simp only [Act.put, List.setIfInBounds_toArray, List.set_cons_zero, List.set_cons_succ]
            refine wpAnyH_done (by kernel_rfl) ?_ _
            go_wp2
            go_meet
            exact ⟨rfl, rfl, by go_split_ands; assumption⟩
          · skip
            go_simp
            have hq5 := hq2.alloc hq2.size (.cells #[.int .i32 b] 21)
            refine hK.out _ _ ?_ (fun hHeld => ?_)
            · ((try dsimp only); exact below_next hb1 hq5)
            clear hK K
            try simp only [Act.put, List.setIfInBounds_toArray, List.set_cons_zero, List.set_cons_succ]
            refine wpAnyH_ready (rs := [3, 6]) (by kernel_rfl) (by simp) ?_
            refine (AllReadyH.cons (o := { dst := some 53, op := Op.convert 22 9 (Operand.tmp 52), type := 9, pos := _, after := #[{ on := 2, ground := Ground.data }], guard := none }) rfl (fun K hK => ?_) (AllReadyH.cons (o := { dst := some 56, op := Op.call { callee := Callee.value (Operand.func 20), args := #[Operand.tmp 55], argTypes := #[31] }, type := 22, pos := _, after := #[{ on := 5, ground := Ground.data }, { on := 2, ground := Ground.chain }], guard := none }) rfl (fun K hK => ?_) AllReadyH.nil))
            · skip
              have kc3 := UBytes.conv_sl a2 cap2 _ (w2.alloc (.cells #[.int .i32 b] 21)) (hr2.alloc _)
              go_simp
              clear kc3
              refine hK.out _ _ ?_ (fun hHeld => ?_)
              · ((try dsimp only); exact below_next hb1 hq5)
              clear hK K
              try simp only [Act.put, List.setIfInBounds_toArray, List.set_cons_zero, List.set_cons_succ]
              refine wpAnyH_ready (rs := [6]) (by kernel_rfl) (by simp) ?_
              refine (AllReadyH.cons (o := { dst := some 56, op := Op.call { callee := Callee.value (Operand.func 20), args := #[Operand.tmp 55], argTypes := #[31] }, type := 22, pos := _, after := #[{ on := 5, ground := Ground.data }, { on := 2, ground := Ground.chain }], guard := none }) rfl (fun K hK => ?_) AllReadyH.nil)
              go_simp
              refine (encC (some ⟨(w2.heap.size), 0, none⟩) [b] 1 _ (by simp) (Row.new (k := .i32) (w := w2) (l := [b]) (n := (w2.heap.size)) (by simp) rfl 21)).mono ?_
              rintro e w6 ⟨v6, rfl, ho6, h6⟩
              rw [enc_one] at ho6
              obtain ⟨a6, cap6, rfl, _, hr6, _, _⟩ := row_own ho6
              clear ho6
              have hq6 := hq5.trans (h6.mono hq5.size)
              go_wp2_with fail
              refine hK.out _ _ ?_ (fun hHeld => ?_)
              · ((try dsimp only); exact below_next hb1 hq6)
              clear hK K
              try simp only [Act.put, List.setIfInBounds_toArray, List.set_cons_zero, List.set_cons_succ]
              refine wpAnyH_take (i := 8) (oi := { dst := some 5, op := Op.assign (Operand.tmp 53), type := 9, pos := _, after := #[{ on := 3, ground := Ground.data }, { on := 6, ground := Ground.chain }, { on := 0, ground := Ground.phase }, { on := 1, ground := Ground.phase }, { on := 2, ground := Ground.phase }, { on := 3, ground := Ground.phase }, { on := 4, ground := Ground.textOnly Departure.lateStores }, { on := 5, ground := Ground.textOnly Departure.lateStores }, { on := 6, ground := Ground.textOnly Departure.lateStoresUnsure }, { on := 7, ground := Ground.textOnly Departure.lateStores }], guard := none }) (v := ?_) rfl (by kernel_rfl) (by kernel_rfl) (by kernel_rfl) (fun _ _ _ h => h) (Or.inl ⟨by rfl, ?_⟩) (by assumption) ?_
              rotate_left
              · ((intro w hSw); (try dsimp only at hSw); go_simp; (try with_reducible rfl))
              try simp only [Act.put, List.setIfInBounds_toArray, List.set_cons_zero, List.set_cons_succ]
              refine wpAnyH_ready (rs := [7]) (by kernel_rfl) (by simp) ?_
              refine (AllReadyH.cons (o := { dst := some 57, op := Op.convert 22 9 (Operand.tmp 56), type := 9, pos := _, after := #[{ on := 6, ground := Ground.data }, { on := 8, ground := Ground.gcOnly Departure.lateStores }], guard := none }) rfl (fun K hK => ?_) AllReadyH.nil)
              have kc7 := UBytes.conv_sl a6 cap6 _ w6 hr6
              go_simp
              clear kc7
              refine hK.out _ _ ?_ (fun hHeld => ?_)
              · ((try dsimp only); exact below_next hb1 hq6)
              clear hK K
              try simp only [Act.put, List.setIfInBounds_toArray, List.set_cons_zero, List.set_cons_succ]
              refine wpAnyH_take (i := 9) (oi := { dst := some 6, op := Op.assign (Operand.tmp 57), type := 9, pos := _, after := #[{ on := 7, ground := Ground.data }, { on := 8, ground := Ground.chain }, { on := 0, ground := Ground.phase }, { on := 1, ground := Ground.phase }, { on := 2, ground := Ground.phase }, { on := 3, ground := Ground.phase }, { on := 4, ground := Ground.phase }, { on := 5, ground := Ground.phase }, { on := 6, ground := Ground.phase }, { on := 7, ground := Ground.phase }, { on := 8, ground := Ground.phase }], guard := none }) (v := ?_) rfl (by kernel_rfl) (by kernel_rfl) (by kernel_rfl) (fun _ _ _ h => h) (Or.inl ⟨by rfl, ?_⟩) (by assumption) ?_
              rotate_left
              · ((intro w hSw); (try dsimp only at hSw); go_simp; (try with_reducible rfl))
              try simp only [Act.put, List.setIfInBounds_toArray, List.set_cons_zero, List.set_cons_succ]
              refine wpAnyH_done (by kernel_rfl) ?_ _
              go_wp2
              go_meet
              exact ⟨rfl, rfl, by go_split_ands; assumption⟩
            · skip
              go_simp
              refine (encC (some ⟨(w2.heap.size), 0, none⟩) [b] 1 _ (by simp) (Row.new (k := .i32) (w := w2) (l := [b]) (n := (w2.heap.size)) (by simp) rfl 21)).mono ?_
              rintro e w6 ⟨v6, rfl, ho6, h6⟩
              rw [enc_one] at ho6
              obtain ⟨a6, cap6, rfl, _, hr6, _, _⟩ := row_own ho6
              clear ho6
              have hq6 := hq5.trans (h6.mono hq5.size)
              go_wp2_with fail
              refine hK.out _ _ ?_ (fun hHeld => ?_)
              · ((try dsimp only); exact below_next hb1 hq6)
              clear hK K
              try simp only [Act.put, List.setIfInBounds_toArray, List.set_cons_zero, List.set_cons_succ]
              refine wpAnyH_ready (rs := [3, 7]) (by kernel_rfl) (by simp) ?_
              refine (AllReadyH.cons (o := { dst := some 53, op := Op.convert 22 9 (Operand.tmp 52), type := 9, pos := _, after := #[{ on := 2, ground := Ground.data }], guard := none }) rfl (fun K hK => ?_) (AllReadyH.cons (o := { dst := some 57, op := Op.convert 22 9 (Operand.tmp 56), type := 9, pos := _, after := #[{ on := 6, ground := Ground.data }, { on := 8, ground := Ground.gcOnly Departure.lateStores }], guard := none }) rfl (fun K hK => ?_) AllReadyH.nil))
              · skip
                have kc3 := UBytes.conv_sl a2 cap2 _ w6 ((hr2.alloc _).then_ h6 (Nat.le_refl _))
                go_simp
                clear kc3
                refine hK.out _ _ ?_ (fun hHeld => ?_)
                · ((try dsimp only); exact below_next hb1 hq6)
                clear hK K
                try simp only [Act.put, List.setIfInBounds_toArray, List.set_cons_zero, List.set_cons_succ]
                refine wpAnyH_take (i := 8) (oi := { dst := some 5, op := Op.assign (Operand.tmp 53), type := 9, pos := _, after := #[{ on := 3, ground := Ground.data }, { on := 6, ground := Ground.chain }, { on := 0, ground := Ground.phase }, { on := 1, ground := Ground.phase }, { on := 2, ground := Ground.phase }, { on := 3, ground := Ground.phase }, { on := 4, ground := Ground.textOnly Departure.lateStores }, { on := 5, ground := Ground.textOnly Departure.lateStores }, { on := 6, ground := Ground.textOnly Departure.lateStoresUnsure }, { on := 7, ground := Ground.textOnly Departure.lateStores }], guard := none }) (v := ?_) rfl (by kernel_rfl) (by kernel_rfl) (by kernel_rfl) (fun _ _ _ h => h) (Or.inl ⟨by rfl, ?_⟩) (by assumption) ?_
                rotate_left
                · ((intro w hSw); (try dsimp only at hSw); go_simp; (try with_reducible rfl))
                try simp only [Act.put, List.setIfInBounds_toArray, List.set_cons_zero, List.set_cons_succ]
                refine wpAnyH_ready (rs := [7]) (by kernel_rfl) (by simp) ?_
                refine (AllReadyH.cons (o := { dst := some 57, op := Op.convert 22 9 (Operand.tmp 56), type := 9, pos := _, after := #[{ on := 6, ground := Ground.data }, { on := 8, ground := Ground.gcOnly Departure.lateStores }], guard := none }) rfl (fun K hK => ?_) AllReadyH.nil)
                have kc7 := UBytes.conv_sl a6 cap6 _ w6 hr6
                go_simp
                clear kc7
                refine hK.out _ _ ?_ (fun hHeld => ?_)
                · ((try dsimp only); exact below_next hb1 hq6)
                clear hK K
                try simp only [Act.put, List.setIfInBounds_toArray, List.set_cons_zero, List.set_cons_succ]
                refine wpAnyH_take (i := 9) (oi := { dst := some 6, op := Op.assign (Operand.tmp 57), type := 9, pos := _, after := #[{ on := 7, ground := Ground.data }, { on := 8, ground := Ground.chain }, { on := 0, ground := Ground.phase }, { on := 1, ground := Ground.phase }, { on := 2, ground := Ground.phase }, { on := 3, ground := Ground.phase }, { on := 4, ground := Ground.phase }, { on := 5, ground := Ground.phase }, { on := 6, ground := Ground.phase }, { on := 7, ground := Ground.phase }, { on := 8, ground := Ground.phase }], guard := none }) (v := ?_) rfl (by kernel_rfl) (by kernel_rfl) (by kernel_rfl) (fun _ _ _ h => h) (Or.inl ⟨by rfl, ?_⟩) (by assumption) ?_
                rotate_left
                · ((intro w hSw); (try dsimp only at hSw); go_simp; (try with_reducible rfl))
                try simp only [Act.put, List.setIfInBounds_toArray, List.set_cons_zero, List.set_cons_succ]
                refine wpAnyH_done (by kernel_rfl) ?_ _
                go_wp2
                go_meet
                exact ⟨rfl, rfl, by go_split_ands; assumption⟩
              · skip
                have kc7 := UBytes.conv_sl a6 cap6 _ w6 hr6
                go_simp
                clear kc7
                refine hK.out _ _ ?_ (fun hHeld => ?_)
                · ((try dsimp only); exact below_next hb1 hq6)
                clear hK K
                try simp only [Act.put, List.setIfInBounds_toArray, List.set_cons_zero, List.set_cons_succ]
                refine wpAnyH_ready (rs := [3]) (by kernel_rfl) (by simp) ?_
                refine (AllReadyH.cons (o := { dst := some 53, op := Op.convert 22 9 (Operand.tmp 52), type := 9, pos := _, after := #[{ on := 2, ground := Ground.data }], guard := none }) rfl (fun K hK => ?_) AllReadyH.nil)
                have kc3 := UBytes.conv_sl a2 cap2 _ w6 ((hr2.alloc _).then_ h6 (Nat.le_refl _))
                go_simp
                clear kc3
                refine hK.out _ _ ?_ (fun hHeld => ?_)
                · ((try dsimp only); exact below_next hb1 hq6)
                clear hK K
                try simp only [Act.put, List.setIfInBounds_toArray, List.set_cons_zero, List.set_cons_succ]
                refine wpAnyH_take (i := 8) (oi := { dst := some 5, op := Op.assign (Operand.tmp 53), type := 9, pos := _, after := #[{ on := 3, ground := Ground.data }, { on := 6, ground := Ground.chain }, { on := 0, ground := Ground.phase }, { on := 1, ground := Ground.phase }, { on := 2, ground := Ground.phase }, { on := 3, ground := Ground.phase }, { on := 4, ground := Ground.textOnly Departure.lateStores }, { on := 5, ground := Ground.textOnly Departure.lateStores }, { on := 6, ground := Ground.textOnly Departure.lateStoresUnsure }, { on := 7, ground := Ground.textOnly Departure.lateStores }], guard := none }) (v := ?_) rfl (by kernel_rfl) (by kernel_rfl) (by kernel_rfl) (fun _ _ _ h => h) (Or.inl ⟨by rfl, ?_⟩) (by assumption) ?_
                rotate_left
                · ((intro w hSw); (try dsimp only at hSw); go_simp; (try with_reducible rfl))
                try simp only [Act.put, List.setIfInBounds_toArray, List.set_cons_zero, List.set_cons_succ]
                refine wpAnyH_take (i := 9) (oi := { dst := some 6, op := Op.assign (Operand.tmp 57), type := 9, pos := _, after := #[{ on := 7, ground := Ground.data }, { on := 8, ground := Ground.chain }, { on := 0, ground := Ground.phase }, { on := 1, ground := Ground.phase }, { on := 2, ground := Ground.phase }, { on := 3, ground := Ground.phase }, { on := 4, ground := Ground.phase }, { on := 5, ground := Ground.phase }, { on := 6, ground := Ground.phase }, { on := 7, ground := Ground.phase }, { on := 8, ground := Ground.phase }], guard := none }) (v := ?_) rfl (by kernel_rfl) (by kernel_rfl) (by kernel_rfl) (fun _ _ _ h => h) (Or.inl ⟨by rfl, ?_⟩) (by assumption) ?_
                rotate_left
                · ((intro w hSw); (try dsimp only at hSw); go_simp; (try with_reducible rfl))
                try simp only [Act.put, List.setIfInBounds_toArray, List.set_cons_zero, List.set_cons_succ]
                refine wpAnyH_done (by kernel_rfl) ?_ _
                go_wp2
                go_meet
                exact ⟨rfl, rfl, by go_split_ands; assumption⟩
        · skip
          go_simp
          have hq5 := hq1.alloc hq1.size (.cells #[.int .i32 b] 21)
          refine hK.out _ _ ?_ (fun hHeld => ?_)
          · ((try dsimp only); exact below_next hb1 hq5)
          clear hK K
          try simp only [Act.put, List.setIfInBounds_toArray, List.set_cons_zero, List.set_cons_succ]
          refine wpAnyH_ready (rs := [2]) (by kernel_rfl) (by simp) ?_
          refine (AllReadyH.cons (o := { dst := some 52, op := Op.call { callee := Callee.value (Operand.func 20), args := #[Operand.tmp 51], argTypes := #[31] }, type := 22, pos := _, after := #[{ on := 1, ground := Ground.data }], guard := none }) rfl (fun K hK => ?_) AllReadyH.nil)
          go_simp
          refine (encC (some ⟨(w1.heap.size), 0, none⟩) [a] 1 _ (by simp) ((Row.new (k := .i32) (w := w1.drew) (l := [a]) (n := (w1.heap.size)) (by simp) rfl 21).alloc _)).mono ?_
          rintro e w2 ⟨v2, rfl, ho2, h2⟩
          rw [enc_one] at ho2
          obtain ⟨a2, cap2, rfl, _, hr2, _, _⟩ := row_own ho2
          clear ho2
          have hq2 := hq5.trans (h2.mono hq5.size)
          go_wp2_with fail
          refine hK.out _ _ ?_ (fun hHeld => ?_)
          · ((try dsimp only); exact below_next hb1 hq2)
          clear hK K
          try simp only [Act.put, List.setIfInBounds_toArray, List.set_cons_zero, List.set_cons_succ]
          refine wpAnyH_ready (rs := [3, 6]) (by kernel_rfl) (by simp) ?_
          refine (AllReadyH.cons (o := { dst := some 53, op := Op.convert 22 9 (Operand.tmp 52), type := 9, pos := _, after := #[{ on := 2, ground := Ground.data }], guard := none }) rfl (fun K hK => ?_) (AllReadyH.cons (o := { dst := some 56, op := Op.call { callee := Callee.value (Operand.func 20), args := #[Operand.tmp 55], argTypes := #[31] }, type := 22, pos := _, after := #[{ on := 5, ground := Ground.data }, { on := 2, ground := Ground.chain }], guard := none }) rfl (fun K hK => ?_) AllReadyH.nil))
          · skip
            have kc3 := UBytes.conv_sl a2 cap2 _ w2 hr2
            go_simp
            clear kc3
            refine hK.out _ _ ?_ (fun hHeld => ?_)
            · ((try dsimp only); exact below_next hb1 hq2)
            clear hK K
            try simp only [Act.put, List.setIfInBounds_toArray, List.set_cons_zero, List.set_cons_succ]
            refine wpAnyH_ready (rs := [6]) (by kernel_rfl) (by simp) ?_
            refine (AllReadyH.cons (o := { dst := some 56, op := Op.call { callee := Callee.value (Operand.func 20), args := #[Operand.tmp 55], argTypes := #[31] }, type := 22, pos := _, after := #[{ on := 5, ground := Ground.data }, { on := 2, ground := Ground.chain }], guard := none }) rfl (fun K hK => ?_) AllReadyH.nil)
            go_simp
            refine (encC (some ⟨(w1.heap.size + 1), 0, none⟩) [b] 1 _ (by simp) ((Row.new (k := .i32) (w := (w1.drew.alloc (.cells #[.int .i32 a] 21))) (l := [b]) (n := (w1.heap.size + 1)) (by simp) rfl 21).then_ h2 (Nat.le_refl _))).mono ?_
            rintro e w6 ⟨v6, rfl, ho6, h6⟩
            rw [enc_one] at ho6
            obtain ⟨a6, cap6, rfl, _, hr6, _, _⟩ := row_own ho6
            clear ho6
            have hq6 := hq2.trans (h6.mono hq2.size)
            go_wp2_with fail
            refine hK.out _ _ ?_ (fun hHeld => ?_)
            · ((try dsimp only); exact below_next hb1 hq6)
            clear hK K
            try simp only [Act.put, List.setIfInBounds_toArray, List.set_cons_zero, List.set_cons_succ]
            refine wpAnyH_take (i := 8) (oi := { dst := some 5, op := Op.assign (Operand.tmp 53), type := 9, pos := _, after := #[{ on := 3, ground := Ground.data }, { on := 6, ground := Ground.chain }, { on := 0, ground := Ground.phase }, { on := 1, ground := Ground.phase }, { on := 2, ground := Ground.phase }, { on := 3, ground := Ground.phase }, { on := 4, ground := Ground.textOnly Departure.lateStores }, { on := 5, ground := Ground.textOnly Departure.lateStores }, { on := 6, ground := Ground.textOnly Departure.lateStoresUnsure }, { on := 7, ground := Ground.textOnly Departure.lateStores }], guard := none }) (v := ?_) rfl (by kernel_rfl) (by kernel_rfl) (by kernel_rfl) (fun _ _ _ h => h) (Or.inl ⟨by rfl, ?_⟩) (by assumption) ?_
            rotate_left
            · ((intro w hSw); (try dsimp only at hSw); go_simp; (try with_reducible rfl))
            try simp only [Act.put, List.setIfInBounds_toArray, List.set_cons_zero, List.set_cons_succ]
            refine wpAnyH_ready (rs := [7]) (by kernel_rfl) (by simp) ?_
            refine (AllReadyH.cons (o := { dst := some 57, op := Op.convert 22 9 (Operand.tmp 56), type := 9, pos := _, after := #[{ on := 6, ground := Ground.data }, { on := 8, ground := Ground.gcOnly Departure.lateStores }], guard := none }) rfl (fun K hK => ?_) AllReadyH.nil)
            have kc7 := UBytes.conv_sl a6 cap6 _ w6 hr6
            go_simp
            clear kc7
            refine hK.out _ _ ?_ (fun hHeld => ?_)
            · ((try dsimp only); exact below_next hb1 hq6)
            clear hK K
            try simp only [Act.put, List.setIfInBounds_toArray, List.set_cons_zero, List.set_cons_succ]
            refine wpAnyH_take (i := 9) (oi := { dst := some 6, op := Op.assign (Operand.tmp 57), type := 9, pos := _, after := #[{ on := 7, ground := Ground.data }, { on := 8, ground := Ground.chain }, { on := 0, ground := Ground.phase }, { on := 1, ground := Ground.phase }, { on := 2, ground := Ground.phase }, { on := 3, ground := Ground.phase }, { on := 4, ground := Ground.phase }, { on := 5, ground := Ground.phase }, { on := 6, ground := Ground.phase }, { on := 7, ground := Ground.phase }, { on := 8, ground := Ground.phase }], guard := none }) (v := ?_) rfl (by kernel_rfl) (by kernel_rfl) (by kernel_rfl) (fun _ _ _ h => h) (Or.inl ⟨by rfl, ?_⟩) (by assumption) ?_
            rotate_left
            · ((intro w hSw); (try dsimp only at hSw); go_simp; (try with_reducible rfl))
            try simp only [Act.put, List.setIfInBounds_toArray, List.set_cons_zero, List.set_cons_succ]
            refine wpAnyH_done (by kernel_rfl) ?_ _
            go_wp2
            go_meet
            exact ⟨rfl, rfl, by go_split_ands; assumption⟩
          · skip
            go_simp
            refine (encC (some ⟨(w1.heap.size + 1), 0, none⟩) [b] 1 _ (by simp) ((Row.new (k := .i32) (w := (w1.drew.alloc (.cells #[.int .i32 a] 21))) (l := [b]) (n := (w1.heap.size + 1)) (by simp) rfl 21).then_ h2 (Nat.le_refl _))).mono ?_
            rintro e w6 ⟨v6, rfl, ho6, h6⟩
            rw [enc_one] at ho6
            obtain ⟨a6, cap6, rfl, _, hr6, _, _⟩ := row_own ho6
            clear ho6
            have hq6 := hq2.trans (h6.mono hq2.size)
            go_wp2_with fail
            refine hK.out _ _ ?_ (fun hHeld => ?_)
            · ((try dsimp only); exact below_next hb1 hq6)
            clear hK K
            try simp only [Act.put, List.setIfInBounds_toArray, List.set_cons_zero, List.set_cons_succ]
            refine wpAnyH_ready (rs := [3, 7]) (by kernel_rfl) (by simp) ?_
            refine (AllReadyH.cons (o := { dst := some 53, op := Op.convert 22 9 (Operand.tmp 52), type := 9, pos := _, after := #[{ on := 2, ground := Ground.data }], guard := none }) rfl (fun K hK => ?_) (AllReadyH.cons (o := { dst := some 57, op := Op.convert 22 9 (Operand.tmp 56), type := 9, pos := _, after := #[{ on := 6, ground := Ground.data }, { on := 8, ground := Ground.gcOnly Departure.lateStores }], guard := none }) rfl (fun K hK => ?_) AllReadyH.nil))
            · skip
              have kc3 := UBytes.conv_sl a2 cap2 _ w6 (hr2.then_ h6 (Nat.le_refl _))
              go_simp
              clear kc3
              refine hK.out _ _ ?_ (fun hHeld => ?_)
              · ((try dsimp only); exact below_next hb1 hq6)
              clear hK K
              try simp only [Act.put, List.setIfInBounds_toArray, List.set_cons_zero, List.set_cons_succ]
              refine wpAnyH_take (i := 8) (oi := { dst := some 5, op := Op.assign (Operand.tmp 53), type := 9, pos := _, after := #[{ on := 3, ground := Ground.data }, { on := 6, ground := Ground.chain }, { on := 0, ground := Ground.phase }, { on := 1, ground := Ground.phase }, { on := 2, ground := Ground.phase }, { on := 3, ground := Ground.phase }, { on := 4, ground := Ground.textOnly Departure.lateStores }, { on := 5, ground := Ground.textOnly Departure.lateStores }, { on := 6, ground := Ground.textOnly Departure.lateStoresUnsure }, { on := 7, ground := Ground.textOnly Departure.lateStores }], guard := none }) (v := ?_) rfl (by kernel_rfl) (by kernel_rfl) (by kernel_rfl) (fun _ _ _ h => h) (Or.inl ⟨by rfl, ?_⟩) (by assumption) ?_
              rotate_left
              · ((intro w hSw); (try dsimp only at hSw); go_simp; (try with_reducible rfl))
              try simp only [Act.put, List.setIfInBounds_toArray, List.set_cons_zero, List.set_cons_succ]
              refine wpAnyH_ready (rs := [7]) (by kernel_rfl) (by simp) ?_
              refine (AllReadyH.cons (o := { dst := some 57, op := Op.convert 22 9 (Operand.tmp 56), type := 9, pos := _, after := #[{ on := 6, ground := Ground.data }, { on := 8, ground := Ground.gcOnly Departure.lateStores }], guard := none }) rfl (fun K hK => ?_) AllReadyH.nil)
              have kc7 := UBytes.conv_sl a6 cap6 _ w6 hr6
              go_simp
              clear kc7
              refine hK.out _ _ ?_ (fun hHeld => ?_)
              · ((try dsimp only); exact below_next hb1 hq6)
              clear hK K
              try simp only [Act.put, List.setIfInBounds_toArray, List.set_cons_zero, List.set_cons_succ]
              refine wpAnyH_take (i := 9) (oi := { dst := some 6, op := Op.assign (Operand.tmp 57), type := 9, pos := _, after := #[{ on := 7, ground := Ground.data }, { on := 8, ground := Ground.chain }, { on := 0, ground := Ground.phase }, { on := 1, ground := Ground.phase }, { on := 2, ground := Ground.phase }, { on := 3, ground := Ground.phase }, { on := 4, ground := Ground.phase }, { on := 5, ground := Ground.phase }, { on := 6, ground := Ground.phase }, { on := 7, ground := Ground.phase }, { on := 8, ground := Ground.phase }], guard := none }) (v := ?_) rfl (by kernel_rfl) (by kernel_rfl) (by kernel_rfl) (fun _ _ _ h => h) (Or.inl ⟨by rfl, ?_⟩) (by assumption) ?_
              rotate_left
              · ((intro w hSw); (try dsimp only at hSw); go_simp; (try with_reducible rfl))
              try simp only [Act.put, List.setIfInBounds_toArray, List.set_cons_zero, List.set_cons_succ]
              refine wpAnyH_done (by kernel_rfl) ?_ _
              go_wp2
              go_meet
              exact ⟨rfl, rfl, by go_split_ands; assumption⟩
            · skip
              have kc7 := UBytes.conv_sl a6 cap6 _ w6 hr6
              go_simp
              clear kc7
              refine hK.out _ _ ?_ (fun hHeld => ?_)
              · ((try dsimp only); exact below_next hb1 hq6)
              clear hK K
              try simp only [Act.put, List.setIfInBounds_toArray, List.set_cons_zero, List.set_cons_succ]
              refine wpAnyH_ready (rs := [3]) (by kernel_rfl) (by simp) ?_
              refine (AllReadyH.cons (o := { dst := some 53, op := Op.convert 22 9 (Operand.tmp 52), type := 9, pos := _, after := #[{ on := 2, ground := Ground.data }], guard := none }) rfl (fun K hK => ?_) AllReadyH.nil)
              have kc3 := UBytes.conv_sl a2 cap2 _ w6 (hr2.then_ h6 (Nat.le_refl _))
              go_simp
              clear kc3
              refine hK.out _ _ ?_ (fun hHeld => ?_)
              · ((try dsimp only); exact below_next hb1 hq6)
              clear hK K
              try simp only [Act.put, List.setIfInBounds_toArray, List.set_cons_zero, List.set_cons_succ]
              refine wpAnyH_take (i := 8) (oi := { dst := some 5, op := Op.assign (Operand.tmp 53), type := 9, pos := _, after := #[{ on := 3, ground := Ground.data }, { on := 6, ground := Ground.chain }, { on := 0, ground := Ground.phase }, { on := 1, ground := Ground.phase }, { on := 2, ground := Ground.phase }, { on := 3, ground := Ground.phase }, { on := 4, ground := Ground.textOnly Departure.lateStores }, { on := 5, ground := Ground.textOnly Departure.lateStores }, { on := 6, ground := Ground.textOnly Departure.lateStoresUnsure }, { on := 7, ground := Ground.textOnly Departure.lateStores }], guard := none }) (v := ?_) rfl (by kernel_rfl) (by kernel_rfl) (by kernel_rfl) (fun _ _ _ h => h) (Or.inl ⟨by rfl, ?_⟩) (by assumption) ?_
              rotate_left
              · ((intro w hSw); (try dsimp only at hSw); go_simp; (try with_reducible rfl))
              try simp only [Act.put, List.setIfInBounds_toArray, List.set_cons_zero, List.set_cons_succ]
              refine wpAnyH_take (i := 9) (oi := { dst := some 6, op := Op.assign (Operand.tmp 57), type := 9, pos := _, after := #[{ on := 7, ground := Ground.data }, { on := 8, ground := Ground.chain }, { on := 0, ground := Ground.phase }, { on := 1, ground := Ground.phase }, { on := 2, ground := Ground.phase }, { on := 3, ground := Ground.phase }, { on := 4, ground := Ground.phase }, { on := 5, ground := Ground.phase }, { on := 6, ground := Ground.phase }, { on := 7, ground := Ground.phase }, { on := 8, ground := Ground.phase }], guard := none }) (v := ?_) rfl (by kernel_rfl) (by kernel_rfl) (by kernel_rfl) (fun _ _ _ h => h) (Or.inl ⟨by rfl, ?_⟩) (by assumption) ?_
              rotate_left
              · ((intro w hSw); (try dsimp only at hSw); go_simp; (try with_reducible rfl))
              try simp only [Act.put, List.setIfInBounds_toArray, List.set_cons_zero, List.set_cons_succ]
              refine wpAnyH_done (by kernel_rfl) ?_ _
              go_wp2
              go_meet
              exact ⟨rfl, rfl, by go_split_ands; assumption⟩
      · skip
        go_simp
        have hq5 := hq.alloc hq.size (.cells #[.int .i32 b] 21)
        refine hK.out _ _ ?_ (fun hHeld => ?_)
        · ((try dsimp only); exact below_next hb1 hq5)
        clear hK K
        try simp only [Act.put, List.setIfInBounds_toArray, List.set_cons_zero, List.set_cons_succ]
        refine wpAnyH_ready (rs := [1]) (by kernel_rfl) (by simp) ?_
        refine (AllReadyH.cons (o := { dst := some 51, op := Op.buildSlice 31 1 #[(0, Operand.tmp 50)], type := 31, pos := _, after := #[{ on := 0, ground := Ground.data }], guard := none }) rfl (fun K hK => ?_) AllReadyH.nil)
        go_simp
        have hq1 := hq5.alloc hq5.size (.cells #[.int .i32 a] 21)
        refine hK.out _ _ ?_ (fun hHeld => ?_)
        · ((try dsimp only); exact below_next hb1 hq1)
        clear hK K
        try simp only [Act.put, List.setIfInBounds_toArray, List.set_cons_zero, List.set_cons_succ]
        refine wpAnyH_ready (rs := [2]) (by kernel_rfl) (by simp) ?_
        refine (AllReadyH.cons (o := { dst := some 52, op := Op.call { callee := Callee.value (Operand.func 20), args := #[Operand.tmp 51], argTypes := #[31] }, type := 22, pos := _, after := #[{ on := 1, ground := Ground.data }], guard := none }) rfl (fun K hK => ?_) AllReadyH.nil)
        go_simp
        refine (encC (some ⟨(w1.heap.size + 1), 0, none⟩) [a] 1 _ (by simp) (Row.new (k := .i32) (w := (w1.drew.alloc (.cells #[.int .i32 b] 21))) (l := [a]) (n := (w1.heap.size + 1)) (by simp) rfl 21)).mono ?_
        rintro e w2 ⟨v2, rfl, ho2, h2⟩
        rw [enc_one] at ho2
        obtain ⟨a2, cap2, rfl, _, hr2, _, _⟩ := row_own ho2
        clear ho2
        have hq2 := hq1.trans (h2.mono hq1.size)
        go_wp2_with fail
        refine hK.out _ _ ?_ (fun hHeld => ?_)
        · ((try dsimp only); exact below_next hb1 hq2)
        clear hK K
        try simp only [Act.put, List.setIfInBounds_toArray, List.set_cons_zero, List.set_cons_succ]
        refine wpAnyH_ready (rs := [3, 6]) (by kernel_rfl) (by simp) ?_
        refine (AllReadyH.cons (o := { dst := some 53, op := Op.convert 22 9 (Operand.tmp 52), type := 9, pos := _, after := #[{ on := 2, ground := Ground.data }], guard := none }) rfl (fun K hK => ?_) (AllReadyH.cons (o := { dst := some 56, op := Op.call { callee := Callee.value (Operand.func 20), args := #[Operand.tmp 55], argTypes := #[31] }, type := 22, pos := _, after := #[{ on := 5, ground := Ground.data }, { on := 2, ground := Ground.chain }], guard := none }) rfl (fun K hK => ?_) AllReadyH.nil))
        · skip
          have kc3 := UBytes.conv_sl a2 cap2 _ w2 hr2
          go_simp
          clear kc3
          refine hK.out _ _ ?_ (fun hHeld => ?_)
          · ((try dsimp only); exact below_next hb1 hq2)
          clear hK K
          try simp only [Act.put, List.setIfInBounds_toArray, List.set_cons_zero, List.set_cons_succ]
          refine wpAnyH_ready (rs := [6]) (by kernel_rfl) (by simp) ?_
          refine (AllReadyH.cons (o := { dst := some 56, op := Op.call { callee := Callee.value (Operand.func 20), args := #[Operand.tmp 55], argTypes := #[31] }, type := 22, pos := _, after := #[{ on := 5, ground := Ground.data }, { on := 2, ground := Ground.chain }], guard := none }) rfl (fun K hK => ?_) AllReadyH.nil)
          go_simp
          refine (encC (some ⟨(w1.heap.size), 0, none⟩) [b] 1 _ (by simp) (((Row.new (k := .i32) (w := w1.drew) (l := [b]) (n := (w1.heap.size)) (by simp) rfl 21).alloc _).then_ h2 (Nat.le_refl _))).mono ?_
          rintro e w6 ⟨v6, rfl, ho6, h6⟩
          rw [enc_one] at ho6
          obtain ⟨a6, cap6, rfl, _, hr6, _, _⟩ := row_own ho6
          clear ho6
          have hq6 := hq2.trans (h6.mono hq2.size)
          go_wp2_with fail
          refine hK.out _ _ ?_ (fun hHeld => ?_)
          · ((try dsimp only); exact below_next hb1 hq6)
          clear hK K
          try simp only [Act.put, List.setIfInBounds_toArray, List.set_cons_zero, List.set_cons_succ]
          refine wpAnyH_take (i := 8) (oi := { dst := some 5, op := Op.assign (Operand.tmp 53), type := 9, pos := _, after := #[{ on := 3, ground := Ground.data }, { on := 6, ground := Ground.chain }, { on := 0, ground := Ground.phase }, { on := 1, ground := Ground.phase }, { on := 2, ground := Ground.phase }, { on := 3, ground := Ground.phase }, { on := 4, ground := Ground.textOnly Departure.lateStores }, { on := 5, ground := Ground.textOnly Departure.lateStores }, { on := 6, ground := Ground.textOnly Departure.lateStoresUnsure }, { on := 7, ground := Ground.textOnly Departure.lateStores }], guard := none }) (v := ?_) rfl (by kernel_rfl) (by kernel_rfl) (by kernel_rfl) (fun _ _ _ h => h) (Or.inl ⟨by rfl, ?_⟩) (by assumption) ?_
          rotate_left
          · ((intro w hSw); (try dsimp only at hSw); go_simp; (try with_reducible rfl))
          try simp only [Act.put, List.setIfInBounds_toArray, List.set_cons_zero, List.set_cons_succ]
          refine wpAnyH_ready (rs := [7]) (by kernel_rfl) (by simp) ?_
          refine (AllReadyH.cons (o := { dst := some 57, op := Op.convert 22 9 (Operand.tmp 56), type := 9, pos := _, after := #[{ on := 6, ground := Ground.data }, { on := 8, ground := Ground.gcOnly Departure.lateStores }], guard := none }) rfl (fun K hK => ?_) AllReadyH.nil)
          have kc7 := UBytes.conv_sl a6 cap6 _ w6 hr6
          go_simp
          clear kc7
          refine hK.out _ _ ?_ (fun hHeld => ?_)
          · ((try dsimp only); exact below_next hb1 hq6)
          clear hK K
          try simp only [Act.put, List.setIfInBounds_toArray, List.set_cons_zero, List.set_cons_succ]
          refine wpAnyH_take (i := 9) (oi := { dst := some 6, op := Op.assign (Operand.tmp 57), type := 9, pos := _, after := #[{ on := 7, ground := Ground.data }, { on := 8, ground := Ground.chain }, { on := 0, ground := Ground.phase }, { on := 1, ground := Ground.phase }, { on := 2, ground := Ground.phase }, { on := 3, ground := Ground.phase }, { on := 4, ground := Ground.phase }, { on := 5, ground := Ground.phase }, { on := 6, ground := Ground.phase }, { on := 7, ground := Ground.phase }, { on := 8, ground := Ground.phase }], guard := none }) (v := ?_) rfl (by kernel_rfl) (by kernel_rfl) (by kernel_rfl) (fun _ _ _ h => h) (Or.inl ⟨by rfl, ?_⟩) (by assumption) ?_
          rotate_left
          · ((intro w hSw); (try dsimp only at hSw); go_simp; (try with_reducible rfl))
          try simp only [Act.put, List.setIfInBounds_toArray, List.set_cons_zero, List.set_cons_succ]
          refine wpAnyH_done (by kernel_rfl) ?_ _
          go_wp2
          go_meet
          exact ⟨rfl, rfl, by go_split_ands; assumption⟩
        · skip
          go_simp
          refine (encC (some ⟨(w1.heap.size), 0, none⟩) [b] 1 _ (by simp) (((Row.new (k := .i32) (w := w1.drew) (l := [b]) (n := (w1.heap.size)) (by simp) rfl 21).alloc _).then_ h2 (Nat.le_refl _))).mono ?_
          rintro e w6 ⟨v6, rfl, ho6, h6⟩
          rw [enc_one] at ho6
          obtain ⟨a6, cap6, rfl, _, hr6, _, _⟩ := row_own ho6
          clear ho6
          have hq6 := hq2.trans (h6.mono hq2.size)
          go_wp2_with fail
          refine hK.out _ _ ?_ (fun hHeld => ?_)
          · ((try dsimp only); exact below_next hb1 hq6)
          clear hK K
          try simp only [Act.put, List.setIfInBounds_toArray, List.set_cons_zero, List.set_cons_succ]
          refine wpAnyH_ready (rs := [3, 7]) (by kernel_rfl) (by simp) ?_
          refine (AllReadyH.cons (o := { dst := some 53, op := Op.convert 22 9 (Operand.tmp 52), type := 9, pos := _, after := #[{ on := 2, ground := Ground.data }], guard := none }) rfl (fun K hK => ?_) (AllReadyH.cons (o := { dst := some 57, op := Op.convert 22 9 (Operand.tmp 56), type := 9, pos := _, after := #[{ on := 6, ground := Ground.data }, { on := 8, ground := Ground.gcOnly Departure.lateStores }], guard := none }) rfl (fun K hK => ?_) AllReadyH.nil))
          · skip
            have kc3 := UBytes.conv_sl a2 cap2 _ w6 (hr2.then_ h6 (Nat.le_refl _))
            go_simp
            clear kc3
            refine hK.out _ _ ?_ (fun hHeld => ?_)
            · ((try dsimp only); exact below_next hb1 hq6)
            clear hK K
            try simp only [Act.put, List.setIfInBounds_toArray, List.set_cons_zero, List.set_cons_succ]
            refine wpAnyH_take (i := 8) (oi := { dst := some 5, op := Op.assign (Operand.tmp 53), type := 9, pos := _, after := #[{ on := 3, ground := Ground.data }, { on := 6, ground := Ground.chain }, { on := 0, ground := Ground.phase }, { on := 1, ground := Ground.phase }, { on := 2, ground := Ground.phase }, { on := 3, ground := Ground.phase }, { on := 4, ground := Ground.textOnly Departure.lateStores }, { on := 5, ground := Ground.textOnly Departure.lateStores }, { on := 6, ground := Ground.textOnly Departure.lateStoresUnsure }, { on := 7, ground := Ground.textOnly Departure.lateStores }], guard := none }) (v := ?_) rfl (by kernel_rfl) (by kernel_rfl) (by kernel_rfl) (fun _ _ _ h => h) (Or.inl ⟨by rfl, ?_⟩) (by assumption) ?_
            rotate_left
            · ((intro w hSw); (try dsimp only at hSw); go_simp; (try with_reducible rfl))
            try simp only [Act.put, List.setIfInBounds_toArray, List.set_cons_zero, List.set_cons_succ]
            refine wpAnyH_ready (rs := [7]) (by kernel_rfl) (by simp) ?_
            refine (AllReadyH.cons (o := { dst := some 57, op := Op.convert 22 9 (Operand.tmp 56), type := 9, pos := _, after := #[{ on := 6, ground := Ground.data }, { on := 8, ground := Ground.gcOnly Departure.lateStores }], guard := none }) rfl (fun K hK => ?_) AllReadyH.nil)
            have kc7 := UBytes.conv_sl a6 cap6 _ w6 hr6
            go_simp
            clear kc7
            refine hK.out _ _ ?_ (fun hHeld => ?_)
            · ((try dsimp only); exact below_next hb1 hq6)
            clear hK K
            try simp only [Act.put, List.setIfInBounds_toArray, List.set_cons_zero, List.set_cons_succ]
            refine wpAnyH_take (i := 9) (oi := { dst := some 6, op := Op.assign (Operand.tmp 57), type := 9, pos := _, after := #[{ on := 7, ground := Ground.data }, { on := 8, ground := Ground.chain }, { on := 0, ground := Ground.phase }, { on := 1, ground := Ground.phase }, { on := 2, ground := Ground.phase }, { on := 3, ground := Ground.phase }, { on := 4, ground := Ground.phase }, { on := 5, ground := Ground.phase }, { on := 6, ground := Ground.phase }, { on := 7, ground := Ground.phase }, { on := 8, ground := Ground.phase }], guard := none }) (v := ?_) rfl (by kernel_rfl) (by kernel_rfl) (by kernel_rfl) (fun _ _ _ h => h) (Or.inl ⟨by rfl, ?_⟩) (by assumption) ?_
            rotate_left
            · ((intro w hSw); (try dsimp only at hSw); go_simp; (try with_reducible rfl))
            try simp only [Act.put, List.setIfInBounds_toArray, List.set_cons_zero, List.set_cons_succ]
            refine wpAnyH_done (by kernel_rfl) ?_ _
            go_wp2
            go_meet
            exact ⟨rfl, rfl, by go_split_ands; assumption⟩
          · skip
            have kc7 := UBytes.conv_sl a6 cap6 _ w6 hr6
            go_simp
            clear kc7
            refine hK.out _ _ ?_ (fun hHeld => ?_)
            · ((try dsimp only); exact below_next hb1 hq6)
            clear hK K
            try simp only [Act.put, List.setIfInBounds_toArray, List.set_cons_zero, List.set_cons_succ]
            refine wpAnyH_ready (rs := [3]) (by kernel_rfl) (by simp) ?_
            refine (AllReadyH.cons (o := { dst := some 53, op := Op.convert 22 9 (Operand.tmp 52), type := 9, pos := _, after := #[{ on := 2, ground := Ground.data }], guard := none }) rfl (fun K hK => ?_) AllReadyH.nil)
            have kc3 := UBytes.conv_sl a2 cap2 _ w6 (hr2.then_ h6 (Nat.le_refl _))
            go_simp
            clear kc3
            refine hK.out _ _ ?_ (fun hHeld => ?_)
            · ((try dsimp only); exact below_next hb1 hq6)
            clear hK K
            try simp only [Act.put, List.setIfInBounds_toArray, List.set_cons_zero, List.set_cons_succ]
            refine wpAnyH_take (i := 8) (oi := { dst := some 5, op := Op.assign (Operand.tmp 53), type := 9, pos := _, after := #[{ on := 3, ground := Ground.data }, { on := 6, ground := Ground.chain }, { on := 0, ground := Ground.phase }, { on := 1, ground := Ground.phase }, { on := 2, ground := Ground.phase }, { on := 3, ground := Ground.phase }, { on := 4, ground := Ground.textOnly Departure.lateStores }, { on := 5, ground := Ground.textOnly Departure.lateStores }, { on := 6, ground := Ground.textOnly Departure.lateStoresUnsure }, { on := 7, ground := Ground.textOnly Departure.lateStores }], guard := none }) (v := ?_) rfl (by kernel_rfl) (by kernel_rfl) (by kernel_rfl) (fun _ _ _ h => h) (Or.inl ⟨by rfl, ?_⟩) (by assumption) ?_
            rotate_left
            · ((intro w hSw); (try dsimp only at hSw); go_simp; (try with_reducible rfl))
            try simp only [Act.put, List.setIfInBounds_toArray, List.set_cons_zero, List.set_cons_succ]
            refine wpAnyH_take (i := 9) (oi := { dst := some 6, op := Op.assign (Operand.tmp 57), type := 9, pos := _, after := #[{ on := 7, ground := Ground.data }, { on := 8, ground := Ground.chain }, { on := 0, ground := Ground.phase }, { on := 1, ground := Ground.phase }, { on := 2, ground := Ground.phase }, { on := 3, ground := Ground.phase }, { on := 4, ground := Ground.phase }, { on := 5, ground := Ground.phase }, { on := 6, ground := Ground.phase }, { on := 7, ground := Ground.phase }, { on := 8, ground := Ground.phase }], guard := none }) (v := ?_) rfl (by kernel_rfl) (by kernel_rfl) (by kernel_rfl) (fun _ _ _ h => h) (Or.inl ⟨by rfl, ?_⟩) (by assumption) ?_
            rotate_left
            · ((intro w hSw); (try dsimp only at hSw); go_simp; (try with_reducible rfl))
            try simp only [Act.put, List.setIfInBounds_toArray, List.set_cons_zero, List.set_cons_succ]
            refine wpAnyH_done (by kernel_rfl) ?_ _
            go_wp2
            go_meet
            exact ⟨rfl, rfl, by go_split_ands; assumption⟩
    case rest =>
      obtain ⟨rfl, rfl, hbc⟩ := hcut
      have HC3 := Lib.hid (cnt_size a a0 (by simp [signB]; omega))
      have hn := strL_size (encZ a)
      have hm := strL_size (encZ b)
      have hna := enc_len a
      have h4a := enc_len4 a
      have h4b := enc_len4 b
      rw [← hna] at HC3
      have HSZ := Lib.hid hna
      clear hna
      have hfr := USgn.front_ne a b
      generalize hA : UBytes.strL (encZ a) = A at *
      generalize hB : UBytes.strL (encZ b) = B at *
      have HA := Lib.hid hA
      have HB := Lib.hid hB
      generalize (encZ a).length = na at *
      generalize (encZ b).length = nb at *
      clear hA hB
      go_wp2
      go_loopw [7, 8] (fun s7 s8 W => ∃ k : Nat, k ≤ 3 ∧ s8 = .int .i64 (k : Int) ∧ s7 = .int .i64 (cnt a k) ∧ Below w.heap.size w W) (fun _ s8 _ => 3 - (intOf s8).toNat)
      case atStart => exact ⟨0, by omega, rfl, rfl, hbc⟩
      case round =>
        obtain ⟨k, hk, rfl, rfl, hW⟩ := hrel
        rcases (show k = 0 ∨ k = 1 ∨ k = 2 ∨ k = 3 by omega) with rfl | rfl | rfl | rfl
        · have hc := cnt_le a 0
          by_cases ht : 128 ≤ a
          · have HX := Lib.hid (show cnt a 1 = cnt a 0 + 1 by show cnt a 0 + (if (128 : Int) ≤ a then 1 else 0) = _; rw [if_pos ht])
            generalize cnt a 0 = c at *
            go_wp2
            go_roundw
            case rel => exact ⟨1, by omega, by go_num, by rw [HX.out], below_al hW⟩
            case measure => simp [intOf]
          · have HX := Lib.hid (show cnt a 1 = cnt a 0 by show cnt a 0 + (if (128 : Int) ≤ a then 1 else 0) = _; rw [if_neg ht, Int.add_zero])
            generalize cnt a 0 = c at *
            go_wp2
            go_roundw
            case rel => exact ⟨1, by omega, by go_num, by rw [HX.out], below_al hW⟩
            case measure => simp [intOf]
        · have hc := cnt_le a 1
          by_cases ht : 2048 ≤ a
          · have HX := Lib.hid (show cnt a 2 = cnt a 1 + 1 by show cnt a 1 + (if (2048 : Int) ≤ a then 1 else 0) = _; rw [if_pos ht])
            generalize cnt a 1 = c at *
            go_wp2
            go_roundw
            case rel => exact ⟨2, by omega, by go_num, by rw [HX.out], below_al hW⟩
            case measure => simp [intOf]
          · have HX := Lib.hid (show cnt a 2 = cnt a 1 by show cnt a 1 + (if (2048 : Int) ≤ a then 1 else 0) = _; rw [if_neg ht, Int.add_zero])
            generalize cnt a 1 = c at *
            go_wp2
            go_roundw
            case rel => exact ⟨2, by omega, by go_num, by rw [HX.out], below_al hW⟩
            case measure => simp [intOf]
        · have hc := cnt_le a 2
          by_cases ht : 65536 ≤ a
          · have HX := Lib.hid (show cnt a 3 = cnt a 2 + 1 by show cnt a 2 + (if (65536 : Int) ≤ a then 1 else 0) = _; rw [if_pos ht])
            generalize cnt a 2 = c at *
            go_wp2
            go_roundw
            case rel => exact ⟨3, by omega, by go_num, by rw [HX.out], below_al hW⟩
            case measure => simp [intOf]
          · have HX := Lib.hid (show cnt a 3 = cnt a 2 by show cnt a 2 + (if (65536 : Int) ≤ a then 1 else 0) = _; rw [if_neg ht, Int.add_zero])
            generalize cnt a 2 = c at *
            go_wp2
            go_roundw
            case rel => exact ⟨3, by omega, by go_num, by rw [HX.out], below_al hW⟩
            case measure => simp [intOf]
        · rw [HC3.out]
          have e1 : ((na : Int) == (na : Int)) = true := by simp
          have F1 : Op.bytesLess A.toList B.toList = decide (a < b) := by rw [← HA.out, ← HB.out]; exact USgn.less_enc a b sa sb
          have F2 : (A.toList == B.toList) = (a == b) := by rw [← HA.out, ← HB.out]; exact USgn.eq_enc a b sa sb
          go_wp2_with fail
          refine (first _).mono ?_
          rintro e w6 ⟨rfl, hb6⟩
          have hB6 := below_next hW hb6
          go_wp2_with fail
          refine (sizeC a w6).mono ?_
          rw [← HSZ.out]
          rintro e w7 ⟨rfl, rfl⟩
          have HFR := Lib.hid hfr
          clear hfr
          by_cases hlt : na < nb
          · have F3 := HFR.out hlt
            go_wp2
            go_ret
            exact ⟨rfl, hB6⟩
          · go_wp2
            go_ret
            exact ⟨rfl, hB6⟩
theorem walk (a b : Int) (W : World) (_w0 : (Lit.int .i32 a).wf = true) (_w1 : (Lit.int .i32 b).wf = true) : Calls Try.prog 7 #[.int .i32 a, .int .i32 b] W fun e w' => e = .returned (.bool true) ∧ Below W.heap.size W w' := by
  by_cases h : a < 0 ∨ 1114111 < a ∨ (55296 ≤ a ∧ a ≤ 57343) ∨ b < 0 ∨ 1114111 < b ∨ (55296 ≤ b ∧ b ≤ 57343)
  · exact out a b W h
  · exact main a b W (by omega) (by omega) (by omega) (by omega) (by omega) (by omega)
end Go.Proofs.Ytlhapnnepcnfbab.UtfSignsW
