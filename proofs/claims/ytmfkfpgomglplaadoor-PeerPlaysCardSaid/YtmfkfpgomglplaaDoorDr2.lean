/- The document's Seal: its answer is a row of its own. -/
import Derived.Test.YtmfkfpgomglplaaDoorDr
set_option linter.unusedVariables false
namespace Go.Proofs.YtmfkfpgomglplaaDoor.Dr2
open Go Go.RowKit Kit Mb Sha Ap Mc1 Sc Mx Sb Pd Su Pa Hm Mm Tg Mf Pk Se Op Pe Ps Pt Oq Pg Ar Dq Db Ds Dh Dk Ms Pz Pb Dp Dr

/-- what Seal answers, as a row. -/
def SrP (X : List Nat) (w : World) (e : Ending) (w' : World) : Prop := ∃ xb xo xc, e = .returned (.tuple #[.slice (some ⟨xb, xo, none⟩) X.length xc, .int .i64 0]) ∧ Rb w' w.heap.size (.slice (some ⟨xb, xo, none⟩) X.length xc) X ∧ Below w.heap.size w w'
set_option maxRecDepth 100000 in
set_option maxHeartbeats 4000000 in
theorem dsealR (D V n : Nat) (a : Option Addr) (m cap : Nat) (l X : List Nat) (ka : Option Addr) (kn kc : Nat) (key : List Nat) (w : World) (hX : X = sealL key D V n l) (hm : m = l.length) (hkn : kn = key.length)
    (h1 : 1 ≤ D) (h2 : D ≤ 2) (h3 : V < 8) (h4 : 1 ≤ n) (h5 : n ≤ 4611686018427387904) (h6 : l.length ≤ 1200)
    (hs : Sl w a l) (h0 : a = none → cap = 0) (hcap : l.length ≤ cap) (hl : ∀ c ∈ l, c < 256)
    (ks : Sl w ka key) (k0 : ka = none → kc = 0) (kcap : key.length ≤ kc) (kl : ∀ c ∈ key, c < 256) (klen : key.length ≤ 800000) :
    Calls Tryd.prog 25 #[.slice ka kn kc, .agg #[.int .i64 (D : Int), .int .i64 (V : Int), .int .u64 (n : Int), .slice a m cap]] w (SrP X w) := by
  have CL := Lib.hid (fun W (h : Below (w.alloc (.cells #[.int .i64 (D : Int), .int .i64 (V : Int), .int .u64 (n : Int), .slice a m cap] 40)).heap.size (w.alloc (.cells #[.int .i64 (D : Int), .int .i64 (V : Int), .int .u64 (n : Int), .slice a m cap] 40)) W) => box1 w W 40 _ _ _ _ h)
  have HB0 := Lib.hid ((Below.refl w.heap.size w).alloc (Nat.le_refl _) (.cells #[.int .i64 (D : Int), .int .i64 (V : Int), .int .u64 (n : Int), .slice a m cap] 40))
  have K := Lib.hid (fun w1 => dmayE (D : Int) (V : Int) n a m cap l w1 true hm (may_num D V n l.length h1 h2 h3 h4 h5 h6))
  obtain ⟨F, hF⟩ : ∃ F, F = frontL D V n 8 := ⟨_, rfl⟩
  obtain ⟨E8, hE8⟩ : ∃ E, E = be8 n := ⟨_, rfl⟩
  obtain ⟨M, hM⟩ : ∃ M, M = pktL D V n l := ⟨_, rfl⟩
  obtain ⟨T, hT⟩ : ∃ T, T = tagL key M := ⟨_, rfl⟩
  have HE8 := Lib.hid hE8
  have HE8P := Lib.hid (show 0 < E8.length by rw [hE8, be8_len]; decide)
  have HE82 := Lib.hid (show ([D, V] : List Nat).length + E8.length ≤ 1000000 by rw [hE8, be8_len]; simp)
  have HFE := Lib.hid (show [D, V] ++ E8 = F by rw [hE8, hF, frontL8])
  have HM := Lib.hid (show M = F ++ l by rw [hM, hF]; rfl)
  have HT := Lib.hid hT
  have HX := Lib.hid (show X = M ++ T by rw [hX, hT, hM]; rfl)
  have HXP := Lib.hid (show 0 < X.length by rw [hX, sealL_len]; omega)
  have HML := Lib.hid hm
  have HKN := Lib.hid hkn
  have HN64 := Lib.hid (show n < 18446744073709551616 by omega)
  have HFL := Lib.hid (show F.length + l.length ≤ 1000000 by have := frontL_len D V n 8; rw [hF]; omega)
  have HMX := Lib.hid (show ∀ c ∈ M, c < 256 by
    rw [hM]; intro c hc
    rcases List.mem_append.1 hc with h | h
    · exact frontL_lt D V n 8 (by omega) (by omega) c h
    · exact hl c h)
  have HM8 := Lib.hid (show M.length ≤ 800000 by rw [hM, pktL_len]; omega)
  have HTL := Lib.hid (show 16 = T.length by rw [hT]; exact (tagL_len _ _).symm)
  have HMT := Lib.hid (show M.length + T.length ≤ 1000000 by rw [← HTL.out, hM, pktL_len]; omega)
  have HA0 := Lib.hid h0
  have HAS := Lib.hid hs
  have HKS := Lib.hid ks
  have HK0 := Lib.hid k0
  have HKC := Lib.hid kcap
  have HKX := Lib.hid kl
  have HK8 := Lib.hid klen
  have e1 : IntKind.u8.wrap (D : Int) = (D : Int) := by rw [IntKind.wrap_u8]; omega
  have e2 : IntKind.u8.wrap (V : Int) = (V : Int) := by rw [IntKind.wrap_u8]; omega
  have e3 : (D : Int) % 256 = (D : Int) := by omega
  have e4 : (V : Int) % 256 = (V : Int) := by omega
  clear hs h0 hcap hl ks k0 kcap kl klen hX hm hkn h1 h2 h3 h4 h5 h6 hF hE8 hM hT
  go_enter Tryd.func25, Tryd.ntmps25
  go_wp2_with (go_at_call 31; (with_reducible refine (K.out _).mono ?_); rintro e w1 ⟨rfl, b1⟩; have HB1 := Lib.hid (below_then HB0.out b1 HB0.out.size); have HQ1 := Lib.hid b1; clear b1)
  have KS := Lib.hid (show ∀ W, Below w1.heap.size w1 W → W.cell? ⟨w.heap.size, 0, none⟩ = some (.int .i64 (D : Int)) ∧ W.cell? ⟨w.heap.size, 1, none⟩ = some (.int .i64 (V : Int)) ∧ W.cell? ⟨w.heap.size, 2, none⟩ = some (.int .u64 (n : Int)) ∧ W.cell? ⟨w.heap.size, 3, none⟩ = some (.slice a m cap) ∧ Below w1.heap.size w1 W from fun W h => by
    obtain ⟨p0, p1, p2, p3⟩ := CL.out _ (below_then HQ1.out h HQ1.out.size)
    exact ⟨p0, p1, p2, p3, h⟩)
  have KB := Lib.hid (show ∀ W, (W.cell? ⟨w.heap.size, 0, none⟩ = some (.int .i64 (D : Int)) ∧ W.cell? ⟨w.heap.size, 1, none⟩ = some (.int .i64 (V : Int)) ∧ W.cell? ⟨w.heap.size, 2, none⟩ = some (.int .u64 (n : Int)) ∧ W.cell? ⟨w.heap.size, 3, none⟩ = some (.slice a m cap) ∧ Below w1.heap.size w1 W) → Below w1.heap.size w1 W from fun W h => h.2.2.2.2)
  have HAS1 := Lib.hid (sl_then HB1.out (Nat.le_refl _) HAS.out)
  have HKS1 := Lib.hid (sl_then HB1.out (Nat.le_refl _) HKS.out)
  clear CL K HQ1
  as_aux_lemma =>
    refine wp_region_held_drew (S := (fun W => W.cell? ⟨w.heap.size, 0, none⟩ = some (.int .i64 (D : Int)) ∧ W.cell? ⟨w.heap.size, 1, none⟩ = some (.int .i64 (V : Int)) ∧ W.cell? ⟨w.heap.size, 2, none⟩ = some (.int .u64 (n : Int)) ∧ W.cell? ⟨w.heap.size, 3, none⟩ = some (.slice a m cap) ∧ Below w1.heap.size w1 W)) (by kernel_rfl) ?_ (fun hHeld => ?_)
    · ((try dsimp only); (first | (with_reducible exact KS.out _ hN) | exact KS.out _ (Below.refl _ _).drew | exact KS.out _ (Below.alloc (KB.out _ hHeld) (KB.out _ hHeld).size _)))
    refine wpAnyH_take (i := 0) (oi := { dst := some 10, op := Op.fieldAddr 40 (Operand.tmp 3) 0, type := 0, pos := _, after := #[], guard := none }) (v := ?_) rfl (by kernel_rfl) (by kernel_rfl) (by kernel_rfl) (fun _ _ _ h => h) (Or.inl ⟨by rfl, ?_⟩) (by assumption) ?_
    rotate_left
    · ((intro w hSw); (try dsimp only at hSw); go_simp; (try with_reducible rfl))
    try simp only [Act.put, List.setIfInBounds_toArray, List.set_cons_zero, List.set_cons_succ]
    refine wpAnyH_take (i := 1) (oi := { dst := some 11, op := Op.load 3 (Operand.tmp 10), type := 3, pos := _, after := #[{ on := 0, ground := Ground.data }], guard := none }) (v := ?_) rfl (by kernel_rfl) (by kernel_rfl) (by kernel_rfl) (fun _ _ _ h => h) (Or.inl ⟨by rfl, ?_⟩) (by assumption) ?_
    rotate_left
    · ((intro w hSw); (try dsimp only at hSw); go_simp; (try with_reducible rfl))
    try simp only [Act.put, List.setIfInBounds_toArray, List.set_cons_zero, List.set_cons_succ]
    refine wpAnyH_take (i := 2) (oi := { dst := some 12, op := Op.convert 3 5 (Operand.tmp 11), type := 5, pos := _, after := #[{ on := 1, ground := Ground.data }], guard := none }) (v := ?_) rfl (by kernel_rfl) (by kernel_rfl) (by kernel_rfl) (fun _ _ _ h => h) (Or.inl ⟨by rfl, ?_⟩) (by assumption) ?_
    rotate_left
    · ((intro w hSw); (try dsimp only at hSw); go_simp; (try with_reducible rfl))
    try simp only [Act.put, List.setIfInBounds_toArray, List.set_cons_zero, List.set_cons_succ]
    refine wpAnyH_take (i := 3) (oi := { dst := some 13, op := Op.fieldAddr 40 (Operand.tmp 3) 1, type := 0, pos := _, after := #[], guard := none }) (v := ?_) rfl (by kernel_rfl) (by kernel_rfl) (by kernel_rfl) (fun _ _ _ h => h) (Or.inl ⟨by rfl, ?_⟩) (by assumption) ?_
    rotate_left
    · ((intro w hSw); (try dsimp only at hSw); go_simp; (try with_reducible rfl))
    try simp only [Act.put, List.setIfInBounds_toArray, List.set_cons_zero, List.set_cons_succ]
    refine wpAnyH_take (i := 4) (oi := { dst := some 14, op := Op.load 3 (Operand.tmp 13), type := 3, pos := _, after := #[{ on := 3, ground := Ground.data }], guard := none }) (v := ?_) rfl (by kernel_rfl) (by kernel_rfl) (by kernel_rfl) (fun _ _ _ h => h) (Or.inl ⟨by rfl, ?_⟩) (by assumption) ?_
    rotate_left
    · ((intro w hSw); (try dsimp only at hSw); go_simp; (try with_reducible rfl))
    try simp only [Act.put, List.setIfInBounds_toArray, List.set_cons_zero, List.set_cons_succ]
    refine wpAnyH_take (i := 5) (oi := { dst := some 15, op := Op.convert 3 5 (Operand.tmp 14), type := 5, pos := _, after := #[{ on := 4, ground := Ground.data }], guard := none }) (v := ?_) rfl (by kernel_rfl) (by kernel_rfl) (by kernel_rfl) (fun _ _ _ h => h) (Or.inl ⟨by rfl, ?_⟩) (by assumption) ?_
    rotate_left
    · ((intro w hSw); (try dsimp only at hSw); go_simp; (try with_reducible rfl))
    try simp only [Act.put, List.setIfInBounds_toArray, List.set_cons_zero, List.set_cons_succ]
    refine wpAnyH_take (i := 7) (oi := { dst := some 17, op := Op.fieldAddr 40 (Operand.tmp 3) 2, type := 0, pos := _, after := #[], guard := none }) (v := ?_) rfl (by kernel_rfl) (by kernel_rfl) (by kernel_rfl) (fun _ _ _ h => h) (Or.inl ⟨by rfl, ?_⟩) (by assumption) ?_
    rotate_left
    · ((intro w hSw); (try dsimp only at hSw); go_simp; (try with_reducible rfl))
    try simp only [Act.put, List.setIfInBounds_toArray, List.set_cons_zero, List.set_cons_succ]
    refine wpAnyH_take (i := 8) (oi := { dst := some 18, op := Op.load 33 (Operand.tmp 17), type := 33, pos := _, after := #[{ on := 7, ground := Ground.data }], guard := none }) (v := ?_) rfl (by kernel_rfl) (by kernel_rfl) (by kernel_rfl) (fun _ _ _ h => h) (Or.inl ⟨by rfl, ?_⟩) (by assumption) ?_
    rotate_left
    · ((intro w hSw); (try dsimp only at hSw); go_simp; (try with_reducible rfl))
    try simp only [Act.put, List.setIfInBounds_toArray, List.set_cons_zero, List.set_cons_succ]
    refine wpAnyH_ready (rs := [6, 9]) (by kernel_rfl) (by simp) ?_
    refine (AllReadyH.cons (o := { dst := some 16, op := Op.buildSlice 22 2 #[(0, Operand.tmp 12), (1, Operand.tmp 15)], type := 22, pos := _, after := #[{ on := 2, ground := Ground.data }, { on := 5, ground := Ground.data }], guard := none }) rfl (fun K hK => ?_) (AllReadyH.cons (o := { dst := some 19, op := Op.call { callee := Callee.value (Operand.func 51), args := #[Operand.tmp 18], argTypes := #[33] }, type := 22, pos := _, after := #[{ on := 8, ground := Ground.data }], guard := none }) rfl (fun K hK => ?_) AllReadyH.nil))
    · skip
      go_simp
      refine hK.out _ _ ?_ (fun hHeld => ?_)
      · ((try dsimp only); (first | (with_reducible exact KS.out _ hN) | exact KS.out _ (Below.refl _ _).drew | exact KS.out _ (Below.alloc (KB.out _ hHeld) (KB.out _ hHeld).size _)))
      clear hK K
      try simp only [Act.put, List.setIfInBounds_toArray, List.set_cons_zero, List.set_cons_succ]
      refine wpAnyH_ready (rs := [9]) (by kernel_rfl) (by simp) ?_
      refine (AllReadyH.cons (o := { dst := some 19, op := Op.call { callee := Callee.value (Operand.func 51), args := #[Operand.tmp 18], argTypes := #[33] }, type := 22, pos := _, after := #[{ on := 8, ground := Ground.data }], guard := none }) rfl (fun K hK => ?_) AllReadyH.nil)
      go_simp
      go_at_call 51
      refine (eightC n _ HN64.out).mono ?_
      rintro e w9 ⟨v9, rfl, o9, b9⟩
      rw [← HE8.out] at o9
      obtain ⟨ea, ec, rfl, _, he9, hz9, _⟩ := rb_sl o9
      obtain ⟨eb, eo, rfl, _⟩ := sl_at he9 HE8P.out
      have HES := Lib.hid he9
      have hN := below_then (KB.out _ hHeld) b9 (KB.out _ hHeld).size
      have HR16 := Lib.hid (rb_then (show Rb ((w1.alloc (.cells #[.int .u8 (D : Int), .int .u8 (V : Int)] 5)).drew) w1.heap.size (.slice (some ⟨w1.heap.size, 0, none⟩) 2 2) [D, V] from row2 w1 D V) b9 (Nat.le_refl _))
      clear o9 b9 he9 hz9
      go_wp2_with fail
      refine hK.out _ _ ?_ (fun hHeld => ?_)
      · ((try dsimp only); (first | (with_reducible exact KS.out _ hN) | exact KS.out _ (Below.refl _ _).drew | exact KS.out _ (Below.alloc (KB.out _ hHeld) (KB.out _ hHeld).size _)))
      clear hK K
      try simp only [Act.put, List.setIfInBounds_toArray, List.set_cons_zero, List.set_cons_succ]
      refine wpAnyH_ready (rs := [10]) (by kernel_rfl) (by simp) ?_
      refine (AllReadyH.cons (o := { dst := some 20, op := Op.call { callee := Callee.builtin Builtin.append, args := #[Operand.tmp 16, Operand.tmp 19], argTypes := #[22, 22] }, type := 22, pos := _, after := #[{ on := 6, ground := Ground.data }, { on := 9, ground := Ground.data }, { on := 9, ground := Ground.chain }], guard := none }) rfl (fun K hK => ?_) AllReadyH.nil)
      refine wp_app_sl (.tmp 16) (.tmp 19) rfl w1.heap.size _ [D, V] rfl HR16.out _ E8.length ec E8 rfl rfl HES.out HE82.out hN.size ?_
      intro v10 w10 o10 b10
      have hN2 := b10 _ _ (Nat.le_refl _) hN
      clear hN
      have hN := hN2
      clear hN2
      rw [HFE.out] at o10
      have HO10 := Lib.hid o10
      clear o10 b10
      refine hK.out _ _ ?_ (fun hHeld => ?_)
      · ((try dsimp only); (first | (with_reducible exact KS.out _ hN) | exact KS.out _ (Below.refl _ _).drew | exact KS.out _ (Below.alloc (KB.out _ hHeld) (KB.out _ hHeld).size _)))
      clear hK K
      try simp only [Act.put, List.setIfInBounds_toArray, List.set_cons_zero, List.set_cons_succ]
      refine wpAnyH_take (i := 11) (oi := { dst := some 6, op := Op.assign (Operand.tmp 20), type := 22, pos := _, after := #[{ on := 10, ground := Ground.data }, { on := 10, ground := Ground.chain }, { on := 0, ground := Ground.phase }, { on := 1, ground := Ground.phase }, { on := 2, ground := Ground.phase }, { on := 3, ground := Ground.phase }, { on := 4, ground := Ground.phase }, { on := 5, ground := Ground.phase }, { on := 6, ground := Ground.phase }, { on := 7, ground := Ground.phase }, { on := 8, ground := Ground.phase }, { on := 9, ground := Ground.phase }, { on := 10, ground := Ground.phase }], guard := none }) (v := ?_) rfl (by kernel_rfl) (by kernel_rfl) (by kernel_rfl) (fun _ _ _ h => h) (Or.inl ⟨by rfl, ?_⟩) (by assumption) ?_
      rotate_left
      · ((intro w hSw); (try dsimp only at hSw); go_simp; (try with_reducible rfl))
      try simp only [Act.put, List.setIfInBounds_toArray, List.set_cons_zero, List.set_cons_succ]
      refine wpAnyH_done (by kernel_rfl) ?_ _
      have HBN := Lib.hid hN
      obtain ⟨p0, p1, p2, p3, _⟩ := KS.out _ hN
      clear hN HES
      as_aux_lemma =>
        clear p0 p1 p2
        go_wp2_with (first
          | (at_builtin; refine app_sl rfl _ _ rfl w1.heap.size _ F rfl HO10.out a m cap l rfl HML.out HA0.out (sl_then HBN.out (Nat.le_refl _) HAS1.out) HFL.out HBN.out.size ?_; intro v11 w11 o11 b11; rw [← HM.out] at o11; have HB11 := Lib.hid (b11 _ _ (Nat.le_refl _) HBN.out); have HO11 := Lib.hid o11; obtain ⟨ma, mc, rfl, hmc, hms, hm0, _⟩ := rb_sl o11; have HMC := Lib.hid hmc; have HMS := Lib.hid hms; have HM0 := Lib.hid hm0; clear o11 b11 hmc hms hm0)
          | (go_at_call 21; (with_reducible refine (dtgK ka kn kc key T ma M.length mc M w11 HT.out HKN.out rfl (sl_then HB11.out (Nat.le_refl _) HKS1.out) HK0.out HKC.out HKX.out HK8.out HMS.out HM0.out HMC.out HMX.out HM8.out).mono ?_); rintro e w12 ⟨ta, tc, rfl, q1, _, q3, b12⟩; have HTS := Lib.hid q1; have HT0 := Lib.hid q3; have HO12 := Lib.hid (rb_then HO11.out b12 (Nat.le_refl _)); have HB12 := Lib.hid (below_then HB11.out b12 HB11.out.size); clear q1 q3 b12)
          | (at_builtin; refine app_sl rfl _ _ rfl w1.heap.size _ M rfl HO12.out ta 16 tc T rfl HTL.out HT0.out HTS.out HMT.out HB12.out.size ?_; intro v13 w13 o13 b13; rw [← HX.out] at o13; have HB13 := Lib.hid (b13 _ _ (Nat.le_refl _) HB12.out); have HO13 := Lib.hid o13; clear o13 b13))
        obtain ⟨xa, xc, rfl, q1, q2, q3, q4⟩ := rb_sl HO13.out
        obtain ⟨xb, xo, rfl, _⟩ := sl_at q2 HXP.out
        have HXX := Lib.hid (show SrP X w (.returned (.tuple #[.slice (some ⟨xb, xo, none⟩) X.length xc, .int .i64 0])) w13 from ⟨xb, xo, xc, rfl, rb_base HO13.out HB1.out.size, below_then HB1.out HB13.out HB1.out.size⟩)
        clear q1 q2 q3 q4
        go_ret2
        exact HXX.out
    · skip
      go_simp
      go_at_call 51
      refine (eightC n _ HN64.out).mono ?_
      rintro e w9 ⟨v9, rfl, o9, b9⟩
      rw [← HE8.out] at o9
      obtain ⟨ea, ec, rfl, _, he9, hz9, _⟩ := rb_sl o9
      obtain ⟨eb, eo, rfl, _⟩ := sl_at he9 HE8P.out
      have HES := Lib.hid he9
      have hN := below_then (KB.out _ hHeld) b9 (KB.out _ hHeld).size
      clear o9 b9 he9 hz9
      go_wp2_with fail
      refine hK.out _ _ ?_ (fun hHeld => ?_)
      · ((try dsimp only); (first | (with_reducible exact KS.out _ hN) | exact KS.out _ (Below.refl _ _).drew | exact KS.out _ (Below.alloc (KB.out _ hHeld) (KB.out _ hHeld).size _)))
      clear hK K
      try simp only [Act.put, List.setIfInBounds_toArray, List.set_cons_zero, List.set_cons_succ]
      refine wpAnyH_ready (rs := [6]) (by kernel_rfl) (by simp) ?_
      refine (AllReadyH.cons (o := { dst := some 16, op := Op.buildSlice 22 2 #[(0, Operand.tmp 12), (1, Operand.tmp 15)], type := 22, pos := _, after := #[{ on := 2, ground := Ground.data }, { on := 5, ground := Ground.data }], guard := none }) rfl (fun K hK => ?_) AllReadyH.nil)
      go_simp
      refine hK.out _ _ ?_ (fun hHeld => ?_)
      · ((try dsimp only); (first | (with_reducible exact KS.out _ hN) | exact KS.out _ (Below.refl _ _).drew | exact KS.out _ (Below.alloc (KB.out _ hHeld) (KB.out _ hHeld).size _)))
      clear hK K
      try simp only [Act.put, List.setIfInBounds_toArray, List.set_cons_zero, List.set_cons_succ]
      refine wpAnyH_ready (rs := [10]) (by kernel_rfl) (by simp) ?_
      refine (AllReadyH.cons (o := { dst := some 20, op := Op.call { callee := Callee.builtin Builtin.append, args := #[Operand.tmp 16, Operand.tmp 19], argTypes := #[22, 22] }, type := 22, pos := _, after := #[{ on := 6, ground := Ground.data }, { on := 9, ground := Ground.data }, { on := 9, ground := Ground.chain }], guard := none }) rfl (fun K hK => ?_) AllReadyH.nil)
      refine wp_app_sl (.tmp 16) (.tmp 19) rfl w1.heap.size _ [D, V] rfl (rb_base (row2 w9 D V) hN.size) _ E8.length ec E8 rfl rfl (sl_alloc HES.out _) HE82.out (Nat.le_trans hN.size (by simp)) ?_
      intro v10 w10 o10 b10
      have hN2 := b10 _ _ (Nat.le_refl _) (hN.alloc hN.size _)
      clear hN
      have hN := hN2
      clear hN2
      rw [HFE.out] at o10
      have HO10 := Lib.hid o10
      clear o10 b10
      refine hK.out _ _ ?_ (fun hHeld => ?_)
      · ((try dsimp only); (first | (with_reducible exact KS.out _ hN) | exact KS.out _ (Below.refl _ _).drew | exact KS.out _ (Below.alloc (KB.out _ hHeld) (KB.out _ hHeld).size _)))
      clear hK K
      try simp only [Act.put, List.setIfInBounds_toArray, List.set_cons_zero, List.set_cons_succ]
      refine wpAnyH_take (i := 11) (oi := { dst := some 6, op := Op.assign (Operand.tmp 20), type := 22, pos := _, after := #[{ on := 10, ground := Ground.data }, { on := 10, ground := Ground.chain }, { on := 0, ground := Ground.phase }, { on := 1, ground := Ground.phase }, { on := 2, ground := Ground.phase }, { on := 3, ground := Ground.phase }, { on := 4, ground := Ground.phase }, { on := 5, ground := Ground.phase }, { on := 6, ground := Ground.phase }, { on := 7, ground := Ground.phase }, { on := 8, ground := Ground.phase }, { on := 9, ground := Ground.phase }, { on := 10, ground := Ground.phase }], guard := none }) (v := ?_) rfl (by kernel_rfl) (by kernel_rfl) (by kernel_rfl) (fun _ _ _ h => h) (Or.inl ⟨by rfl, ?_⟩) (by assumption) ?_
      rotate_left
      · ((intro w hSw); (try dsimp only at hSw); go_simp; (try with_reducible rfl))
      try simp only [Act.put, List.setIfInBounds_toArray, List.set_cons_zero, List.set_cons_succ]
      refine wpAnyH_done (by kernel_rfl) ?_ _
      have HBN := Lib.hid hN
      obtain ⟨p0, p1, p2, p3, _⟩ := KS.out _ hN
      clear hN HES
      as_aux_lemma =>
        clear p0 p1 p2
        go_wp2_with (first
          | (at_builtin; refine app_sl rfl _ _ rfl w1.heap.size _ F rfl HO10.out a m cap l rfl HML.out HA0.out (sl_then HBN.out (Nat.le_refl _) HAS1.out) HFL.out HBN.out.size ?_; intro v11 w11 o11 b11; rw [← HM.out] at o11; have HB11 := Lib.hid (b11 _ _ (Nat.le_refl _) HBN.out); have HO11 := Lib.hid o11; obtain ⟨ma, mc, rfl, hmc, hms, hm0, _⟩ := rb_sl o11; have HMC := Lib.hid hmc; have HMS := Lib.hid hms; have HM0 := Lib.hid hm0; clear o11 b11 hmc hms hm0)
          | (go_at_call 21; (with_reducible refine (dtgK ka kn kc key T ma M.length mc M w11 HT.out HKN.out rfl (sl_then HB11.out (Nat.le_refl _) HKS1.out) HK0.out HKC.out HKX.out HK8.out HMS.out HM0.out HMC.out HMX.out HM8.out).mono ?_); rintro e w12 ⟨ta, tc, rfl, q1, _, q3, b12⟩; have HTS := Lib.hid q1; have HT0 := Lib.hid q3; have HO12 := Lib.hid (rb_then HO11.out b12 (Nat.le_refl _)); have HB12 := Lib.hid (below_then HB11.out b12 HB11.out.size); clear q1 q3 b12)
          | (at_builtin; refine app_sl rfl _ _ rfl w1.heap.size _ M rfl HO12.out ta 16 tc T rfl HTL.out HT0.out HTS.out HMT.out HB12.out.size ?_; intro v13 w13 o13 b13; rw [← HX.out] at o13; have HB13 := Lib.hid (b13 _ _ (Nat.le_refl _) HB12.out); have HO13 := Lib.hid o13; clear o13 b13))
        obtain ⟨xa, xc, rfl, q1, q2, q3, q4⟩ := rb_sl HO13.out
        obtain ⟨xb, xo, rfl, _⟩ := sl_at q2 HXP.out
        have HXX := Lib.hid (show SrP X w (.returned (.tuple #[.slice (some ⟨xb, xo, none⟩) X.length xc, .int .i64 0])) w13 from ⟨xb, xo, xc, rfl, rb_base HO13.out HB1.out.size, below_then HB1.out HB13.out HB1.out.size⟩)
        clear q1 q2 q3 q4
        go_ret2
        exact HXX.out

end Go.Proofs.YtmfkfpgomglplaaDoor.Dr2
