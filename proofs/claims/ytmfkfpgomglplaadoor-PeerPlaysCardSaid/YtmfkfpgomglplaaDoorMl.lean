/- MacLong: in many parts. -/
import Derived.Test.YtmfkfpgomglplaaDoorMs
import Derived.Test.YtmfkfpgomglplaaDoorMu
import Derived.Test.YtmfkfpgomglplaaDoorPv
import Derived.Deep.CutRange
set_option linter.unusedVariables false
namespace Go.Proofs.YtmfkfpgomglplaaDoor.Ml
open Go Go.RowKit Kit Mb Sha Ap Mc1 Sc Mx Sb Pd Su Pa Hm Mm Tg Mf Pk Se Op Ar Mz Mu Dq Db Ds Dh Ms Pv


theorem sl_of {w : World} {b o : Nat} {l : List Nat} (h : Cells w b o l) : Sl w (some ⟨b, o, none⟩) l := .inr ⟨b, o, rfl, h⟩
theorem hmacN (ka : Option Addr) (kc : Nat) (key H : List Nat) (ba : Option Addr) (n bc g : Nat) (B : List Nat) (w : World) (hH : H = hmac key B) (hn : n = B.length) (hg : g = w.heap.size) (ks : Sl w ka key) (k0 : ka = none → kc = 0) (kcap : key.length ≤ kc) (kl : ∀ c ∈ key, c < 256) (klen : key.length ≤ 800000)
    (bs : Sl w ba B) (b0 : ba = none → bc = 0) (bcap : B.length ≤ bc) (bl : ∀ c ∈ B, c < 256) (blen : B.length ≤ 800000) (hT : TabR w) (hB : TabB w) :
    Calls Tryd.prog 18 #[.slice ka key.length kc, .slice (some ⟨g, 0, none⟩) 1 1] (w.alloc (.cells #[.slice ba n bc] 22)) fun e w' => ∃ hb ho hc, e = .returned (.slice (some ⟨hb, ho, none⟩) 32 hc) ∧ Cells w' hb ho H ∧ 32 ≤ hc ∧ Below w.heap.size w w' := by
  subst hn; exact hmacA ka kc key H ba bc g B w hH hg ks k0 kcap kl klen bs b0 bcap bl blen hT hB
theorem ret_i {a b : Int} (h : a = b) : Value.int .i64 a = .int .i64 b := by rw [h]
/-- a row of parts, of one's own. -/
def Rp (w : World) (base : Nat) (v : Value) (ps : List Part) : Prop := w.ownsRow base 22 1 v ps.length (ps.map Part.v)
theorem rp_nil (w : World) (base : Nat) : Rp w base (.slice none 0 0) [] := World.ownsRow_nil _ _ _ _
theorem rp_alloc {w : World} {base : Nat} {v : Value} {ps : List Part} (h : Rp w base v ps) (o : Obj) : Rp (w.alloc o) base v ps := World.ownsRow.alloc h o
theorem app_rp {ops : Array Oper} {rest : List Oper} {o : Oper} {a : Act} {Q : Exit → Act → World → Prop} {w : World} (hgd : o.guard = none) (s x : Operand)
    (ho : o.op = .call { callee := .builtin .append, args := #[s, x], argTypes := #[31, 31] }) (base : Nat) (v : Value) (ps : List Part) (hs : a.eval s = v) (hown : Rp w base v ps)
    (b : Nat) (p : Part) (hx : a.eval x = .slice (some ⟨b, 0, none⟩) 1 1) (hc : w.cell? ⟨b, 0, none⟩ = some p.v) (hlen : ps.length ≤ 1000) (hbase : base ≤ w.heap.size)
    (h : ∀ v' w', Rp w' base v' (ps ++ [p]) → (∀ B W0, B ≤ base → Below B W0 w → Below B W0 w') → wpList Tryd.prog ops Q rest (a.put o.dst v') w') : wpList Tryd.prog ops Q (o :: rest) a w := by
  obtain ⟨i0, hi, hz0, hz1, hz2⟩ := info_parts info22
  refine wpList_append_own w hgd s x 31 ho base 22 i0 (.slice none 0 0) 1 24 Tryd.underlying31 hi hz0 hz1 hz2 rfl (by decide) v _ _ hs hown ⟨b, 0, none⟩ 1 1 [p.v] hx rfl ?_ (by simp [Part.v, Value.oneCell']) (by unfold maxLen; omega) (by omega) hbase ?_
  · intro j u hu
    obtain rfl : j = 0 := by
      rcases Nat.eq_zero_or_pos j with h | h
      · exact h
      · rw [List.getElem?_eq_none (by simp; omega)] at hu; cases hu
    simp at hu; subst hu
    exact hc
  · intro v' w' h2 h3 _
    refine h v' w' ?_ (fun B W0 hB hb => hb.grown h3 (Nat.le_trans hB hbase) (fun j hj => Nat.le_trans hB (hown.lt j hj).1))
    unfold Rp; rw [List.map_append, List.length_append]; exact h2
theorem rp_pts {w : World} {base : Nat} {v : Value} {ps : List Part} (h : Rp w base v ps) (hp : ∀ p ∈ ps, Pt w p) : ∃ a cap, v = .slice a ps.length cap ∧ Pts w a ps := by
  rcases h.2 with ⟨rfl, hn⟩ | ⟨g, cap, cur, rfl, hb, hg, hnc, _, hcs, htake⟩
  · have : ps = [] := List.eq_nil_of_length_eq_zero hn
    subst this
    exact ⟨none, 0, rfl, .inl rfl, hp⟩
  · refine ⟨_, cap, rfl, .inr ⟨g, 0, rfl, fun i hi => ?_⟩, hp⟩
    have hu : (ps.map Part.v)[i]? = some ps[i].v := by simp [hi]
    have := h.cells (g := g) rfl i _ hu
    have hadd : (⟨g, 0, none⟩ : Addr).add i = ⟨g, i, none⟩ := by unfold Addr.add; split <;> simp_all
    rw [hadd] at this
    rw [Nat.zero_add]; exact this

theorem wp_rp {o : Oper} {a : Act} {K : Act → World → Prop} {Q : Exit → Act → World → Prop} {w : World} (s x : Operand)
    (ho : o.op = .call { callee := .builtin .append, args := #[s, x], argTypes := #[31, 31] }) (base : Nat) (v : Value) (ps : List Part) (hs : a.eval s = v) (hown : Rp w base v ps)
    (b : Nat) (p : Part) (hx : a.eval x = .slice (some ⟨b, 0, none⟩) 1 1) (u : Value) (hc : w.cell? ⟨b, 0, none⟩ = some u) (hu : u = p.v) (hlen : ps.length ≤ 1000) (hbase : base ≤ w.heap.size)
    (h : ∀ v' w', Rp w' base v' (ps ++ [p]) → (∀ B W0, B ≤ base → Below B W0 w → Below B W0 w') → K (a.put o.dst v') w') : o.wp Tryd.prog a w K Q := by
  subst hu
  obtain ⟨i0, hi, hz0, hz1, hz2⟩ := info_parts info22
  refine wp_append_own w s x 31 ho base 22 i0 (.slice none 0 0) 1 24 Tryd.underlying31 hi hz0 hz1 hz2 rfl (by decide) v _ _ hs hown ⟨b, 0, none⟩ 1 1 [p.v] hx rfl ?_ (by simp [Part.v, Value.oneCell']) (by unfold maxLen; omega) (by omega) hbase ?_
  · intro j u hu
    obtain rfl : j = 0 := by
      rcases Nat.eq_zero_or_pos j with h | h
      · exact h
      · rw [List.getElem?_eq_none (by simp; omega)] at hu; cases hu
    simp at hu; subst hu
    exact hc
  · intro v' w' h2 h3 _
    refine h v' w' ?_ (fun B W0 hB hb => hb.grown h3 (Nat.le_trans hB hbase) (fun j hj => Nat.le_trans hB (hown.lt j hj).1))
    unfold Rp; rw [List.map_append, List.length_append]; exact h2
theorem catP_snoc (ps : List Part) (p : Part) : catP (ps ++ [p]) = catP ps ++ p.l := by simp [catP]
theorem part_next {w : World} {ra : Option Addr} {rc : Nat} {R : List Nat} (h : Pt w ⟨ra, rc, R⟩) (N : Nat) (hN : N ≤ R.length) :
    ∃ x1 y1 x2 y2, (∀ w1 : World, (Instr.sliceAt 22 (.slice ra R.length rc) none (some (.int .i64 (N : Int))) none).run Tryd.prog w1 = .ok (.slice x1 N y1) w1) ∧
      (∀ w1 : World, (Instr.sliceAt 22 (.slice ra R.length rc) (some (.int .i64 (N : Int))) none none).run Tryd.prog w1 = .ok (.slice x2 (R.length - N) y2) w1) ∧ Pt w ⟨x1, y1, R.take N⟩ ∧ Pt w ⟨x2, y2, R.drop N⟩ := by
  obtain ⟨hs, h0, hc, hl⟩ := h
  obtain ⟨x1, y1, e1, s1, l1, z1, _⟩ := sub_val hs h0 hc 0 N (Nat.zero_le _) hN
  obtain ⟨x2, y2, e2, s2, l2, z2, _⟩ := sub_val hs h0 hc N R.length hN (Nat.le_refl _)
  refine ⟨x1, y1, x2, y2, fun w1 => ?_, fun w1 => ?_, ⟨?_, z1, ?_, fun c hc => hl c (List.mem_of_mem_take hc)⟩, ⟨?_, z2, ?_, fun c hc => hl c (List.mem_of_mem_drop hc)⟩⟩
  · rw [run_sub ra R.length rc none (some (.int .i64 (N : Int))) 0 N w1 lo_none (hi_some rfl) (Nat.zero_le _) hN hc, e1]; rfl
  · rw [run_sub ra R.length rc (some (.int .i64 (N : Int))) none N R.length w1 (lo_some rfl) (hi_none _) hN (Nat.le_refl _) hc, e2]
  · simpa using s1
  · show (R.take N).length ≤ y1
    rw [List.length_take]; omega
  · show Sl w x2 (R.drop N)
    rwa [List.take_of_length_le (by simp)] at s2
  · show (R.drop N).length ≤ y2
    rw [List.length_drop]; exact l2
/-- a row of one's own, where a byte is turned. -/
theorem rb_own {w : World} {base : Nat} {v : Value} {l : List Nat} (h : Rb w base v l) (hl : 0 < l.length) : ∃ g cap, v = .slice (some ⟨g, 0, none⟩) l.length cap ∧ l.length ≤ cap ∧ base ≤ g ∧ (∀ k, (hk : k < l.length) → w.cell? ⟨g, k, none⟩ = some (.int .u8 ((l[k] : Nat) : Int))) ∧ (∀ k, w.frozen? ⟨g, k, none⟩ = false) ∧
    ∀ k c, Rb (w.setCell ⟨g, k, none⟩ (.int .u8 ((c : Nat) : Int))) base (.slice (some ⟨g, 0, none⟩) l.length cap) (l.set k c) := by
  rcases h.2 with ⟨_, hn⟩ | ⟨g, cap, cur, rfl, hb, hg, hnc, _, hcs, htake⟩
  · omega
  · refine ⟨g, cap, rfl, hnc, hb, fun k hk => ?_, fun k => frozen_of_row w g k _ 5 hg, fun k c => ?_⟩
    · have hu : (cellsOf l)[k]? = some (.int .u8 ((l[k] : Nat) : Int)) := by simp [cellsOf, hk]
      have := h.cells (g := g) rfl k _ hu
      have hadd : (⟨g, 0, none⟩ : Addr).add k = ⟨g, k, none⟩ := by unfold Addr.add; split <;> simp_all
      rw [hadd] at this; exact this
    · exact rb_of (own_set h (k := k) (u := .int .u8 (c : Int))) (by simp) (by simp [cellsOf, List.map_set])
theorem tmod_nat (a n : Nat) : (a : Int).tmod (n : Int) = ((a % n : Nat) : Int) := by rw [Int.tmod_eq_emod_of_nonneg (by omega)]; simp
theorem stepB {W w1 w2 : World} (h : Below W.heap.size W w1) (o : Obj) (b : Below w1.heap.size w1 w2) : Below W.heap.size W w2 := below_then h b h.size

set_option maxRecDepth 100000 in
set_option maxHeartbeats 4000000 in
theorem longIn (ka : Option Addr) (kc : Nat) (key : List Nat) (aa : Option Addr) (ac : Nat) (A : List Nat) (ca : Option Addr) (cc : Nat) (zs : List Int) (at_ x : Nat) (w : World) (ks : Sl w ka key) (k0 : ka = none → kc = 0) (kcap : key.length ≤ kc) (kl : ∀ c ∈ key, c < 256) (kn : key.length ≤ 1000)
    (aS : Sl w aa A) (a0 : aa = none → ac = 0) (acap : A.length ≤ ac) (al : ∀ c ∈ A, c < 256) (an : A.length ≤ 2000) (cS : Is w ca zs) (cn : zs.length ≤ 40) (hx0 : 0 < x) (hx : x < 256) (hat : at_ < 9223372036854775808) (hT : TabR w) (hB : TabB w) :
    Calls Tryd.prog 5 #[.slice ka key.length kc, .slice aa A.length ac, .slice ca zs.length cc, .int .i64 (at_ : Int), .int .u8 (x : Int)] w fun e w' => e = .returned (.bool true) ∧ Below w.heap.size w w' := by
  have HKS := Lib.hid ks
  have HK0 := Lib.hid k0
  have HKC := Lib.hid kcap
  have HKX := Lib.hid kl
  have HK8 := Lib.hid (show key.length ≤ 800000 by omega)
  have HAS := Lib.hid aS
  have HA0 := Lib.hid a0
  have HAC := Lib.hid acap
  have HAX := Lib.hid al
  have HA8 := Lib.hid (show A.length ≤ 800000 by omega)
  have HAM := Lib.hid (show A.length ≤ 1000000 by omega)
  have HA2 := Lib.hid an
  have HCS := Lib.hid cS
  have HCL := Lib.hid cn
  have HT := Lib.hid hT
  have HB := Lib.hid hB
  have t1 : ¬ 1000 < (key.length : Int) := by omega
  have d1 : decide (1000 < (key.length : Int)) = false := decide_eq_false t1
  have d2 : decide (2000 < (A.length : Int)) = false := decide_eq_false (by omega)
  have d3 : decide (40 < (zs.length : Int)) = false := decide_eq_false (by omega)
  have d4 : decide ((at_ : Int) < 0) = false := decide_eq_false (by omega)
  have t2 : ¬ 2000 < (A.length : Int) := by omega
  have t3 : ¬ 40 < (zs.length : Int) := by omega
  have t4 : ¬ (at_ : Int) < 0 := by omega
  have t5 : ((x : Int) == 0) = false := by rw [beq_eq_false_iff_ne]; omega
  have HXX := Lib.hid (And.intro hx0 hx)
  have HATT := Lib.hid hat
  clear ks k0 kcap kl aS a0 acap al cS hT hB kn an cn hx0 hx hat
  go_enter Tryd.func5, Tryd.ntmps5
  go_wp2_with (first
    | (go_at_call 13; (with_reducible refine (first w HT.out HB.out).mono ?_); rintro e w1 ⟨rfl, b1⟩; have HB1 := Lib.hid b1; clear b1))
  try simp only [d1, d2, d3, d4, Bool.or_self]
  clear t1 t2 t3 t4 t5 d1 d2 d3 d4
  as_aux_lemma =>
    go_loopw [11, 12, 13] (fun s11 s12 s13 wr => ∃ (i : Nat) (ps : List Part) (ra : Option Addr) (rc : Nat) (R : List Nat), i ≤ zs.length ∧ s13 = .int .i64 (i : Int) ∧ s12 = .slice ra R.length rc ∧ Rp wr w1.heap.size s11 ps ∧ ps.length = i ∧ (∀ p ∈ ps, Pt w p) ∧ Pt w ⟨ra, rc, R⟩ ∧ catP ps ++ R = A ∧ Below w1.heap.size w1 wr) (fun _ _ s13 _ => zs.length - (intOf s13).toNat)
    case atStart => exact ⟨0, [], aa, ac, A, Nat.zero_le _, rfl, rfl, rp_nil _ _, rfl, (fun p hp => by cases hp), ⟨HAS.out, HA0.out, HAC.out, HAX.out⟩, rfl, Below.refl _ _⟩
    case round =>
      obtain ⟨i, ps, ra, rc, R, hi, rfl, rfl, hR, hl, hps, hpr, hcat, hB⟩ := hrel
      by_cases hlt : i < zs.length
      · obtain ⟨cb, co, rfl, hcell⟩ := HCS.out.at_ hlt
        have c0 : wr.cell? ⟨cb, co + i, none⟩ = some (.int .i64 zs[i]) := cell_then (below_then HB1.out hB HB1.out.size) (Nat.le_refl _) (hcell i hlt)
        generalize zs[i] = c at *
        have HRR := Lib.hid hR
        have HPS := Lib.hid hps
        have HPR := Lib.hid hpr
        have HCAT := Lib.hid hcat
        have HBB := Lib.hid hB
        have HL := Lib.hid hl
        clear hR hps hpr hcat hB hl hcell
        obtain ⟨N, hN⟩ : ∃ N, N = min c.toNat R.length := ⟨_, rfl⟩
        have HN := Lib.hid hN
        have HNR := Lib.hid (show N ≤ R.length by omega)
        clear hN
        go_upto_region 10 with fail
        go_cut [14] from 42 to 64 (fun s14 wx => s14 = .int .i64 (N : Int) ∧ wx = wr)
        case first =>
          go_wp2
          all_goals go_meet
          all_goals refine ⟨ret_i (by have := HN.out; omega), rfl⟩
        case rest =>
          obtain ⟨rfl, rfl⟩ := hcut
          obtain ⟨x1, y1, x2, y2, hs1, hs2, p1, p2⟩ := part_next HPR.out N HNR.out
          have HP1 := Lib.hid p1
          have HP2 := Lib.hid p2
          have HV := Lib.hid (show Value.slice x1 N y1 = Part.v ⟨x1, y1, R.take N⟩ by unfold Part.v; show _ = Value.slice x1 (R.take N).length y1; rw [List.length_take, Nat.min_eq_left HNR.out])
          have HD := Lib.hid (show R.length - N = (R.drop N).length by rw [List.length_drop])
          have HC2 := Lib.hid (show catP (ps ++ [⟨x1, y1, R.take N⟩]) ++ R.drop N = A by rw [catP_snoc, List.append_assoc]; show catP ps ++ (R.take N ++ R.drop N) = A; rw [List.take_append_drop, HCAT.out])
          have HL2 := Lib.hid (show (ps ++ [(⟨x1, y1, R.take N⟩ : Part)]).length = i + 1 by simp [HL.out])
          have HLL := Lib.hid (show ps.length ≤ 1000 by have := HL.out; have := HCL.out; omega)
          have HPS2 := Lib.hid (show ∀ p ∈ ps ++ [(⟨x1, y1, R.take N⟩ : Part)], Pt w p from fun p hp => (List.mem_append.1 hp).elim (HPS.out p) (fun h => by rw [List.mem_singleton.1 h]; exact HP1.out))
          clear p1 p2 c0
          have hcl : i < 40 := Nat.lt_of_lt_of_le hlt HCL.out
          as_aux_lemma =>
            go_wp2_with fail
            refine wp_region_held_drew (S := (fun _ => True)) (by kernel_rfl) ?_ (fun hHeld => ?_)
            · ((try dsimp only); (first | done | trivial))
            refine wpAnyH_take (i := 0) (oi := { dst := some 56, op := Op.move (Operand.tmp 11), type := 31, pos := _, after := #[], guard := none }) (v := ?_) rfl (by kernel_rfl) (by kernel_rfl) (by kernel_rfl) (fun _ _ _ h => h) (Or.inl ⟨by rfl, ?_⟩) (by assumption) ?_
            rotate_left
            · ((intro w hSw); (try dsimp only at hSw); go_simp; (try with_reducible rfl))
            try simp only [Act.put, List.setIfInBounds_toArray, List.set_cons_zero, List.set_cons_succ]
            refine wpAnyH_take (i := 1) (oi := { dst := some 57, op := Op.move (Operand.tmp 12), type := 22, pos := _, after := #[], guard := none }) (v := ?_) rfl (by kernel_rfl) (by kernel_rfl) (by kernel_rfl) (fun _ _ _ h => h) (Or.inl ⟨by rfl, ?_⟩) (by assumption) ?_
            rotate_left
            · ((intro w hSw); (try dsimp only at hSw); go_simp; (try with_reducible rfl))
            try simp only [Act.put, List.setIfInBounds_toArray, List.set_cons_zero, List.set_cons_succ]
            refine wpAnyH_take (i := 2) (oi := { dst := some 58, op := Op.move (Operand.tmp 14), type := 3, pos := _, after := #[], guard := none }) (v := ?_) rfl (by kernel_rfl) (by kernel_rfl) (by kernel_rfl) (fun _ _ _ h => h) (Or.inl ⟨by rfl, ?_⟩) (by assumption) ?_
            rotate_left
            · ((intro w hSw); (try dsimp only at hSw); go_simp; (try with_reducible rfl))
            try simp only [Act.put, List.setIfInBounds_toArray, List.set_cons_zero, List.set_cons_succ]
            refine wpAnyH_take (i := 3) (oi := { dst := some 59, op := Op.slice 22 (Operand.tmp 57) none (some (Operand.tmp 58)) none, type := 22, pos := _, after := #[{ on := 1, ground := Ground.data }, { on := 2, ground := Ground.data }], guard := none }) (v := ?_) rfl (by kernel_rfl) (by kernel_rfl) (by kernel_rfl) (fun _ _ _ h => h) (Or.inl ⟨by rfl, ?_⟩) (by assumption) ?_
            rotate_left
            · ((intro w hSw); (try dsimp only at hSw); go_simp; (try with_reducible rfl))
            try simp only [Act.put, List.setIfInBounds_toArray, List.set_cons_zero, List.set_cons_succ]
            refine wpAnyH_take (i := 6) (oi := { dst := some 62, op := Op.move (Operand.tmp 12), type := 22, pos := _, after := #[], guard := none }) (v := ?_) rfl (by kernel_rfl) (by kernel_rfl) (by kernel_rfl) (fun _ _ _ h => h) (Or.inl ⟨by rfl, ?_⟩) (by assumption) ?_
            rotate_left
            · ((intro w hSw); (try dsimp only at hSw); go_simp; (try with_reducible rfl))
            try simp only [Act.put, List.setIfInBounds_toArray, List.set_cons_zero, List.set_cons_succ]
            refine wpAnyH_take (i := 7) (oi := { dst := some 63, op := Op.move (Operand.tmp 14), type := 3, pos := _, after := #[], guard := none }) (v := ?_) rfl (by kernel_rfl) (by kernel_rfl) (by kernel_rfl) (fun _ _ _ h => h) (Or.inl ⟨by rfl, ?_⟩) (by assumption) ?_
            rotate_left
            · ((intro w hSw); (try dsimp only at hSw); go_simp; (try with_reducible rfl))
            try simp only [Act.put, List.setIfInBounds_toArray, List.set_cons_zero, List.set_cons_succ]
            refine wpAnyH_take (i := 8) (oi := { dst := some 64, op := Op.slice 22 (Operand.tmp 62) (some (Operand.tmp 63)) none none, type := 22, pos := _, after := #[{ on := 6, ground := Ground.data }, { on := 7, ground := Ground.data }], guard := none }) (v := ?_) rfl (by kernel_rfl) (by kernel_rfl) (by kernel_rfl) (fun _ _ _ h => h) (Or.inl ⟨by rfl, ?_⟩) (by assumption) ?_
            rotate_left
            · ((intro w hSw); (try dsimp only at hSw); go_simp; (try with_reducible rfl))
            try simp only [Act.put, List.setIfInBounds_toArray, List.set_cons_zero, List.set_cons_succ]
            refine wpAnyH_ready (rs := [4]) (by kernel_rfl) (by simp) ?_
            refine (AllReadyH.cons (o := { dst := some 60, op := Op.buildSlice 31 1 #[(0, Operand.tmp 59)], type := 31, pos := _, after := #[{ on := 3, ground := Ground.data }], guard := none }) rfl (fun K hK => ?_) AllReadyH.nil)
            go_simp
            refine hK.out _ _ ?_ (fun hHeld => ?_)
            · ((try dsimp only); (first | done | trivial))
            clear hK K
            try simp only [Act.put, List.setIfInBounds_toArray, List.set_cons_zero, List.set_cons_succ]
            refine wpAnyH_ready (rs := [5]) (by kernel_rfl) (by simp) ?_
            refine (AllReadyH.cons (o := { dst := some 61, op := Op.call { callee := Callee.builtin Builtin.append, args := #[Operand.tmp 56, Operand.tmp 60], argTypes := #[31, 31] }, type := 31, pos := _, after := #[{ on := 0, ground := Ground.data }, { on := 4, ground := Ground.data }], guard := none }) rfl (fun K hK => ?_) AllReadyH.nil)
            refine wp_rp (.tmp 56) (.tmp 60) rfl w1.heap.size _ ps rfl (rp_alloc HRR.out _) _ ⟨x1, y1, R.take N⟩ rfl (.slice x1 N y1) (by simp [go_sem]) HV.out HLL.out (by have := HBB.out.size; simp; omega) ?_
            intro v2 w2 o2 b2
            have O2 := Lib.hid o2
            have Q2 := Lib.hid (b2 _ _ (Nat.le_refl _) (HBB.out.drew.alloc HBB.out.size _))
            clear o2 b2
            refine hK.out _ _ ?_ (fun hHeld => ?_)
            · ((try dsimp only); (first | done | trivial))
            clear hK K
            try simp only [Act.put, List.setIfInBounds_toArray, List.set_cons_zero, List.set_cons_succ]
            refine wpAnyH_take (i := 9) (oi := { dst := some 11, op := Op.assign (Operand.tmp 61), type := 31, pos := _, after := #[{ on := 5, ground := Ground.data }, { on := 5, ground := Ground.chain }, { on := 0, ground := Ground.phase }, { on := 1, ground := Ground.phase }, { on := 2, ground := Ground.phase }, { on := 3, ground := Ground.phase }, { on := 4, ground := Ground.phase }, { on := 5, ground := Ground.phase }, { on := 6, ground := Ground.textOnly Departure.lateStores }, { on := 7, ground := Ground.textOnly Departure.lateStores }, { on := 8, ground := Ground.textOnly Departure.lateStoresUnsure }], guard := none }) (v := ?_) rfl (by kernel_rfl) (by kernel_rfl) (by kernel_rfl) (fun _ _ _ h => h) (Or.inl ⟨by rfl, ?_⟩) (by assumption) ?_
            rotate_left
            · ((intro w hSw); (try dsimp only at hSw); go_simp; (try with_reducible rfl))
            try simp only [Act.put, List.setIfInBounds_toArray, List.set_cons_zero, List.set_cons_succ]
            refine wpAnyH_take (i := 10) (oi := { dst := some 12, op := Op.assign (Operand.tmp 64), type := 22, pos := _, after := #[{ on := 8, ground := Ground.data }, { on := 9, ground := Ground.chain }, { on := 0, ground := Ground.phase }, { on := 1, ground := Ground.phase }, { on := 2, ground := Ground.phase }, { on := 3, ground := Ground.phase }, { on := 4, ground := Ground.phase }, { on := 5, ground := Ground.phase }, { on := 6, ground := Ground.phase }, { on := 7, ground := Ground.phase }, { on := 8, ground := Ground.phase }, { on := 9, ground := Ground.phase }], guard := none }) (v := ?_) rfl (by kernel_rfl) (by kernel_rfl) (by kernel_rfl) (fun _ _ _ h => h) (Or.inl ⟨by rfl, ?_⟩) (by assumption) ?_
            rotate_left
            · ((intro w hSw); (try dsimp only at hSw); go_simp; (try with_reducible rfl))
            try simp only [Act.put, List.setIfInBounds_toArray, List.set_cons_zero, List.set_cons_succ]
            refine wpAnyH_done (by kernel_rfl) ?_ _
            clear hs1 hs2
            go_wp2
            go_roundw
            case rel => exact ⟨i + 1, ps ++ [⟨x1, y1, R.take N⟩], x2, y2, R.drop N, hlt, by go_num, by rw [← HD.out], O2.out, HL2.out, HPS2.out, HP2.out, HC2.out, Q2.out⟩
            case measure => simp [intOf]; omega
      · obtain rfl : i = zs.length := by omega
        as_aux_lemma =>
          have HPR2 := Lib.hid (show ∀ p ∈ ps ++ [(⟨ra, rc, R⟩ : Part)], Pt w p from fun p hp => (List.mem_append.1 hp).elim (hps p) (fun h => by rw [List.mem_singleton.1 h]; exact hpr))
          have HCAT := Lib.hid (show catP (ps ++ [(⟨ra, rc, R⟩ : Part)]) = A by rw [catP_snoc]; exact hcat)
          have HPL := Lib.hid (show ps.length ≤ 1000 by rw [hl]; have := HCL.out; omega)
          have HPLL := Lib.hid (show (ps ++ [(⟨ra, rc, R⟩ : Part)]).length ≤ 1000000 by rw [List.length_append]; have := HPL.out; simp; omega)
          have HRR := Lib.hid hR
          have HBB := Lib.hid hB
          have HV := Lib.hid (show Value.slice ra R.length rc = Part.v ⟨ra, rc, R⟩ from rfl)
          obtain ⟨H, hH⟩ : ∃ H, H = hmac key A := ⟨_, rfl⟩
          have HH := Lib.hid hH
          have HHL := Lib.hid (show 32 = H.length by rw [hH]; exact (hmac_len _ _).symm)
          have HHX := Lib.hid (show ∀ c ∈ H, c < 256 by rw [hH]; exact hmac_lt _ _)
          have HHZ := Lib.hid (show H.length ≤ 9223372036854775000 by rw [hH, hmac_len]; decide)
          obtain ⟨H31, hH31⟩ : ∃ L, L = H.take 31 := ⟨_, rfl⟩
          have H31L := Lib.hid (show 31 = H31.length by rw [hH31, List.length_take, ← HHL.out]; rfl)
          have H31X := Lib.hid (show ∀ c ∈ H31, c < 256 by rw [hH31]; exact fun c hc => HHX.out c (List.mem_of_mem_take hc))
          have H31D := Lib.hid (show false = decide (H = H31) from (decide_eq_false (fun h => by have := congrArg List.length h; rw [← HHL.out, ← H31L.out] at this; omega)).symm)
          have H31T := Lib.hid hH31
          obtain ⟨P2, hP2⟩ : ∃ P2, P2 = ps ++ [(⟨ra, rc, R⟩ : Part)] := ⟨_, rfl⟩
          rw [← hP2] at HPR2 HCAT HPLL
          have HP2 := Lib.hid hP2
          have HHC := Lib.hid (show hmac key (catP P2) = H by rw [HCAT.out, hH])
          have HCA := Lib.hid (show (catP P2).length ≤ 800000 by rw [HCAT.out]; exact HA8.out)
          have HA0L := Lib.hid HA2.out
          clear hR hB hps hpr hcat hl hH hH31 hP2 hi hlt
          by_cases hz : A.length = 0
          · have hz1 : ((A.length : Int) == 0) = true := by simp [hz]
            have hz2 : decide ((A.length : Int) = 0) = true := by simp [hz]
            have HZ := Lib.hid hz
            clear hz
            go_wp2_with (first
              | (at_builtin; refine app_rp rfl _ _ rfl w1.heap.size _ ps rfl (rp_alloc HRR.out _) _ ⟨ra, rc, R⟩ rfl (by simp [go_sem]; exact HV.out) HPL.out (by have := HBB.out.size; simp; omega) ?_; intro v2 w2 o2 b2; rw [← HP2.out] at o2; have HB2 := Lib.hid (below_then HB1.out (b2 _ _ (Nat.le_refl _) (HBB.out.alloc HBB.out.size _)) HB1.out.size); obtain ⟨pa, pc, rfl, hpt⟩ := rp_pts o2 (fun p hp => pt_then HB2.out (Nat.le_refl _) (HPR2.out p hp)); have HPT := Lib.hid hpt; clear o2 b2 hpt)
              | (go_at_call 18; (with_reducible refine (hmacA ka kc key H aa ac w2.heap.size A w2 HH.out rfl (sl_then HB2.out (Nat.le_refl _) HKS.out) HK0.out HKC.out HKX.out HK8.out (sl_then HB2.out (Nat.le_refl _) HAS.out) HA0.out HAC.out HAX.out HA8.out (tabR_then HB2.out HT.out) (tabB_then HB2.out HB.out)).mono ?_); rintro e w3 ⟨tb, tq, tc, rfl, q1, q2, q3⟩; have HTS := Lib.hid q1; have h32 : (32 : Int) ≤ (tc : Int) := (by omega); have h31 : (31 : Int) ≤ (tc : Int) := (by omega); have tc0 : ¬ tc = 0 := (by omega); have HB3 := Lib.hid (below_then HB2.out q3 HB2.out.size); have HPT3 := Lib.hid (pts_then q3 (Nat.le_refl _) HPT.out); clear q1 q2 q3)
              | (go_at_call 18; (with_reducible refine (hmacC ka kc key pa pc P2 w3 (sl_then HB3.out (Nat.le_refl _) HKS.out) HK0.out HKC.out HKX.out HK8.out HPT3.out HPLL.out HCA.out (tabR_then HB3.out HT.out) (tabB_then HB3.out HB.out)).mono ?_); rintro e w5 ⟨v5, rfl, o5, b5⟩; rw [HHC.out] at o5; obtain ⟨ya, yc, rfl, _, hys, _, _⟩ := rb_sl o5; rw [← HHL.out]; have HYS := Lib.hid hys; have HTS5 := Lib.hid (cells_then b5 (Nat.le_refl _) HTS.out); have HB5 := Lib.hid (below_then HB3.out b5 HB3.out.size); clear o5 b5 hys)
              | (go_at_call 22; (with_reducible refine (equalE ya (some ⟨tb, tq, none⟩) yc tc 32 32 H H w5 true HHL.out HHL.out HYS.out (sl_of HTS5.out) HHX.out HHX.out HHZ.out (decide_eq_true rfl).symm).mono ?_); rintro e w8 ⟨rfl, b8⟩; have HTS8 := Lib.hid (cells_then b8 (Nat.le_refl _) HTS5.out); have HB8 := Lib.hid (below_then HB5.out b8 HB5.out.size); clear b8)
              | (go_at_call 22; (with_reducible refine (equalE (some ⟨tb, tq, none⟩) (some ⟨tb, tq, none⟩) tc tc 32 31 H H31 w8 false HHL.out H31L.out (sl_of HTS8.out) (sl_take HTS8.out 31 H31 H31T.out) HHX.out H31X.out HHZ.out H31D.out).mono ?_); rintro e w6 ⟨rfl, b6⟩; have HTS6 := Lib.hid (cells_then b6 (Nat.le_refl _) HTS8.out); have HB6 := Lib.hid (below_then HB8.out b6 HB8.out.size); clear b6))
            clear h32 h31 tc0 hz1 hz2
            have HF := Lib.hid (first w6 (tabR_then HB6.out HT.out) (tabB_then HB6.out HB.out))
            go_wp2_with (go_at_call 13; (with_reducible refine HF.out.mono ?_); rintro e w7 ⟨rfl, b7⟩; have HB7 := Lib.hid (below_then HB6.out b7 HB6.out.size); clear b7)
            go_ret
            exact ⟨rfl, HB7.out⟩
          · have hz1 : ((A.length : Int) == 0) = false := by rw [beq_eq_false_iff_ne]; omega
            have hz2 : decide ((A.length : Int) = 0) = false := decide_eq_false (by omega)
            have HZ := Lib.hid hz
            clear hz
            go_wp2_with (first
              | (at_builtin; refine app_rp rfl _ _ rfl w1.heap.size _ ps rfl (rp_alloc HRR.out _) _ ⟨ra, rc, R⟩ rfl (by simp [go_sem]; exact HV.out) HPL.out (by have := HBB.out.size; simp; omega) ?_; intro v2 w2 o2 b2; rw [← HP2.out] at o2; have HB2 := Lib.hid (below_then HB1.out (b2 _ _ (Nat.le_refl _) (HBB.out.alloc HBB.out.size _)) HB1.out.size); obtain ⟨pa, pc, rfl, hpt⟩ := rp_pts o2 (fun p hp => pt_then HB2.out (Nat.le_refl _) (HPR2.out p hp)); have HPT := Lib.hid hpt; clear o2 b2 hpt)
              | (go_at_call 18; (with_reducible refine (hmacA ka kc key H aa ac w2.heap.size A w2 HH.out rfl (sl_then HB2.out (Nat.le_refl _) HKS.out) HK0.out HKC.out HKX.out HK8.out (sl_then HB2.out (Nat.le_refl _) HAS.out) HA0.out HAC.out HAX.out HA8.out (tabR_then HB2.out HT.out) (tabB_then HB2.out HB.out)).mono ?_); rintro e w3 ⟨tb, tq, tc, rfl, q1, q2, q3⟩; have HTS := Lib.hid q1; have h32 : (32 : Int) ≤ (tc : Int) := (by omega); have h31 : (31 : Int) ≤ (tc : Int) := (by omega); have tc0 : ¬ tc = 0 := (by omega); have HB3 := Lib.hid (below_then HB2.out q3 HB2.out.size); have HPT3 := Lib.hid (pts_then q3 (Nat.le_refl _) HPT.out); clear q1 q2 q3)
              | (go_at_call 18; (with_reducible refine (hmacC ka kc key pa pc P2 w3 (sl_then HB3.out (Nat.le_refl _) HKS.out) HK0.out HKC.out HKX.out HK8.out HPT3.out HPLL.out HCA.out (tabR_then HB3.out HT.out) (tabB_then HB3.out HB.out)).mono ?_); rintro e w5 ⟨v5, rfl, o5, b5⟩; rw [HHC.out] at o5; obtain ⟨ya, yc, rfl, _, hys, _, _⟩ := rb_sl o5; rw [← HHL.out]; have HYS := Lib.hid hys; have HTS5 := Lib.hid (cells_then b5 (Nat.le_refl _) HTS.out); have HB5 := Lib.hid (below_then HB3.out b5 HB3.out.size); clear o5 b5 hys)
              | (go_at_call 22; (with_reducible refine (equalE ya (some ⟨tb, tq, none⟩) yc tc 32 32 H H w5 true HHL.out HHL.out HYS.out (sl_of HTS5.out) HHX.out HHX.out HHZ.out (decide_eq_true rfl).symm).mono ?_); rintro e w8 ⟨rfl, b8⟩; have HTS8 := Lib.hid (cells_then b8 (Nat.le_refl _) HTS5.out); have HB8 := Lib.hid (below_then HB5.out b8 HB5.out.size); clear b8)
              | (go_at_call 22; (with_reducible refine (equalE (some ⟨tb, tq, none⟩) (some ⟨tb, tq, none⟩) tc tc 32 31 H H31 w8 false HHL.out H31L.out (sl_of HTS8.out) (sl_take HTS8.out 31 H31 H31T.out) HHX.out H31X.out HHZ.out H31D.out).mono ?_); rintro e w6 ⟨rfl, b6⟩; have HTS6 := Lib.hid (cells_then b6 (Nat.le_refl _) HTS8.out); have HB6 := Lib.hid (below_then HB8.out b6 HB8.out.size); clear b6))
            clear h32 h31 tc0 hz1 hz2
            have HAP := Lib.hid (show 0 < A.length by have := HZ.out; omega)
            have HCP := Lib.hid (copyC aa ac A w6 HAM.out (sl_then HB6.out (Nat.le_refl _) HAS.out) HA0.out)
            go_wp2_with (go_at_call 14; (with_reducible refine HCP.out.mono ?_); rintro e w7 ⟨v7, rfl, q1, q2⟩; obtain ⟨g, bc, rfl, hbc, hg, hcell, hfree, hset⟩ := rb_own q1 HAP.out; have HBC0 := Lib.hid hbc; have HG0 := Lib.hid hg; have HCELL := Lib.hid hcell; have HFREE := Lib.hid hfree; have HSET := Lib.hid hset; have HQ7 := Lib.hid q2; clear q1 q2 hbc hg hcell hfree hset)
            as_aux_lemma =>
              obtain ⟨k, hk⟩ : ∃ k, k = at_ % A.length := ⟨_, rfl⟩
              have hkl : k < A.length := by rw [hk]; exact Nat.mod_lt _ HAP.out
              have hx8 : A[k] < 256 := HAX.out _ (List.getElem_mem hkl)
              obtain ⟨X, hX⟩ : ∃ X, X = A[k] ^^^ x := ⟨_, rfl⟩
              have hX8 : X < 256 := by rw [hX]; exact Nat.xor_lt_two_pow (n := 8) hx8 HXX.out.2
              obtain ⟨B2, hB2⟩ : ∃ B2, B2 = A.set k X := ⟨_, rfl⟩
              have HB2L := Lib.hid (show A.length = B2.length by rw [hB2, List.length_set])
              have HBX := Lib.hid (show ∀ c ∈ B2, c < 256 by
                rw [hB2]; intro c hc
                rcases List.mem_or_eq_of_mem_set hc with h | h
                · exact HAX.out c h
                · omega)
              have HB9 := Lib.hid (show B2.length ≤ 900000 by rw [← HB2L.out]; have := HA2.out; omega)
              have HB8 := Lib.hid (show B2.length ≤ 800000 by rw [← HB2L.out]; have := HA2.out; omega)
              have HA9 := Lib.hid (show A.length ≤ 900000 by have := HA2.out; omega)
              have HBC := Lib.hid (show B2.length ≤ bc by rw [← HB2L.out]; exact HBC0.out)
              have RB := HSET.out k X
              have HR2 := Lib.hid (show Sl ((w7.setCell ⟨g, k, none⟩ (.int .u8 (X : Int))).drew) (some ⟨g, 0, none⟩) B2 by
                rw [hB2]
                obtain ⟨a', c', e', _, h', _, _⟩ := rb_sl RB
                injection e' with e1 _ _
                rw [← e1] at h'
                exact h')
              have HQ8 := Lib.hid (show Below w6.heap.size w6 ((w7.setCell ⟨g, k, none⟩ (.int .u8 (X : Int))).drew) from (HQ7.out.setCell HG0.out _).drew)
              have ck : w7.drew.cell? ⟨g, k, none⟩ = some (.int .u8 ((A[k] : Nat) : Int)) := HCELL.out k hkl
              have fk : w7.drew.frozen? ⟨g, k, none⟩ = false := HFREE.out k
              have tm : (at_ : Int).tmod (A.length : Int) = (k : Int) := by rw [hk]; exact tmod_nat at_ A.length
              have nz : ¬ (A.length : Int) = 0 := by have := HAP.out; omega
              have kx : (k : Int) < (A.length : Int) := by omega
              have ex : bits .xor .u8 ((A[k] : Nat) : Int) (x : Int) = (X : Int) := by rw [hX]; exact u8_xn _ _ hx8 HXX.out.2
              clear hk hx8 hX hX8 hB2 RB
              generalize A[k] = Y at *
              go_wp2_with fail
              go_region
              clear ck fk tm nz kx ex
              generalize ((w7.setCell ⟨g, k, none⟩ (.int .u8 (X : Int))).drew) = w4 at *
              have HKS4 := Lib.hid (sl_then HQ8.out (Nat.le_refl _) (sl_then HB6.out (Nat.le_refl _) HKS.out))
              have HAS4 := Lib.hid (sl_then HQ8.out (Nat.le_refl _) (sl_then HB6.out (Nat.le_refl _) HAS.out))
              have HBS4 := HR2
              have HT4 := Lib.hid (tabR_then HQ8.out (tabR_then HB6.out HT.out))
              have HB4 := Lib.hid (tabB_then HQ8.out (tabB_then HB6.out HB.out))
              have HTS4 := Lib.hid (sl_then HQ8.out (Nat.le_refl _) (sl_of HTS6.out))
              have HBA := Lib.hid (below_then HB6.out HQ8.out HB6.out.size)
              have HQ0 := Lib.hid (Below.refl w4.heap.size w4)
              clear HR2 HQ8 HQ7 HCELL HFREE HSET HCP HB6 HTS6 HPT HPT3 HPLL HPR2 HCAT HCA HHC
              obtain ⟨S1, hS1⟩ : ∃ S, S = sha A := ⟨_, rfl⟩
              obtain ⟨S2, hS2⟩ : ∃ S, S = sha B2 := ⟨_, rfl⟩
              obtain ⟨H2, hH2⟩ : ∃ H, H = hmac key B2 := ⟨_, rfl⟩
              have HS1 := Lib.hid hS1
              have HS2 := Lib.hid hS2
              have HH2 := Lib.hid hH2
              have HS1L := Lib.hid (show 32 = S1.length by rw [hS1]; exact (sha_len A).symm)
              have HS2L := Lib.hid (show 32 = S2.length by rw [hS2]; exact (sha_len B2).symm)
              have HH2L := Lib.hid (show 32 = H2.length by rw [hH2]; exact (hmac_len _ _).symm)
              have HS1X := Lib.hid (show ∀ c ∈ S1, c < 256 by rw [hS1]; exact sha_lt A)
              have HS2X := Lib.hid (show ∀ c ∈ S2, c < 256 by rw [hS2]; exact sha_lt B2)
              have HH2X := Lib.hid (show ∀ c ∈ H2, c < 256 by rw [hH2]; exact hmac_lt _ _)
              have HS1Z := Lib.hid (show S1.length ≤ 9223372036854775000 by rw [← HS1L.out]; decide)
              have HH2Z := Lib.hid (show H2.length ≤ 9223372036854775000 by rw [← HH2L.out]; decide)
              clear hS1 hS2 hH2
              as_aux_lemma =>
                by_cases c1 : S1 = S2
                · have HR1 := Lib.hid (show true = decide (S1 = S2) from (decide_eq_true c1).symm)
                  clear c1
                  by_cases c2 : H2 = H
                  · have HR2 := Lib.hid (show true = decide (H2 = H) from (decide_eq_true c2).symm)
                    have HR3 := Lib.hid (show true = decide (H = H2) from (decide_eq_true c2.symm).symm)
                    clear c2
                    go_wp2_with (first
                      | (go_at_call 13; (with_reducible refine (first w4 HT4.out HB4.out).mono ?_); rintro e wq1 ⟨rfl, bq⟩; have HQ1 := Lib.hid bq; have T1 := Lib.hid (sl_then bq (Nat.le_refl _) HTS4.out); clear bq)
                      | (go_at_call 16; (with_reducible refine (sumK aa A.length ac A S1 wq1 HS1.out rfl (sl_then HQ1.out (Nat.le_refl _) HAS4.out) HA0.out HAC.out HAX.out HA9.out (tabR_then HQ1.out HT4.out) (tabB_then HQ1.out HB4.out)).mono ?_); rintro e wq2 ⟨a2, c2, rfl, l2, _, _, bq⟩; have HQ2 := Lib.hid (below_then HQ1.out bq HQ1.out.size); have T2 := Lib.hid (sl_then bq (Nat.le_refl _) T1.out); have SA2 := Lib.hid l2; clear bq l2)
                      | (go_at_call 16; (with_reducible refine (sumK (some ⟨g, 0, none⟩) A.length bc B2 S2 wq2 HS2.out HB2L.out (sl_then HQ2.out (Nat.le_refl _) HBS4.out) (fun h => by cases h) HBC.out HBX.out HB9.out (tabR_then HQ2.out HT4.out) (tabB_then HQ2.out HB4.out)).mono ?_); rintro e wq3 ⟨a3, c3, rfl, l3, _, _, bq⟩; have HQ3 := Lib.hid (below_then HQ2.out bq HQ2.out.size); have T3 := Lib.hid (sl_then bq (Nat.le_refl _) T2.out); have SA3 := Lib.hid (sl_then bq (Nat.le_refl _) SA2.out); have SB3 := Lib.hid l3; clear bq l3)
                      | (go_at_call 22; (with_reducible refine (equalE a2 a3 c2 c3 32 32 S1 S2 wq3 true HS1L.out HS2L.out SA3.out SB3.out HS1X.out HS2X.out HS1Z.out HR1.out).mono ?_); rintro e wq4 ⟨rfl, bq⟩; have HQ4 := Lib.hid (below_then HQ3.out bq HQ3.out.size); have T4 := Lib.hid (sl_then bq (Nat.le_refl _) T3.out); clear bq)
                      | (go_at_call 17; (with_reducible refine (dsumK aa A.length ac A S1 wq4 HS1.out rfl (sl_then HQ4.out (Nat.le_refl _) HAS4.out) HA0.out HAC.out HAX.out HA9.out).mono ?_); rintro e wq5 ⟨a5, c5, rfl, l5, _, _, bq⟩; have HQ5 := Lib.hid (below_then HQ4.out bq HQ4.out.size); have T5 := Lib.hid (sl_then bq (Nat.le_refl _) T4.out); have SA5 := Lib.hid l5; clear bq l5)
                      | (go_at_call 17; (with_reducible refine (dsumK (some ⟨g, 0, none⟩) A.length bc B2 S2 wq5 HS2.out HB2L.out (sl_then HQ5.out (Nat.le_refl _) HBS4.out) (fun h => by cases h) HBC.out HBX.out HB9.out).mono ?_); rintro e wq6 ⟨a6, c6, rfl, l6, _, _, bq⟩; have HQ6 := Lib.hid (below_then HQ5.out bq HQ5.out.size); have T6 := Lib.hid (sl_then bq (Nat.le_refl _) T5.out); have SA6 := Lib.hid (sl_then bq (Nat.le_refl _) SA5.out); have SB6 := Lib.hid l6; clear bq l6)
                      | (go_at_call 15; (with_reducible refine (bytesD a5 a6 c5 c6 32 32 S1 S2 wq6 true HS1L.out HS2L.out SA6.out SB6.out HS1X.out HS2X.out HR1.out).mono ?_); rintro e w' ⟨rfl, rfl⟩)
                      | (go_at_call 18; (with_reducible refine (hmacN ka kc key H2 (some ⟨g, 0, none⟩) A.length bc wq6.heap.size B2 wq6 HH2.out HB2L.out rfl (sl_then HQ6.out (Nat.le_refl _) HKS4.out) HK0.out HKC.out HKX.out HK8.out (sl_then HQ6.out (Nat.le_refl _) HBS4.out) (fun h => by cases h) HBC.out HBX.out HB8.out (tabR_then HQ6.out HT4.out) (tabB_then HQ6.out HB4.out)).mono ?_); rintro e wx ⟨xb, xo, xc, rfl, lx, _, bx⟩; have HX0 := Lib.hid (show Sl wx (some ⟨xb, xo, none⟩) H2 from .inr ⟨xb, xo, rfl, lx⟩); have HXQ := Lib.hid (below_then HQ6.out bx HQ6.out.size); have TX := Lib.hid (sl_then bx (Nat.le_refl _) T6.out); clear lx bx)
                      | (go_at_call 22; (with_reducible refine (equalE (some ⟨xb, xo, none⟩) (some ⟨tb, tq, none⟩) xc tc 32 32 H2 H wx true HH2L.out HHL.out HX0.out TX.out HH2X.out HHX.out HH2Z.out HR2.out).mono ?_); rintro e wq21 ⟨rfl, bq⟩; have HQ21 := Lib.hid (below_then HXQ.out bq HXQ.out.size); have T21 := Lib.hid (sl_then bq (Nat.le_refl _) TX.out); clear bq)
                      | (go_at_call 19; (with_reducible refine (dhmK ka key.length kc key H aa A.length ac A wq21 HH.out rfl rfl (sl_then HQ21.out (Nat.le_refl _) HKS4.out) HK0.out HKC.out HKX.out HK8.out (sl_then HQ21.out (Nat.le_refl _) HAS4.out) HA0.out HAC.out HAX.out HA8.out).mono ?_); rintro e wq22 ⟨a7, c7, rfl, l7, _, _, bq⟩; have HQ22 := Lib.hid (below_then HQ21.out bq HQ21.out.size); have T22 := Lib.hid (sl_then bq (Nat.le_refl _) T21.out); have DA22 := Lib.hid l7; clear bq l7)
                      | (go_at_call 19; (with_reducible refine (dhmK ka key.length kc key H2 (some ⟨g, 0, none⟩) A.length bc B2 wq22 HH2.out rfl HB2L.out (sl_then HQ22.out (Nat.le_refl _) HKS4.out) HK0.out HKC.out HKX.out HK8.out (sl_then HQ22.out (Nat.le_refl _) HBS4.out) (fun h => by cases h) HBC.out HBX.out HB8.out).mono ?_); rintro e wq23 ⟨a8, c8, rfl, l8, _, _, bq⟩; have HQ23 := Lib.hid (below_then HQ22.out bq HQ22.out.size); have T23 := Lib.hid (sl_then bq (Nat.le_refl _) T22.out); have DA23 := Lib.hid (sl_then bq (Nat.le_refl _) DA22.out); have DB23 := Lib.hid l8; clear bq l8)
                      | (go_at_call 15; (with_reducible refine (bytesD a7 a8 c7 c8 32 32 H H2 wq23 true HHL.out HH2L.out DA23.out DB23.out HHX.out HH2X.out HR3.out).mono ?_); rintro e w' ⟨rfl, rfl⟩))
                    go_ret
                    exact ⟨rfl, below_then HBA.out HQ23.out HBA.out.size⟩
                  · have HR2 := Lib.hid (show false = decide (H2 = H) from (decide_eq_false c2).symm)
                    clear c2
                    go_wp2_with (first
                      | (go_at_call 13; (with_reducible refine (first w4 HT4.out HB4.out).mono ?_); rintro e wq1 ⟨rfl, bq⟩; have HQ1 := Lib.hid bq; have T1 := Lib.hid (sl_then bq (Nat.le_refl _) HTS4.out); clear bq)
                      | (go_at_call 16; (with_reducible refine (sumK aa A.length ac A S1 wq1 HS1.out rfl (sl_then HQ1.out (Nat.le_refl _) HAS4.out) HA0.out HAC.out HAX.out HA9.out (tabR_then HQ1.out HT4.out) (tabB_then HQ1.out HB4.out)).mono ?_); rintro e wq2 ⟨a2, c2, rfl, l2, _, _, bq⟩; have HQ2 := Lib.hid (below_then HQ1.out bq HQ1.out.size); have T2 := Lib.hid (sl_then bq (Nat.le_refl _) T1.out); have SA2 := Lib.hid l2; clear bq l2)
                      | (go_at_call 16; (with_reducible refine (sumK (some ⟨g, 0, none⟩) A.length bc B2 S2 wq2 HS2.out HB2L.out (sl_then HQ2.out (Nat.le_refl _) HBS4.out) (fun h => by cases h) HBC.out HBX.out HB9.out (tabR_then HQ2.out HT4.out) (tabB_then HQ2.out HB4.out)).mono ?_); rintro e wq3 ⟨a3, c3, rfl, l3, _, _, bq⟩; have HQ3 := Lib.hid (below_then HQ2.out bq HQ2.out.size); have T3 := Lib.hid (sl_then bq (Nat.le_refl _) T2.out); have SA3 := Lib.hid (sl_then bq (Nat.le_refl _) SA2.out); have SB3 := Lib.hid l3; clear bq l3)
                      | (go_at_call 22; (with_reducible refine (equalE a2 a3 c2 c3 32 32 S1 S2 wq3 true HS1L.out HS2L.out SA3.out SB3.out HS1X.out HS2X.out HS1Z.out HR1.out).mono ?_); rintro e wq4 ⟨rfl, bq⟩; have HQ4 := Lib.hid (below_then HQ3.out bq HQ3.out.size); have T4 := Lib.hid (sl_then bq (Nat.le_refl _) T3.out); clear bq)
                      | (go_at_call 17; (with_reducible refine (dsumK aa A.length ac A S1 wq4 HS1.out rfl (sl_then HQ4.out (Nat.le_refl _) HAS4.out) HA0.out HAC.out HAX.out HA9.out).mono ?_); rintro e wq5 ⟨a5, c5, rfl, l5, _, _, bq⟩; have HQ5 := Lib.hid (below_then HQ4.out bq HQ4.out.size); have T5 := Lib.hid (sl_then bq (Nat.le_refl _) T4.out); have SA5 := Lib.hid l5; clear bq l5)
                      | (go_at_call 17; (with_reducible refine (dsumK (some ⟨g, 0, none⟩) A.length bc B2 S2 wq5 HS2.out HB2L.out (sl_then HQ5.out (Nat.le_refl _) HBS4.out) (fun h => by cases h) HBC.out HBX.out HB9.out).mono ?_); rintro e wq6 ⟨a6, c6, rfl, l6, _, _, bq⟩; have HQ6 := Lib.hid (below_then HQ5.out bq HQ5.out.size); have T6 := Lib.hid (sl_then bq (Nat.le_refl _) T5.out); have SA6 := Lib.hid (sl_then bq (Nat.le_refl _) SA5.out); have SB6 := Lib.hid l6; clear bq l6)
                      | (go_at_call 15; (with_reducible refine (bytesD a5 a6 c5 c6 32 32 S1 S2 wq6 true HS1L.out HS2L.out SA6.out SB6.out HS1X.out HS2X.out HR1.out).mono ?_); rintro e w' ⟨rfl, rfl⟩)
                      | (go_at_call 18; (with_reducible refine (hmacN ka kc key H2 (some ⟨g, 0, none⟩) A.length bc wq6.heap.size B2 wq6 HH2.out HB2L.out rfl (sl_then HQ6.out (Nat.le_refl _) HKS4.out) HK0.out HKC.out HKX.out HK8.out (sl_then HQ6.out (Nat.le_refl _) HBS4.out) (fun h => by cases h) HBC.out HBX.out HB8.out (tabR_then HQ6.out HT4.out) (tabB_then HQ6.out HB4.out)).mono ?_); rintro e wx ⟨xb, xo, xc, rfl, lx, _, bx⟩; have HX0 := Lib.hid (show Sl wx (some ⟨xb, xo, none⟩) H2 from .inr ⟨xb, xo, rfl, lx⟩); have HXQ := Lib.hid (below_then HQ6.out bx HQ6.out.size); have TX := Lib.hid (sl_then bx (Nat.le_refl _) T6.out); clear lx bx)
                      | (go_at_call 22; (with_reducible refine (equalE (some ⟨xb, xo, none⟩) (some ⟨tb, tq, none⟩) xc tc 32 32 H2 H wx false HH2L.out HHL.out HX0.out TX.out HH2X.out HHX.out HH2Z.out HR2.out).mono ?_); rintro e wq21 ⟨rfl, bq⟩; have HQ21 := Lib.hid (below_then HXQ.out bq HXQ.out.size); have T21 := Lib.hid (sl_then bq (Nat.le_refl _) TX.out); clear bq))
                    go_ret
                    exact ⟨rfl, below_then HBA.out HQ21.out HBA.out.size⟩
                · have HR1 := Lib.hid (show false = decide (S1 = S2) from (decide_eq_false c1).symm)
                  clear c1
                  by_cases c2 : H2 = H
                  · have HR2 := Lib.hid (show true = decide (H2 = H) from (decide_eq_true c2).symm)
                    have HR3 := Lib.hid (show true = decide (H = H2) from (decide_eq_true c2.symm).symm)
                    clear c2
                    go_wp2_with (first
                      | (go_at_call 13; (with_reducible refine (first w4 HT4.out HB4.out).mono ?_); rintro e wq1 ⟨rfl, bq⟩; have HQ1 := Lib.hid bq; have T1 := Lib.hid (sl_then bq (Nat.le_refl _) HTS4.out); clear bq)
                      | (go_at_call 16; (with_reducible refine (sumK aa A.length ac A S1 wq1 HS1.out rfl (sl_then HQ1.out (Nat.le_refl _) HAS4.out) HA0.out HAC.out HAX.out HA9.out (tabR_then HQ1.out HT4.out) (tabB_then HQ1.out HB4.out)).mono ?_); rintro e wq2 ⟨a2, c2, rfl, l2, _, _, bq⟩; have HQ2 := Lib.hid (below_then HQ1.out bq HQ1.out.size); have T2 := Lib.hid (sl_then bq (Nat.le_refl _) T1.out); have SA2 := Lib.hid l2; clear bq l2)
                      | (go_at_call 16; (with_reducible refine (sumK (some ⟨g, 0, none⟩) A.length bc B2 S2 wq2 HS2.out HB2L.out (sl_then HQ2.out (Nat.le_refl _) HBS4.out) (fun h => by cases h) HBC.out HBX.out HB9.out (tabR_then HQ2.out HT4.out) (tabB_then HQ2.out HB4.out)).mono ?_); rintro e wq3 ⟨a3, c3, rfl, l3, _, _, bq⟩; have HQ3 := Lib.hid (below_then HQ2.out bq HQ2.out.size); have T3 := Lib.hid (sl_then bq (Nat.le_refl _) T2.out); have SA3 := Lib.hid (sl_then bq (Nat.le_refl _) SA2.out); have SB3 := Lib.hid l3; clear bq l3)
                      | (go_at_call 22; (with_reducible refine (equalE a2 a3 c2 c3 32 32 S1 S2 wq3 false HS1L.out HS2L.out SA3.out SB3.out HS1X.out HS2X.out HS1Z.out HR1.out).mono ?_); rintro e wq4 ⟨rfl, bq⟩; have HQ4 := Lib.hid (below_then HQ3.out bq HQ3.out.size); have T4 := Lib.hid (sl_then bq (Nat.le_refl _) T3.out); clear bq)
                      | (go_at_call 18; (with_reducible refine (hmacN ka kc key H2 (some ⟨g, 0, none⟩) A.length bc wq4.heap.size B2 wq4 HH2.out HB2L.out rfl (sl_then HQ4.out (Nat.le_refl _) HKS4.out) HK0.out HKC.out HKX.out HK8.out (sl_then HQ4.out (Nat.le_refl _) HBS4.out) (fun h => by cases h) HBC.out HBX.out HB8.out (tabR_then HQ4.out HT4.out) (tabB_then HQ4.out HB4.out)).mono ?_); rintro e wx ⟨xb, xo, xc, rfl, lx, _, bx⟩; have HX0 := Lib.hid (show Sl wx (some ⟨xb, xo, none⟩) H2 from .inr ⟨xb, xo, rfl, lx⟩); have HXQ := Lib.hid (below_then HQ4.out bx HQ4.out.size); have TX := Lib.hid (sl_then bx (Nat.le_refl _) T4.out); clear lx bx)
                      | (go_at_call 22; (with_reducible refine (equalE (some ⟨xb, xo, none⟩) (some ⟨tb, tq, none⟩) xc tc 32 32 H2 H wx true HH2L.out HHL.out HX0.out TX.out HH2X.out HHX.out HH2Z.out HR2.out).mono ?_); rintro e wq21 ⟨rfl, bq⟩; have HQ21 := Lib.hid (below_then HXQ.out bq HXQ.out.size); have T21 := Lib.hid (sl_then bq (Nat.le_refl _) TX.out); clear bq)
                      | (go_at_call 19; (with_reducible refine (dhmK ka key.length kc key H aa A.length ac A wq21 HH.out rfl rfl (sl_then HQ21.out (Nat.le_refl _) HKS4.out) HK0.out HKC.out HKX.out HK8.out (sl_then HQ21.out (Nat.le_refl _) HAS4.out) HA0.out HAC.out HAX.out HA8.out).mono ?_); rintro e wq22 ⟨a7, c7, rfl, l7, _, _, bq⟩; have HQ22 := Lib.hid (below_then HQ21.out bq HQ21.out.size); have T22 := Lib.hid (sl_then bq (Nat.le_refl _) T21.out); have DA22 := Lib.hid l7; clear bq l7)
                      | (go_at_call 19; (with_reducible refine (dhmK ka key.length kc key H2 (some ⟨g, 0, none⟩) A.length bc B2 wq22 HH2.out rfl HB2L.out (sl_then HQ22.out (Nat.le_refl _) HKS4.out) HK0.out HKC.out HKX.out HK8.out (sl_then HQ22.out (Nat.le_refl _) HBS4.out) (fun h => by cases h) HBC.out HBX.out HB8.out).mono ?_); rintro e wq23 ⟨a8, c8, rfl, l8, _, _, bq⟩; have HQ23 := Lib.hid (below_then HQ22.out bq HQ22.out.size); have T23 := Lib.hid (sl_then bq (Nat.le_refl _) T22.out); have DA23 := Lib.hid (sl_then bq (Nat.le_refl _) DA22.out); have DB23 := Lib.hid l8; clear bq l8)
                      | (go_at_call 15; (with_reducible refine (bytesD a7 a8 c7 c8 32 32 H H2 wq23 true HHL.out HH2L.out DA23.out DB23.out HHX.out HH2X.out HR3.out).mono ?_); rintro e w' ⟨rfl, rfl⟩))
                    go_ret
                    exact ⟨rfl, below_then HBA.out HQ23.out HBA.out.size⟩
                  · have HR2 := Lib.hid (show false = decide (H2 = H) from (decide_eq_false c2).symm)
                    clear c2
                    go_wp2_with (first
                      | (go_at_call 13; (with_reducible refine (first w4 HT4.out HB4.out).mono ?_); rintro e wq1 ⟨rfl, bq⟩; have HQ1 := Lib.hid bq; have T1 := Lib.hid (sl_then bq (Nat.le_refl _) HTS4.out); clear bq)
                      | (go_at_call 16; (with_reducible refine (sumK aa A.length ac A S1 wq1 HS1.out rfl (sl_then HQ1.out (Nat.le_refl _) HAS4.out) HA0.out HAC.out HAX.out HA9.out (tabR_then HQ1.out HT4.out) (tabB_then HQ1.out HB4.out)).mono ?_); rintro e wq2 ⟨a2, c2, rfl, l2, _, _, bq⟩; have HQ2 := Lib.hid (below_then HQ1.out bq HQ1.out.size); have T2 := Lib.hid (sl_then bq (Nat.le_refl _) T1.out); have SA2 := Lib.hid l2; clear bq l2)
                      | (go_at_call 16; (with_reducible refine (sumK (some ⟨g, 0, none⟩) A.length bc B2 S2 wq2 HS2.out HB2L.out (sl_then HQ2.out (Nat.le_refl _) HBS4.out) (fun h => by cases h) HBC.out HBX.out HB9.out (tabR_then HQ2.out HT4.out) (tabB_then HQ2.out HB4.out)).mono ?_); rintro e wq3 ⟨a3, c3, rfl, l3, _, _, bq⟩; have HQ3 := Lib.hid (below_then HQ2.out bq HQ2.out.size); have T3 := Lib.hid (sl_then bq (Nat.le_refl _) T2.out); have SA3 := Lib.hid (sl_then bq (Nat.le_refl _) SA2.out); have SB3 := Lib.hid l3; clear bq l3)
                      | (go_at_call 22; (with_reducible refine (equalE a2 a3 c2 c3 32 32 S1 S2 wq3 false HS1L.out HS2L.out SA3.out SB3.out HS1X.out HS2X.out HS1Z.out HR1.out).mono ?_); rintro e wq4 ⟨rfl, bq⟩; have HQ4 := Lib.hid (below_then HQ3.out bq HQ3.out.size); have T4 := Lib.hid (sl_then bq (Nat.le_refl _) T3.out); clear bq)
                      | (go_at_call 18; (with_reducible refine (hmacN ka kc key H2 (some ⟨g, 0, none⟩) A.length bc wq4.heap.size B2 wq4 HH2.out HB2L.out rfl (sl_then HQ4.out (Nat.le_refl _) HKS4.out) HK0.out HKC.out HKX.out HK8.out (sl_then HQ4.out (Nat.le_refl _) HBS4.out) (fun h => by cases h) HBC.out HBX.out HB8.out (tabR_then HQ4.out HT4.out) (tabB_then HQ4.out HB4.out)).mono ?_); rintro e wx ⟨xb, xo, xc, rfl, lx, _, bx⟩; have HX0 := Lib.hid (show Sl wx (some ⟨xb, xo, none⟩) H2 from .inr ⟨xb, xo, rfl, lx⟩); have HXQ := Lib.hid (below_then HQ4.out bx HQ4.out.size); have TX := Lib.hid (sl_then bx (Nat.le_refl _) T4.out); clear lx bx)
                      | (go_at_call 22; (with_reducible refine (equalE (some ⟨xb, xo, none⟩) (some ⟨tb, tq, none⟩) xc tc 32 32 H2 H wx false HH2L.out HHL.out HX0.out TX.out HH2X.out HHX.out HH2Z.out HR2.out).mono ?_); rintro e wq21 ⟨rfl, bq⟩; have HQ21 := Lib.hid (below_then HXQ.out bq HXQ.out.size); have T21 := Lib.hid (sl_then bq (Nat.le_refl _) TX.out); clear bq))
                    go_ret
                    exact ⟨rfl, below_then HBA.out HQ21.out HBA.out.size⟩

end Go.Proofs.YtmfkfpgomglplaaDoor.Ml
