/- tiklaw23.DeckStands: the walk. -/
import Derived.Test.YtkogmjbiedpbnaaDoorDoes
import Derived.Test.YtkogmjbiedpbnaaDoorAirW
import Derived.LoopTactic
set_option linter.unusedVariables false
namespace Go.Proofs.YtkogmjbiedpbnaaDoor.StandsW
open Go Go.RowKit Kit Nums Rate0 Scale Scale2 CkMath CkC CkD CkE CkN OfA OfB Dk Dk2 Dk3 Dk4 Does AirW

theorem add_at (b o i : Nat) : (⟨b, o, none⟩ : Addr).add i = ⟨b, o + i, none⟩ := by unfold Addr.add; split <;> simp_all
theorem row_at {w : World} {a : Option Addr} {len cap : Nat} {zs : List Int} (h : IsRow .u64 w a len cap zs) (i : Nat) (hi : i < len) :
    ∃ (b off z : Nat), a = some ⟨b, off, none⟩ ∧ w.cell? ⟨b, off + i, none⟩ = some (.int .u64 (z : Int)) ∧ z < 18446744073709551616 := by
  rcases h with ⟨_, rfl, _, _⟩ | ⟨⟨b, o, sp⟩, rfl, hlc, hm, hz, hcell, hwf⟩
  · omega
  · have g := hcell i (by omega)
    have hspot : sp = none := by simpa [Addr.add] using World.cell?_spot (hcell 0 (by omega))
    subst hspot
    rw [add_at] at g
    have hmem : zs.getD i 0 ∈ zs := by
      rw [List.getD_eq_getElem?_getD, List.getElem?_eq_getElem (by omega)]
      exact List.getElem_mem _
    obtain ⟨h0, h1⟩ := AirW.in64 (hwf _ hmem)
    obtain ⟨z, hz⟩ := Int.eq_ofNat_of_zero_le h0
    rw [hz] at g h1
    exact ⟨b, o, z, rfl, g, by omega⟩
theorem row_len {w : World} {a : Option Addr} {len cap : Nat} {zs : List Int} (h : IsRow .u64 w a len cap zs) : len ≤ 9223372036854775807 := by
  rcases h with ⟨_, rfl, _, _⟩ | ⟨_, _, hlc, hm, _⟩
  · decide
  · unfold maxLen at hm; omega
abbrev bx (o : Opr) : Obj := .cells #[.int .i64 o.kind, .int .u64 (o.now : Int), .int .u64 (o.lo : Int), .int .u64 (o.hi : Int), .int .u64 (o.time : Int), .float .f64 o.x] 36
set_option maxRecDepth 100000 in
set_option maxHeartbeats 4000000 in
theorem out (now lo hi at_ : Nat) (kind : Int) (n l h t x : Nat) (a : Option Addr) (len cap : Nat) (w : World) (hT : TabZ w) (hlm : len ≤ 9223372036854775807) (b0 b1 b2 b3 b4 b5 : Bool) (h0 : decide ((200 : Int) < (len : Int)) = b0) (h1 : decide ((hi : Int) < (lo : Int)) = b1) (h2 : decide ((1152921504606846976 : Int) < (hi : Int)) = b2) (h3 : decide ((1152921504606846976 : Int) < (now : Int)) = b3)
    (h4 : decide ((at_ : Int) < (lo : Int)) = b4) (h5 : decide ((hi : Int) < (at_ : Int)) = b5) (hall : (b0 || b1 || b2 || b3 || b4 || b5) = true) :
    Calls Tryd.prog 5 #[.int .u64 (now : Int), .int .u64 (lo : Int), .int .u64 (hi : Int), .int .u64 (at_ : Int), .agg #[.int .i64 kind, .int .u64 (n : Int), .int .u64 (l : Int), .int .u64 (h : Int), .int .u64 (t : Int), .float .f64 x], .slice a len cap] w (OutP w) := by
  have h1' : decide (hi < lo) = b1 := by rw [← h1]; exact decide_eq_decide.2 (by omega)
  have h4' : decide (at_ < lo) = b4 := by rw [← h4]; exact decide_eq_decide.2 (by omega)
  have h5' : decide (hi < at_) = b5 := by rw [← h5]; exact decide_eq_decide.2 (by omega)
  have HT := Lib.hid (hT.alloc (.cells #[.int .i64 kind, .int .u64 (n : Int), .int .u64 (l : Int), .int .u64 (h : Int), .int .u64 (t : Int), .float .f64 x] 36))
  have HB := Lib.hid ((Below.refl w.heap.size w).alloc (Nat.le_refl _) (.cells #[.int .i64 kind, .int .u64 (n : Int), .int .u64 (l : Int), .int .u64 (h : Int), .int .u64 (t : Int), .float .f64 x] 36))
  have HF : Hid (∀ W, TabZ W → Calls Tryd.prog 8 #[] W fun e w' => e = .returned (.bool true) ∧ Below W.heap.size W w') := Lib.hid (fun W h => first W h)
  generalize hw : w.alloc (.cells #[.int .i64 kind, .int .u64 (n : Int), .int .u64 (l : Int), .int .u64 (h : Int), .int .u64 (t : Int), .float .f64 x] 36) = W0 at *
  clear hT
  have hc : b0 = true ∨ (b0 = false ∧ b1 = true) ∨ (b0 = false ∧ b1 = false ∧ b2 = true) ∨ (b0 = false ∧ b1 = false ∧ b2 = false ∧ b3 = true) ∨ (b0 = false ∧ b1 = false ∧ b2 = false ∧ b3 = false ∧ b4 = true) ∨ (b0 = false ∧ b1 = false ∧ b2 = false ∧ b3 = false ∧ b4 = false ∧ b5 = true) := by
    revert hall; cases b0 <;> cases b1 <;> cases b2 <;> cases b3 <;> cases b4 <;> cases b5 <;> decide
  rcases hc with rfl | ⟨rfl, rfl⟩ | ⟨rfl, rfl, rfl⟩ | ⟨rfl, rfl, rfl, rfl⟩ | ⟨rfl, rfl, rfl, rfl, rfl⟩ | ⟨rfl, rfl, rfl, rfl, rfl, rfl⟩
  all_goals
    clear hall
    go_enter Tryd.func5, Tryd.ntmps5
    go_wp2_with fail
    refine (HF.out _ HT.out).mono ?_
    rintro e w1 ⟨rfl, hb1⟩
    go_wp2_with fail
    refine (newD w1).mono ?_
    rintro e w2 ⟨p, q, hp, hq, rfl, hD, hb2⟩
    clear hD
    have hb3 := below_next (below_next HB.out hb1) hb2
    have ht2 := (HT.out.then_ hb1).then_ hb2
    clear hb1 hb2
    go_wp2_with fail
    refine (HF.out _ ht2).mono ?_
    rintro e w3 ⟨rfl, hb4⟩
    go_wp2
    go_ret
    exact ⟨rfl, below_next hb3 hb4⟩
set_option maxRecDepth 100000 in
set_option maxHeartbeats 8000000 in
theorem main (now lo hi at_ : Nat) (o : Opr) (a : Option Addr) (len cap : Nat) (zs : List Int) (w : World) (hT : TabZ w) (ho : o.ok) (hr : IsRow .u64 w a len cap zs) (hl : len ≤ 200) (h1 : lo ≤ hi) (h2 : hi ≤ 1152921504606846976) (h3 : now ≤ 1152921504606846976) (h4 : lo ≤ at_) (h5 : at_ ≤ hi) :
    Calls Tryd.prog 5 #[.int .u64 (now : Int), .int .u64 (lo : Int), .int .u64 (hi : Int), .int .u64 (at_ : Int), .agg (oprV o), .slice a len cap] w (OutP w) := by
  have b0 : decide ((200 : Int) < (len : Int)) = false := decide_eq_false (by omega)
  have b1 : decide ((hi : Int) < (lo : Int)) = false := decide_eq_false (by omega)
  have b1' : decide (hi < lo) = false := decide_eq_false (by omega)
  have b2 : decide ((1152921504606846976 : Int) < (hi : Int)) = false := decide_eq_false (by omega)
  have b3 : decide ((1152921504606846976 : Int) < (now : Int)) = false := decide_eq_false (by omega)
  have b4 : decide ((at_ : Int) < (lo : Int)) = false := decide_eq_false (by omega)
  have b4' : decide (at_ < lo) = false := decide_eq_false (by omega)
  have b5 : decide ((hi : Int) < (at_ : Int)) = false := decide_eq_false (by omega)
  have b5' : decide (hi < at_) = false := decide_eq_false (by omega)
  have hhm : hi ≤ mx := by rw [mx_eq]; omega
  have he : ends now lo hi = true := ends_true h1 (by rw [mx_eq]; omega) hhm
  have e1 : seekE now lo hi at_ = 0 := by unfold seekE; rw [he, if_neg (by decide), if_neg (by omega)]
  obtain ⟨d1, hd1⟩ : ∃ d1, seekD d0 now lo hi at_ = d1 := ⟨_, rfl⟩
  have e2 : d1.mode = 1 ∧ d1.place = at_ := by
    rw [← hd1]; unfold seekD; rw [he, if_neg (by decide), if_neg (by omega)]
    exact ⟨rfl, show min at_ hi = at_ by omega⟩
  have K1 : Dkk d1 := by rw [← hd1]; exact seekD_dkk d0_ok
  have CK := Lib.hid (fun w p q (h : Dl w p q d0) => seekC now lo hi at_ h d0_ok)
  rw [e1, hd1] at CK
  have HE2 := Lib.hid e2
  have HK1 := Lib.hid K1
  have HROW := Lib.hid (row_at hr)
  have HTick := Lib.hid (fun (d : Dck) (i z : Nat) (hi' : i ≤ 200) (hz : z ≤ hi) (hm : d.mode = 1) => show (tickD d (now + i) z hi).mode = 1 ∧ (tickD d (now + i) z hi).place = max d.place z from by
    have he' : ends (now + i) z hi = true := ends_true hz (by rw [mx_eq]; omega) hhm
    unfold tickD
    rw [he', if_neg (by decide), if_pos hm]
    split
    · exact ⟨hm, show z = max d.place z by omega⟩
    · exact ⟨hm, by omega⟩)
  have HO := Lib.hid ho
  have hx0 := heap_alloc_new w (.cells (oprV o) 36)
  have hT0 := hT.alloc (.cells (oprV o) 36)
  have hB0 := (Below.refl w.heap.size w).alloc (Nat.le_refl _) (.cells (oprV o) 36)
  have HF : Hid (∀ W, TabZ W → Calls Tryd.prog 8 #[] W fun e w' => e = .returned (.bool true) ∧ Below W.heap.size W w') := Lib.hid (fun W h => first W h)
  have HDoes := Lib.hid (fun W p q d (h : Dl W p q d) (hk : Dkk d) (hT : TabZ W) => doesC o ho h hk hT)
  have HSame := Lib.hid (fun (d : Dck) (h1 : d.mode = 1) (h : doesE d o ≠ 0) => does_same o h1 h)
  have hV : oprV o = #[.int .i64 o.kind, .int .u64 (o.now : Int), .int .u64 (o.lo : Int), .int .u64 (o.hi : Int), .int .u64 (o.time : Int), .float .f64 o.x] := rfl
  rw [hV] at HDoes hx0 hT0 hB0 ⊢
  have n3 := Lib.hid h3
  clear hT ho hr h1 h4 h5 he e1 hd1 e2 K1 hV h2
  generalize hw : w.alloc (.cells #[.int .i64 o.kind, .int .u64 (o.now : Int), .int .u64 (o.lo : Int), .int .u64 (o.hi : Int), .int .u64 (o.time : Int), .float .f64 o.x] 36) = W0 at *
  have x0 : W0.cell? ⟨w.heap.size, 0, none⟩ = some (.int .i64 o.kind) := by simp [World.cell?, hx0]
  have x1 : W0.cell? ⟨w.heap.size, 1, none⟩ = some (.int .u64 (o.now : Int)) := by simp [World.cell?, hx0]
  have x2 : W0.cell? ⟨w.heap.size, 2, none⟩ = some (.int .u64 (o.lo : Int)) := by simp [World.cell?, hx0]
  have x3 : W0.cell? ⟨w.heap.size, 3, none⟩ = some (.int .u64 (o.hi : Int)) := by simp [World.cell?, hx0]
  have x4 : W0.cell? ⟨w.heap.size, 4, none⟩ = some (.int .u64 (o.time : Int)) := by simp [World.cell?, hx0]
  have x5 : W0.cell? ⟨w.heap.size, 5, none⟩ = some (.float .f64 o.x) := by simp [World.cell?, hx0]
  have X0 := Lib.hid x0
  have X1 := Lib.hid x1
  have X2 := Lib.hid x2
  have X3 := Lib.hid x3
  have X4 := Lib.hid x4
  have X5 := Lib.hid x5
  have HT0 := Lib.hid hT0
  clear x0 x1 x2 x3 x4 x5 hx0 hT0
  generalize o.kind = ok at *
  generalize o.now = on at *
  generalize o.lo = ol at *
  generalize o.hi = oh at *
  generalize o.time = ot at *
  generalize o.x = ox at *
  go_enter Tryd.func5, Tryd.ntmps5
  go_wp2_with fail
  refine (HF.out _ HT0.out).mono ?_
  rintro e w1 ⟨rfl, hb1⟩
  go_wp2_with fail
  refine (newD w1).mono ?_
  rintro e w2 ⟨p, q, hp, hq, rfl, hD, hb2⟩
  have z1 := hb1.size
  have y1 : W0.heap.size ≤ p := by omega
  have y2 : W0.heap.size ≤ q := by omega
  have hW2 := below_next hb1 hb2
  clear hb1 hb2 z1
  go_wp2_with fail
  refine (CK.out _ _ _ hD).mono ?_
  rintro e w3 ⟨rfl, hD3, hf⟩
  have hW3 := hf.below hW2 y1 y2
  have HD3 := Lib.hid hD3
  have HW3 := Lib.hid hW3
  clear hD hD3 hW2 hW3 hf hw
  go_wp2
  go_loopw [14, 15] (fun s14 s15 wr => ∃ (i : Nat) (d : Dck), i ≤ len ∧ s14 = .int .u64 (d.place : Int) ∧ s15 = .int .i64 (i : Int) ∧ d.mode = 1 ∧ Dkk d ∧ Dl wr p q d ∧ Below W0.heap.size W0 wr) (fun _ s15 _ => len - (intOf s15).toNat)
  case atStart => exact ⟨0, d1, Nat.zero_le _, by rw [HE2.out.2], rfl, HE2.out.1, HK1.out, HD3.out, HW3.out⟩
  case round =>
    clear HD3 HW3 HE2 HK1
    obtain ⟨i, d, hi', rfl, rfl, hm, hk, hD, hW⟩ := hrel
    by_cases hlt : i < len
    · obtain ⟨sb, so, z, rfl, hcell, hz⟩ := HROW.out i hlt
      have hcr : wr.cell? ⟨sb, so + i, none⟩ = some (.int .u64 (z : Int)) := cell_then (below_next hB0 hW) (Nat.le_refl _) hcell
      clear hcell
      by_cases hzh : hi < z
      · have bz : decide ((hi : Int) < (z : Int)) = true := decide_eq_true (by omega)
        have bz' : decide (hi < z) = true := decide_eq_true hzh
        have HTT := Lib.hid (HT0.out.then_ hW)
        clear hm hk hD hzh
        go_wp2_with fail
        refine (HF.out _ HTT.out).mono ?_
        rintro e w4 ⟨rfl, hb4⟩
        go_wp2
        go_ret
        exact ⟨rfl, below_next (below_next hB0 hW) hb4⟩
      · have bz : decide ((hi : Int) < (z : Int)) = false := decide_eq_false (by omega)
        have bz' : decide (hi < z) = false := decide_eq_false hzh
        have hconv : IntKind.u64.wrap (i : Int) = (i : Int) := by rw [IntKind.wrap_u64]; omega
        have hadd : IntKind.u64.wrap ((now : Int) + (i : Int)) = ((now + i : Nat) : Int) := by rw [IntKind.wrap_u64]; have := n3.out; omega
        have ht := HTick.out d i z (by omega) (by omega) hm
        have HC := Lib.hid (tickC (now + i) z hi hD hk)
        have hk' : Dkk (tickD d (now + i) z hi) := tickD_dkk hk
        generalize hT' : now + i = T at *
        generalize tickD d T z hi = d2 at *
        have HD2 := Lib.hid ht
        have HK2 := Lib.hid hk'
        have hmx : ((d.place : Int) < (z : Int) ∧ Hid (max d.place z = z)) ∨ (¬ (d.place : Int) < (z : Int) ∧ Hid (max d.place z = d.place)) := by
          by_cases h : d.place < z
          · exact .inl ⟨by omega, Lib.hid (by omega)⟩
          · exact .inr ⟨by omega, Lib.hid (by omega)⟩
        clear hm hk hD hzh ht hk' hT'
        rcases hmx with ⟨hmx, HMX⟩ | ⟨hmx, HMX⟩
        all_goals
          rw [HMX.out] at HD2
          go_wp2_with fail
          refine HC.out.mono ?_
          rintro e w4 ⟨rfl, hD4, hf⟩
          have hW4 := hf.below hW y1 y2
          clear hf
          go_wp2_with fail
          refine (posC hD4).mono ?_
          rw [HD2.out.2]
          rintro e w5 ⟨rfl, rfl⟩
          have u1 : ((z : Int) != (z : Int)) = false := by simp
          have u2 : ((d.place : Int) != (d.place : Int)) = false := by simp
          go_wp2_with fail
          refine (modeC hD4).mono ?_
          rw [HD2.out.1]
          rintro e w5 ⟨rfl, rfl⟩
          go_wp2
          go_roundw
          case rel => exact ⟨i + 1, d2, by omega, by rw [HD2.out.2], by go_num, HD2.out.1, HK2.out, hD4, hW4⟩
          case measure => simp [intOf]; omega
    · obtain rfl : i = len := by omega
      have HTT0 := Lib.hid (fun W (h : Below W0.heap.size W0 W) => HT0.out.then_ h)
      have HM := Lib.hid hm
      have HKK := Lib.hid hk
      have HS := Lib.hid (HSame.out d hm)
      clear hm hk
      go_wp2_with fail
      refine (rateC hD).mono ?_
      rintro e w4 ⟨rfl, hb4⟩
      have hD4 := hD.then_ hb4
      have hW4 := below_next hW hb4
      obtain ⟨r0, r1⟩ := new_cells (w := w4) (a := d.c.num) (b := d.c.den) (T := 30)
      have hD5 := hD4.then_ ((Below.refl _ _).alloc (Nat.le_refl _) (.cells #[.int .u64 (d.c.num : Int), .int .u64 (d.c.den : Int)] 30))
      have hW5 := below_next hW4 ((Below.refl _ _).alloc (Nat.le_refl _) (.cells #[.int .u64 (d.c.num : Int), .int .u64 (d.c.den : Int)] 30))
      have hB5 : w4.heap.size ≠ p ∧ w4.heap.size ≠ q := by have h1 := hD4.lt; have h2 := hD4.2.lt; omega
      generalize hw5 : w4.alloc (.cells #[.int .u64 (d.c.num : Int), .int .u64 (d.c.den : Int)] 30) = w5 at *
      have hBlt : w4.heap.size < w5.heap.size := by rw [← hw5, World.size_alloc]; omega
      generalize hB : w4.heap.size = B at *
      clear hD hW hb4 hD4 hW4
      have x0 := cell_then hW5 (Nat.le_refl _) X0.out
      have x1 := cell_then hW5 (Nat.le_refl _) X1.out
      have x2 := cell_then hW5 (Nat.le_refl _) X2.out
      have x3 := cell_then hW5 (Nat.le_refl _) X3.out
      have x4 := cell_then hW5 (Nat.le_refl _) X4.out
      have x5 := cell_then hW5 (Nat.le_refl _) X5.out
      go_wp2_with fail
      refine (HDoes.out _ _ _ _ hD5 HKK.out (HTT0.out _ hW5)).mono ?_
      rintro e w8 ⟨rfl, hD8, hf⟩
      replace r0 : w8.cell? ⟨B, 0, none⟩ = some (.int .u64 (d.c.num : Int)) := (World.cell?_of_block (hf.block B hBlt hB5.1 hB5.2)).trans r0
      replace r1 : w8.cell? ⟨B, 1, none⟩ = some (.int .u64 (d.c.den : Int)) := (World.cell?_of_block (hf.block B hBlt hB5.1 hB5.2)).trans r1
      have hW8 := hf.below hW5 y1 y2
      have HTT := Lib.hid (HTT0.out _ hW8)
      clear x0 x1 x2 x3 x4 x5 hw5 hf hD5 hW5
      by_cases hE : doesE d o = 0
      · have bE : (doesE d o == 0) = true := by rw [hE]; rfl
        generalize doesE d o = E at *
        clear hE hD8 HS
        go_wp2_with fail
        refine (HF.out _ HTT.out).mono ?_
        rintro e w9 ⟨rfl, hb9⟩
        go_wp2
        go_ret
        exact ⟨rfl, below_next (below_next hB0 hW8) hb9⟩
      · have bE : (doesE d o == 0) = false := by rw [beq_eq_false_iff_ne]; exact hE
        rw [HS.out hE] at hD8
        generalize doesE d o = E at *
        clear hE HS
        have u1 : ((d.place : Int) == (d.place : Int)) = true := by simp
        replace hD8 := Dl.drew_ hD8
        replace HTT : Hid (TabZ w8.drew) := HTT
        go_wp2_with fail
        refine wp_region_held_drew (S := (fun W => W.cell? ⟨B, 0, none⟩ = some (.int .u64 (d.c.num : Int)) ∧ W.cell? ⟨B, 1, none⟩ = some (.int .u64 (d.c.den : Int)))) (by kernel_rfl) ?_ (fun hHeld => ?_)
        · ((try dsimp only); exact ⟨past_drew r0, past_drew r1⟩)
        refine wpAnyH_ready (rs := [0]) (by kernel_rfl) (by simp) ?_
        refine (AllReadyH.cons (o := { dst := some 109, op := Op.call { callee := Callee.value (Operand.func 8), args := #[], argTypes := #[] }, type := 4, pos := _, after := #[], guard := none }) rfl (fun K hK => ?_) AllReadyH.nil)
        go_simp
        (refine (HF.out _ HTT.out).mono ?_; rintro e v1 ⟨rfl, g1⟩; have hD9 := hD8.then_ g1)
        go_wp2_with fail
        refine hK.out _ _ ?_ (fun hHeld => ?_)
        · ((try dsimp only); exact ⟨cell_then g1 (Nat.le_refl _) r0, cell_then g1 (Nat.le_refl _) r1⟩)
        clear hK K
        try simp only [Act.put, List.setIfInBounds_toArray, List.set_cons_zero, List.set_cons_succ]
        refine wpAnyH_take (i := 1) (oi := { dst := some 110, op := Op.move (Operand.tmp 109), type := 4, pos := _, after := #[{ on := 0, ground := Ground.data }, { on := 0, ground := Ground.chain }], guard := none }) (v := ?_) rfl (by kernel_rfl) (by kernel_rfl) (by kernel_rfl) (fun _ _ _ h => h) (Or.inl ⟨by rfl, ?_⟩) (by assumption) ?_
        rotate_left
        · ((intro w hSw); (try dsimp only at hSw); go_simp; (try with_reducible rfl))
        try simp only [Act.put, List.setIfInBounds_toArray, List.set_cons_zero, List.set_cons_succ]
        refine wpAnyH_take (i := 2) (oi := { dst := some 111, op := Op.move (Operand.tmp 13), type := 24, pos := _, after := #[{ on := 1, ground := Ground.guard }], guard := some (1, true) }) (v := ?_) rfl (by kernel_rfl) (by kernel_rfl) (by kernel_rfl) (fun _ _ _ h => h) (Or.inl ⟨by rfl, ?_⟩) (by assumption) ?_
        rotate_left
        · ((intro w hSw); (try dsimp only at hSw); go_simp; (try with_reducible rfl))
        try simp only [Act.put, List.setIfInBounds_toArray, List.set_cons_zero, List.set_cons_succ]
        refine wpAnyH_take (i := 4) (oi := { dst := some 113, op := Op.move (Operand.tmp 14), type := 28, pos := _, after := #[{ on := 1, ground := Ground.guard }], guard := some (1, true) }) (v := ?_) rfl (by kernel_rfl) (by kernel_rfl) (by kernel_rfl) (fun _ _ _ h => h) (Or.inl ⟨by rfl, ?_⟩) (by assumption) ?_
        rotate_left
        · ((intro w hSw); (try dsimp only at hSw); go_simp; (try with_reducible rfl))
        try simp only [Act.put, List.setIfInBounds_toArray, List.set_cons_zero, List.set_cons_succ]
        refine wpAnyH_ready (rs := [3]) (by kernel_rfl) (by simp) ?_
        refine (AllReadyH.cons (o := { dst := some 112, op := Op.call { callee := Callee.value (Operand.func 15), args := #[Operand.tmp 111], argTypes := #[24] }, type := 28, pos := _, after := #[{ on := 2, ground := Ground.data }, { on := 1, ground := Ground.chain }, { on := 1, ground := Ground.guard }], guard := some (1, true) }) rfl (fun K hK => ?_) AllReadyH.nil)
        go_simp
        (refine (posC hD9).mono ?_; rintro e v2 ⟨rfl, rfl⟩)
        go_wp2_with fail
        refine hK.out _ _ ?_ (fun hHeld => ?_)
        · ((try dsimp only); exact ⟨cell_then g1 (Nat.le_refl _) r0, cell_then g1 (Nat.le_refl _) r1⟩)
        clear hK K
        try simp only [Act.put, List.setIfInBounds_toArray, List.set_cons_zero, List.set_cons_succ]
        refine wpAnyH_take (i := 5) (oi := { dst := some 114, op := Op.binOp BinOp.eql 28 (Operand.tmp 112) (Operand.tmp 113) 28, type := 4, pos := _, after := #[{ on := 3, ground := Ground.data }, { on := 4, ground := Ground.data }, { on := 1, ground := Ground.guard }], guard := some (1, true) }) (v := ?_) rfl (by kernel_rfl) (by kernel_rfl) (by kernel_rfl) (fun _ _ _ h => h) (Or.inl ⟨by rfl, ?_⟩) (by assumption) ?_
        rotate_left
        · ((intro w hSw); (try dsimp only at hSw); go_simp; (try with_reducible rfl))
        try simp only [Act.put, List.setIfInBounds_toArray, List.set_cons_zero, List.set_cons_succ]
        refine wpAnyH_take (i := 6) (oi := { dst := some 115, op := Op.pick (Operand.tmp 110) (Operand.tmp 114) (Operand.const (Value.bool false)), type := 4, pos := _, after := #[{ on := 1, ground := Ground.data }, { on := 5, ground := Ground.data }], guard := none }) (v := ?_) rfl (by kernel_rfl) (by kernel_rfl) (by kernel_rfl) (fun _ _ _ h => h) (Or.inl ⟨by rfl, ?_⟩) (by assumption) ?_
        rotate_left
        · ((intro w hSw); (try dsimp only at hSw); go_simp; (try with_reducible rfl))
        try simp only [Act.put, List.setIfInBounds_toArray, List.set_cons_zero, List.set_cons_succ]
        refine wpAnyH_take (i := 7) (oi := { dst := some 116, op := Op.move (Operand.tmp 115), type := 4, pos := _, after := #[{ on := 6, ground := Ground.data }, { on := 3, ground := Ground.chain }], guard := none }) (v := ?_) rfl (by kernel_rfl) (by kernel_rfl) (by kernel_rfl) (fun _ _ _ h => h) (Or.inl ⟨by rfl, ?_⟩) (by assumption) ?_
        rotate_left
        · ((intro w hSw); (try dsimp only at hSw); go_simp; (try with_reducible rfl))
        try simp only [Act.put, List.setIfInBounds_toArray, List.set_cons_zero, List.set_cons_succ]
        refine wpAnyH_take (i := 8) (oi := { dst := some 117, op := Op.move (Operand.tmp 13), type := 24, pos := _, after := #[{ on := 7, ground := Ground.guard }], guard := some (7, true) }) (v := ?_) rfl (by kernel_rfl) (by kernel_rfl) (by kernel_rfl) (fun _ _ _ h => h) (Or.inl ⟨by rfl, ?_⟩) (by assumption) ?_
        rotate_left
        · ((intro w hSw); (try dsimp only at hSw); go_simp; (try with_reducible rfl))
        try simp only [Act.put, List.setIfInBounds_toArray, List.set_cons_zero, List.set_cons_succ]
        refine wpAnyH_ready (rs := [9]) (by kernel_rfl) (by simp) ?_
        refine (AllReadyH.cons (o := { dst := some 118, op := Op.call { callee := Callee.value (Operand.func 14), args := #[Operand.tmp 117], argTypes := #[24] }, type := 3, pos := _, after := #[{ on := 8, ground := Ground.data }, { on := 7, ground := Ground.chain }, { on := 7, ground := Ground.guard }], guard := some (7, true) }) rfl (fun K hK => ?_) AllReadyH.nil)
        go_simp
        (refine (modeC hD9).mono ?_; rw [HM.out]; rintro e v2 ⟨rfl, rfl⟩)
        go_wp2_with fail
        refine hK.out _ _ ?_ (fun hHeld => ?_)
        · ((try dsimp only); exact ⟨cell_then g1 (Nat.le_refl _) r0, cell_then g1 (Nat.le_refl _) r1⟩)
        clear hK K
        try simp only [Act.put, List.setIfInBounds_toArray, List.set_cons_zero, List.set_cons_succ]
        refine wpAnyH_take (i := 10) (oi := { dst := some 119, op := Op.binOp BinOp.eql 3 (Operand.tmp 118) (Operand.const (Value.int IntKind.i64 1)) 3, type := 4, pos := _, after := #[{ on := 9, ground := Ground.data }, { on := 7, ground := Ground.guard }], guard := some (7, true) }) (v := ?_) rfl (by kernel_rfl) (by kernel_rfl) (by kernel_rfl) (fun _ _ _ h => h) (Or.inl ⟨by rfl, ?_⟩) (by assumption) ?_
        rotate_left
        · ((intro w hSw); (try dsimp only at hSw); go_simp; (try with_reducible rfl))
        try simp only [Act.put, List.setIfInBounds_toArray, List.set_cons_zero, List.set_cons_succ]
        refine wpAnyH_take (i := 11) (oi := { dst := some 120, op := Op.pick (Operand.tmp 116) (Operand.tmp 119) (Operand.const (Value.bool false)), type := 4, pos := _, after := #[{ on := 7, ground := Ground.data }, { on := 10, ground := Ground.data }], guard := none }) (v := ?_) rfl (by kernel_rfl) (by kernel_rfl) (by kernel_rfl) (fun _ _ _ h => h) (Or.inl ⟨by rfl, ?_⟩) (by assumption) ?_
        rotate_left
        · ((intro w hSw); (try dsimp only at hSw); go_simp; (try with_reducible rfl))
        try simp only [Act.put, List.setIfInBounds_toArray, List.set_cons_zero, List.set_cons_succ]
        refine wpAnyH_take (i := 12) (oi := { dst := some 121, op := Op.move (Operand.tmp 120), type := 4, pos := _, after := #[{ on := 11, ground := Ground.data }, { on := 9, ground := Ground.chain }], guard := none }) (v := ?_) rfl (by kernel_rfl) (by kernel_rfl) (by kernel_rfl) (fun _ _ _ h => h) (Or.inl ⟨by rfl, ?_⟩) (by assumption) ?_
        rotate_left
        · ((intro w hSw); (try dsimp only at hSw); go_simp; (try with_reducible rfl))
        try simp only [Act.put, List.setIfInBounds_toArray, List.set_cons_zero, List.set_cons_succ]
        refine wpAnyH_take (i := 13) (oi := { dst := some 122, op := Op.move (Operand.tmp 13), type := 24, pos := _, after := #[{ on := 12, ground := Ground.guard }], guard := some (12, true) }) (v := ?_) rfl (by kernel_rfl) (by kernel_rfl) (by kernel_rfl) (fun _ _ _ h => h) (Or.inl ⟨by rfl, ?_⟩) (by assumption) ?_
        rotate_left
        · ((intro w hSw); (try dsimp only at hSw); go_simp; (try with_reducible rfl))
        try simp only [Act.put, List.setIfInBounds_toArray, List.set_cons_zero, List.set_cons_succ]
        refine wpAnyH_take (i := 15) (oi := { dst := some 124, op := Op.load 30 (Operand.tmp 16), type := 30, pos := _, after := #[{ on := 12, ground := Ground.guard }], guard := some (12, true) }) (v := ?_) rfl (by kernel_rfl) (by kernel_rfl) (by kernel_rfl) (fun _ _ _ h => h) (Or.inl ⟨by rfl, ?_⟩) (by assumption) ?_
        rotate_left
        · ((intro w hSw); (try dsimp only at hSw); go_simp; (try with_reducible rfl))
        try simp only [Act.put, List.setIfInBounds_toArray, List.set_cons_zero, List.set_cons_succ]
        refine wpAnyH_ready (rs := [14]) (by kernel_rfl) (by simp) ?_
        refine (AllReadyH.cons (o := { dst := some 123, op := Op.call { callee := Callee.value (Operand.func 11), args := #[Operand.tmp 122], argTypes := #[24] }, type := 30, pos := _, after := #[{ on := 13, ground := Ground.data }, { on := 12, ground := Ground.chain }, { on := 12, ground := Ground.guard }], guard := some (12, true) }) rfl (fun K hK => ?_) AllReadyH.nil)
        go_simp
        (refine (rateC hD9).mono ?_; rintro e v2 ⟨rfl, g2⟩)
        go_wp2_with fail
        refine hK.out _ _ ?_ (fun hHeld => ?_)
        · ((try dsimp only); exact ⟨cell_then g2 (Nat.le_refl _) (cell_then g1 (Nat.le_refl _) r0), cell_then g2 (Nat.le_refl _) (cell_then g1 (Nat.le_refl _) r1)⟩)
        clear hK K
        try simp only [Act.put, List.setIfInBounds_toArray, List.set_cons_zero, List.set_cons_succ]
        refine wpAnyH_take (i := 16) (oi := { dst := some 125, op := Op.binOp BinOp.eql 30 (Operand.tmp 123) (Operand.tmp 124) 30, type := 4, pos := _, after := #[{ on := 14, ground := Ground.data }, { on := 15, ground := Ground.data }, { on := 12, ground := Ground.guard }], guard := some (12, true) }) (v := ?_) rfl (by kernel_rfl) (by kernel_rfl) (by kernel_rfl) (fun _ _ _ h => h) (Or.inl ⟨by rfl, ?_⟩) (by assumption) ?_
        rotate_left
        · ((intro w hSw); (try dsimp only at hSw); go_simp; (try with_reducible rfl))
        try simp only [Act.put, List.setIfInBounds_toArray, List.set_cons_zero, List.set_cons_succ]
        refine wpAnyH_take (i := 17) (oi := { dst := some 126, op := Op.pick (Operand.tmp 121) (Operand.tmp 125) (Operand.const (Value.bool false)), type := 4, pos := _, after := #[{ on := 12, ground := Ground.data }, { on := 16, ground := Ground.data }], guard := none }) (v := ?_) rfl (by kernel_rfl) (by kernel_rfl) (by kernel_rfl) (fun _ _ _ h => h) (Or.inl ⟨by rfl, ?_⟩) (by assumption) ?_
        rotate_left
        · ((intro w hSw); (try dsimp only at hSw); go_simp; (try with_reducible rfl))
        try simp only [Act.put, List.setIfInBounds_toArray, List.set_cons_zero, List.set_cons_succ]
        refine wpAnyH_take (i := 18) (oi := { dst := some 12, op := Op.assign (Operand.tmp 126), type := 4, pos := _, after := #[{ on := 17, ground := Ground.data }, { on := 14, ground := Ground.chain }, { on := 0, ground := Ground.phase }, { on := 1, ground := Ground.phase }, { on := 2, ground := Ground.phase }, { on := 3, ground := Ground.phase }, { on := 4, ground := Ground.phase }, { on := 5, ground := Ground.phase }, { on := 6, ground := Ground.phase }, { on := 7, ground := Ground.phase }, { on := 8, ground := Ground.phase }, { on := 9, ground := Ground.phase }, { on := 10, ground := Ground.phase }, { on := 11, ground := Ground.phase }, { on := 12, ground := Ground.phase }, { on := 13, ground := Ground.phase }, { on := 14, ground := Ground.phase }, { on := 15, ground := Ground.phase }, { on := 16, ground := Ground.phase }, { on := 17, ground := Ground.phase }], guard := none }) (v := ?_) rfl (by kernel_rfl) (by kernel_rfl) (by kernel_rfl) (fun _ _ _ h => h) (Or.inl ⟨by rfl, ?_⟩) (by assumption) ?_
        rotate_left
        · ((intro w hSw); (try dsimp only at hSw); go_simp; (try with_reducible rfl))
        try simp only [Act.put, List.setIfInBounds_toArray, List.set_cons_zero, List.set_cons_succ]
        refine wpAnyH_done (by kernel_rfl) ?_ _
        go_wp2
        go_ret
        exact ⟨rfl, below_next (below_next hB0 hW8) (below_next (below_next (Below.refl _ _).drew g1) g2)⟩
theorem walkT (now lo hi at_ : Int) (o : Opr) (a : Option Addr) (len cap : Nat) (zs : List Int) (W : World) (w0 : (Lit.int .u64 now).wf = true) (w1 : (Lit.int .u64 lo).wf = true) (w2 : (Lit.int .u64 hi).wf = true) (w3 : (Lit.int .u64 at_).wf = true) (ho : o.ok) (hr : IsRow .u64 W a len cap zs)
    (hT : Lib.TabIs Tryd.prog W "math/bits.deBruijn64tab" .u8 [0, 1, 56, 2, 57, 49, 28, 3, 61, 58, 42, 50, 38, 29, 17, 4, 62, 47, 59, 36, 45, 43, 51, 22, 53, 39, 33, 30, 24, 18, 12, 5, 63, 55, 48, 27, 60, 41, 37, 16, 46, 35, 44, 21, 52, 32, 23, 11, 54, 26, 40, 15, 34, 20, 31, 10, 25, 14, 19, 9, 13, 8, 7, 6]) :
    Calls Tryd.prog 5 #[.int .u64 now, .int .u64 lo, .int .u64 hi, .int .u64 at_, .agg (oprV o), .slice a len cap] W fun e w' => e = .returned (.bool true) ∧ Below W.heap.size W w' := by
  have hT' := DkTab.tabZ hT
  obtain ⟨now, rfl⟩ := Int.eq_ofNat_of_zero_le (AirW.in64 w0).1
  obtain ⟨lo, rfl⟩ := Int.eq_ofNat_of_zero_le (AirW.in64 w1).1
  obtain ⟨hi, rfl⟩ := Int.eq_ofNat_of_zero_le (AirW.in64 w2).1
  obtain ⟨at_, rfl⟩ := Int.eq_ofNat_of_zero_le (AirW.in64 w3).1
  by_cases h : len ≤ 200 ∧ lo ≤ hi ∧ hi ≤ 1152921504606846976 ∧ now ≤ 1152921504606846976 ∧ lo ≤ at_ ∧ at_ ≤ hi
  · exact main now lo hi at_ o a len cap zs W hT' ho hr h.1 h.2.1 h.2.2.1 h.2.2.2.1 h.2.2.2.2.1 h.2.2.2.2.2
  · refine out now lo hi at_ o.kind o.now o.lo o.hi o.time o.x a len cap W hT' (row_len hr) _ _ _ _ _ _ rfl rfl rfl rfl rfl rfl ?_
    simp only [Bool.or_eq_true, decide_eq_true_eq]
    omega
end Go.Proofs.YtkogmjbiedpbnaaDoor.StandsW
