/- tikref2: the document's own decoder: Write. -/
import Derived.Test.YtlhapnnepcnfbabURef4
set_option linter.unusedVariables false
namespace Go.Proofs.Ytlhapnnepcnfbab.URef2
open Go Go.RowKit Words UMath UDec

def lenOf : Value → Nat | .slice _ n _ => n | _ => 0
def WrR (w : World) (p base : Nat) (d : Dec) (l : List Int) (e : Ending) (w' : World) : Prop :=
  ∃ v, e = .returned v ∧ RdW w' p base (writeD d l).2 ∧ w'.ownsRow w.heap.size 21 1 v (writeD d l).1.length (cellsK .i32 (writeD d l).1) ∧ w.grownBy w' (some p)
theorem eq_step {L R R' O : List Int} {x : Int} (h : writeD d0 L = (O ++ (writeD d0 R).1, (writeD d0 R).2)) (g : writeD d0 R = (x :: (writeD d0 R').1, (writeD d0 R').2)) :
    writeD d0 L = ((O ++ [x]) ++ (writeD d0 R').1, (writeD d0 R').2) := by
  rw [h, g]; simp
theorem left_at {w : World} {b off : Nat} {M : List Int} {capr n len' cap' : Nat} {a' : Option Addr} (ha : a' = if capr = n then some ⟨b, off, none⟩ else some ⟨b, off + n, none⟩) (hl : len' + n = M.length) (hc : cap' = capr - n) (hr : Row .u8 w (some ⟨b, off, none⟩) M) (hc1 : M.length ≤ capr) (hc2 : capr ≤ 9223372036854775807) :
    Left w (.slice a' len' cap') (M.drop n) := by
  obtain rfl : len' = (M.drop n).length := by rw [List.length_drop]; omega
  subst ha hc
  refine ⟨_, capr - n, rfl, by rw [List.length_drop]; omega, by omega, ?_, ?_⟩
  · by_cases e : M.drop n = []
    · exact .inl e
    · have hlt : n < M.length := by
        rcases Nat.lt_or_ge n M.length with h | h
        · exact h
        · exact absurd (List.drop_eq_nil_of_le h) e
      rw [if_neg (by omega)]
      exact Row.cut (n := 0) hr (by omega)
  · intro e
    split at e <;> cases e
/-- what front finds. -/
theorem front_cases (c : Int) (t : List Int) : ∃ N K : Nat, sizB c = K ∧ (if sizB c = 0 then 1 else frontN c (sizB c) 1 t) = N ∧ (1 ≤ N ∧ N ≤ t.length + 1 ∧ K ≤ 4) ∧
    ((K = 0 ∧ Hid (writeD d0 (c :: t) = (65533 :: (writeD d0 ((c :: t).drop N)).1, (writeD d0 ((c :: t).drop N)).2))) ∨
     (N < K ∧ N < t.length + 1 ∧ Hid (writeD d0 (c :: t) = (65533 :: (writeD d0 ((c :: t).drop N)).1, (writeD d0 ((c :: t).drop N)).2))) ∨
     (N = K ∧ Hid (writeD d0 (c :: t) = (numL (headB c) (t.take (K - 1)) :: (writeD d0 ((c :: t).drop N)).1, (writeD d0 ((c :: t).drop N)).2))) ∨
     (N < K ∧ N = t.length + 1 ∧ Hid ((writeD d0 (c :: t)).1 = [] ∧ (writeD d0 (c :: t)).2.h = (t.length + 1 : Nat)))) := by
  have hle := front_le c (sizB c) t 1
  have h4 := siz4 c
  refine ⟨_, _, rfl, rfl, ?_, ?_⟩
  · split <;> omega
  · rcases read_front c t with ⟨k1, k2⟩ | ⟨k1, k2, k3⟩ | ⟨k1, k2, k3, k4, k5⟩ | ⟨k1, k2, k3, k4⟩
    · rw [if_pos k1]
      exact .inl ⟨k1, Lib.hid k2⟩
    · rw [if_neg (by omega)]
      refine .inr (.inr (.inl ⟨k2, Lib.hid ?_⟩))
      obtain ⟨j, hj⟩ : ∃ j, sizB c = j + 1 := ⟨sizB c - 1, by omega⟩
      rw [k2, k3, hj]; rfl
    · rw [if_neg (by omega)]
      exact .inr (.inr (.inr ⟨k2, by omega, Lib.hid ⟨k4, by rw [k5]; congr 1; omega⟩⟩))
    · rw [if_neg (by omega)]
      refine .inr (.inl ⟨k2, by omega, Lib.hid ?_⟩)
      obtain ⟨j, hj⟩ : ∃ j, frontN c (sizB c) 1 t = j + 1 := ⟨frontN c (sizB c) 1 t - 1, by omega⟩
      rw [k4, hj]; rfl
theorem eq_len {L R O : List Int} (h : writeD d0 L = (O ++ (writeD d0 R).1, (writeD d0 R).2)) : O.length ≤ 2 * L.length := by
  have := write_len d0 L
  rw [h] at this
  simp only [List.length_append] at this
  omega
set_option maxRecDepth 100000 in
set_option maxHeartbeats 8000000 in
theorem writeRC (p base : Nat) (d : Dec) (a : Option Addr) (l : List Int) (cap : Nat) (w : World) (h : RdW w p base d) (hbs : base ≤ w.heap.size) (hok : OkD d) (hl : l.length ≤ 20000) (hr : Row .u8 w a l) (h0 : a = none → cap = 0) (hcap : l.length ≤ cap) (hby : ∀ x ∈ l, 0 ≤ x ∧ x ≤ 255) :
    Calls Try.prog 13 #[.pointer (some ⟨p, 0, none⟩), .slice a l.length cap] w (WrR w p base d l) := by
  obtain ⟨j0, hj, hy0, hy1, hy2⟩ := info_parts info5
  obtain ⟨i0, hi, hz0, hz1, hz2⟩ := info_parts info21
  obtain ⟨vb, B, hB, hownB, hbB, hwB, hhB⟩ := h
  have hB3 : B.length ≤ 3 := by have := (ok_h hok).2.1; omega
  obtain ⟨ab, capb, rfl, hcapb, hrb, _, hb0⟩ := row_own hownB
  have c0 : w.cell? ⟨p, 0, none⟩ = some (.slice ab B.length capb) := Blk.cell hB 0
  have HB := Lib.hid hB
  have HL : Hid (writeD d l = writeD d0 (B ++ l)) := Lib.hid (by rw [write_app, hwB]; rfl)
  have HBY : Hid (∀ x ∈ B ++ l, 0 ≤ x ∧ x ≤ 255) := Lib.hid (fun x hx => by rcases List.mem_append.1 hx with h | h; exact hbB x h; exact hby x h)
  have hLl : (B ++ l).length ≤ 20003 := by simp; omega
  have hp := Blk.lt hB
  have HC := Lib.hid (copyRC ab B capb w hrb hb0 (by omega) (by omega))
  have HR := Lib.hid hr
  clear hB hownB hbB hwB hhB hrb hb0 hby hr
  go_enter Try.func13, Try.ntmps13
  go_upto_region 1 with fail
  go_cut [1] from 8 to 14 (fun s1 wx => wx.ownsRow w.heap.size 5 1 s1 (B ++ l).length (cellsK .u8 (B ++ l)) ∧ Below w.heap.size w wx)
  case first =>
    cases a with
    | none =>
      obtain rfl : cap = 0 := h0 rfl
      have HN : Hid (l = []) := Lib.hid (List.eq_nil_of_length_eq_zero (by omega))
      have HV := Lib.hid (show Value.slice none l.length 0 = Value.slice none 0 0 by rw [HN.out]; rfl)
      go_wp2_with fail
      refine HC.out.mono ?_
      rintro e w1 ⟨v1, rfl, ho1, hb1⟩
      go_wp2_with (at_builtin; refine wpList_append_own_none rfl _ _ 22 rfl w.heap.size 5 j0 1 Try.underlying22 hj _ _ _ rfl ho1 HV.out ?_)
      go_meet
      rw [HN.out, List.append_nil]
      exact ⟨ho1, hb1⟩
    | some x =>
      have hlen : (cellsK .u8 l).length = l.length * 1 := by simp [cellsK]
      go_wp2_with fail
      refine HC.out.mono ?_
      rintro e w1 ⟨v1, rfl, ho1, hb1⟩
      have hcs := cells_any (HR.out.then_ hb1 (Nat.le_refl _))
      have hs1 := hb1.size
      go_wp2_with (at_builtin; refine wpList_append_own _ rfl _ _ 22 rfl w.heap.size 5 j0 (.int .u8 0) 1 1 Try.underlying22 hj hy0 hy1 hy2 rfl (by decide) _ _ _ rfl ho1 x l.length cap (cellsK .u8 l) rfl hlen hcs cellsK_one (by unfold maxLen; omega) (by omega) (by omega) ?_; intro v2 w2 hown2 hgrow2 hnil2)
      go_meet
      refine ⟨?_, hb1.grown hgrow2 hb1.size (fun j hj => (ho1.lt j hj).1)⟩
      rw [List.length_append, ← cellsK_app]; exact hown2
  case rest =>
    obtain ⟨hoL, hbL⟩ := hcut
    obtain ⟨aL, capL, rfl, hcL, hrL, _, hL0⟩ := row_own hoL
    clear hoL
    have HBL := Lib.hid hbL
    have hBc : Blk wc p 29 #[.slice ab B.length capb] := HB.out.then_ hbL
    have HBC := Lib.hid hBc
    have hpc := Blk.lt hBc
    have HWS := hbL.size
    clear hBc hbL HC HR c0 h0 hcap
    generalize B ++ l = L at *
    go_wp2
    go_loopw [1, 5, 6, 7] (fun s1 s5 s6 s7 wr => ∃ R O : List Int, R.length ≤ L.length ∧ Hid (∀ x ∈ R, 0 ≤ x ∧ x ≤ 255) ∧ Left wc s1 R ∧ wr.ownsRow wc.heap.size 21 1 s5 O.length (cellsK .i32 O) ∧ Hid (writeD d0 L = (O ++ (writeD d0 R).1, (writeD d0 R).2)) ∧ Below wc.heap.size wc wr) (fun s1 _ _ _ _ => lenOf s1)
    case atStart => exact ⟨L, [], Nat.le_refl _, HBY, ⟨aL, capL, rfl, hcL.1, hcL.2, hrL, hL0⟩, World.ownsRow_nil _ _ _ _, Lib.hid rfl, Below.refl _ _⟩
    case round =>
      obtain ⟨R, O, hRl, HBR, hleft, hown, HEQ, hb⟩ := hrel
      obtain ⟨ar, capr, rfl, hc1, hc2, hrr, hr0⟩ := hleft
      have hOl := eq_len HEQ.out
      have HRR := Lib.hid hrr
      have HR0 := Lib.hid hr0
      clear hrr hr0
      have hsz := hb.size
      cases R with
      | nil =>
        have HO := Lib.hid hown
        have hb4 : wr.cell? ⟨p, 0, none⟩ = some (.slice ab B.length capb) := Blk.cell (HBC.out.then_ hb) 0
        have f4 := Blk.frozen (HBC.out.then_ hb) 0
        have HE : Hid (writeD d l = (O, d0)) := Lib.hid (by rw [HL.out, HEQ.out]; simp [writeD])
        clear hown
        simp only [List.length_nil] at hc1 ⊢
        go_wp2
        go_ret
        refine ⟨_, rfl, ?_, ?_, ?_⟩
        · rw [HE.out]; exact rd0 (Blk.set_ (HBC.out.then_ hb) 0 (.slice none 0 0))
        · rw [HE.out]
          exact own_base (HO.out.kept (grownBy_set _ p 0 _) (.inr (own_blk_ne HO.out (HBC.out.then_ hb) (by decide)))) HWS
        · exact grownBy_trans (grown_of_below (HBL.out.trans (hb.mono HWS)) _) (grownBy_set _ p 0 _)
      | cons c t =>
        have hc := HBR.out c (by simp)
        obtain ⟨br, ofr, rfl⟩ := HRR.out.addr (by simp)
        obtain ⟨N, K, hK, hN, ⟨hN1, hN2, hK4⟩, hcase⟩ := front_cases c t
        have hRw := HRR.out.then_ hb (Nat.le_refl _)
        have HF := Lib.hid (frontRC (some ⟨br, ofr, none⟩) c t (t.length + 1) capr wr rfl hRw hc.1 hc.2 (by simp at hRl; omega))
        have HBD : Hid (∀ n, ∀ x ∈ (c :: t).drop n, 0 ≤ x ∧ x ≤ 255) := Lib.hid (fun n x hx => HBR.out x (List.mem_of_mem_drop hx))
        have HLE : Hid (∀ n, ((c :: t).drop n).length ≤ L.length) := Lib.hid (fun n => by rw [List.length_drop]; omega)
        have HLA : Hid (∀ (a' : Option Addr) (len' cap' : Nat), (a' = if capr = N then some ⟨br, ofr, none⟩ else some ⟨br, ofr + N, none⟩) → len' + N = t.length + 1 → cap' = capr - N → Left wc (.slice a' len' cap') ((c :: t).drop N)) := Lib.hid (fun a' len' cap' h1 h2 h3 => left_at h1 (by simpa using h2) h3 HRR.out hc1 hc2)
        have HK := Lib.hid hK
        have HN := Lib.hid hN
        clear hK hN
        simp only [List.length_cons] at hRl hc1 ⊢
        go_wp2_with fail
        refine HF.out.mono ?_
        rintro e w1 ⟨he, m1, rfl⟩
        rw [HN.out, HK.out] at he
        subst he
        have hown1 : (wr.drewN m1).ownsRow wc.heap.size 21 1 u5 O.length (cellsK .i32 O) := hown
        have hb1 : Below wc.heap.size wc (wr.drewN m1) := below_drewN hb m1
        have hrw1 : Row .u8 (wr.drewN m1) (some ⟨br, ofr, none⟩) (c :: t) := hRw.drewN m1
        clear hown hb hRw hsz HF
        generalize wr.drewN m1 = w1 at *
        have hsz := hb1.size
        rcases hcase with ⟨k1, k2⟩ | ⟨k1, k3, k2⟩ | ⟨k1, k2⟩ | ⟨k1, k3, k2⟩
        · have HX := Lib.hid (eq_step HEQ.out k2.out)
          have e1 : ((N : Int) == (K : Int)) = false := by rw [beq_eq_false_iff_ne]; omega
          subst k1
          go_wp2_with (at_builtin; refine wpList_append_own _ rfl _ _ 31 rfl wc.heap.size 21 i0 (.int .i32 0) 1 4 Try.underlying31 hi hz0 hz1 hz2 rfl (by decide) _ _ _ rfl (World.ownsRow.alloc hown1 _) ⟨w1.heap.size, 0, none⟩ 1 1 [.int .i32 65533] rfl rfl (cell_one_new _ _ _) (fun x hx => by simp at hx; subst hx; rfl) (by unfold maxLen; omega) (by omega) (by simp; omega) ?_; intro v2 w2 hown2 hgrow2 hnil2)
          have hb2 : Below wc.heap.size wc w2 := (below_al hb1).grown hgrow2 (by simp; omega) (fun j hj => (hown1.lt j hj).1)
          go_roundw
          case rel => exact ⟨(c :: t).drop N, O ++ [65533], HLE.out N, Lib.hid (HBD.out N), HLA.out _ _ _ (by first | rfl | (rw [if_neg (by omega)]) | simp) (by omega) (by omega), by rw [List.length_append, ← cellsK_app]; exact hown2, HX, hb2⟩
          case measure => simp [lenOf]; omega
        · have HX := Lib.hid (eq_step HEQ.out k2.out)
          have e1 : ((N : Int) == (K : Int)) = false := by rw [beq_eq_false_iff_ne]; omega
          have e2 : ((N : Int) == ((t.length : Int) + 1)) = false := by rw [beq_eq_false_iff_ne]; omega
          have e3 : 0 < K := by omega
          go_wp2_with (at_builtin; refine wpList_append_own _ rfl _ _ 31 rfl wc.heap.size 21 i0 (.int .i32 0) 1 4 Try.underlying31 hi hz0 hz1 hz2 rfl (by decide) _ _ _ rfl (World.ownsRow.alloc hown1 _) ⟨w1.heap.size, 0, none⟩ 1 1 [.int .i32 65533] rfl rfl (cell_one_new _ _ _) (fun x hx => by simp at hx; subst hx; rfl) (by unfold maxLen; omega) (by omega) (by simp; omega) ?_; intro v2 w2 hown2 hgrow2 hnil2)
          have hb2 : Below wc.heap.size wc w2 := (below_al hb1).grown hgrow2 (by simp; omega) (fun j hj => (hown1.lt j hj).1)
          go_roundw
          case rel => exact ⟨(c :: t).drop N, O ++ [65533], HLE.out N, Lib.hid (HBD.out N), HLA.out _ _ _ (by first | rfl | (rw [if_neg (by omega)]) | simp) (by omega) (by omega), by rw [List.length_append, ← cellsK_app]; exact hown2, HX, hb2⟩
          case measure => simp [lenOf]; omega
        · have HX := Lib.hid (eq_step HEQ.out k2.out)
          subst k1
          have htl : (t.take (N - 1)).length + 1 = N := by rw [List.length_take]; omega
          have hNUM := numberRC (some ⟨br, ofr, none⟩) c (t.take (N - 1)) capr w1 (by rw [HK.out, htl]) (by
            have := hrw1.take_ N
            obtain ⟨j, rfl⟩ : ∃ j, N = j + 1 := ⟨N - 1, by omega⟩
            simpa using this) (fun x hx => HBR.out x (by
              rcases List.mem_cons.1 hx with h | h
              · simp [h]
              · simp [List.mem_of_mem_take h]))
          rw [htl] at hNUM
          have HNUM := Lib.hid hNUM
          clear hNUM htl k2
          generalize numL (headB c) (t.take (N - 1)) = q at *
          go_wp2_with fail
          refine HNUM.out.mono ?_
          rintro e w2 ⟨rfl, m2, rfl⟩
          have hown2 : (w1.drewN m2).ownsRow wc.heap.size 21 1 u5 O.length (cellsK .i32 O) := hown1
          have hb2 : Below wc.heap.size wc (w1.drewN m2) := below_drewN hb1 m2
          clear hown1 hb1 hrw1 hsz HNUM
          generalize w1.drewN m2 = w2 at *
          have hsz := hb2.size
          go_wp2_with (at_builtin; refine wpList_append_own _ rfl _ _ 31 rfl wc.heap.size 21 i0 (.int .i32 0) 1 4 Try.underlying31 hi hz0 hz1 hz2 rfl (by decide) _ _ _ rfl (World.ownsRow.alloc hown2 _) ⟨w2.heap.size, 0, none⟩ 1 1 [.int .i32 q] rfl rfl (cell_one_new _ _ _) (fun x hx => by simp at hx; subst hx; rfl) (by unfold maxLen; omega) (by omega) (by simp; omega) ?_; intro v3 w3 hown3 hgrow3 hnil3)
          have hb3 : Below wc.heap.size wc w3 := (below_al hb2).grown hgrow3 (by simp; omega) (fun j hj => (hown2.lt j hj).1)
          go_roundw
          case rel => exact ⟨(c :: t).drop N, O ++ [q], HLE.out N, Lib.hid (HBD.out N), HLA.out _ _ _ (by first | rfl | (rw [if_neg (by omega)]) | simp) (by omega) (by omega), by rw [List.length_append, ← cellsK_app]; exact hown3, HX, hb3⟩
          case measure => simp [lenOf]; omega
        · have e1 : ((N : Int) == (K : Int)) = false := by rw [beq_eq_false_iff_ne]; omega
          have e3 : 0 < K := by omega
          have HCP := Lib.hid (copyRC (some ⟨br, ofr, none⟩) (c :: t) capr w1 hrw1 (fun h => by cases h) (by simp; omega) (by simp; omega))
          have HLN : Hid ((c :: t).length = t.length + 1) := Lib.hid rfl
          rw [HLN.out] at HCP
          have HOWN := Lib.hid hown1
          have hbase1 : w.heap.size ≤ w1.heap.size := Nat.le_trans HWS hsz
          have HE : Hid (writeD d l = (O, (writeD d0 (c :: t)).2)) := Lib.hid (by rw [HL.out, HEQ.out, k2.out.1, List.append_nil])
          have HE2 : Hid (writeD d0 (c :: t) = ([], (writeD d0 (c :: t)).2)) := Lib.hid (by rw [← k2.out.1])
          subst k3
          go_wp2_with fail
          refine HCP.out.mono ?_
          rintro e w2 ⟨v2, rfl, ho2, hb2⟩
          have hb3 : Below wc.heap.size wc w2 := below_next hb1 hb2
          have hb4 : w2.cell? ⟨p, 0, none⟩ = some (.slice ab B.length capb) := Blk.cell (HBC.out.then_ hb3) 0
          have f4 := Blk.frozen (HBC.out.then_ hb3) 0
          obtain ⟨a2, cap2, rfl, _, _, _, _⟩ := row_own ho2
          have HO2 := Lib.hid ho2
          clear ho2
          go_wp2
          go_ret
          have hbk := HBC.out.then_ hb3
          refine ⟨_, rfl, ?_, ?_, ?_⟩
          · rw [HE.out]
            exact ⟨_, c :: t, Blk.set_ hbk 0 _, own_base (HO2.out.kept (grownBy_set _ p 0 _) (.inr (own_blk_ne HO2.out hbk (by decide)))) (Nat.le_trans hbs hbase1), HBR.out, HE2.out, k2.out.2⟩
          · rw [HE.out]
            exact own_base ((own_then hb2 HOWN.out).kept (grownBy_set _ p 0 _) (.inr (own_blk_ne (own_then hb2 HOWN.out) hbk (by decide)))) HWS
          · exact grownBy_trans (grown_of_below (HBL.out.trans (hb3.mono HWS)) _) (grownBy_set _ p 0 _)
end Go.Proofs.Ytlhapnnepcnfbab.URef2
