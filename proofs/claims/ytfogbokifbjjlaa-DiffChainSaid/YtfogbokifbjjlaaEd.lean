/- DiffChain: screens that came in; the walk. -/
import Derived.Test.YtfogbokifbjjlaaDo
import Derived.Test.YtfogbokifbjjlaaSp
set_option linter.unusedVariables false
namespace Go.Proofs.Ytfogbokifbjjlaa.Ed
open Go Go.RowKit Kit Gm Gv Crc Var Get Bytes WireFirst Ref3 Copy Ap Sa Sb Sd Rd RdA La Lb Lc Ld Oe Of Na Nb Ti Tj Tk Pb Da Db Dc Dd Df Dg Dh Di Dj Dk Dl Dn Do
open Go.ChangeShapes Go.WideShapes Go.Deep Go.Joins

/-- a screen that came in. -/
structure SV where
  s : Scr
  a : Option Addr
  n : Nat
  c : Nat
  L : List Ce
instance : Inhabited SV := ⟨⟨⟨0, 0, 0, 0, false, ⟨#[]⟩⟩, none, 0, 0, []⟩⟩
def SV.ok (w : World) (r : SV) : Prop := Sp.IsCells w r.a r.n r.c r.L
def scV (r : SV) : List Value := [.int .i64 r.s.R, .int .i64 r.s.C, .slice r.a r.n r.c, .int .i64 r.s.row, .int .i64 r.s.col, .bool r.s.hid, .string r.s.ti]
section
variable {H : Type} {enc : TypeId × Value → H} {w : World} {base : Nat} {spare : Nat → Bool} {held : Bool}
set_option maxRecDepth 100000 in
theorem open_sv {fuel : Nat} {cs : List Value} {x : DataW H × List MemPlace} (hl : cs.length = 7) (hf : DataW.trod enc Try.prog w base spare held fuel 24 cs = some x) : ∃ r : SV, cs = scV r ∧ r.ok w := by
  match cs, hl with
  | [c0, c1, c2, c3, c4, c5, c6], _ =>
    obtain ⟨xs, n, _, _, _, hlen, hg⟩ := DataW.trod_struct Try.underlying24 hf
    match xs, hlen with
    | [y0, y1, y2, y3, y4, y5, y6], _ =>
      have g0 := hg 0 _ rfl
      have g1 := hg 1 _ rfl
      have g2 := hg 2 _ rfl
      have g3 := hg 3 _ rfl
      have g4 := hg 4 _ rfl
      have g5 := hg 5 _ rfl
      have g6 := hg 6 _ rfl
      simp [Sp.cells22, Sp.cells9, Sp.cells4, Sp.cells3] at g0 g1 g2 g3 g4 g5 g6
      obtain ⟨x0, e0, _, h0⟩ := DataW.trod_int Try.underlying3 g0
      obtain ⟨x1, e1, _, h1⟩ := DataW.trod_int Try.underlying3 g1
      obtain ⟨a, m, cap, L, rfl, hL⟩ := Sp.open_cells g2
      obtain ⟨x3, e3, _, h3⟩ := DataW.trod_int Try.underlying3 g3
      obtain ⟨x4, e4, _, h4⟩ := DataW.trod_int Try.underlying3 g4
      obtain ⟨x5, e5, _⟩ := DataW.trod_bool Try.underlying4 g5
      obtain ⟨x6, e6, _⟩ := DataW.trod_string Try.underlying9 g6
      simp at e0 e1 e3 e4 e5 e6
      subst e0 e1 e3 e4 e5 e6
      exact ⟨⟨⟨x0, x1, x3, x4, x5, x6⟩, a, m, cap, L⟩, rfl, hL⟩
/-- a slice of screens. -/
def IsScrs (w : World) (a : Option Addr) (len cap : Nat) (F : Nat → SV) : Prop :=
  len ≤ cap ∧ cap ≤ maxLen ∧ (len = 0 ∨ ∃ b off, a = some ⟨b, off, none⟩ ∧ ∀ i, i < len → (∀ j, j < 7 → w.cell? ⟨b, off + i * 7 + j, none⟩ = (scV (F i))[j]?) ∧ (F i).ok w)
set_option maxRecDepth 100000 in
theorem open_scrs {fuel : Nat} {c : Value} {x : DataW H × List MemPlace} (h : DataW.trod enc Try.prog w base spare held fuel 62 [c] = some x) : ∃ a len cap F, c = .slice a len cap ∧ IsScrs w a len cap F := by
  rcases open_slice Try.underlying62 h with ⟨hc, _⟩ | ⟨a, len', cap', m, n, D, Pl, hc, hb, hl, hm, hmm, rfl, hx⟩
  · simp at hc
    subst hc
    exact ⟨none, 0, 0, fun _ => default, rfl, Nat.le_refl _, Nat.zero_le _, .inl rfl⟩
  simp at hc
  subst hc
  have hlm : len' ≤ m := by rw [hmm]; split <;> omega
  have each : ∀ i, i < len' → ∃ q : SV, (∀ j, j < 7 → w.cell? (a.add (i * 7 + j)) = (scV q)[j]?) ∧ q.ok w := by
    intro i hi
    obtain ⟨cs', h1, h2⟩ := hx i (by omega)
    rw [Sp.cells24] at h1
    obtain ⟨_, hlen, hcell⟩ := World.cells?_some h1
    obtain ⟨q, rfl, hq⟩ := open_sv hlen h2
    refine ⟨q, fun j hj => ?_, hq⟩
    have := hcell j (by omega)
    rw [add_add] at this
    exact this
  obtain ⟨q, hq⟩ := choose_lt each
  refine ⟨a, len', cap', q, rfl, hl, hm, ?_⟩
  by_cases h0 : 0 < len'
  · obtain ⟨b, off, sp⟩ := a
    have hsp : sp = none := by simpa [Addr.add] using World.cell?_spot (show w.cell? _ = some (.int .i64 (q 0).s.R) from (hq 0 h0).1 0 (by omega))
    subst hsp
    refine .inr ⟨b, off, rfl, fun i hi => ⟨fun j hj => ?_, (hq i hi).2⟩⟩
    have := (hq i hi).1 j hj
    rw [Sp.add_plain, ← Nat.add_assoc] at this
    exact this
  · exact .inl (by omega)
end
/-- the element of a slice of screens. -/
def El (w : World) (b off : Nat) (r : SV) : Prop := (w.cell? ⟨b, off, none⟩ = some (.int .i64 r.s.R) ∧ w.cell? ⟨b, off + 1, none⟩ = some (.int .i64 r.s.C) ∧ w.cell? ⟨b, off + 2, none⟩ = some (.slice r.a r.n r.c) ∧ w.cell? ⟨b, off + 3, none⟩ = some (.int .i64 r.s.row) ∧ w.cell? ⟨b, off + 4, none⟩ = some (.int .i64 r.s.col) ∧ w.cell? ⟨b, off + 5, none⟩ = some (.bool r.s.hid) ∧ w.cell? ⟨b, off + 6, none⟩ = some (.string r.s.ti)) ∧ ScA w r.a r.n r.c r.L
theorem el_of {w : World} {b off len cap : Nat} {F : Nat → SV} (h : ∀ i, i < len → (∀ j, j < 7 → w.cell? ⟨b, off + i * 7 + j, none⟩ = (scV (F i))[j]?) ∧ (F i).ok w) (i : Nat) (hi : i < len) : El w b (off + i * 7) (F i) := by
  obtain ⟨h1, k1, k2, e, s, _⟩ := h i hi
  exact ⟨⟨h1 0 (by omega), h1 1 (by omega), h1 2 (by omega), h1 3 (by omega), h1 4 (by omega), h1 5 (by omega), h1 6 (by omega)⟩, e, k1, s⟩
theorem El.then_ {w w1 : World} {B b off : Nat} {r : SV} (h : El w b off r) (hb : Below B w w1) (hB : w.heap.size ≤ B) : El w1 b off r := by
  obtain ⟨⟨x0, x1, x2, x3, x4, x5, x6⟩, hs⟩ := h
  exact ⟨⟨cell_then hb hB x0, cell_then hb hB x1, cell_then hb hB x2, cell_then hb hB x3, cell_then hb hB x4, cell_then hb hB x5, cell_then hb hB x6⟩, hs.then_ hb hB⟩
theorem sc_apart {w : World} {p g n c : Nat} {s : Scr} {a : Option Addr} {L : List Ce} (h : w.heap[p]? = some (svO s a n c)) (hs : Sc w g 0 L) (hl : 1 ≤ L.length) : g ≠ p := by
  rintro rfl
  have h1 := hs 0 (by omega) 0 (by omega)
  have h2 := (seven h).1
  rw [show 0 + 0 * 5 + 0 = 0 from rfl, h2] at h1
  simp [cv] at h1
def Ok3 (r : SV) : Prop := (r.n ≤ 3000 ∧ r.s.ti.size ≤ 3000) ∧ MayS r.s r.L
theorem ok_snoc {F : Nat → SV} {k : Nat} (h : ∀ j, j < k → Ok3 (F j)) (hk : Ok3 (F k)) : ∀ j, j < k + 1 → Ok3 (F j) := by
  intro j hj
  rcases Nat.lt_succ_iff_lt_or_eq.1 hj with h1 | rfl
  · exact h j h1
  · exact hk
set_option maxRecDepth 100000 in
set_option maxHeartbeats 8000000 in
theorem less (a : Option Addr) (len cap : Nat) (W : World) (hl : len < 1 ∨ 10 < len) :
    Calls Try.prog 11 #[.slice a len cap] W fun e w' => e = .returned (.bool true) ∧ Below W.heap.size W w' := by
  have HFIRST := Lib.hid (fun w => firstD w)
  by_cases h1 : len < 1
  · have d1 : (len : Int) < 1 := by omega
    clear hl h1
    go_enter Try.func11, Try.ntmps11
    go_wp2_with (first
      | (go_at_call 33; (with_reducible refine (HFIRST.out W).mono ?_); rintro e w1 ⟨rfl, hb⟩; have HB1 := Lib.hid hb; clear hb)
      | (go_at_call 33; (with_reducible refine (HFIRST.out w1).mono ?_); rintro e w2 ⟨rfl, hb⟩; have HB2 := Lib.hid (below_next2 HB1.out hb); clear hb))
    go_ret
    exact ⟨rfl, HB2.out⟩
  · have d1 : ¬ (len : Int) < 1 := by omega
    have d2 : (10 : Int) < (len : Int) := by omega
    clear hl h1
    go_enter Try.func11, Try.ntmps11
    go_wp2_with (first
      | (go_at_call 33; (with_reducible refine (HFIRST.out W).mono ?_); rintro e w1 ⟨rfl, hb⟩; have HB1 := Lib.hid hb; clear hb)
      | (go_at_call 33; (with_reducible refine (HFIRST.out w1).mono ?_); rintro e w2 ⟨rfl, hb⟩; have HB2 := Lib.hid (below_next2 HB1.out hb); clear hb))
    go_ret
    exact ⟨rfl, HB2.out⟩
set_option maxRecDepth 100000 in
set_option maxHeartbeats 8000000 in
theorem mainC (b off len cap : Nat) (F : Nat → SV) (W : World) (hl : 1 ≤ len ∧ len ≤ 10) (HE : ∀ i, i < len → El W b (off + i * 7) (F i)) :
    Calls Try.prog 11 #[.slice (some ⟨b, off, none⟩) len cap] W fun e w' => e = .returned (.bool true) ∧ Below W.heap.size W w' := by
  have HFIRST := Lib.hid (fun w => firstD w)
  have HEL := Lib.hid (fun w1 (hb : Below W.heap.size W w1) i (hi : i < len) => (HE i hi).then_ hb (Nat.le_refl _))
  have HLEN := Lib.hid hl
  have d1 : ¬ (len : Int) < 1 := by omega
  have d2 : ¬ (10 : Int) < (len : Int) := by omega
  have d3 : (0 : Int) < (len : Int) := by omega
  clear HE hl
  go_enter Try.func11, Try.ntmps11
  go_wp2_with (go_at_call 33; (with_reducible refine (HFIRST.out W).mono ?_); rintro e w1 ⟨rfl, hb⟩; have HB1 := Lib.hid hb; clear hb)
  go_loopw [3] (fun s3 wr => ∃ k : Nat, k ≤ len ∧ s3 = .int .i64 k ∧ Hid (∀ j, j < k → Ok3 (F j)) ∧ Hid (Below W.heap.size W wr)) (fun s3 _ => len - (intOf s3).toNat)
  case atStart => exact ⟨0, Nat.zero_le _, rfl, Lib.hid (fun j hj => absurd hj (Nat.not_lt_zero _)), HB1⟩
  case round =>
    obtain ⟨k, hk, rfl, HOK, HBr⟩ := hrel
    by_cases hlt : k < len
    · obtain ⟨⟨x0, x1, x2, x3, x4, x5, x6⟩, hsa⟩ := HEL.out wr HBr.out k hlt
      have HOKK := Lib.hid (fun (h : Ok3 (F k)) => ok_snoc HOK.out h)
      have HF3 := Lib.hid (fun w1 (hb : Below wr.heap.size wr w1) => below_then HBr.out hb HBr.out.size)
      have HM := Lib.hid (show k + 1 ≤ len ∧ len - (k + 1) < len - k by omega)
      have hkI : (k : Int) < (len : Int) := by omega
      have hw1 : IntKind.i64.wrap ((k : Int) + 1) = (k : Int) + 1 := IntWalk.i64_in _ (by have := HLEN.out; omega)
      generalize F k = r at *
      obtain ⟨⟨R, C, row, col, hid, ti⟩, a1, n1, c1, L1⟩ := r
      dsimp only at x0 x1 x2 x3 x4 x5 x6 hsa
      by_cases f1 : n1 ≤ 3000 ∧ ti.size ≤ 3000
      · have HFEW := Lib.hid (fun w => few_yes ⟨R, C, row, col, hid, ti⟩ a1 n1 c1 f1 w)
        by_cases m1 : MayS ⟨R, C, row, col, hid, ti⟩ L1
        · have HMAY := Lib.hid (fun w1 (hb : Below wr.heap.size wr w1) => mayYesA ⟨R, C, row, col, hid, ti⟩ a1 n1 c1 L1 w1 (hsa.then_ hb (Nat.le_refl _)) (few_up f1) m1)
          have HO2 := Lib.hid (HOKK.out ⟨f1, m1⟩)
          clear hk hlt hsa f1 m1
          go_wp2_with (first
            | (go_at_call 13; (with_reducible refine (HFEW.out wr).mono ?_); rintro e w2 ⟨rfl, hb⟩; have HB2 := Lib.hid hb; replace x0 := cell_then hb (Nat.le_refl _) x0; replace x1 := cell_then hb (Nat.le_refl _) x1; replace x2 := cell_then hb (Nat.le_refl _) x2; replace x3 := cell_then hb (Nat.le_refl _) x3; replace x4 := cell_then hb (Nat.le_refl _) x4; replace x5 := cell_then hb (Nat.le_refl _) x5; replace x6 := cell_then hb (Nat.le_refl _) x6; clear hb)
            | (go_at_call 28; (with_reducible refine (HMAY.out w2 HB2.out).mono ?_); rintro e w3 ⟨rfl, hb⟩; have HB3 := Lib.hid (below_next2 HB2.out hb); clear hb))
          go_roundw
          · exact ⟨k + 1, HM.out.1, by go_num, HO2, Lib.hid (HF3.out _ HB3.out)⟩
          · simp only [intOf]; exact HM.out.2
        · have HMAY := Lib.hid (fun w1 (hb : Below wr.heap.size wr w1) => mayNoA ⟨R, C, row, col, hid, ti⟩ a1 n1 c1 L1 w1 (hsa.then_ hb (Nat.le_refl _)) (few_up f1) m1)
          clear hk hlt hsa f1 m1
          go_wp2_with (first
            | (go_at_call 13; (with_reducible refine (HFEW.out wr).mono ?_); rintro e w2 ⟨rfl, hb⟩; have HB2 := Lib.hid hb; replace x0 := cell_then hb (Nat.le_refl _) x0; replace x1 := cell_then hb (Nat.le_refl _) x1; replace x2 := cell_then hb (Nat.le_refl _) x2; replace x3 := cell_then hb (Nat.le_refl _) x3; replace x4 := cell_then hb (Nat.le_refl _) x4; replace x5 := cell_then hb (Nat.le_refl _) x5; replace x6 := cell_then hb (Nat.le_refl _) x6; clear hb)
            | (go_at_call 28; (with_reducible refine (HMAY.out w2 HB2.out).mono ?_); rintro e w3 ⟨rfl, hb⟩; have HB3 := Lib.hid (below_next2 HB2.out hb); clear hb)
            | (go_at_call 33; (with_reducible refine (HFIRST.out w3).mono ?_); rintro e w4 ⟨rfl, hb⟩; have HB4 := Lib.hid (below_next2 HB3.out hb); clear hb))
          go_ret
          exact ⟨rfl, HF3.out _ HB4.out⟩
      · have HFEW := Lib.hid (fun w => (fewC ⟨R, C, row, col, hid, ti⟩ a1 n1 c1 w).mono (fun e w' hq => (show e = .returned (.bool false) ∧ Below w.heap.size w w' from ⟨by rw [hq.1, decide_eq_false f1], hq.2⟩)))
        clear hk hlt hsa f1
        go_wp2_with (first
          | (go_at_call 13; (with_reducible refine (HFEW.out wr).mono ?_); rintro e w2 ⟨rfl, hb⟩; have HB2 := Lib.hid hb; replace x0 := cell_then hb (Nat.le_refl _) x0; replace x1 := cell_then hb (Nat.le_refl _) x1; replace x2 := cell_then hb (Nat.le_refl _) x2; replace x3 := cell_then hb (Nat.le_refl _) x3; replace x4 := cell_then hb (Nat.le_refl _) x4; replace x5 := cell_then hb (Nat.le_refl _) x5; replace x6 := cell_then hb (Nat.le_refl _) x6; clear hb)
          | (go_at_call 33; (with_reducible refine (HFIRST.out w2).mono ?_); rintro e w4 ⟨rfl, hb⟩; have HB4 := Lib.hid (below_next2 HB2.out hb); clear hb))
        go_ret
        exact ⟨rfl, HF3.out _ HB4.out⟩
    · obtain rfl : k = len := by omega
      obtain ⟨⟨x0, x1, x2, x3, x4, x5, x6⟩, hsa⟩ := HEL.out wr HBr.out 0 HLEN.out.1
      simp only [Nat.zero_mul, Nat.add_zero] at x0 x1 x2 x3 x4 x5 x6
      obtain ⟨r, hr⟩ : ∃ r, r = F 0 := ⟨_, rfl⟩
      rw [← hr] at x0 x1 x2 x3 x4 x5 x6 hsa
      have HR0 := Lib.hid hr
      have HSA := Lib.hid hsa
      clear hr hsa hk hlt
      obtain ⟨⟨R, C, row, col, hid, ti⟩, a1, n1, c1, L1⟩ := r
      dsimp only at x0 x1 x2 x3 x4 x5 x6
      have HZ := Lib.hid (heap_alloc_last wr sO0)
      have HBA := Lib.hid (below_one wr sO0)
      go_wp2_with ((with_reducible refine wpList_store_sc rfl _ _ rfl wr.heap.size ⟨R, C, row, col, hid, ti⟩ a1 n1 c1 _ rfl rfl HZ.out rfl ?_); intro w2 hs hb0 hk hz; have HV := Lib.hid hs; have HB2 := Lib.hid (below_then HBr.out (hb0 _ _ (Nat.le_refl _) HBA.out) HBr.out.size); have HS2 := Lib.hid (ScA.then_ HSA.out (hb0 _ _ (Nat.le_refl _) HBA.out) (Nat.le_refl _)); clear hs hb0 hk hz)
      have HPW := Lib.hid HBr.out.size
      generalize wr.heap.size = p at *
      clear x0 x1 x2 x3 x4 x5 x6 HZ HBA HSA
      go_loopw [5] (fun s5 wq => ∃ (i : Nat) (adr : Option Addr) (n c : Nat), i < k ∧ s5 = .int .i64 ((i + 1 : Nat) : Int) ∧ Hid (wq.heap[p]? = some (svO (F i).s adr n c)) ∧ Hid (ScA wq adr n c (F i).L) ∧ Hid (Below W.heap.size W wq)) (fun s5 _ => k - (intOf s5).toNat)
      case atStart => exact ⟨0, a1, n1, c1, HLEN.out.1, rfl, by rw [← HR0.out]; exact HV, by rw [← HR0.out]; exact HS2, HB2⟩
      case round =>
        obtain ⟨wq, rfl⟩ : ∃ x, x = wr := ⟨_, rfl⟩
        obtain ⟨i, adr, n, c, hi, rfl, HVr, HSr, HBq⟩ := hrel
        have hok := HOK.out i hi
        have hokz := HOK.out 0 HLEN.out.1
        obtain ⟨s1, hs1⟩ : ∃ s, s = (F i).s := ⟨_, rfl⟩
        obtain ⟨M1, hM1⟩ : ∃ L, L = (F i).L := ⟨_, rfl⟩
        have hvr := HVr.out
        have hsr := HSr.out
        have hm1 := hok.2
        rw [← hs1] at hvr hm1
        rw [← hM1] at hsr hm1
        obtain ⟨q1, o1, rfl⟩ := sca_some hsr hm1
        have hf1 : n ≤ 1000000 ∧ s1.ti.size ≤ 1000000 := ⟨by have := hsr.len; have := hm1.len; omega, by have := titleB_le hm1.2.2.2.1; omega⟩
        have HS1E := Lib.hid hs1
        have HM1E := Lib.hid hM1
        have HBS := Lib.hid (fun w1 (hb : Below wq.heap.size wq w1) => below_then HBq.out hb HBq.out.size)
        have HVQ := Lib.hid (fun w1 (hb : Below wq.heap.size wq w1) => (hb.block _ (Array.getElem?_eq_some_iff.1 hvr).1).trans hvr)
        obtain ⟨R1, C1, row1, col1, hid1, ti1⟩ := s1
        obtain ⟨x0, x1, x2, x3, x4, x5, x6⟩ := seven hvr
        dsimp only at x0 x1 x2 x3 x4 x5 x6
        by_cases hlt : i + 1 < k
        · obtain ⟨⟨y0, y1, y2, y3, y4, y5, y6⟩, hsb⟩ := HEL.out wq HBq.out (i + 1) hlt
          have hokn := HOK.out (i + 1) hlt
          obtain ⟨r2, hr2⟩ : ∃ r, r = F (i + 1) := ⟨_, rfl⟩
          rw [← hr2] at y0 y1 y2 y3 y4 y5 y6 hsb hokn
          obtain ⟨f2, m2⟩ := hokn
          have HR2 := Lib.hid hr2
          obtain ⟨⟨R2, C2, row2, col2, hid2, ti2⟩, a2, n2, c2, L2⟩ := r2
          dsimp only at y0 y1 y2 y3 y4 y5 y6 hsb f2 m2
          obtain ⟨q2, o2, rfl⟩ := sca_some hsb m2
          have HN2 := Lib.hid hsb.len
          have HMK := Lib.hid (fun w1 (hb : Below wq.heap.size wq w1) => makeYes ⟨R1, C1, row1, col1, hid1, ti1⟩ ⟨R2, C2, row2, col2, hid2, ti2⟩ (some ⟨q1, o1, none⟩) n c M1 (some ⟨q2, o2, none⟩) n2 c2 L2 w1 (hsr.then_ hb (Nat.le_refl _)) (hsb.then_ hb (Nat.le_refl _)) hf1 (few_up f2) hm1 m2)
          have HAP := Lib.hid (fun bx ox cx w1 (hb : Below wq.heap.size wq w1) (hs : Sl w1 (some ⟨bx, ox, none⟩) (makeP ⟨R1, C1, row1, col1, hid1, ti1⟩ M1 ⟨R2, C2, row2, col2, hid2, ti2⟩ L2)) (hc : (makeP ⟨R1, C1, row1, col1, hid1, ti1⟩ M1 ⟨R2, C2, row2, col2, hid2, ti2⟩ L2).length ≤ cx) => applyMade ⟨R1, C1, row1, col1, hid1, ti1⟩ ⟨R2, C2, row2, col2, hid2, ti2⟩ q1 o1 n c M1 L2 (some ⟨bx, ox, none⟩) _ cx w1 (hsr.then_ hb (Nat.le_refl _)) hf1 hm1 m2 rfl hs hc (fun h => by cases h))
          have HSAME := Lib.hid (fun (g cg : Nat) w1 (hs : Sc w1 g 0 L2) (hb : Below wq.heap.size wq w1) => same_self ⟨R2, C2, row2, col2, hid2, ti2⟩ g q2 o2 L2.length n2 cg c2 L2 w1 rfl HN2.out hs (sca_sc (hsb.then_ hb (Nat.le_refl _)) m2) (by have := m2.len; omega))
          generalize makeP ⟨R1, C1, row1, col1, hid1, ti1⟩ M1 ⟨R2, C2, row2, col2, hid2, ti2⟩ L2 = X at *
          obtain ⟨nx, hnx⟩ : ∃ nx, nx = X.length := ⟨_, rfl⟩
          rw [← hnx] at HMK HAP
          have hiI : ((i + 1 : Nat) : Int) < (k : Int) := by omega
          have hw1 : IntKind.i64.wrap (((i + 1 : Nat) : Int) + 1) = ((i + 1 + 1 : Nat) : Int) := by rw [IntWalk.i64_in _ (by have := HLEN.out; omega)]; omega
          have HIM := Lib.hid (show i + 1 < k ∧ k - (i + 1 + 1) < k - (i + 1) by omega)
          have HML := Lib.hid m2.len.2
          generalize hi1 : i + 1 = i1 at *
          have HPQ := Lib.hid (show p < wq.heap.size from (Array.getElem?_eq_some_iff.1 hvr).1)
          clear hnx hvr hsr hm1 hf1 hsb f2 m2 hlt hi hok hokz hs1 hM1 hr2 hi1
          go_upto_region 14 with fail
          have HBZ := Lib.hid (Below.refl wq.heap.size wq)
          go_region_held3 (fun V => V.cell? ⟨p, 0, none⟩ = some (.int .i64 R1) ∧ V.cell? ⟨p, 1, none⟩ = some (.int .i64 C1) ∧ V.cell? ⟨p, 2, none⟩ = some (.slice (some ⟨q1, o1, none⟩) n c) ∧ V.cell? ⟨p, 3, none⟩ = some (.int .i64 row1) ∧ V.cell? ⟨p, 4, none⟩ = some (.int .i64 col1) ∧ V.cell? ⟨p, 5, none⟩ = some (.bool hid1) ∧ V.cell? ⟨p, 6, none⟩ = some (.string ti1) ∧ V.cell? ⟨b, off + i1 * 7, none⟩ = some (.int .i64 R2) ∧ V.cell? ⟨b, off + i1 * 7 + 1, none⟩ = some (.int .i64 C2) ∧ V.cell? ⟨b, off + i1 * 7 + 2, none⟩ = some (.slice (some ⟨q2, o2, none⟩) n2 c2) ∧ V.cell? ⟨b, off + i1 * 7 + 3, none⟩ = some (.int .i64 row2) ∧ V.cell? ⟨b, off + i1 * 7 + 4, none⟩ = some (.int .i64 col2) ∧ V.cell? ⟨b, off + i1 * 7 + 5, none⟩ = some (.bool hid2) ∧ V.cell? ⟨b, off + i1 * 7 + 6, none⟩ = some (.string ti2) ∧ Below wq.heap.size wq V) (first | (go_split_ands; exact ⟨cell_then hb (Nat.le_refl _) (by assumption), cell_then hb (Nat.le_refl _) (by assumption), cell_then hb (Nat.le_refl _) (by assumption), cell_then hb (Nat.le_refl _) (by assumption), cell_then hb (Nat.le_refl _) (by assumption), cell_then hb (Nat.le_refl _) (by assumption), cell_then hb (Nat.le_refl _) (by assumption), cell_then hb (Nat.le_refl _) (by assumption), cell_then hb (Nat.le_refl _) (by assumption), cell_then hb (Nat.le_refl _) (by assumption), cell_then hb (Nat.le_refl _) (by assumption), cell_then hb (Nat.le_refl _) (by assumption), cell_then hb (Nat.le_refl _) (by assumption), cell_then hb (Nat.le_refl _) (by assumption), below_next2 (by assumption) hb⟩) | (go_split_ands; refine ⟨?_, ?_, ?_, ?_, ?_, ?_, ?_, ?_, ?_, ?_, ?_, ?_, ?_, ?_, ?_⟩ <;> (repeat (first | with_reducible assumption | (with_reducible refine past_drew ?_) | (with_reducible refine past_alloc ?_) | (with_reducible refine Below.drew ?_) | (with_reducible exact HBZ.out)))) | done) (first | (go_at_call 34; (with_reducible refine (HMK.out _ (by go_split_ands; first | with_reducible assumption | (with_reducible refine Below.drew ?_; with_reducible assumption) | exact HBZ.out)).mono ?_); rintro e wv ⟨bx, ox, cx, rfl, hcx, hsx, hb⟩))
          rename_i hbz
          clear x0 x1 x2 x3 x4 x5 x6 y0 y1 y2 y3 y4 y5 y6
          obtain ⟨r0, r1, r2, r3, r4, r5, r6, y0, y1, y2, y3, y4, y5, y6, hbz2⟩ := hbz
          have HB3 := Lib.hid (show Below wq.heap.size wq wv by with_reducible assumption)
          have HSX := Lib.hid hsx
          have HCX := Lib.hid hcx
          have HV3 := Lib.hid (HVQ.out wv HB3.out)
          obtain ⟨w3, rfl⟩ : ∃ x, x = wv := ⟨_, rfl⟩
          clear hbz2 hb hsx hcx
          go_upto_region 16 with (first
            | (go_at_call 36; (with_reducible refine (HAP.out bx ox cx w3 HB3.out HSX.out HCX.out).mono ?_); rintro e w4 ⟨g, cg, rfl, hcg, hsg, hb⟩; have HB4 := Lib.hid (below_then HB3.out hb HB3.out.size); replace r0 := cell_then hb (Nat.le_refl _) r0; replace r1 := cell_then hb (Nat.le_refl _) r1; replace r2 := cell_then hb (Nat.le_refl _) r2; replace r3 := cell_then hb (Nat.le_refl _) r3; replace r4 := cell_then hb (Nat.le_refl _) r4; replace r5 := cell_then hb (Nat.le_refl _) r5; replace r6 := cell_then hb (Nat.le_refl _) r6; replace y0 := cell_then hb (Nat.le_refl _) y0; replace y1 := cell_then hb (Nat.le_refl _) y1; replace y2 := cell_then hb (Nat.le_refl _) y2; replace y3 := cell_then hb (Nat.le_refl _) y3; replace y4 := cell_then hb (Nat.le_refl _) y4; replace y5 := cell_then hb (Nat.le_refl _) y5; replace y6 := cell_then hb (Nat.le_refl _) y6; have HV4 := Lib.hid ((hb.block _ (Array.getElem?_eq_some_iff.1 HV3.out).1).trans HV3.out); have HSG := Lib.hid hsg; have HCG := Lib.hid hcg; have HZ4 := Lib.hid (heap_alloc_last w4 sO0); clear hcg hsg hb)
            | ((with_reducible refine wpList_store_sc rfl _ _ rfl w4.heap.size ⟨R2, C2, row2, col2, hid2, ti2⟩ (some ⟨g, 0, none⟩) L2.length cg _ rfl rfl HZ4.out rfl ?_); intro w5 hs hb0 hk hz; have hb := hb0 _ _ (Nat.le_refl _) (below_one w4 sO0); have HB5 := Lib.hid (below_then HB4.out hb HB4.out.size); replace r0 := cell_then hb (Nat.le_refl _) r0; replace r1 := cell_then hb (Nat.le_refl _) r1; replace r2 := cell_then hb (Nat.le_refl _) r2; replace r3 := cell_then hb (Nat.le_refl _) r3; replace r4 := cell_then hb (Nat.le_refl _) r4; replace r5 := cell_then hb (Nat.le_refl _) r5; replace r6 := cell_then hb (Nat.le_refl _) r6; replace y0 := cell_then hb (Nat.le_refl _) y0; replace y1 := cell_then hb (Nat.le_refl _) y1; replace y2 := cell_then hb (Nat.le_refl _) y2; replace y3 := cell_then hb (Nat.le_refl _) y3; replace y4 := cell_then hb (Nat.le_refl _) y4; replace y5 := cell_then hb (Nat.le_refl _) y5; replace y6 := cell_then hb (Nat.le_refl _) y6; have HV5 := Lib.hid ((hb.block _ (Array.getElem?_eq_some_iff.1 HV4.out).1).trans HV4.out); have HSG5 := Lib.hid (HSG.out.then_ hb (Nat.le_refl _)); obtain ⟨u0, u1, u2, u3, u4, u5, u6⟩ := seven hs; (dsimp only at u0 u1 u2 u3 u4 u5 u6); clear hs hb0 hk hz hb))
          clear r0 r1 r2 r3 r4 r5 r6
          generalize w4.heap.size = pq at *
          have HBZ := Lib.hid (Below.refl w5.heap.size w5)
          go_region_held3 (fun V => V.cell? ⟨pq, 0, none⟩ = some (.int .i64 R2) ∧ V.cell? ⟨pq, 1, none⟩ = some (.int .i64 C2) ∧ V.cell? ⟨pq, 2, none⟩ = some (.slice (some ⟨g, 0, none⟩) L2.length cg) ∧ V.cell? ⟨pq, 3, none⟩ = some (.int .i64 row2) ∧ V.cell? ⟨pq, 4, none⟩ = some (.int .i64 col2) ∧ V.cell? ⟨pq, 5, none⟩ = some (.bool hid2) ∧ V.cell? ⟨pq, 6, none⟩ = some (.string ti2) ∧ V.cell? ⟨b, off + i1 * 7, none⟩ = some (.int .i64 R2) ∧ V.cell? ⟨b, off + i1 * 7 + 1, none⟩ = some (.int .i64 C2) ∧ V.cell? ⟨b, off + i1 * 7 + 2, none⟩ = some (.slice (some ⟨q2, o2, none⟩) n2 c2) ∧ V.cell? ⟨b, off + i1 * 7 + 3, none⟩ = some (.int .i64 row2) ∧ V.cell? ⟨b, off + i1 * 7 + 4, none⟩ = some (.int .i64 col2) ∧ V.cell? ⟨b, off + i1 * 7 + 5, none⟩ = some (.bool hid2) ∧ V.cell? ⟨b, off + i1 * 7 + 6, none⟩ = some (.string ti2) ∧ Below w5.heap.size w5 V) (first | (go_split_ands; exact ⟨cell_then hb (Nat.le_refl _) (by assumption), cell_then hb (Nat.le_refl _) (by assumption), cell_then hb (Nat.le_refl _) (by assumption), cell_then hb (Nat.le_refl _) (by assumption), cell_then hb (Nat.le_refl _) (by assumption), cell_then hb (Nat.le_refl _) (by assumption), cell_then hb (Nat.le_refl _) (by assumption), cell_then hb (Nat.le_refl _) (by assumption), cell_then hb (Nat.le_refl _) (by assumption), cell_then hb (Nat.le_refl _) (by assumption), cell_then hb (Nat.le_refl _) (by assumption), cell_then hb (Nat.le_refl _) (by assumption), cell_then hb (Nat.le_refl _) (by assumption), cell_then hb (Nat.le_refl _) (by assumption), below_next2 (by assumption) hb⟩) | (go_split_ands; refine ⟨?_, ?_, ?_, ?_, ?_, ?_, ?_, ?_, ?_, ?_, ?_, ?_, ?_, ?_, ?_⟩ <;> (repeat (first | with_reducible assumption | (with_reducible refine past_drew ?_) | (with_reducible refine past_alloc ?_) | (with_reducible refine Below.drew ?_) | (with_reducible exact HBZ.out)))) | done) (first | (go_at_call 29; (with_reducible refine (HSAME.out g cg _ (Sc.then_ HSG5.out (by go_split_ands; first | with_reducible assumption | (with_reducible refine Below.drew ?_; with_reducible assumption) | exact HBZ.out) (Nat.le_refl _)) (by go_split_ands; first | exact below_then HB5.out (by with_reducible assumption) HB5.out.size | exact below_then HB5.out (Below.drew (by with_reducible assumption)) HB5.out.size | exact HB5.out | exact Below.drew HB5.out)).mono ?_); rintro e wv ⟨rfl, hb⟩))
          rename_i hbz
          clear u0 u1 u2 u3 u4 u5 u6 y0 y1 y2 y3 y4 y5 y6
          obtain ⟨v0, v1, v2, v3, v4, v5, v6, z0, z1, z2, z3, z4, z5, z6, hbz2⟩ := hbz
          have hb5 : Below w5.heap.size w5 wv := by with_reducible assumption
          have HB7 := Lib.hid (below_then HB5.out hb5 HB5.out.size)
          have HV7 := Lib.hid ((hb5.block _ (Array.getElem?_eq_some_iff.1 HV5.out).1).trans HV5.out)
          have HSG7 := Lib.hid (HSG5.out.then_ hb5 (Nat.le_refl _))
          have HGP := Lib.hid (sc_apart HV7.out HSG7.out HML.out)
          obtain ⟨w7, rfl⟩ : ∃ x, x = wv := ⟨_, rfl⟩
          clear hbz2 hb hb5 z0 z1 z2 z3 z4 z5 z6
          go_wp2_with ((with_reducible refine wpList_store_sc rfl _ _ rfl p ⟨R2, C2, row2, col2, hid2, ti2⟩ (some ⟨g, 0, none⟩) L2.length cg _ rfl rfl HV7.out rfl ?_); intro w8 hs hb0 hk hz; have HV8 := Lib.hid hs; have HB8 := Lib.hid (hb0 _ _ HPW.out (HBS.out _ HB7.out)); have HSG8 := Lib.hid (sc_keep HSG7.out hk HGP.out); clear hs hb0 hk hz)
          go_roundw
          · exact ⟨i1, some ⟨g, 0, none⟩, L2.length, cg, HIM.out.1, by go_num, by rw [← HR2.out]; exact HV8, by rw [← HR2.out]; exact Lib.hid ⟨rfl, HCG.out, .inr ⟨g, 0, rfl, HSG8.out⟩⟩, HB8⟩
          · simp only [intOf]; exact HIM.out.2
        · have hik : i + 1 = k := by omega
          obtain ⟨⟨y0, y1, y2, y3, y4, y5, y6⟩, hsb⟩ := HEL.out wq HBq.out 0 HLEN.out.1
          simp only [Nat.zero_mul, Nat.add_zero] at y0 y1 y2 y3 y4 y5 y6
          generalize F 0 = r0 at *
          obtain ⟨f2, m2⟩ := hokz
          obtain ⟨⟨R2, C2, row2, col2, hid2, ti2⟩, a2, n2, c2, L2⟩ := r0
          dsimp only at y0 y1 y2 y3 y4 y5 y6 hsb f2 m2
          obtain ⟨q2, o2, rfl⟩ := sca_some hsb m2
          obtain ⟨⟨z0, z1, z2, z3, z4, z5, z6⟩, hsl⟩ := HEL.out wq HBq.out i hi
          generalize F i = rl at *
          obtain ⟨sl, al, nl, cl, Ll⟩ := rl
          dsimp only at z0 z1 z2 z3 z4 z5 z6 hsl hs1 hM1
          subst hs1 hM1
          dsimp only at z0 z1 z2 z3 z4 z5 z6
          obtain ⟨q3, o3, rfl⟩ := sca_some hsl hm1
          have HNL := Lib.hid hsl.len
          have HMK := Lib.hid (fun w1 (hb : Below wq.heap.size wq w1) => makeYes ⟨R2, C2, row2, col2, hid2, ti2⟩ ⟨R1, C1, row1, col1, hid1, ti1⟩ (some ⟨q2, o2, none⟩) n2 c2 L2 (some ⟨q1, o1, none⟩) n c M1 w1 (hsb.then_ hb (Nat.le_refl _)) (hsr.then_ hb (Nat.le_refl _)) (few_up f2) hf1 m2 hm1)
          have HAP := Lib.hid (fun bx ox cx w1 (hb : Below wq.heap.size wq w1) (hs : Sl w1 (some ⟨bx, ox, none⟩) (makeP ⟨R2, C2, row2, col2, hid2, ti2⟩ L2 ⟨R1, C1, row1, col1, hid1, ti1⟩ M1)) (hc : (makeP ⟨R2, C2, row2, col2, hid2, ti2⟩ L2 ⟨R1, C1, row1, col1, hid1, ti1⟩ M1).length ≤ cx) => applyMade ⟨R2, C2, row2, col2, hid2, ti2⟩ ⟨R1, C1, row1, col1, hid1, ti1⟩ q2 o2 n2 c2 L2 M1 (some ⟨bx, ox, none⟩) _ cx w1 (hsb.then_ hb (Nat.le_refl _)) (few_up f2) m2 hm1 rfl hs hc (fun h => by cases h))
          have HNO := Lib.hid (fun bx ox m cx w1 => applyNo 0 0 0 0 false ⟨#[]⟩ none 0 0 [] (some ⟨bx, ox, none⟩) m cx w1 ⟨rfl, Nat.le_refl _, .inl rfl⟩ ⟨by omega, by decide⟩ (fun h => by have := h.1.1; simp at this))
          have HSAME := Lib.hid (fun (g cg : Nat) w1 (hs : Sc w1 g 0 M1) (hb : Below wq.heap.size wq w1) => same_self ⟨R1, C1, row1, col1, hid1, ti1⟩ g q3 o3 M1.length nl cg cl M1 w1 rfl HNL.out hs (sca_sc (hsl.then_ hb (Nat.le_refl _)) hm1) (by have := hm1.len; omega))
          generalize makeP ⟨R2, C2, row2, col2, hid2, ti2⟩ L2 ⟨R1, C1, row1, col1, hid1, ti1⟩ M1 = X at *
          obtain ⟨nx, hnx⟩ : ∃ nx, nx = X.length := ⟨_, rfl⟩
          rw [← hnx] at HMK HAP
          have hdd : ¬ ((i + 1 : Nat) : Int) < (k : Int) := by omega
          have e1 : (k : Int) - 1 = (i : Int) := by omega
          have e2 : IntKind.i64.wrap (i : Int) = (i : Int) := IntWalk.i64_in _ (by have := HLEN.out; omega)
          have e3 : (i : Int) < (k : Int) := by omega
          have e4 : (0 : Int) < (k : Int) := by omega
          have e5 : 0 < k := by omega
          generalize hi1 : i + 1 = i1 at *
          clear hnx hvr hsr hm1 hf1 hsb hsl f2 m2 hlt hi hok hi1 HS1E HM1E HOK HR0 HV HS2
          go_upto_region 19 with fail
          have e6 : (0 : Int) < (k : Int) := by omega
          have HBZ := Lib.hid (Below.refl wq.heap.size wq)
          go_region_held3 (fun V => V.cell? ⟨b, off, none⟩ = some (.int .i64 R2) ∧ V.cell? ⟨b, off + 1, none⟩ = some (.int .i64 C2) ∧ V.cell? ⟨b, off + 2, none⟩ = some (.slice (some ⟨q2, o2, none⟩) n2 c2) ∧ V.cell? ⟨b, off + 3, none⟩ = some (.int .i64 row2) ∧ V.cell? ⟨b, off + 4, none⟩ = some (.int .i64 col2) ∧ V.cell? ⟨b, off + 5, none⟩ = some (.bool hid2) ∧ V.cell? ⟨b, off + 6, none⟩ = some (.string ti2) ∧ V.cell? ⟨p, 0, none⟩ = some (.int .i64 R1) ∧ V.cell? ⟨p, 1, none⟩ = some (.int .i64 C1) ∧ V.cell? ⟨p, 2, none⟩ = some (.slice (some ⟨q1, o1, none⟩) n c) ∧ V.cell? ⟨p, 3, none⟩ = some (.int .i64 row1) ∧ V.cell? ⟨p, 4, none⟩ = some (.int .i64 col1) ∧ V.cell? ⟨p, 5, none⟩ = some (.bool hid1) ∧ V.cell? ⟨p, 6, none⟩ = some (.string ti1) ∧ V.cell? ⟨b, off + i * 7, none⟩ = some (.int .i64 R1) ∧ V.cell? ⟨b, off + i * 7 + 1, none⟩ = some (.int .i64 C1) ∧ V.cell? ⟨b, off + i * 7 + 2, none⟩ = some (.slice (some ⟨q3, o3, none⟩) nl cl) ∧ V.cell? ⟨b, off + i * 7 + 3, none⟩ = some (.int .i64 row1) ∧ V.cell? ⟨b, off + i * 7 + 4, none⟩ = some (.int .i64 col1) ∧ V.cell? ⟨b, off + i * 7 + 5, none⟩ = some (.bool hid1) ∧ V.cell? ⟨b, off + i * 7 + 6, none⟩ = some (.string ti1) ∧ Below wq.heap.size wq V) (first | (go_split_ands; exact ⟨cell_then hb (Nat.le_refl _) (by assumption), cell_then hb (Nat.le_refl _) (by assumption), cell_then hb (Nat.le_refl _) (by assumption), cell_then hb (Nat.le_refl _) (by assumption), cell_then hb (Nat.le_refl _) (by assumption), cell_then hb (Nat.le_refl _) (by assumption), cell_then hb (Nat.le_refl _) (by assumption), cell_then hb (Nat.le_refl _) (by assumption), cell_then hb (Nat.le_refl _) (by assumption), cell_then hb (Nat.le_refl _) (by assumption), cell_then hb (Nat.le_refl _) (by assumption), cell_then hb (Nat.le_refl _) (by assumption), cell_then hb (Nat.le_refl _) (by assumption), cell_then hb (Nat.le_refl _) (by assumption), cell_then hb (Nat.le_refl _) (by assumption), cell_then hb (Nat.le_refl _) (by assumption), cell_then hb (Nat.le_refl _) (by assumption), cell_then hb (Nat.le_refl _) (by assumption), cell_then hb (Nat.le_refl _) (by assumption), cell_then hb (Nat.le_refl _) (by assumption), cell_then hb (Nat.le_refl _) (by assumption), below_next2 (by assumption) hb⟩) | (go_split_ands; refine ⟨?_, ?_, ?_, ?_, ?_, ?_, ?_, ?_, ?_, ?_, ?_, ?_, ?_, ?_, ?_, ?_, ?_, ?_, ?_, ?_, ?_, ?_⟩ <;> (repeat (first | with_reducible assumption | (with_reducible refine past_drew ?_) | (with_reducible refine past_alloc ?_) | (with_reducible refine Below.drew ?_) | (with_reducible exact HBZ.out)))) | done) (first | (go_at_call 34; (with_reducible refine (HMK.out _ (by go_split_ands; first | with_reducible assumption | (with_reducible refine Below.drew ?_; with_reducible assumption) | exact HBZ.out)).mono ?_); rintro e wv ⟨bx, ox, cx, rfl, hcx, hsx, hb⟩))
          rename_i hbz
          clear x0 x1 x2 x3 x4 x5 x6 y0 y1 y2 y3 y4 y5 y6 z0 z1 z2 z3 z4 z5 z6
          obtain ⟨r0, r1, r2, r3, r4, r5, r6, s0, s1, s2, s3, s4, s5, s6, t0, t1, t2, t3, t4, t5, t6, hbz2⟩ := hbz
          have HB3 := Lib.hid (show Below wq.heap.size wq wv by with_reducible assumption)
          have HSX := Lib.hid hsx
          have HCX := Lib.hid hcx
          obtain ⟨w3, rfl⟩ : ∃ x, x = wv := ⟨_, rfl⟩
          clear hbz2 hb hsx hcx s0 s1 s2 s3 s4 s5 s6
          go_upto_region 22 with (first
            | (go_at_call 36; (with_reducible refine (HAP.out bx ox cx w3 HB3.out HSX.out HCX.out).mono ?_); rintro e w4 ⟨g, cg, rfl, hcg, hsg, hb⟩; have HB4 := Lib.hid (below_then HB3.out hb HB3.out.size); replace t0 := cell_then hb (Nat.le_refl _) t0; replace t1 := cell_then hb (Nat.le_refl _) t1; replace t2 := cell_then hb (Nat.le_refl _) t2; replace t3 := cell_then hb (Nat.le_refl _) t3; replace t4 := cell_then hb (Nat.le_refl _) t4; replace t5 := cell_then hb (Nat.le_refl _) t5; replace t6 := cell_then hb (Nat.le_refl _) t6; have HSG := Lib.hid hsg; have HCG := Lib.hid hcg; have HZ4 := Lib.hid (heap_alloc_last w4 sO0); clear hcg hsg hb)
            | ((with_reducible refine wpList_store_sc rfl _ _ rfl w4.heap.size ⟨R1, C1, row1, col1, hid1, ti1⟩ (some ⟨g, 0, none⟩) M1.length cg _ rfl rfl HZ4.out rfl ?_); intro w5 hs hb0 hk hz; have hb := hb0 _ _ (Nat.le_refl _) (below_one w4 sO0); have HB5 := Lib.hid (below_then HB4.out hb HB4.out.size); replace t0 := cell_then hb (Nat.le_refl _) t0; replace t1 := cell_then hb (Nat.le_refl _) t1; replace t2 := cell_then hb (Nat.le_refl _) t2; replace t3 := cell_then hb (Nat.le_refl _) t3; replace t4 := cell_then hb (Nat.le_refl _) t4; replace t5 := cell_then hb (Nat.le_refl _) t5; replace t6 := cell_then hb (Nat.le_refl _) t6; have HSG5 := Lib.hid (HSG.out.then_ hb (Nat.le_refl _)); obtain ⟨u0, u1, u2, u3, u4, u5, u6⟩ := seven hs; (dsimp only at u0 u1 u2 u3 u4 u5 u6); clear hs hb0 hk hz hb)
            | (go_at_call 36; (with_reducible refine (HNO.out bx ox nx cx w5).mono ?_); rintro e w6 ⟨rfl, hb⟩; have HB6 := Lib.hid (below_then HB5.out hb HB5.out.size); replace u0 := cell_then hb (Nat.le_refl _) u0; replace u1 := cell_then hb (Nat.le_refl _) u1; replace u2 := cell_then hb (Nat.le_refl _) u2; replace u3 := cell_then hb (Nat.le_refl _) u3; replace u4 := cell_then hb (Nat.le_refl _) u4; replace u5 := cell_then hb (Nat.le_refl _) u5; replace u6 := cell_then hb (Nat.le_refl _) u6; replace t0 := cell_then hb (Nat.le_refl _) t0; replace t1 := cell_then hb (Nat.le_refl _) t1; replace t2 := cell_then hb (Nat.le_refl _) t2; replace t3 := cell_then hb (Nat.le_refl _) t3; replace t4 := cell_then hb (Nat.le_refl _) t4; replace t5 := cell_then hb (Nat.le_refl _) t5; replace t6 := cell_then hb (Nat.le_refl _) t6; have HSG6 := Lib.hid (HSG5.out.then_ hb (Nat.le_refl _)); have HZ6 := Lib.hid (heap_alloc_last w6 sO0); clear hb)
            | ((with_reducible refine wpList_store_sc rfl _ _ rfl w6.heap.size ⟨0, 0, 0, 0, false, ⟨#[]⟩⟩ none 0 0 _ rfl rfl HZ6.out rfl ?_); intro w7 hs hb0 hk hz; have hb := hb0 _ _ (Nat.le_refl _) (below_one w6 sO0); have HB7 := Lib.hid (below_then HB6.out hb HB6.out.size); replace u0 := cell_then hb (Nat.le_refl _) u0; replace u1 := cell_then hb (Nat.le_refl _) u1; replace u2 := cell_then hb (Nat.le_refl _) u2; replace u3 := cell_then hb (Nat.le_refl _) u3; replace u4 := cell_then hb (Nat.le_refl _) u4; replace u5 := cell_then hb (Nat.le_refl _) u5; replace u6 := cell_then hb (Nat.le_refl _) u6; replace t0 := cell_then hb (Nat.le_refl _) t0; replace t1 := cell_then hb (Nat.le_refl _) t1; replace t2 := cell_then hb (Nat.le_refl _) t2; replace t3 := cell_then hb (Nat.le_refl _) t3; replace t4 := cell_then hb (Nat.le_refl _) t4; replace t5 := cell_then hb (Nat.le_refl _) t5; replace t6 := cell_then hb (Nat.le_refl _) t6; have HSG7 := Lib.hid (HSG6.out.then_ hb (Nat.le_refl _)); clear hs hb0 hk hz hb))
          generalize w4.heap.size = pq at *
          have HBZ := Lib.hid (Below.refl w7.heap.size w7)
          go_region_held3 (fun V => V.cell? ⟨pq, 0, none⟩ = some (.int .i64 R1) ∧ V.cell? ⟨pq, 1, none⟩ = some (.int .i64 C1) ∧ V.cell? ⟨pq, 2, none⟩ = some (.slice (some ⟨g, 0, none⟩) M1.length cg) ∧ V.cell? ⟨pq, 3, none⟩ = some (.int .i64 row1) ∧ V.cell? ⟨pq, 4, none⟩ = some (.int .i64 col1) ∧ V.cell? ⟨pq, 5, none⟩ = some (.bool hid1) ∧ V.cell? ⟨pq, 6, none⟩ = some (.string ti1) ∧ V.cell? ⟨b, off + i * 7, none⟩ = some (.int .i64 R1) ∧ V.cell? ⟨b, off + i * 7 + 1, none⟩ = some (.int .i64 C1) ∧ V.cell? ⟨b, off + i * 7 + 2, none⟩ = some (.slice (some ⟨q3, o3, none⟩) nl cl) ∧ V.cell? ⟨b, off + i * 7 + 3, none⟩ = some (.int .i64 row1) ∧ V.cell? ⟨b, off + i * 7 + 4, none⟩ = some (.int .i64 col1) ∧ V.cell? ⟨b, off + i * 7 + 5, none⟩ = some (.bool hid1) ∧ V.cell? ⟨b, off + i * 7 + 6, none⟩ = some (.string ti1) ∧ Below w7.heap.size w7 V) (first | (go_split_ands; exact ⟨cell_then hb (Nat.le_refl _) (by assumption), cell_then hb (Nat.le_refl _) (by assumption), cell_then hb (Nat.le_refl _) (by assumption), cell_then hb (Nat.le_refl _) (by assumption), cell_then hb (Nat.le_refl _) (by assumption), cell_then hb (Nat.le_refl _) (by assumption), cell_then hb (Nat.le_refl _) (by assumption), cell_then hb (Nat.le_refl _) (by assumption), cell_then hb (Nat.le_refl _) (by assumption), cell_then hb (Nat.le_refl _) (by assumption), cell_then hb (Nat.le_refl _) (by assumption), cell_then hb (Nat.le_refl _) (by assumption), cell_then hb (Nat.le_refl _) (by assumption), cell_then hb (Nat.le_refl _) (by assumption), below_next2 (by assumption) hb⟩) | (go_split_ands; refine ⟨?_, ?_, ?_, ?_, ?_, ?_, ?_, ?_, ?_, ?_, ?_, ?_, ?_, ?_, ?_⟩ <;> (repeat (first | with_reducible assumption | (with_reducible refine past_drew ?_) | (with_reducible refine past_alloc ?_) | (with_reducible refine Below.drew ?_) | (with_reducible exact HBZ.out)))) | done) (first | (go_at_call 33; (with_reducible refine (HFIRST.out _).mono ?_); rintro e wv ⟨rfl, hb⟩) | (go_at_call 29; (with_reducible refine (HSAME.out g cg _ (Sc.then_ HSG7.out (by go_split_ands; first | with_reducible assumption | (with_reducible refine Below.drew ?_; with_reducible assumption) | exact HBZ.out) (Nat.le_refl _)) (by go_split_ands; first | exact below_then HB7.out (by with_reducible assumption) HB7.out.size | exact below_then HB7.out (Below.drew (by with_reducible assumption)) HB7.out.size | exact HB7.out | exact Below.drew HB7.out)).mono ?_); rintro e wv ⟨rfl, hb⟩))
          rename_i hbz
          clear u0 u1 u2 u3 u4 u5 u6 t0 t1 t2 t3 t4 t5 t6
          obtain ⟨v0, v1, v2, v3, v4, v5, v6, a0, a1, a2, a3, a4, a5, a6, hbz2⟩ := hbz
          have HB8 := Lib.hid (below_then HB7.out (show Below w7.heap.size w7 wv by with_reducible assumption) HB7.out.size)
          go_wp2
          go_ret
          exact ⟨rfl, HBS.out _ HB8.out⟩
/-- DiffChain. -/
theorem walk (a : Option Addr) (len cap : Nat) (F : Nat → SV) (W : World) (h : IsScrs W a len cap F) :
    Calls Try.prog 11 #[.slice a len cap] W fun e w' => e = .returned (.bool true) ∧ Below W.heap.size W w' := by
  by_cases hl : 1 ≤ len ∧ len ≤ 10
  · rcases h.2.2 with h0 | ⟨b, off, rfl, hE⟩
    · omega
    · exact mainC b off len cap F W hl (el_of (cap := cap) hE)
  · exact less a len cap W (by omega)
end Go.Proofs.Ytfogbokifbjjlaa.Ed
