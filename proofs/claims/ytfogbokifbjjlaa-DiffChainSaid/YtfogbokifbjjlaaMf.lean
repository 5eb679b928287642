/- KeyRuns: the walk. -/
import Derived.Test.YtfogbokifbjjlaaMe
import Derived.Test.YtfogbokifbjjlaaDm
import Derived.Test.YtfogbokifbjjlaaSp
set_option linter.unusedVariables false
namespace Go.Proofs.Ytfogbokifbjjlaa.Mf
open Go Go.RowKit Kit Gm Gv Crc Var Get Bytes WireFirst Ref3 Copy Ap Sa Sb Sd Rd RdA RdB RdC RdF La Lb Lc Ld Ma Mb Mc Md Me
open Lf (cells_byte)

/-- bytes that came in. -/
theorem row_nats {w : World} {a : Option Addr} {len cap : Nat} {zs : List Int} (h : IsRow .u8 w a len cap zs) : ∃ l : List Nat, l.length = len ∧ Sl w a l ∧ (∀ c ∈ l, c < 256) ∧ (a = none → cap = 0) ∧ len ≤ cap := by
  rcases h with ⟨rfl, rfl, rfl, rfl⟩ | ⟨⟨b, off, sp⟩, rfl, hl, hm, hz, hc, hw⟩
  · exact ⟨[], rfl, .inl rfl, by simp, fun _ => rfl, Nat.le_refl _⟩
  · by_cases h0 : len = 0
    · subst h0; exact ⟨[], rfl, .inl rfl, by simp, (fun e => by cases e), Nat.zero_le _⟩
    · have hsp : sp = none := by simpa [Addr.add] using World.cell?_spot (hc 0 (by omega))
      subst hsp
      have hlt : ∀ i, i < len → ((zs.getD i 0).toNat : Int) = zs.getD i 0 ∧ (zs.getD i 0).toNat < 256 := by
        intro i hi
        have hmem : zs.getD i 0 ∈ zs := by rw [List.getD_eq_getElem?_getD, List.getElem?_eq_getElem (by omega)]; exact List.getElem_mem _
        have := hw _ hmem
        simp only [Lit.wf, Bool.and_eq_true, decide_eq_true_eq] at this
        have h1 : IntKind.u8.min = 0 := rfl
        have h2 : IntKind.u8.max = 255 := rfl
        omega
      refine ⟨(List.range len).map fun i => (zs.getD i 0).toNat, by simp, .inr ⟨b, off, rfl, fun i hi => ?_⟩, ?_, (fun e => by cases e), hl⟩
      · have hi' : i < len := by simpa using hi
        have := hc i (by omega)
        rw [Sp.add_plain] at this
        rw [this]
        simp only [List.getElem_map, List.getElem_range]
        rw [(hlt i hi').1]
      · intro c hcc
        simp only [List.mem_map, List.mem_range] at hcc
        obtain ⟨i, hi, rfl⟩ := hcc
        exact (hlt i hi).2
theorem rb_sc2 {w : World} {g : Nat} {L Z : List Ce} (h : RB w g (L ++ Z)) : Sc w g 0 L := fun j hj i hi => by
  rw [Nat.zero_add]
  have := h.cell j (by rw [List.length_append]; omega) i hi
  rwa [List.getElem_append_left hj] at this
theorem scn_of {w : World} {b off n : Nat} {L : List Ce} (h : Sc w b off L) : Scn w (some ⟨b, off, none⟩) n L := .inr ⟨b, off, rfl, h⟩
theorem cellsSame (a1 a2 : Option Addr) (n1 n2 c1 c2 : Nat) (L : List Ce) (w : World) (e1 : n1 = L.length) (e2 : n2 = L.length) (h1 : Scn w a1 n1 L) (h2 : Scn w a2 n2 L) (m1 : n1 ≤ 1000000) :
    Calls Try.prog 25 #[.slice a1 n1 c1, .slice a2 n2 c2] w fun e w' => e = .returned (.bool true) ∧ ∃ k, w.drewN k = w' :=
  (cellsEq a1 a2 n1 n2 c1 c2 L L w e1 e2 h1 h2 m1).mono fun e w' h => ⟨by rw [h.1, decide_eq_true (rfl : L = L)], h.2⟩
theorem leftR {w : World} {p m : Nat} {r : Rdr} (h : Rc w p r) (h1 : r.at_ ≤ r.len) (h2 : r.len ≤ 9223372036854775807) (h3 : (r.len : Int) - (r.at_ : Int) = (m : Int)) : Calls Try.prog 26 #[.pointer (some ⟨p, 0, none⟩)] w fun e w' => e = .returned (.int .i64 (m : Int)) ∧ ∃ k, w.drewN k = w' :=
  (leftC h h1 h2).mono fun e w' h => ⟨by rw [h.1, h3], h.2⟩
set_option maxRecDepth 100000 in
set_option maxHeartbeats 8000000 in
theorem mainR (a : Option Addr) (n cap : Nat) (L : List Ce) (b : Option Addr) (m cap2 : Nat) (M : List Nat) (W : World) (hn : n = L.length) (hc : n ≤ cap) (hs : Scn W a n L) (hm : m = M.length) (hM : Sl W b M) (hb8 : ∀ c ∈ M, c < 256) (hb0 : b = none → cap2 = 0) (h1 : n ≤ 500) (h2 : m ≤ 500) :
    Calls Try.prog 6 #[.slice a n cap, .slice b m cap2] W fun e w' => e = .returned (.bool true) ∧ Below W.heap.size W w' := by
  have HS := Lib.hid hs
  have HN := Lib.hid hn
  have HM := Lib.hid hm
  have HMS := Lib.hid hM
  have HB8 := Lib.hid hb8
  have HB0 := Lib.hid hb0
  have HCP := Lib.hid hc
  have HMY := Lib.hid (fun (c : Ce) (w : World) => (Dm.rMay c.r c.fl c.fg c.bg c.wd w).mono fun e w' (h : _ ∧ _) => (⟨h.1, by rw [← h.2]; exact below_two w _ _⟩ : e = .returned (.bool (Cell.mayB c.r c.fl c.fg c.bg c.wd)) ∧ Below w.heap.size w w'))
  have d1 : ¬ (500 : Int) < (n : Int) := by omega
  have d2 : ¬ (500 : Int) < (m : Int) := by omega
  have HH1 := Lib.hid h1
  have HH2 := Lib.hid h2
  clear hs hn hm hM hb8 hb0 hc h1 h2
  go_enter Try.func6, Try.ntmps6
  go_wp2_with (go_at_call 12; (with_reducible refine (firstC _).mono ?_); rintro e w1 ⟨rfl, hb⟩; have HB1 := Lib.hid hb; clear hb)
  go_loopw [5] (fun s5 wr => ∃ k : Nat, k ≤ n ∧ s5 = .int .i64 k ∧ Hid (∀ i c, i < k → L[i]? = some c → MayC c) ∧ Hid (Below W.heap.size W wr)) (fun s5 _ => n - (intOf s5).toNat)
  case atStart => exact ⟨0, Nat.zero_le _, rfl, Lib.hid (fun i c hi => absurd hi (Nat.not_lt_zero _)), HB1⟩
  case round =>
    obtain ⟨k, hk, rfl, HA, HBr⟩ := hrel
    by_cases hlt : k < n
    · have hk1 : k < L.length := by rw [← HN.out]; exact hlt
      obtain ⟨b1, o1, rfl, H1s⟩ : ∃ b off, a = some ⟨b, off, none⟩ ∧ Sc wr b off L := by
        rcases HS.out.then_ HBr.out (Nat.le_refl _) with h | h
        · omega
        · exact h
      obtain ⟨x0, x1, x2, x3, x4⟩ := H1s.at_ k _ (List.getElem?_eq_getElem hk1)
      have HD := Lib.hid (show L[k]? = some L[k] from List.getElem?_eq_getElem hk1)
      have HKk := Lib.hid (show k + 1 ≤ n ∧ n - (k + 1) < n - k by omega)
      have hkI : (k : Int) < (n : Int) := by omega
      have hw1 : IntKind.i64.wrap ((k : Int) + 1) = (k : Int) + 1 := IntWalk.i64_in _ (by have := HH1.out; omega)
      generalize L[k] = c at *
      have HMC := Lib.hid (fun w => HMY.out c w)
      clear hk hlt hk1 H1s
      cases hmy : Cell.mayB c.r c.fl c.fg c.bg c.wd with
      | true =>
        have HA2 := Lib.hid (show ∀ i d, i < k + 1 → L[i]? = some d → MayC d from fun i d hi hd => by
          by_cases e : i = k
          · subst e; rw [HD.out] at hd; cases hd; exact hmy
          · exact HA.out i d (by omega) hd)
        rw [hmy] at HMC
        clear hmy HD
        obtain ⟨cr, cfl, cfg, cbg, cwd⟩ := c
        dsimp only at x0 x1 x2 x3 x4 HMC
        go_wp2_with (go_at_call 30; (with_reducible refine (HMC.out _).mono ?_); rintro e w2 ⟨rfl, hb⟩; have HB2 := Lib.hid (below_then HBr.out hb HBr.out.size); clear hb)
        first
          | exact ⟨⟨k + 1, HKk.out.1, by go_num, HA2, HB2⟩, by simp only [intOf]; exact HKk.out.2⟩
          | (go_roundw
             · exact ⟨k + 1, HKk.out.1, by go_num, HA2, HB2⟩
             · simp only [intOf]; exact HKk.out.2)
      | false =>
        rw [hmy] at HMC
        clear hmy HD
        obtain ⟨cr, cfl, cfg, cbg, cwd⟩ := c
        dsimp only at x0 x1 x2 x3 x4 HMC
        go_wp2_with (first
          | (go_at_call 30; (with_reducible refine (HMC.out _).mono ?_); rintro e w2 ⟨rfl, hb⟩; have HB2 := Lib.hid (below_then HBr.out hb HBr.out.size); clear hb)
          | (go_at_call 12; (with_reducible refine (firstC _).mono ?_); rintro e w3 ⟨rfl, hb⟩; have HB3 := Lib.hid (below_then HB2.out hb HB2.out.size); clear hb))
        go_ret
        exact ⟨rfl, HB3.out⟩
    · obtain rfl : k = n := by omega
      have hmay : ∀ c ∈ L, MayC c := fun c hc => by
        obtain ⟨i, hi, rfl⟩ := List.getElem_of_mem hc
        exact HA.out i _ (by rw [HN.out]; exact hi) (List.getElem?_eq_getElem hi)
      have HC13 := Lib.hid (cellsC a k cap L wr HN.out (by have := HH1.out; omega) ((HS.out.then_ HBr.out (Nat.le_refl _)).imp id fun ⟨b, off, h1, h2⟩ => ⟨HCP.out, b, off, h1, h2⟩))
      have HLEN := Lib.hid (cellsB_len L.length L (Nat.le_refl _) (by have := HH1.out; have := HN.out; omega))
      have HRA := Lib.hid (fun (r : Rdr) (h0 : r.err = 0) (h1 : r.at_ = 0) => (show runsF (cellsB L ++ M) k (k + 1) r [] = some ({ r with at_ := (cellsB L).length }, L) by
        have := runs_at L.length L (Nat.le_refl _) [] M [] k (k + 1) r hmay h0 h1 (by have := HN.out; simp; omega) (by have := HH1.out; omega) (by have := HN.out; omega) (.inl rfl)
        simpa using this))
      have HBY := Lib.hid (show ∀ c ∈ cellsB L ++ M, c < 256 from fun c hc => by
        rcases List.mem_append.1 hc with h | h
        · exact cells_byte _ L (Nat.le_refl _) c h
        · exact HB8.out c h)
      have HL1 := Lib.hid (show (cellsB L).length + M.length ≤ 1000000 by have := HLEN.out; have := HH1.out; have := HH2.out; have := HM.out; have := HN.out; omega)
      clear hmay hk hlt
      obtain ⟨D, hD⟩ : ∃ D, D = cellsB L ++ M := ⟨_, rfl⟩
      rw [← hD] at HRA HBY
      have HDD := Lib.hid hD
      have HDL := Lib.hid (show D.length ≤ 1000000 ∧ (D.length : Int) - ((cellsB L).length : Int) = (m : Int) ∧ (cellsB L).length ≤ D.length by rw [hD, List.length_append]; have := HL1.out; have := HM.out; omega)
      generalize cellsB L = CB at *
      clear hD
      go_wp2_with (first
        | (go_at_call 17; (with_reducible refine HC13.out.mono ?_); rintro e w1 ⟨v1, rfl, hr, hb⟩; have HB2 := Lib.hid hb; have HR2 := Lib.hid hr; have HM2 := Lib.hid (sl_then (below_then HBr.out hb HBr.out.size) (Nat.le_refl _) HMS.out); clear hr hb)
        | (at_builtin; refine app_sl rfl _ _ rfl wr.heap.size _ CB rfl HR2.out b m cap2 M rfl HM.out HB0.out HM2.out HL1.out HB2.out.size ?_; intro v3 w3 hr3 hb3; rw [← HDD.out] at hr3; obtain ⟨a3, c3, rfl, hc3, hs3, h03, hx3⟩ := rb_sl hr3; have HS3 := Lib.hid hs3; have H03 := Lib.hid h03; have HB3 := Lib.hid (hb3 _ _ (Nat.le_refl _) HB2.out); clear hr3 hb3 hc3 hs3 h03 hx3)
        | (go_at_call 21; (with_reducible refine (newC a3 c3 D w3 HDL.out.1 HBY.out HS3.out H03.out).mono ?_); rintro e w4 ⟨p, r, hp, rfl, hrc, hat, herr, hby, hb4⟩; have HRC := Lib.hid hrc; have HBYY := Lib.hid hby; have HAT := Lib.hid hat; have HER := Lib.hid herr; have HB4 := Lib.hid (below_then HB3.out hb4 HB3.out.size); have HPP := Lib.hid (Nat.le_trans HB3.out.size hp); clear hp hrc hat herr hby hb4)
        | (go_at_call 23; (with_reducible refine (readYes p r _ D k L w4 (by have := HH1.out; omega) HRC.out HBYY.out HER.out (HRA.out r HER.out HAT.out)).mono ?_); rintro e w5 ⟨g, rfl, hg, hr5, hp5, hg5, hl5⟩; have HB5 := Lib.hid (show Below wr.heap.size wr w5 from ⟨hg5.os.trans HB4.out.os, hg5.tape.trans HB4.out.tape, hg5.output.trans HB4.out.output, Nat.le_trans HB4.out.size hg5.size, fun j hj => (hg5.block j (Nat.lt_of_lt_of_le hj HB4.out.size) (fun e => by have := HPP.out; injection e with e; omega)).trans (HB4.out.block j hj)⟩); have HR5 := Lib.hid (rb_sc2 hr5); have HP5 := Lib.hid hp5; clear hg hr5 hp5 hg5 hl5)
        | (go_at_call 12; (with_reducible refine (firstC _).mono ?_); rintro e w6 ⟨rfl, hb⟩; have HB6 := Lib.hid (below_then HB5.out hb HB5.out.size); have HR6 := Lib.hid (HR5.out.then_ hb (Nat.le_refl _)); have HP6 := Lib.hid (HP5.out.then_ hb); clear hb)
        | (go_at_call 25; (with_reducible refine (cellsSame a (some ⟨g, 0, none⟩) k L.length cap k L w6 HN.out rfl (HS.out.then_ (below_then HBr.out HB6.out HBr.out.size) (Nat.le_refl _)) (scn_of HR6.out) (by have := HH1.out; omega)).mono ?_); rintro e w7 ⟨rfl, kk, hkk⟩; have HB7 := Lib.hid (show Below wr.heap.size wr w7 by rw [← hkk]; exact ⟨HB6.out.os, HB6.out.tape, HB6.out.output, HB6.out.size, HB6.out.block⟩); have HP7 := Lib.hid (show Rc w7 p { r with at_ := CB.length } by rw [← hkk]; exact HP6.out); have HLF := Lib.hid (show ({ r with at_ := CB.length } : Rdr).at_ ≤ ({ r with at_ := CB.length } : Rdr).len ∧ ({ r with at_ := CB.length } : Rdr).len ≤ 9223372036854775807 ∧ (({ r with at_ := CB.length } : Rdr).len : Int) - ((({ r with at_ := CB.length } : Rdr).at_ : Nat) : Int) = (m : Int) from ⟨by rw [HBYY.out.len]; exact HDL.out.2.2, by rw [HBYY.out.len]; have := HDL.out.1; omega, by rw [HBYY.out.len]; exact HDL.out.2.1⟩); clear hkk)
        | (go_at_call 26; (with_reducible refine (leftR (m := m) HP7.out HLF.out.1 HLF.out.2.1 HLF.out.2.2).mono ?_); rintro e w8 ⟨rfl, kk, hkk⟩; have HB8x := Lib.hid (show Below wr.heap.size wr w8 by rw [← hkk]; exact ⟨HB7.out.os, HB7.out.tape, HB7.out.output, HB7.out.size, HB7.out.block⟩); clear hkk))
      go_ret
      exact ⟨rfl, below_then HBr.out HB8x.out HBr.out.size⟩
end Go.Proofs.Ytfogbokifbjjlaa.Mf
