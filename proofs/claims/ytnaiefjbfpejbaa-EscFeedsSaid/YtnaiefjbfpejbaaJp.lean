/- Events for the document. -/
import Derived.Test.YtnaiefjbfpejbaaJf
set_option linter.unusedVariables false
namespace Go.Proofs.Ytnaiefjbfpejbaa.Jp
open Go Go.RowKit Kit Ep Eb Er Ea Es Et Eu Ev Ek Ew Ex Ey Ez Fa Ga Gb Ia Ib Ic Iq Jt Jo Jf


theorem grown_below {w wr w2 : World} {V : Value} (hb : Below w.heap.size w wr) (hg : wr.grownBy w2 V.ownBlock) (hV : ∀ k, V.ownBlock = some k → w.heap.size ≤ k) : Below w.heap.size w w2 :=
  ⟨hg.os.trans hb.os, hg.tape.trans hb.tape, hg.output.trans hb.output, Nat.le_trans hb.size hg.size, fun k hk => (hg.block k (Nat.lt_of_lt_of_le hk hb.size) (fun e => by have := hV k e.symm; omega)).trans (hb.block k hk)⟩
/-- what Plain answers. -/
def PlP (qs : List EW) (w : World) (e : Ending) (w' : World) : Prop := ∃ ua uc, e = .returned (.slice ua qs.length uc) ∧ EvJ w' (.slice ua qs.length uc) qs ∧ Below w.heap.size w w' ∧ ∀ k, (Value.slice ua qs.length uc).ownBlock = some k → w.heap.size ≤ k
def PlI (w : World) (qs : List EW) (s3 s4 : Value) (wr : World) : Prop := ∃ (i : Nat) (ua : Option Addr) (uc : Nat), i ≤ qs.length ∧ s3 = .slice ua i uc ∧ s4 = .int .i64 (i : Int) ∧ EvJ wr s3 (qs.take i) ∧ Below w.heap.size w wr ∧ ∀ k, s3.ownBlock = some k → w.heap.size ≤ k
theorem take_qs {qs : List EW} {i : Nat} (h : i < qs.length) : qs.take (i + 1) = qs.take i ++ [qs[i]] := List.take_succ_eq_append_getElem h
set_option maxRecDepth 100000 in
set_option maxHeartbeats 4000000 in
theorem plainC (va : Option Addr) (vc n : Nat) (qs : List EW) (w : World) (hn : n = qs.length) (hV : EvI w (.slice va qs.length vc) qs) (hl : qs.length ≤ 50000) :
    Calls Try.prog 10 #[.slice va n vc] w (PlP qs w) := by
  subst hn
  have HV := Lib.hid hV
  have HLN := Lib.hid hl
  have H0 := Lib.hid (show PlI w qs (.slice none 0 0) (.int .i64 0) w from ⟨0, none, 0, Nat.zero_le _, rfl, rfl, evJ_nil w, Below.refl _ _, fun k hk => by cases hk⟩)
  clear hV hl
  go_enter Try.func10, Try.ntmps10
  go_wp2
  go_loopw [3, 4] (fun s3 s4 wr => PlI w qs s3 s4 wr) (fun _ s4 _ => qs.length - (intOf s4).toNat)
  case atStart => exact H0.out
  case round =>
    obtain ⟨i, ua, uc, hi, rfl, rfl, hJ, hB, hU⟩ := hrel
    have HJ := Lib.hid hJ
    have HB := Lib.hid hB
    have HU := Lib.hid hU
    have hl5 := HLN.out
    clear hJ hB hU
    by_cases hlt : i < qs.length
    · obtain ⟨gV, cV, hVV⟩ := own_some7 HV.out.1 (Nat.lt_of_le_of_lt (Nat.zero_le _) hlt)
      have hva : va = some ⟨gV, 0, none⟩ := by injection hVV
      subst hva
      obtain ⟨x0, x1, x2, x3, x4, x5, x6⟩ := ev_at HV.out HB.out i hlt
      have HP := Lib.hid (own_go (HV.out.2 qs[i] (List.getElem_mem hlt)) HB.out (Nat.le_refl _))
      have HTK := Lib.hid (take_qs hlt)
      obtain ⟨m, hm⟩ : ∃ m, m = qs[i] := ⟨_, rfl⟩
      rw [← hm] at HP HTK x0 x1 x2 x3 x4 x5 x6
      clear hm
      obtain ⟨E, ea, ec⟩ := m
      have HP2 : Hid (((wr.alloc (.cells #[.int .i64 (E.kind : Int), .int .i32 E.rune, .slice ea E.pa.length ec, .int .i32 E.pv, .int .i32 E.it, .int .i32 E.fi, .string E.tx] 40)).alloc (.cells #[.int .i64 (E.kind : Int), .int .i32 E.rune, .slice ea E.pa.length ec, .int .i32 E.pv, .int .i32 E.it, .int .i32 E.fi, .string E.tx] 50)).ownsRow 0 3 1 (.slice ea E.pa.length ec) E.pa.length (iv E.pa)) := Lib.hid ((HP.out.alloc _).alloc _)
      have HJ2 := Lib.hid (evJ_then (evJ_then HJ.out ((Below.refl _ wr).alloc (Nat.le_refl _) (.cells #[.int .i64 (E.kind : Int), .int .i32 E.rune, .slice ea E.pa.length ec, .int .i32 E.pv, .int .i32 E.it, .int .i32 E.fi, .string E.tx] 40)) (Nat.le_refl _)) ((Below.refl _ (wr.alloc (.cells #[.int .i64 (E.kind : Int), .int .i32 E.rune, .slice ea E.pa.length ec, .int .i32 E.pv, .int .i32 E.it, .int .i32 E.fi, .string E.tx] 40))).alloc (Nat.le_refl _) (.cells #[.int .i64 (E.kind : Int), .int .i32 E.rune, .slice ea E.pa.length ec, .int .i32 E.pv, .int .i32 E.it, .int .i32 E.fi, .string E.tx] 50)) (Nat.le_refl _))
      have HB2 := Lib.hid (below_then HB.out (past_two wr (.cells #[.int .i64 (E.kind : Int), .int .i32 E.rune, .slice ea E.pa.length ec, .int .i32 E.pv, .int .i32 E.it, .int .i32 E.fi, .string E.tx] 40) (.cells #[.int .i64 (E.kind : Int), .int .i32 E.rune, .slice ea E.pa.length ec, .int .i32 E.pv, .int .i32 E.it, .int .i32 E.fi, .string E.tx] 50)) HB.out.size)
      have HCE := Lib.hid (show ((wr.alloc (.cells #[.int .i64 (E.kind : Int), .int .i32 E.rune, .slice ea E.pa.length ec, .int .i32 E.pv, .int .i32 E.it, .int .i32 E.fi, .string E.tx] 40)).alloc (.cells #[.int .i64 (E.kind : Int), .int .i32 E.rune, .slice ea E.pa.length ec, .int .i32 E.pv, .int .i32 E.it, .int .i32 E.fi, .string E.tx] 50)).heap[wr.heap.size + 1]? = some (.cells (ecells ⟨E, ea, ec⟩).toArray 50 (0, 0)) by rw [show wr.heap.size + 1 = (wr.alloc (.cells #[.int .i64 (E.kind : Int), .int .i32 E.rune, .slice ea E.pa.length ec, .int .i32 E.pv, .int .i32 E.it, .int .i32 E.fi, .string E.tx] 40)).heap.size by simp]; exact heap_alloc_last _ _)
      have HCC : Hid (∀ j u, ([(⟨E, ea, ec⟩ : EW)].flatMap ecells)[j]? = some u → ((wr.alloc (.cells #[.int .i64 (E.kind : Int), .int .i32 E.rune, .slice ea E.pa.length ec, .int .i32 E.pv, .int .i32 E.it, .int .i32 E.fi, .string E.tx] 40)).alloc (.cells #[.int .i64 (E.kind : Int), .int .i32 E.rune, .slice ea E.pa.length ec, .int .i32 E.pv, .int .i32 E.it, .int .i32 E.fi, .string E.tx] 50)).cell? ⟨wr.heap.size + 1, j, none⟩ = some u) := Lib.hid (fun j u hj => by
        rw [List.flatMap_cons, List.flatMap_nil, List.append_nil] at hj
        rw [cell_of_row _ (wr.heap.size + 1) j _ 50 _ HCE.out]
        simpa using hj)
      have HQL : Hid ((qs.take i).length + 1 ≤ 100000) := Lib.hid (by rw [List.length_take]; omega)
      have HLT : Hid ((qs.take i).length = i) := Lib.hid (by rw [List.length_take]; omega)
      have HLS : Hid ((qs.take i ++ [(⟨E, ea, ec⟩ : EW)]).length = i + 1) := Lib.hid (by rw [List.length_append, HLT.out]; rfl)
      have hlI : (i : Int) < (qs.length : Int) := by omega
      go_wp2_with (at_builtin; (refine app_evj rfl _ _ rfl (.slice ua i uc) (qs.take i) [⟨E, ea, ec⟩] rfl HJ2.out (wr.heap.size + 1) 1 1 rfl rfl (by decide) HCC.out (fun q hq => by obtain rfl := List.mem_singleton.1 hq; exact HP2.out) HQL.out ?_; intro V4 w4 o4 b4 n4; have HB4 := Lib.hid (grown_below HB2.out b4 HU.out); have hsl := own_slice7 o4.1; rw [HLS.out] at hsl; obtain ⟨na, nc, rfl⟩ := hsl; have HJ4 := Lib.hid o4; have HN4 := Lib.hid n4; clear o4 b4 n4))
      refine ⟨⟨i + 1, na, nc, hlt, rfl, rfl, ?_, HB4.out, ?_⟩, ?_⟩
      · rw [HTK.out]; exact HJ4.out
      · intro k hk
        rcases HN4.out k hk with h1 | h1
        · exact HU.out k h1
        · exact Nat.le_trans HB2.out.size h1
      · show qs.length - ((i : Int) + 1).toNat < qs.length - (i : Int).toNat
        omega
    · have hie : i = qs.length := Nat.le_antisymm hi (Nat.not_lt.1 hlt)
      subst hie
      have HT : Hid (EvJ wr (.slice ua qs.length uc) qs) := Lib.hid (by
        have h1 := HJ.out
        rw [List.take_length] at h1
        exact h1)
      go_wp2
      go_ret
      exact ⟨ua, uc, rfl, HT.out, HB.out, HU.out⟩

end Go.Proofs.Ytnaiefjbfpejbaa.Jp
