/- mac.Sum. -/
import Derived.Test.YtmfkfpgomglplaaDoorPd
import Derived.Test.YtmfkfpgomglplaaDoorSb
import Derived.Test.YtmfkfpgomglplaaDoorMx
import Derived.Laws.Tables
import Derived.Deep.RegionHeld3
import Derived.IntWalk
import Derived.Deep.WholeRow
set_option linter.unusedVariables false
namespace Go.Proofs.YtmfkfpgomglplaaDoor.Su
open Go Go.RowKit Kit Mb Sha Ap Mc1 Sc Mx Sb Pd


def stRow (s : St) : Array Value := #[.int .u32 s.a, .int .u32 s.b, .int .u32 s.c, .int .u32 s.d, .int .u32 s.e, .int .u32 s.f, .int .u32 s.g, .int .u32 s.h]
theorem stV_row (s : St) : stV s = .agg (stRow s) := rfl
def TabB (w : World) : Prop := ∃ t fr, w.heap[0]? = some (.cells (stRow st0) t fr)
theorem tabB_then {W w1 : World} (hb : Below W.heap.size W w1) (h : TabB W) : TabB w1 := by
  obtain ⟨t, fr, h⟩ := h
  exact ⟨t, fr, by rw [hb.block 0 (Array.getElem?_eq_some_iff.1 h).1]; exact h⟩
theorem sl_setRow {w : World} {a : Option Addr} {l : List Nat} {g : Nat} (h : Sl w a l) (hg : ∀ x, a = some x → x.block ≠ g) (c : Array Value) : Sl (w.setRow g c) a l := by
  rcases h with h | ⟨b, off, rfl, h⟩
  · exact .inl h
  · refine .inr ⟨b, off, rfl, fun i hi => ?_⟩
    have hb : b ≠ g := hg _ rfl
    rw [World.cell?_of_block (show (w.setRow g c).heap[b]? = w.heap[b]? by unfold World.setRow; simp [Array.getElem?_modify, hb.symm])]
    exact h i hi
theorem paddedG (a : Option Addr) (cap n1 : Nat) (l : List Nat) (n : Nat) (w : World) (hs : Sl w a l) (h0 : a = none → cap = 0) (hlen : l.length ≤ 64) (hn : n ≤ 1000000) (hmod : n % 64 = l.length % 64) (h1 : n1 = l.length) :
    Calls Tryd.prog 49 #[.slice a n1 cap, .int .i64 (n : Int)] w fun e w' => ∃ v, e = .returned v ∧ Rb w' w.heap.size v (l ++ padL n) ∧ Below w.heap.size w w' := by
  subst h1; exact paddedC a cap l n w hs h0 hlen hn hmod
def words (s : St) : List Int := [s.a, s.b, s.c, s.d, s.e, s.f, s.g, s.h]
def Pos (s : St) : Prop := ∀ x ∈ words s, 0 ≤ x
theorem pos_mix (s : St) (m : List Nat) : Pos (mixS s m) := by
  intro x hx
  simp only [words, mixS, addS, List.mem_cons, List.not_mem_nil, or_false] at hx
  rcases hx with rfl | rfl | rfl | rfl | rfl | rfl | rfl | rfl <;> omega
theorem pos_st0 : Pos st0 := by unfold Pos; decide
theorem pos_takes (m : List Nat) (s : St) (h : Pos s) (i : Nat) : Pos (takes m s i) := by
  cases i with
  | zero => exact h
  | succ i => exact pos_mix _ _
def outW (s : St) (i : Nat) : List Nat := ((words s).take i).flatMap fun x => be4 x.toNat
theorem outW_all (s : St) : outW s 8 = outS s := by simp [outW, words, outS]
theorem outW_next (s : St) (i : Nat) (h : i < 8) : outW s i ++ be4 ((words s).getD i 0).toNat = outW s (i + 1) := by
  have hl : i < (words s).length := h
  have hg : (words s).getD i 0 = (words s)[i] := by rw [List.getD_eq_getElem?_getD, List.getElem?_eq_getElem hl]; rfl
  rw [outW, outW, List.take_succ_eq_append_getElem hl, List.flatMap_append, hg]; simp
theorem outW_len (s : St) (i : Nat) : (outW s i).length ≤ 32 := by
  have : (outW s i).length = 4 * ((words s).take i).length := by
    unfold outW
    generalize (words s).take i = l
    induction l with
    | nil => rfl
    | cons x l ih => rw [List.flatMap_cons, List.length_append, ih]; simp [be4_len]; omega
  rw [this]
  have : ((words s).take i).length ≤ 8 := Nat.le_trans (List.length_take_le' _ _) (Nat.le_refl _)
  omega
theorem stRow_at (s : St) (i : Nat) (h : i < 8) : (stRow s)[i]? = some (.int .u32 ((words s).getD i 0)) := by
  have : i = 0 ∨ i = 1 ∨ i = 2 ∨ i = 3 ∨ i = 4 ∨ i = 5 ∨ i = 6 ∨ i = 7 := by omega
  rcases this with rfl | rfl | rfl | rfl | rfl | rfl | rfl | rfl <;> rfl
theorem words_pos (s : St) (h : Pos s) (i : Nat) : 0 ≤ (words s).getD i 0 := by
  rw [List.getD_eq_getElem?_getD]
  cases hx : (words s)[i]? with
  | none => decide
  | some v => exact h v (List.mem_of_getElem? hx)
theorem takes_succ (m : List Nat) (s : St) (i : Nat) : takes m s (i + 1) = mixS (takes m s i) (blk m i) := rfl
theorem mixG (s s2 : St) (a : Option Addr) (n cap : Nat) (m : List Nat) (w : World) (hl : ∀ c ∈ m, c < 256) (hm : m.length = 64) (hn : n = 64) (hs : Sl w a m) (hcap : n ≤ cap) (hT : TabR w) (hs2 : s2 = mixS s m) :
    Calls Tryd.prog 48 #[.agg (stRow s), .slice a n cap] w fun e w' => e = .returned (.agg (stRow s2)) ∧ Below w.heap.size w w' := by
  subst hn hs2
  rcases hs with rfl | ⟨b, off, rfl, hc⟩
  · simp at hm
  · exact mixC s b off cap m w hl hm hc hcap hT
theorem all8 (a b c d e f g h : Int) : (#[.int .u32 a, .int .u32 b, .int .u32 c, .int .u32 d, .int .u32 e, .int .u32 f, .int .u32 g, .int .u32 h] : Array Value).all (·.oneCell') = true := rowW_one [a, b, c, d, e, f, g, h]
theorem blk_lt (l : List Nat) (h : ∀ c ∈ l, c < 256) (i : Nat) : ∀ c ∈ blk l i, c < 256 := fun c hc => h c (List.mem_of_mem_drop (List.mem_of_mem_take hc))
/-- what Sum answers. -/
def SumP (l : List Nat) (w : World) (e : Ending) (w' : World) : Prop := ∃ v, e = .returned v ∧ Rb w' w.heap.size v (sha l) ∧ Below w.heap.size w w'
theorem sumP_mk {l : List Nat} {w w' : World} {v : Value} (h : Rb w' w.heap.size v (sha l)) (hb : Below w.heap.size w w') : SumP l w (.returned v) w' := ⟨v, rfl, h, hb⟩
set_option maxRecDepth 100000 in
set_option maxHeartbeats 4000000 in
theorem sumC (a : Option Addr) (cap : Nat) (l : List Nat) (w : World) (hs : Sl w a l) (h0 : a = none → cap = 0) (hcap : l.length ≤ cap) (hl : ∀ c ∈ l, c < 256) (hlen : l.length ≤ 900000) (hT : TabR w) (hB : TabB w) :
    Calls Tryd.prog 16 #[.slice a l.length cap] w (SumP l w) := by
  obtain ⟨tt, ff, Z0⟩ := hB
  obtain ⟨q, hq⟩ : ∃ q, q = l.length / 64 := ⟨_, rfl⟩
  have q1 : 64 * q ≤ l.length := by omega
  have q2 : l.length < 64 * q + 64 := by omega
  have q3 : l.length ≤ 900000 := hlen
  have e1 : (l.length : Int) / 64 = (q : Int) := by omega
  have e2 : (l.length : Int).tdiv 64 = (q : Int) := by rw [Int.tdiv_eq_ediv_of_nonneg (by omega)]; exact e1
  have HQ := Lib.hid hq
  have HS := Lib.hid hs
  have HNO := Lib.hid h0
  have HCP := Lib.hid hcap
  have HX := Lib.hid hl
  have HT := Lib.hid hT
  have HN := Lib.hid (And.intro q1 (And.intro q2 q3))
  obtain ⟨R0, hR0⟩ : ∃ R0, R0 = stRow st0 := ⟨_, rfl⟩
  rw [← hR0] at Z0
  have hs8 : (Tryd.prog.info? 80).map (·.size) = some R0.size := by rw [hR0]; kernel_rfl
  have hold : (#[.int .u32 0, .int .u32 0, .int .u32 0, .int .u32 0, .int .u32 0, .int .u32 0, .int .u32 0, .int .u32 0] : Array Value).size = R0.size := by rw [hR0]; rfl
  have h1R : R0.all (·.oneCell') = true := by rw [hR0]; exact all8 _ _ _ _ _ _ _ _
  have HR0 := Lib.hid hR0
  clear hs h0 hcap hl hlen hT hq hR0
  go_enter Tryd.func16, Tryd.ntmps16
  go_wp2_with (first | (refine wpList_load_row rfl 80 (.global 0) rfl 0 rfl tt _ ff _ Z0 Tryd.underlying80 rfl hs8 ?_) | (refine wpList_plain rfl fun _ hK => wp_store_row 80 (.tmp 3) (.tmp 11) rfl w.heap.size R0 rfl rfl 80 _ (heap_alloc_last w _) hs8 hold h1R (hK _ _ ?_)))
  rw [World.setRow_alloc_new]
  have HS8 := Lib.hid (show (Tryd.prog.info? 80).map (·.size) = some 8 by kernel_rfl)
  have HZ0 := Lib.hid (show (w.alloc (.cells R0 80)).heap[w.heap.size]? = some (.cells (stRow (takes l st0 0)) 80 (0, 0)) by rw [heap_alloc_last]; show _ = some (Obj.cells (stRow st0) 80 (0, 0)); rw [← HR0.out])
  clear hs8 hold h1R Z0 e1 e2 q1 q2 q3
  go_loopw [5] (fun s5 wr => ∃ i : Nat, i ≤ q ∧ s5 = .int .i64 ((64 * i : Nat) : Int) ∧ wr.heap[w.heap.size]? = some (.cells (stRow (takes l st0 i)) 80 (0, 0)) ∧ Below w.heap.size w wr) (fun s5 _ => 64 * q + 64 - (intOf s5).toNat)
  case atStart => exact ⟨0, Nat.zero_le _, rfl, HZ0.out, (Below.refl _ _).alloc (Nat.le_refl _) _⟩
  case round =>
    clear HZ0 HR0
    obtain ⟨i, hi, rfl, hZ, hB⟩ := hrel
    obtain ⟨A, hA⟩ : ∃ A, A = 64 * i := ⟨_, rfl⟩
    rw [← hA]
    obtain ⟨S, hS⟩ : ∃ S, S = takes l st0 i := ⟨_, rfl⟩
    rw [← hS] at hZ
    have HSI := Lib.hid hS
    have HBW := Lib.hid hB
    have hn := HN.out
    have nA : A ≤ 900000 := by omega
    have HA := Lib.hid hA
    by_cases hlt : i < q
    · have t1 : (A : Int) < (q : Int) * 64 := by omega
      have wA : IntKind.i64.wrap ((A : Int) + 64) = (A : Int) + 64 := IntWalk.i64_in _ (by omega)
      have ZS := Lib.hid (show wr.drew.heap[w.heap.size]? = _ from hZ)
      have HSL := Lib.hid (show Sl wr.drew a l from sl_then hB.drew (Nat.le_refl _) HS.out)
      have HLE := Lib.hid (show A + 64 ≤ l.length by omega)
      obtain ⟨B, hBl⟩ : ∃ B, B = (l.drop A).take 64 := ⟨_, rfl⟩
      have HBL := Lib.hid hBl
      have HBL2 := Lib.hid (show blk l i = B by rw [hBl, hA]; rfl)
      have HBB := Lib.hid (show ∀ c ∈ B, c < 256 by rw [← HBL2.out]; exact blk_lt l HX.out i)
      have HB64 := Lib.hid (show B.length = 64 by rw [hBl]; simp; omega)
      have HTR := Lib.hid (show TabR wr.drew from tabR_then hB.drew HT.out)
      have HLT := Lib.hid (show w.heap.size < wr.drew.heap.size from (Array.getElem?_eq_some_iff.1 hZ).1)
      obtain ⟨S2, hS2⟩ : ∃ S2, S2 = mixS S B := ⟨_, rfl⟩
      have HM := Lib.hid hS2
      clear hZ hB hBl hS hS2 hi hA
      clear hn
      go_wp2
      refine wp_region_held_drew (S := (fun _ => True)) (by kernel_rfl) ?_ (fun hHeld => ?_)
      · ((try dsimp only); (first | done | trivial))
      refine wpAnyH_take (i := 1) (oi := { dst := some 22, op := Op.move (Operand.tmp 0), type := 22, pos := _, after := #[], guard := none }) (v := ?_) rfl (by kernel_rfl) (by kernel_rfl) (by kernel_rfl) (fun _ _ _ h => h) (Or.inl ⟨by rfl, ?_⟩) (by assumption) ?_
      rotate_left
      · ((intro w hSw); (try dsimp only at hSw); go_simp; (try with_reducible rfl))
      try simp only [Act.put, List.setIfInBounds_toArray, List.set_cons_zero, List.set_cons_succ]
      refine wpAnyH_take (i := 2) (oi := { dst := some 23, op := Op.move (Operand.tmp 5), type := 3, pos := _, after := #[], guard := none }) (v := ?_) rfl (by kernel_rfl) (by kernel_rfl) (by kernel_rfl) (fun _ _ _ h => h) (Or.inl ⟨by rfl, ?_⟩) (by assumption) ?_
      rotate_left
      · ((intro w hSw); (try dsimp only at hSw); go_simp; (try with_reducible rfl))
      try simp only [Act.put, List.setIfInBounds_toArray, List.set_cons_zero, List.set_cons_succ]
      refine wpAnyH_take (i := 3) (oi := { dst := some 24, op := Op.move (Operand.tmp 5), type := 3, pos := _, after := #[], guard := none }) (v := ?_) rfl (by kernel_rfl) (by kernel_rfl) (by kernel_rfl) (fun _ _ _ h => h) (Or.inl ⟨by rfl, ?_⟩) (by assumption) ?_
      rotate_left
      · ((intro w hSw); (try dsimp only at hSw); go_simp; (try with_reducible rfl))
      try simp only [Act.put, List.setIfInBounds_toArray, List.set_cons_zero, List.set_cons_succ]
      refine wpAnyH_take (i := 4) (oi := { dst := some 25, op := Op.binOp BinOp.add 3 (Operand.tmp 24) (Operand.const (Value.int IntKind.i64 64)) 3, type := 3, pos := _, after := #[{ on := 3, ground := Ground.data }], guard := none }) (v := ?_) rfl (by kernel_rfl) (by kernel_rfl) (by kernel_rfl) (fun _ _ _ h => h) (Or.inl ⟨by rfl, ?_⟩) (by assumption) ?_
      rotate_left
      · ((intro w hSw); (try dsimp only at hSw); go_simp; (try with_reducible rfl))
      try simp only [Act.put, List.setIfInBounds_toArray, List.set_cons_zero, List.set_cons_succ]
      refine wpAnyH_ready (rs := [0, 5]) (by kernel_rfl) (by simp) ?_
      refine (AllReadyH.cons (o := { dst := some 21, op := Op.load 80 (Operand.tmp 3), type := 80, pos := _, after := #[], guard := none }) rfl (fun K hK => ?_) (AllReadyH.cons (o := { dst := some 26, op := Op.slice 22 (Operand.tmp 22) (some (Operand.tmp 23)) (some (Operand.tmp 25)) none, type := 22, pos := _, after := #[{ on := 1, ground := Ground.data }, { on := 2, ground := Ground.data }, { on := 4, ground := Ground.data }], guard := none }) rfl (fun K hK => ?_) AllReadyH.nil))
      · skip
        refine wp_load_row 80 (.tmp 3) rfl w.heap.size rfl 80 (stRow S) (0, 0) _ ZS.out Tryd.underlying80 rfl HS8.out ?_
        refine hK.out _ _ ?_ (fun hHeld => ?_)
        · ((try dsimp only); (first | done | trivial))
        clear hK K
        try simp only [Act.put, List.setIfInBounds_toArray, List.set_cons_zero, List.set_cons_succ]
        refine wpAnyH_ready (rs := [5]) (by kernel_rfl) (by simp) ?_
        refine (AllReadyH.cons (o := { dst := some 26, op := Op.slice 22 (Operand.tmp 22) (some (Operand.tmp 23)) (some (Operand.tmp 25)) none, type := 22, pos := _, after := #[{ on := 1, ground := Ground.data }, { on := 2, ground := Ground.data }, { on := 4, ground := Ground.data }], guard := none }) rfl (fun K hK => ?_) AllReadyH.nil)
        refine wp_sub (.tmp 22) (some (.tmp 23)) (some (.tmp 25)) rfl _ cap l rfl HSL.out HNO.out HCP.out A (A + 64) (lo_some rfl) (hi_some rfl) (by omega) HLE.out ?_
        intro a1 c1 n1 hn1 hsl1 hc1 h01 hbk1
        obtain rfl : n1 = 64 := by omega
        have HS1 := Lib.hid (show Sl wr.drew a1 B by have := HBL.out; rw [this]; rw [show A + 64 - A = 64 by omega] at hsl1; exact hsl1)
        have HC1 := Lib.hid hc1
        clear hsl1 hc1 h01 hbk1 hn1
        refine hK.out _ _ ?_ (fun hHeld => ?_)
        · ((try dsimp only); (first | done | trivial))
        clear hK K
        try simp only [Act.put, List.setIfInBounds_toArray, List.set_cons_zero, List.set_cons_succ]
        refine wpAnyH_ready (rs := [6]) (by kernel_rfl) (by simp) ?_
        refine (AllReadyH.cons (o := { dst := some 27, op := Op.call { callee := Callee.value (Operand.func 48), args := #[Operand.tmp 21, Operand.tmp 26], argTypes := #[80, 22] }, type := 80, pos := _, after := #[{ on := 0, ground := Ground.data }, { on := 5, ground := Ground.data }], guard := none }) rfl (fun K hK => ?_) AllReadyH.nil)
        go_simp
        go_at_call 48
        refine (mixG S S2 a1 64 c1 B _ HBB.out HB64.out rfl HS1.out HC1.out HTR.out HM.out).mono ?_
        rintro e w3 ⟨rfl, hb3⟩
        go_wp2_with fail
        have Z3 : w3.heap[w.heap.size]? = some (.cells (stRow S) 80 (0, 0)) := by rw [hb3.block _ HLT.out]; exact ZS.out
        have HB3 := Lib.hid (below_then HBW.out.drew hb3 HBW.out.size)
        have HB5 := Lib.hid hb3
        clear hb3
        refine hK.out _ _ ?_ (fun hHeld => ?_)
        · ((try dsimp only); (first | done | trivial))
        clear hK K
        try simp only [Act.put, List.setIfInBounds_toArray, List.set_cons_zero, List.set_cons_succ]
        refine wpAnyH_ready (rs := [7]) (by kernel_rfl) (by simp) ?_
        refine (AllReadyH.cons (o := { dst := none, op := Op.store 80 (Operand.tmp 3) (Operand.tmp 27), type := 0, pos := _, after := #[{ on := 6, ground := Ground.data }, { on := 6, ground := Ground.chain }, { on := 0, ground := Ground.phase }, { on := 1, ground := Ground.phase }, { on := 2, ground := Ground.phase }, { on := 3, ground := Ground.phase }, { on := 4, ground := Ground.phase }, { on := 5, ground := Ground.phase }, { on := 6, ground := Ground.phase }], guard := none }) rfl (fun K hK => ?_) AllReadyH.nil)
        refine wp_store_row 80 (.tmp 3) (.tmp 27) rfl w.heap.size (stRow S2) rfl rfl 80 (stRow S) Z3 HS8.out rfl (all8 _ _ _ _ _ _ _ _) ?_
        have Z4 := Lib.hid (setRow_heap w3 w.heap.size _ (stRow S2) 80 _ Z3)
        have HB4 := Lib.hid (below_setRow HB3.out (Nat.le_refl _) (stRow S2))
        clear Z3
        refine hK.out _ _ ?_ (fun hHeld => ?_)
        · ((try dsimp only); (first | done | trivial))
        clear hK K
        try simp only [Act.put]
        refine wpAnyH_done (by kernel_rfl) ?_ _
        go_wp2
        go_roundw
        case rel => exact ⟨i + 1, by omega, by rw [show 64 * (i + 1) = A + 64 by have := HA.out; omega]; go_num, by rw [takes_succ, ← HSI.out, HBL2.out, ← HM.out]; exact Z4.out, HB4.out⟩
        case measure => simp [intOf]; omega
      · skip
        refine wp_sub (.tmp 22) (some (.tmp 23)) (some (.tmp 25)) rfl _ cap l rfl HSL.out HNO.out HCP.out A (A + 64) (lo_some rfl) (hi_some rfl) (by omega) HLE.out ?_
        intro a1 c1 n1 hn1 hsl1 hc1 h01 hbk1
        obtain rfl : n1 = 64 := by omega
        have HS1 := Lib.hid (show Sl wr.drew a1 B by have := HBL.out; rw [this]; rw [show A + 64 - A = 64 by omega] at hsl1; exact hsl1)
        have HC1 := Lib.hid hc1
        clear hsl1 hc1 h01 hbk1 hn1
        refine hK.out _ _ ?_ (fun hHeld => ?_)
        · ((try dsimp only); (first | done | trivial))
        clear hK K
        try simp only [Act.put, List.setIfInBounds_toArray, List.set_cons_zero, List.set_cons_succ]
        refine wpAnyH_ready (rs := [0]) (by kernel_rfl) (by simp) ?_
        refine (AllReadyH.cons (o := { dst := some 21, op := Op.load 80 (Operand.tmp 3), type := 80, pos := _, after := #[], guard := none }) rfl (fun K hK => ?_) AllReadyH.nil)
        refine wp_load_row 80 (.tmp 3) rfl w.heap.size rfl 80 (stRow S) (0, 0) _ ZS.out Tryd.underlying80 rfl HS8.out ?_
        refine hK.out _ _ ?_ (fun hHeld => ?_)
        · ((try dsimp only); (first | done | trivial))
        clear hK K
        try simp only [Act.put, List.setIfInBounds_toArray, List.set_cons_zero, List.set_cons_succ]
        refine wpAnyH_ready (rs := [6]) (by kernel_rfl) (by simp) ?_
        refine (AllReadyH.cons (o := { dst := some 27, op := Op.call { callee := Callee.value (Operand.func 48), args := #[Operand.tmp 21, Operand.tmp 26], argTypes := #[80, 22] }, type := 80, pos := _, after := #[{ on := 0, ground := Ground.data }, { on := 5, ground := Ground.data }], guard := none }) rfl (fun K hK => ?_) AllReadyH.nil)
        go_simp
        go_at_call 48
        refine (mixG S S2 a1 64 c1 B _ HBB.out HB64.out rfl HS1.out HC1.out HTR.out HM.out).mono ?_
        rintro e w3 ⟨rfl, hb3⟩
        go_wp2_with fail
        have Z3 : w3.heap[w.heap.size]? = some (.cells (stRow S) 80 (0, 0)) := by rw [hb3.block _ HLT.out]; exact ZS.out
        have HB3 := Lib.hid (below_then HBW.out.drew hb3 HBW.out.size)
        have HB5 := Lib.hid hb3
        clear hb3
        refine hK.out _ _ ?_ (fun hHeld => ?_)
        · ((try dsimp only); (first | done | trivial))
        clear hK K
        try simp only [Act.put, List.setIfInBounds_toArray, List.set_cons_zero, List.set_cons_succ]
        refine wpAnyH_ready (rs := [7]) (by kernel_rfl) (by simp) ?_
        refine (AllReadyH.cons (o := { dst := none, op := Op.store 80 (Operand.tmp 3) (Operand.tmp 27), type := 0, pos := _, after := #[{ on := 6, ground := Ground.data }, { on := 6, ground := Ground.chain }, { on := 0, ground := Ground.phase }, { on := 1, ground := Ground.phase }, { on := 2, ground := Ground.phase }, { on := 3, ground := Ground.phase }, { on := 4, ground := Ground.phase }, { on := 5, ground := Ground.phase }, { on := 6, ground := Ground.phase }], guard := none }) rfl (fun K hK => ?_) AllReadyH.nil)
        refine wp_store_row 80 (.tmp 3) (.tmp 27) rfl w.heap.size (stRow S2) rfl rfl 80 (stRow S) Z3 HS8.out rfl (all8 _ _ _ _ _ _ _ _) ?_
        have Z4 := Lib.hid (setRow_heap w3 w.heap.size _ (stRow S2) 80 _ Z3)
        have HB4 := Lib.hid (below_setRow HB3.out (Nat.le_refl _) (stRow S2))
        clear Z3
        refine hK.out _ _ ?_ (fun hHeld => ?_)
        · ((try dsimp only); (first | done | trivial))
        clear hK K
        try simp only [Act.put]
        refine wpAnyH_done (by kernel_rfl) ?_ _
        go_wp2
        go_roundw
        case rel => exact ⟨i + 1, by omega, by rw [show 64 * (i + 1) = A + 64 by have := HA.out; omega]; go_num, by rw [takes_succ, ← HSI.out, HBL2.out, ← HM.out]; exact Z4.out, HB4.out⟩
        case measure => simp [intOf]; omega
    · have iq : i = q := by omega
      have t1 : ¬ (A : Int) < (q : Int) * 64 := by omega
      have HIQ := Lib.hid iq
      obtain ⟨RS, hRS⟩ : ∃ RS, RS = l.drop (64 * q) := ⟨_, rfl⟩
      have hRl : RS.length = l.length - 64 * q := by rw [hRS]; simp
      have HRS := Lib.hid hRS
      have HRL := Lib.hid hRl
      have HSW := Lib.hid (show Sl wr a l from sl_then hB (Nat.le_refl _) HS.out)
      have qi : (q : Int) * 64 = ((64 * q : Nat) : Int) := by omega
      have HQI := Lib.hid qi
      have HZ := Lib.hid hZ
      clear hRS hRl hi iq hA hS hlt hB hZ hn qi
      go_wp2_with (first
        | (refine wpList_sub rfl (.tmp 28) (some (.tmp 29)) none rfl a cap l rfl HSW.out HNO.out HCP.out (64 * q) l.length (lo_some HQI.out) (hi_none _) (by have := HN.out; omega) (Nat.le_refl _) ?_; intro a1 c1 n1 hn1 hsl1 hc1 h01 hbk1; have HS1 := Lib.hid (show Sl wr a1 RS by rw [HRS.out]; rwa [List.take_of_length_le (by simp)] at hsl1); have HN1 := Lib.hid (show n1 = RS.length by rw [HRL.out]; exact hn1); have H01 := Lib.hid h01; clear hsl1 hc1 h01 hbk1 hn1)
        | (go_at_call 49; refine (paddedG a1 c1 n1 RS l.length wr HS1.out H01.out (by have := HRL.out; have := HN.out; omega) (by have := HN.out; omega) (by have := HRL.out; have := HN.out; omega) HN1.out).mono ?_; rintro e w4 ⟨v4, rfl, o4, b4⟩))
      obtain ⟨M, hM⟩ : ∃ M, M = RS ++ padL l.length := ⟨_, rfl⟩
      rw [← hM] at o4
      have HMM := Lib.hid hM
      have hMl : M.length = RS.length + 1 + gap l.length + 8 := by rw [hM, List.length_append, padL_len]; omega
      have hMmod : M.length % 64 = 0 := by
        have h1 := (gap_is l.length (gap l.length) (Nat.le_refl _)).2 rfl
        have := HRL.out; have := HN.out; omega
      have hMs : M.length ≤ 200 := by have := gap_lt l.length; have := HRL.out; have := HN.out; omega
      obtain ⟨a2, c2, rfl, hc2, hs2, h02, hx2⟩ := rb_sl o4
      obtain ⟨r, hr⟩ : ∃ r, M.length = 64 * r := ⟨M.length / 64, by omega⟩
      have hML := Lib.hid (show ∀ c ∈ M, c < 256 by
        rw [hM]; intro c hc
        have := msg_lt l HX.out c
        rcases List.mem_append.1 hc with h | h
        · rw [HRS.out] at h; exact HX.out c (List.mem_of_mem_drop h)
        · exact this (List.mem_append.2 (.inr h)))
      have HLT0 : w.heap.size < wr.heap.size := (Array.getElem?_eq_some_iff.1 HZ.out).1
      have HZ4 := Lib.hid (show w4.heap[w.heap.size]? = some (.cells (stRow (takes M S 0)) 80 (0, 0)) by rw [b4.block _ HLT0]; exact HZ.out)
      have HB4 := Lib.hid (below_then HBW.out b4 HBW.out.size)
      have HSL0 := Lib.hid hs2
      have HNO2 := Lib.hid h02
      have HCP2 := Lib.hid hc2
      have HBK := Lib.hid (show ∀ x, a2 = some x → x.block ≠ w.heap.size from fun x hx => by have := (hx2 x hx).1; omega)
      have HBK2 := Lib.hid (show ∀ x, a2 = some x → x.block < w4.heap.size from fun x hx => (hx2 x hx).2)
      have HR := Lib.hid hr
      have HMs := Lib.hid hMs
      have HMl := Lib.hid hMl
      clear hM hMl hMmod hMs hr b4 o4 hs2 h02 hc2 hx2 HLT0 t1
      obtain ⟨Z, hZz⟩ : ∃ Z, Z = S := ⟨_, rfl⟩
      have HZS := Lib.hid (show Z = takes l st0 q by rw [hZz, HSI.out, HIQ.out])
      rw [← hZz] at HZ4
      clear hZz
      obtain ⟨wo, rfl⟩ : ∃ wo : World, wo = wr := ⟨_, rfl⟩
      go_loopw [7] (fun s7 wr => ∃ i : Nat, i ≤ r ∧ s7 = .int .i64 ((64 * i : Nat) : Int) ∧ wr.heap[w.heap.size]? = some (.cells (stRow (takes M Z i)) 80 (0, 0)) ∧ Below w.heap.size w wr ∧ Sl wr a2 M ∧ w4.heap.size ≤ wr.heap.size) (fun s7 _ => 64 * r + 64 - (intOf s7).toNat)
      case atStart => exact ⟨0, Nat.zero_le _, rfl, HZ4.out, HB4.out, HSL0.out, Nat.le_refl _⟩
      case round =>
        clear HZ4 HB4 HSL0 HSI HBW HZ HA HIQ nA
        obtain ⟨i, hi, rfl, hZ, hB, hSl, hsz⟩ := hrel
        obtain ⟨A, hA⟩ : ∃ A, A = 64 * i := ⟨_, rfl⟩
        rw [← hA]
        obtain ⟨S, hS⟩ : ∃ S, S = takes M Z i := ⟨_, rfl⟩
        rw [← hS] at hZ
        have HSI := Lib.hid hS
        have HBW := Lib.hid hB
        have hr := HR.out
        have hMs := HMs.out
        have nA : A ≤ 900000 := by omega
        have HA := Lib.hid hA
        by_cases hlt : i < r
        · have t1 : (A : Int) < (M.length : Int) := by omega
          have t2 : A < M.length := by omega
          have wA : IntKind.i64.wrap ((A : Int) + 64) = (A : Int) + 64 := IntWalk.i64_in _ (by omega)
          have ZS := Lib.hid (show wr.drew.heap[w.heap.size]? = _ from hZ)
          have HSL := Lib.hid (show Sl wr.drew a2 M from sl_then (Below.refl wr.heap.size wr).drew (Nat.le_refl _) hSl)
          have HLE := Lib.hid (show A + 64 ≤ M.length by omega)
          obtain ⟨B, hBl⟩ : ∃ B, B = (M.drop A).take 64 := ⟨_, rfl⟩
          have HBL := Lib.hid hBl
          have HBL2 := Lib.hid (show blk M i = B by rw [hBl, hA]; rfl)
          have HBB := Lib.hid (show ∀ c ∈ B, c < 256 by rw [← HBL2.out]; exact blk_lt M hML.out i)
          have HB64 := Lib.hid (show B.length = 64 by rw [hBl]; simp; omega)
          have HTR := Lib.hid (show TabR wr.drew from tabR_then hB.drew HT.out)
          have HLT := Lib.hid (show w.heap.size < wr.drew.heap.size from (Array.getElem?_eq_some_iff.1 hZ).1)
          obtain ⟨S2, hS2⟩ : ∃ S2, S2 = mixS S B := ⟨_, rfl⟩
          have HM := Lib.hid hS2
          have HKP := Lib.hid (show ∀ w3, Below wr.drew.heap.size wr.drew w3 → Sl (w3.setRow w.heap.size (stRow S2)) a2 M ∧ w4.heap.size ≤ (w3.setRow w.heap.size (stRow S2)).heap.size from fun w3 h3 => by
            refine ⟨sl_setRow (sl_then h3 (Nat.le_refl _) HSL.out) HBK.out _, ?_⟩
            have := h3.size
            have e : (w3.setRow w.heap.size (stRow S2)).heap.size = w3.heap.size := by unfold World.setRow; simp
            rw [e]; exact Nat.le_trans hsz this)
          obtain ⟨HNOk, HCPk⟩ : Hid (a2 = none → c2 = 0) ∧ Hid (M.length ≤ c2) := ⟨HNO2, HCP2⟩
          clear HNO HCP
          obtain ⟨HNO, HCP⟩ : Hid (a2 = none → c2 = 0) ∧ Hid (M.length ≤ c2) := ⟨HNOk, HCPk⟩
          clear hZ hB hBl hS hS2 hi hA hr hMs hSl hsz HNOk HCPk
          go_wp2
          refine wp_region_held_drew (S := (fun _ => True)) (by kernel_rfl) ?_ (fun hHeld => ?_)
          · ((try dsimp only); (first | done | trivial))
          refine wpAnyH_take (i := 1) (oi := { dst := some 41, op := Op.move (Operand.tmp 6), type := 22, pos := _, after := #[], guard := none }) (v := ?_) rfl (by kernel_rfl) (by kernel_rfl) (by kernel_rfl) (fun _ _ _ h => h) (Or.inl ⟨by rfl, ?_⟩) (by assumption) ?_
          rotate_left
          · ((intro w hSw); (try dsimp only at hSw); go_simp; (try with_reducible rfl))
          try simp only [Act.put, List.setIfInBounds_toArray, List.set_cons_zero, List.set_cons_succ]
          refine wpAnyH_take (i := 2) (oi := { dst := some 42, op := Op.move (Operand.tmp 7), type := 3, pos := _, after := #[], guard := none }) (v := ?_) rfl (by kernel_rfl) (by kernel_rfl) (by kernel_rfl) (fun _ _ _ h => h) (Or.inl ⟨by rfl, ?_⟩) (by assumption) ?_
          rotate_left
          · ((intro w hSw); (try dsimp only at hSw); go_simp; (try with_reducible rfl))
          try simp only [Act.put, List.setIfInBounds_toArray, List.set_cons_zero, List.set_cons_succ]
          refine wpAnyH_take (i := 3) (oi := { dst := some 43, op := Op.move (Operand.tmp 7), type := 3, pos := _, after := #[], guard := none }) (v := ?_) rfl (by kernel_rfl) (by kernel_rfl) (by kernel_rfl) (fun _ _ _ h => h) (Or.inl ⟨by rfl, ?_⟩) (by assumption) ?_
          rotate_left
          · ((intro w hSw); (try dsimp only at hSw); go_simp; (try with_reducible rfl))
          try simp only [Act.put, List.setIfInBounds_toArray, List.set_cons_zero, List.set_cons_succ]
          refine wpAnyH_take (i := 4) (oi := { dst := some 44, op := Op.binOp BinOp.add 3 (Operand.tmp 43) (Operand.const (Value.int IntKind.i64 64)) 3, type := 3, pos := _, after := #[{ on := 3, ground := Ground.data }], guard := none }) (v := ?_) rfl (by kernel_rfl) (by kernel_rfl) (by kernel_rfl) (fun _ _ _ h => h) (Or.inl ⟨by rfl, ?_⟩) (by assumption) ?_
          rotate_left
          · ((intro w hSw); (try dsimp only at hSw); go_simp; (try with_reducible rfl))
          try simp only [Act.put, List.setIfInBounds_toArray, List.set_cons_zero, List.set_cons_succ]
          refine wpAnyH_ready (rs := [0, 5]) (by kernel_rfl) (by simp) ?_
          refine (AllReadyH.cons (o := { dst := some 40, op := Op.load 80 (Operand.tmp 3), type := 80, pos := _, after := #[], guard := none }) rfl (fun K hK => ?_) (AllReadyH.cons (o := { dst := some 45, op := Op.slice 22 (Operand.tmp 41) (some (Operand.tmp 42)) (some (Operand.tmp 44)) none, type := 22, pos := _, after := #[{ on := 1, ground := Ground.data }, { on := 2, ground := Ground.data }, { on := 4, ground := Ground.data }], guard := none }) rfl (fun K hK => ?_) AllReadyH.nil))
          · skip
            refine wp_load_row 80 (.tmp 3) rfl w.heap.size rfl 80 (stRow S) (0, 0) _ ZS.out Tryd.underlying80 rfl HS8.out ?_
            refine hK.out _ _ ?_ (fun hHeld => ?_)
            · ((try dsimp only); (first | done | trivial))
            clear hK K
            try simp only [Act.put, List.setIfInBounds_toArray, List.set_cons_zero, List.set_cons_succ]
            refine wpAnyH_ready (rs := [5]) (by kernel_rfl) (by simp) ?_
            refine (AllReadyH.cons (o := { dst := some 45, op := Op.slice 22 (Operand.tmp 41) (some (Operand.tmp 42)) (some (Operand.tmp 44)) none, type := 22, pos := _, after := #[{ on := 1, ground := Ground.data }, { on := 2, ground := Ground.data }, { on := 4, ground := Ground.data }], guard := none }) rfl (fun K hK => ?_) AllReadyH.nil)
            refine wp_sub (.tmp 41) (some (.tmp 42)) (some (.tmp 44)) rfl _ c2 M rfl HSL.out HNO.out HCP.out A (A + 64) (lo_some rfl) (hi_some rfl) (by omega) HLE.out ?_
            intro a1 c1 n1 hn1 hsl1 hc1 h01 hbk1
            obtain rfl : n1 = 64 := by omega
            have HS1 := Lib.hid (show Sl wr.drew a1 B by have := HBL.out; rw [this]; rw [show A + 64 - A = 64 by omega] at hsl1; exact hsl1)
            have HC1 := Lib.hid hc1
            clear hsl1 hc1 h01 hbk1 hn1
            refine hK.out _ _ ?_ (fun hHeld => ?_)
            · ((try dsimp only); (first | done | trivial))
            clear hK K
            try simp only [Act.put, List.setIfInBounds_toArray, List.set_cons_zero, List.set_cons_succ]
            refine wpAnyH_ready (rs := [6]) (by kernel_rfl) (by simp) ?_
            refine (AllReadyH.cons (o := { dst := some 46, op := Op.call { callee := Callee.value (Operand.func 48), args := #[Operand.tmp 40, Operand.tmp 45], argTypes := #[80, 22] }, type := 80, pos := _, after := #[{ on := 0, ground := Ground.data }, { on := 5, ground := Ground.data }], guard := none }) rfl (fun K hK => ?_) AllReadyH.nil)
            go_simp
            go_at_call 48
            refine (mixG S S2 a1 64 c1 B _ HBB.out HB64.out rfl HS1.out HC1.out HTR.out HM.out).mono ?_
            rintro e w3 ⟨rfl, hb3⟩
            go_wp2_with fail
            have Z3 : w3.heap[w.heap.size]? = some (.cells (stRow S) 80 (0, 0)) := by rw [hb3.block _ HLT.out]; exact ZS.out
            have HB3 := Lib.hid (below_then HBW.out.drew hb3 HBW.out.size)
            have HB5 := Lib.hid hb3
            clear hb3
            refine hK.out _ _ ?_ (fun hHeld => ?_)
            · ((try dsimp only); (first | done | trivial))
            clear hK K
            try simp only [Act.put, List.setIfInBounds_toArray, List.set_cons_zero, List.set_cons_succ]
            refine wpAnyH_ready (rs := [7]) (by kernel_rfl) (by simp) ?_
            refine (AllReadyH.cons (o := { dst := none, op := Op.store 80 (Operand.tmp 3) (Operand.tmp 46), type := 0, pos := _, after := #[{ on := 6, ground := Ground.data }, { on := 6, ground := Ground.chain }, { on := 0, ground := Ground.phase }, { on := 1, ground := Ground.phase }, { on := 2, ground := Ground.phase }, { on := 3, ground := Ground.phase }, { on := 4, ground := Ground.phase }, { on := 5, ground := Ground.phase }, { on := 6, ground := Ground.phase }], guard := none }) rfl (fun K hK => ?_) AllReadyH.nil)
            refine wp_store_row 80 (.tmp 3) (.tmp 46) rfl w.heap.size (stRow S2) rfl rfl 80 (stRow S) Z3 HS8.out rfl (all8 _ _ _ _ _ _ _ _) ?_
            have Z4 := Lib.hid (setRow_heap w3 w.heap.size _ (stRow S2) 80 _ Z3)
            have HB4 := Lib.hid (below_setRow HB3.out (Nat.le_refl _) (stRow S2))
            clear Z3
            refine hK.out _ _ ?_ (fun hHeld => ?_)
            · ((try dsimp only); (first | done | trivial))
            clear hK K
            try simp only [Act.put]
            refine wpAnyH_done (by kernel_rfl) ?_ _
            go_wp2
            go_roundw
            case rel => exact ⟨i + 1, by omega, by rw [show 64 * (i + 1) = A + 64 by have := HA.out; omega]; go_num, by rw [takes_succ, ← HSI.out, HBL2.out, ← HM.out]; exact Z4.out, HB4.out, HKP.out _ HB5.out⟩
            case measure => simp [intOf]; have := HR.out; have := HA.out; omega
          · skip
            refine wp_sub (.tmp 41) (some (.tmp 42)) (some (.tmp 44)) rfl _ c2 M rfl HSL.out HNO.out HCP.out A (A + 64) (lo_some rfl) (hi_some rfl) (by omega) HLE.out ?_
            intro a1 c1 n1 hn1 hsl1 hc1 h01 hbk1
            obtain rfl : n1 = 64 := by omega
            have HS1 := Lib.hid (show Sl wr.drew a1 B by have := HBL.out; rw [this]; rw [show A + 64 - A = 64 by omega] at hsl1; exact hsl1)
            have HC1 := Lib.hid hc1
            clear hsl1 hc1 h01 hbk1 hn1
            refine hK.out _ _ ?_ (fun hHeld => ?_)
            · ((try dsimp only); (first | done | trivial))
            clear hK K
            try simp only [Act.put, List.setIfInBounds_toArray, List.set_cons_zero, List.set_cons_succ]
            refine wpAnyH_ready (rs := [0]) (by kernel_rfl) (by simp) ?_
            refine (AllReadyH.cons (o := { dst := some 40, op := Op.load 80 (Operand.tmp 3), type := 80, pos := _, after := #[], guard := none }) rfl (fun K hK => ?_) AllReadyH.nil)
            refine wp_load_row 80 (.tmp 3) rfl w.heap.size rfl 80 (stRow S) (0, 0) _ ZS.out Tryd.underlying80 rfl HS8.out ?_
            refine hK.out _ _ ?_ (fun hHeld => ?_)
            · ((try dsimp only); (first | done | trivial))
            clear hK K
            try simp only [Act.put, List.setIfInBounds_toArray, List.set_cons_zero, List.set_cons_succ]
            refine wpAnyH_ready (rs := [6]) (by kernel_rfl) (by simp) ?_
            refine (AllReadyH.cons (o := { dst := some 46, op := Op.call { callee := Callee.value (Operand.func 48), args := #[Operand.tmp 40, Operand.tmp 45], argTypes := #[80, 22] }, type := 80, pos := _, after := #[{ on := 0, ground := Ground.data }, { on := 5, ground := Ground.data }], guard := none }) rfl (fun K hK => ?_) AllReadyH.nil)
            go_simp
            go_at_call 48
            refine (mixG S S2 a1 64 c1 B _ HBB.out HB64.out rfl HS1.out HC1.out HTR.out HM.out).mono ?_
            rintro e w3 ⟨rfl, hb3⟩
            go_wp2_with fail
            have Z3 : w3.heap[w.heap.size]? = some (.cells (stRow S) 80 (0, 0)) := by rw [hb3.block _ HLT.out]; exact ZS.out
            have HB3 := Lib.hid (below_then HBW.out.drew hb3 HBW.out.size)
            have HB5 := Lib.hid hb3
            clear hb3
            refine hK.out _ _ ?_ (fun hHeld => ?_)
            · ((try dsimp only); (first | done | trivial))
            clear hK K
            try simp only [Act.put, List.setIfInBounds_toArray, List.set_cons_zero, List.set_cons_succ]
            refine wpAnyH_ready (rs := [7]) (by kernel_rfl) (by simp) ?_
            refine (AllReadyH.cons (o := { dst := none, op := Op.store 80 (Operand.tmp 3) (Operand.tmp 46), type := 0, pos := _, after := #[{ on := 6, ground := Ground.data }, { on := 6, ground := Ground.chain }, { on := 0, ground := Ground.phase }, { on := 1, ground := Ground.phase }, { on := 2, ground := Ground.phase }, { on := 3, ground := Ground.phase }, { on := 4, ground := Ground.phase }, { on := 5, ground := Ground.phase }, { on := 6, ground := Ground.phase }], guard := none }) rfl (fun K hK => ?_) AllReadyH.nil)
            refine wp_store_row 80 (.tmp 3) (.tmp 46) rfl w.heap.size (stRow S2) rfl rfl 80 (stRow S) Z3 HS8.out rfl (all8 _ _ _ _ _ _ _ _) ?_
            have Z4 := Lib.hid (setRow_heap w3 w.heap.size _ (stRow S2) 80 _ Z3)
            have HB4 := Lib.hid (below_setRow HB3.out (Nat.le_refl _) (stRow S2))
            clear Z3
            refine hK.out _ _ ?_ (fun hHeld => ?_)
            · ((try dsimp only); (first | done | trivial))
            clear hK K
            try simp only [Act.put]
            refine wpAnyH_done (by kernel_rfl) ?_ _
            go_wp2
            go_roundw
            case rel => exact ⟨i + 1, by omega, by rw [show 64 * (i + 1) = A + 64 by have := HA.out; omega]; go_num, by rw [takes_succ, ← HSI.out, HBL2.out, ← HM.out]; exact Z4.out, HB4.out, HKP.out _ HB5.out⟩
            case measure => simp [intOf]; have := HR.out; have := HA.out; omega
        · have ir : i = r := by omega
          have t1 : ¬ (A : Int) < (M.length : Int) := by omega
          have HSHA := Lib.hid (show sha l = outS S by
            have e1 : M.length / 64 = r := by omega
            rw [sha_two l, ← HQ.out, ← HRS.out, ← HMM.out, ← HZS.out, e1, hS, ir])
          have HPOS := Lib.hid (show Pos S by rw [hS]; exact pos_takes _ _ (by rw [HZS.out]; exact pos_takes _ _ pos_st0 _) _)
          obtain ⟨RR, hRR⟩ : ∃ RR, RR = stRow S := ⟨_, rfl⟩
          rw [← hRR] at hZ
          have hs8 : (Tryd.prog.info? 80).map (·.size) = some RR.size := by rw [hRR]; exact HS8.out
          have HRR := Lib.hid hRR
          have HHB := Lib.hid hB
          clear ir hS hRR hi hA hB hSl hsz hr hMs nA hlt
          go_wp2_with (refine wpList_load_row rfl 80 (.tmp 3) rfl w.heap.size rfl 80 RR (0, 0) _ hZ Tryd.underlying80 rfl hs8 ?_)
          clear hZ hs8 t1
          obtain ⟨wp, rfl⟩ : ∃ wp : World, wp = wr := ⟨_, rfl⟩
          go_loopw [8, 48] (fun s8 s48 wr => ∃ i : Nat, i ≤ 8 ∧ s48 = .int .i64 (i : Int) ∧ Rb wr w.heap.size s8 (outW S i) ∧ Below w.heap.size w wr) (fun _ s48 _ => 8 - (intOf s48).toNat)
          case atStart => exact ⟨0, Nat.zero_le _, rfl, rb_nil _ _, HHB.out⟩
          case round =>
            clear HHB
            obtain ⟨i, hi, rfl, hR, hB⟩ := hrel
            have HO := Lib.hid hR
            have HBB := Lib.hid hB
            obtain ⟨ad, cp, rfl, _, _, _, _⟩ := rb_sl hR
            clear hR hB
            by_cases hlt : i < 8
            · have at_ := stRow_at S i hlt
              have nx := outW_next S i hlt
              have hp := words_pos S HPOS.out i
              have hol := outW_len S i
              rw [← HRR.out] at at_
              generalize (words S).getD i 0 = X at *
              have ixR := fun (w1 : World) => run_index_row8 RR i hlt X at_ w1
              obtain ⟨C0, h0⟩ : ∃ C, C = X.toNat / 16777216 % 256 := ⟨_, rfl⟩
              obtain ⟨C1, h1⟩ : ∃ C, C = X.toNat / 65536 % 256 := ⟨_, rfl⟩
              obtain ⟨C2, h2⟩ : ∃ C, C = X.toNat / 256 % 256 := ⟨_, rfl⟩
              obtain ⟨C3, h3⟩ : ∃ C, C = X.toNat % 256 := ⟨_, rfl⟩
              have k0 : X / 16777216 % 256 = (C0 : Int) := by omega
              have k1 : X / 65536 % 256 = (C1 : Int) := by omega
              have k2 : X / 256 % 256 = (C2 : Int) := by omega
              have k3 : X % 256 = (C3 : Int) := by omega
              have HNX := Lib.hid (show outW S i ++ [C0, C1, C2, C3] = outW S (i + 1) by rw [← nx, h0, h1, h2, h3]; rfl)
              have HOL := Lib.hid hol
              clear h0 h1 h2 h3 nx at_ hol
              generalize outW S i = L at *
              go_wp2_with (at_builtin; (refine app_sl rfl _ _ rfl w.heap.size _ L rfl (rb_alloc HO.out _) _ 4 4 [C0, C1, C2, C3] rfl rfl (fun h => by cases h) (sl_new wr [C0, C1, C2, C3] _) (by simp; have := HOL.out; omega) (by simp; have := HBB.out.size; omega) ?_; intro v2 w2 o2 b2; have q2 := b2 _ _ (Nat.le_refl _) (HBB.out.alloc HBB.out.size _)))
              have O2 := Lib.hid o2
              have Q3 := Lib.hid q2
              clear o2 b2 q2
              go_wp2
              go_roundw
              case rel => exact ⟨i + 1, by omega, by go_num, by rw [← HNX.out]; exact O2.out, Q3.out⟩
              case measure => simp [intOf]; omega
            · obtain rfl : i = 8 := by omega
              have HF := Lib.hid (show outW S 8 = sha l by rw [outW_all, HSHA.out])
              generalize outW S 8 = L at *
              go_wp2
              go_ret
              exact sumP_mk (by rw [← HF.out]; exact HO.out) HBB.out

end Go.Proofs.YtmfkfpgomglplaaDoor.Su
