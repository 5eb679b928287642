/- index.Encode. -/
import Derived.Test.YtebfblpmihnndaaDoorIb
set_option linter.unusedVariables false
namespace Go.Proofs.YtebfblpmihnndaaDoor.Ic
open Go Go.RowKit Kit Crc Var Get Ref3 Copy Bytes Bx Ia Ib

theorem crc_lt {l : List Nat} (hl : ∀ c ∈ l, c < 256) : crc l < 4294967296 :=
  Nat.xor_lt_two_pow (n := 32) (by decide) (run_lt hl (by decide))
theorem tab_then {w w1 : World} {B : Nat} (h : TabC w) (hb : Below B w w1) (hB : w.heap.size ≤ B) : TabC w1 := fun i hi => cell_then hb hB (h i hi)
/-- an entry as bytes: its sum, its numbers. -/
def encE (e : En) : List Nat := fourL ((crc (numL e) : Nat) : Int) ++ numL e
def encL (L : List En) : List Nat := L.flatMap encE
theorem encE_len {e : En} (h : EnOk e) : (encE e).length ≤ 44 := by
  have := numL_len h
  unfold encE; rw [List.length_append]
  have : (fourL ((crc (numL e) : Nat) : Int)).length = 4 := rfl
  omega
theorem encL_len : ∀ {L : List En}, (∀ e ∈ L, EnOk e) → (encL L).length ≤ L.length * 44
  | [], _ => by simp [encL]
  | e :: L, h => by
    have h1 := encE_len (h e (by simp))
    have h2 := encL_len (L := L) fun x hx => h x (List.mem_cons_of_mem _ hx)
    unfold encL at h2 ⊢
    rw [List.flatMap_cons, List.length_append, List.length_cons]; omega
theorem encE_lt (e : En) : ∀ c ∈ encE e, c < 256 := by
  intro c hc
  rcases List.mem_append.1 hc with hc | hc
  · exact four_bytes _ c hc
  · exact numL_lt e c hc
theorem encL_lt (L : List En) : ∀ c ∈ encL L, c < 256 := by
  intro c hc
  obtain ⟨e, _, hc⟩ := List.mem_flatMap.1 hc
  exact encE_lt e c hc
theorem encL_next {L : List En} {k : Nat} (h : k < L.length) : encL (L.take (k + 1)) = encL (L.take k) ++ fourL ((crc (numL L[k]) : Nat) : Int) ++ numL L[k] := by
  unfold encL
  rw [List.take_add_one, List.getElem?_eq_getElem h, List.flatMap_append, List.append_assoc]
  simp [encE]
abbrev evO (e : En) : Obj := .cells #[.int .u64 (e.s : Int), .int .u64 (e.t : Int), .int .i64 e.n, .int .i64 e.a] 38
def zeroE : En := ⟨0, 0, 0, 0⟩
/-- an entry is stored into a block of its own. -/
theorem wpList_store_en {w : World} {ops : Array Oper} {rest : List Oper} {o : Oper} {a : Act} {Q : Exit → Act → World → Prop} (hgd : o.guard = none) (x y : Operand) (ho : o.op = .store 38 x y)
    (k : Nat) (e u : En) (hx : a.eval x = .pointer (some ⟨k, 0, none⟩)) (hy : a.eval y = evA e) (hg : w.heap[k]? = some (evO u))
    (hK : ∀ w', w'.heap[k]? = some (evO e) → (∀ B W, B ≤ k → Below B W w → Below B W w') → wpList Tryd.prog ops Q rest (a.put o.dst undef) w') : wpList Tryd.prog ops Q (o :: rest) a w :=
  wpList_plain hgd fun _ hk => wp_store_row (P := Tryd.prog) 38 x y ho k _ hx hy 38 _ hg (by kernel_rfl) rfl (by simp [Value.oneCell']) (hk _ _ (hK _ (setRow_heap w k _ _ 38 _ hg)
    fun B W hB hb => ⟨hb.os, hb.tape, hb.output, by simpa using hb.size, fun j hj => (setRow_other w k j _ (by omega)).trans (hb.block j hj)⟩))
theorem four_at {w : World} {k : Nat} {e : En} (h : w.heap[k]? = some (evO e)) : w.cell? ⟨k, 0, none⟩ = some (.int .u64 (e.s : Int)) ∧ w.cell? ⟨k, 1, none⟩ = some (.int .u64 (e.t : Int)) ∧ w.cell? ⟨k, 2, none⟩ = some (.int .i64 e.n) ∧ w.cell? ⟨k, 3, none⟩ = some (.int .i64 e.a) := by
  refine ⟨?_, ?_, ?_, ?_⟩ <;> simp [World.cell?, h]
/-- a slice's bytes behind a row of one's own: what else stands. -/
theorem app_far {ops : Array Oper} {rest : List Oper} {o : Oper} {a : Act} {Q : Exit → Act → World → Prop} {w : World} (hgd : o.guard = none) (s x : Operand)
    (ho : o.op = .call { callee := .builtin .append, args := #[s, x], argTypes := #[23, 23] }) (base : Nat) (v : Value) (l : List Nat) (hs : a.eval s = v) (hown : Rb w base v l)
    (ad : Option Addr) (n cap : Nat) (m : List Nat) (hx : a.eval x = .slice ad n cap) (hn : n = m.length) (h0 : ad = none → cap = 0) (hm : Sl w ad m) (hlen : l.length + m.length ≤ 1000000) (hbase : base ≤ w.heap.size)
    (h : ∀ v' w', Rb w' base v' (l ++ m) → (∀ B W0, B ≤ base → Below B W0 w → Below B W0 w') → (∀ k, k < w.heap.size → v.ownBlock ≠ some k → w'.heap[k]? = w.heap[k]?) → wpList Tryd.prog ops Q rest (a.put o.dst v') w') : wpList Tryd.prog ops Q (o :: rest) a w := by
  subst hn
  obtain ⟨i0, hi, hz0, hz1, hz2⟩ := info_parts info5
  cases ad with
  | none =>
    obtain rfl := h0 rfl
    have hm0 : m = [] := by
      rcases hm with h | ⟨_, _, e, _⟩
      · exact h
      · cases e
    subst hm0
    refine wpList_append_own_none hgd s x 23 ho base 5 i0 1 Tryd.underlying23 hi v _ _ hs hown hx ?_
    exact h v w (by rw [List.append_nil]; exact hown) (fun _ _ _ hb => hb) (fun _ _ _ => rfl)
  | some y =>
    refine wpList_append_own w hgd s x 23 ho base 5 i0 (.int .u8 0) 1 1 Tryd.underlying23 hi hz0 hz1 hz2 rfl (by decide) v _ _ hs hown y m.length cap (cellsOf m) hx (by simp [cellsOf]) (sl_cells hm) cellsOf_one (by unfold maxLen; omega) (by omega) hbase ?_
    intro v' w' h2 h3 _
    refine h v' w' ?_ (fun B W0 hB hb => hb.grown h3 (Nat.le_trans hB hbase) (fun j hj => Nat.le_trans hB (hown.lt j hj).1)) (fun k hk hne => h3.block k hk fun e => hne e.symm)
    rw [cellsOf_app] at h2
    exact rb_of h2 (by simp) rfl
theorem sl_far {w w' : World} {v : Value} {a : Option Addr} {l : List Nat} (h : Sl w a l) (hk : ∀ k, k < w.heap.size → v.ownBlock ≠ some k → w'.heap[k]? = w.heap[k]?) (hne : ∀ x, a = some x → v.ownBlock ≠ some x.block) : Sl w' a l := by
  rcases h with h | ⟨b, off, rfl, h⟩
  · exact .inl h
  · refine .inr ⟨b, off, rfl, fun i hi => ?_⟩
    have hc := h i hi
    rw [World.cell?_of_block (w := w) (hk b (World.block_lt_of_cell? w _ hc) (hne _ rfl))]; exact hc
theorem own_lt {w : World} {B g : Nat} {v : Value} {l : List Nat} (h : Rb w B v l) (hg : w.heap.size ≤ g) : v.ownBlock ≠ some g := fun e => by
  have := (World.ownsRow.lt h g e).2; omega
set_option maxRecDepth 100000 in
set_option maxHeartbeats 4000000 in
theorem encodeC (a : Option Addr) (n cap : Nat) (L : List En) (w : World) (hn : n = L.length) (hm : n ≤ 200) (hs : Es w a L) (hok : ∀ e ∈ L, EnOk e) (hT : TabC w) :
    Calls Tryd.prog 7 #[.slice a n cap] w fun x w' => ∃ v, x = .returned v ∧ Rb w' w.heap.size v (encL L) ∧ Below w.heap.size w w' := by
  have HS := Lib.hid hs
  have HN := Lib.hid hn
  have HOK := Lib.hid hok
  have HT := Lib.hid hT
  have HM := Lib.hid hm
  clear hs hn hok hT
  go_enter Tryd.func7, Tryd.ntmps7
  go_wp2
  go_loopw [3, 9] (fun s3 s9 wr => ∃ k : Nat, k ≤ n ∧ s9 = .int .i64 k ∧ Hid (Rb wr w.heap.size s3 (encL (L.take k))) ∧ Hid (Below w.heap.size w wr)) (fun _ s9 _ => n - (intOf s9).toNat)
  case atStart => exact ⟨0, Nat.zero_le _, rfl, Lib.hid (rb_nil _ _), Lib.hid (Below.refl _ _)⟩
  case round =>
    obtain ⟨k, hk, rfl, HR, HB⟩ := hrel
    by_cases hlt : k < n
    · have HKk := Lib.hid (show k + 1 ≤ n ∧ n - (k + 1) < n - k by omega)
      have hkL : k < L.length := by rw [← HN.out]; exact hlt
      obtain ⟨b, off, rfl, hc⟩ : ∃ b off, a = some ⟨b, off, none⟩ ∧ EnC w b off L := by
        rcases HS.out with h | h
        · rw [h] at hkL; simp at hkL
        · exact h
      obtain ⟨c0, c1, c2, c3⟩ := (hc.then_ HB.out (Nat.le_refl _)).at_ k _ (List.getElem?_eq_getElem hkL)
      have hen := HOK.out _ (List.getElem_mem hkL)
      have hnx := encL_next hkL
      have HLen := Lib.hid (show (encL (L.take k)).length ≤ 8800 by
        have h1 := encL_len (L := L.take k) fun e he => HOK.out e (List.mem_of_mem_take he)
        rw [List.length_take] at h1; have := HM.out; omega)
      generalize L[k] = e at *
      obtain ⟨es, et, en, ea⟩ := e
      dsimp only at c0 c1 c2 c3
      have HE := Lib.hid hen
      have HNX := Lib.hid hnx
      have HNL := Lib.hid (numL_len hen)
      have hw1 : IntKind.i64.wrap ((k : Int) + 1) = (k : Int) + 1 := IntWalk.i64_in _ (by omega)
      have HLn := Lib.hid (show (encL (L.take k)).length + (fourL ((crc (numL ⟨es, et, en, ea⟩) : Nat) : Int)).length ≤ 1000000 from Nat.le_trans (Nat.add_le_add HLen.out (Nat.le_refl 4)) (by decide))
      have HLm := Lib.hid (show (encL (L.take k) ++ fourL ((crc (numL ⟨es, et, en, ea⟩) : Nat) : Int)).length + (numL ⟨es, et, en, ea⟩).length ≤ 1000000 from by rw [List.length_append]; exact Nat.le_trans (Nat.add_le_add (Nat.add_le_add HLen.out (Nat.le_refl 4)) HNL.out) (by decide))
      have HB1 := Lib.hid (show Below wr.heap.size wr (wr.alloc (.cells #[.int .u64 (es : Int), .int .u64 (et : Int), .int .i64 en, .int .i64 ea] 38)) from (Below.refl _ wr).alloc (Nat.le_refl _) _)
      have HNUM := Lib.hid (fun w1 => numbersC ⟨es, et, en, ea⟩ w1 HE.out)
      have HCR := Lib.hid (crc_lt (numL_lt ⟨es, et, en, ea⟩))
      have HNB := Lib.hid (numL_lt ⟨es, et, en, ea⟩)
      generalize hX : numL ⟨es, et, en, ea⟩ = X at *
      generalize hY : crc X = Y at *
      have HY := Lib.hid hY
      clear hen hnx hX hY hkL hc hk
      go_wp2_with (first
        | (go_at_call 15; (with_reducible refine (HNUM.out _).mono ?_); rintro x w2 ⟨v2, rfl, hr2, hb2⟩; have HB2 := Lib.hid (below_then HB1.out hb2 HB1.out.size); obtain ⟨ra, rc, rfl, _, hrs, hrz, hrg⟩ := rb_sl hr2; have HG := Lib.hid (fun x hx => (hrg x hx).1); clear hrg; have HQ := Lib.hid hrs; have HZz := Lib.hid hrz; have HT2 := Lib.hid (tab_then HT.out (below_then HB.out HB2.out HB.out.size) (Nat.le_refl _)); have HR2 := Lib.hid (rb_then HR.out HB2.out (Nat.le_refl _)); clear hr2 hb2 hrs hrz c0 c1 c2 c3)
        | (go_at_call 17; (with_reducible refine (crcC ra rc X w2 HNB.out (by have := HNL.out; omega) HQ.out HT2.out).mono ?_); rintro x w' ⟨rfl, rfl⟩; rw [HY.out])
        | (go_at_call 16; (with_reducible refine (four43 (Y : Int) w2 (Int.natCast_nonneg _) (by have := HCR.out; omega)).mono ?_); rintro x w3 ⟨rfl, hw3⟩; have HB3 := Lib.hid (show Below w2.heap.size w2 w3 by rw [← hw3]; exact (Below.refl _ w2).alloc (Nat.le_refl _) _); have HS3 := Lib.hid (show Sl w3 (some ⟨w2.heap.size, 0, none⟩) (fourL (Y : Int)) by rw [← hw3]; exact sl_new w2 _ 5); have HR3 := Lib.hid (rb_then HR2.out HB3.out (Nat.le_refl _)); have HQ3 := Lib.hid (sl_then HB3.out (Nat.le_refl _) HQ.out); have HC3 := Lib.hid (below_then HB.out (below_then HB2.out HB3.out HB2.out.size) HB.out.size); clear hw3)
        | (at_builtin; (refine app_far rfl _ _ rfl w.heap.size _ (encL (L.take k)) rfl HR3.out (some ⟨w2.heap.size, 0, none⟩) _ 4 (fourL (Y : Int)) rfl rfl (fun h => by cases h) HS3.out HLn.out HC3.out.size ?_; intro v4 w4 o4 b4 f4; have HC4 := Lib.hid (b4 _ _ (Nat.le_refl _) HC3.out); have HR4 := Lib.hid o4; have HQ4 := Lib.hid (sl_far HQ3.out f4 (fun x hx => own_lt HR.out (Nat.le_trans HB1.out.size (HG.out x hx)))); clear o4 b4 f4))
        | (at_builtin; (refine app_far rfl _ _ rfl w.heap.size _ (encL (L.take k) ++ fourL (Y : Int)) rfl HR4.out ra _ rc X rfl rfl HZz.out HQ4.out HLm.out HC4.out.size ?_; intro v5 w5 o5 b5 f5; have HC5 := Lib.hid (b5 _ _ (Nat.le_refl _) HC4.out); have HR5 := Lib.hid (show Rb w5 w.heap.size v5 (encL (L.take (k + 1))) by rw [HNX.out]; exact o5); clear o5 b5 f5)))
      first
        | exact ⟨⟨k + 1, HKk.out.1, by go_num, HR5, HC5⟩, by simp only [intOf]; exact HKk.out.2⟩
        | (go_roundw
           · exact ⟨k + 1, HKk.out.1, by go_num, HR5, HC5⟩
           · simp only [intOf]; exact HKk.out.2)
    · obtain rfl : k = n := by omega
      go_wp2
      go_ret
      exact ⟨_, rfl, by have := HR.out; rwa [List.take_of_length_le (by rw [← HN.out]; exact Nat.le_refl _)] at this, HB.out⟩
end Go.Proofs.YtebfblpmihnndaaDoor.Ic
