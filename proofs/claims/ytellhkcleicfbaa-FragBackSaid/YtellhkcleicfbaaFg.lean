/- Gather.put. -/
import Derived.Test.YtellhkcleicfbaaFf
import Derived.StillTailTactics
import Derived.Carry
set_option linter.unusedVariables false
namespace Go.Proofs.Ytellhkcleicfbaa.Fg
open Go Go.RowKit Go.MapKept Kit Crc Var Get Bytes WireFirst Ref3 Copy Ap Rd RdA RdB RdC RdD RdE Fr Fa Sb Fb Fc Fd Fe Ff

/-- all but the Gather's block and its map stands. -/
structure GF (w w' : World) (p : Nat) (m : Option Nat) : Prop where
  os : w'.os = w.os
  tape : w'.tape = w.tape
  output : w'.output = w.output
  size : w.heap.size ≤ w'.heap.size
  block : ∀ k, k < w.heap.size → k ≠ p → m ≠ some k → w'.heap[k]? = w.heap[k]?
theorem GF.of_below {w w' : World} {p : Nat} {m : Option Nat} (h : Below w.heap.size w w') : GF w w' p m := ⟨h.os, h.tape, h.output, h.size, fun k hk _ _ => h.block k hk⟩
theorem GF.grown {w w1 w2 : World} {p b : Nat} {m : Option Nat} (h : Below w.heap.size w w1) (hg : w1.grownBy w2 (some b)) (hb : w.heap.size ≤ b ∨ m = some b) : GF w w2 p m :=
  ⟨hg.os.trans h.os, hg.tape.trans h.tape, hg.output.trans h.output, Nat.le_trans h.size hg.size, fun k hk _ hm => (hg.block k (Nat.lt_of_lt_of_le hk h.size) (fun e => by injection e with e; subst e; rcases hb with hb | hb; omega; exact hm hb)).trans (h.block k hk)⟩
theorem GF.then_ {w w1 w2 : World} {p : Nat} {m : Option Nat} (h : GF w w1 p m) (hb : Below w1.heap.size w1 w2) : GF w w2 p m :=
  ⟨hb.os.trans h.os, hb.tape.trans h.tape, hb.output.trans h.output, Nat.le_trans h.size hb.size, fun k hk h1 h2 => (hb.block k (Nat.lt_of_lt_of_le hk h.size)).trans (h.block k hk h1 h2)⟩
theorem GF.below {w w' W : World} {lo p : Nat} {m : Option Nat} (h : GF w w' p m) (hl : lo ≤ p) (hm : ∀ b, m = some b → lo ≤ b) (hb : Below lo W w) (hs : lo ≤ w.heap.size) : Below lo W w' :=
  ⟨h.os.trans hb.os, h.tape.trans hb.tape, h.output.trans hb.output, Nat.le_trans hb.size h.size, fun k hk => (h.block k (Nat.lt_of_lt_of_le hk hs) (by omega) (fun e => by have := hm k e; omega)).trans (hb.block k hk)⟩
def PutR (lo p id cnt : Nat) (m' : Option Nat) (E : List (Nat × Part)) (w : World) (m : Option Nat) (w' : World) : Prop := GM w' lo p id cnt m' E ∧ GF w w' p m
theorem gm_mb {w : World} {lo p id cnt b : Nat} {E : List (Nat × Part)} (h : GM w lo p id cnt (some b) E) : MB w b (E.map Ent) ∧ lo ≤ b := by
  rcases h.map with ⟨h1, _⟩ | ⟨b', h1, h3, h2⟩
  · cases h1
  · injection h1 with h1; subst h1; exact ⟨h2, h3⟩
/-- bytes.Equal. -/
theorem equalC (a1 a2 : Option Addr) (n1 n2 c1 c2 : Nat) (l1 l2 : List Nat) (w : World) (e1 : n1 = l1.length) (e2 : n2 = l2.length) (h1 : Sl w a1 l1) (h2 : Sl w a2 l2) (m1 : ∀ c ∈ l1, c < 256) (m2 : ∀ c ∈ l2, c < 256) :
    Calls Try.prog 27 #[.slice a1 n1 c1, .slice a2 n2 c2] w fun e w' => e = .returned (.bool (decide (l1 = l2))) ∧ w = w' := by
  subst e1 e2
  have k1 := conv_sl a1 c1 l1 w h1
  have k2 := conv_sl a2 c2 l2 w h2
  have E := Lib.hid (strL_inj m1 m2)
  clear h1 h2 m1 m2
  go_enter Try.func27, Try.ntmps27
  go_wp2
  go_ret
  exact ⟨ret_bool E.out, rfl⟩
/-- the body at a place. -/
def bodyE (E : List (Nat × Part)) (i : Nat) : List Nat := ((E.find? (fun q => q.1 == i)).map (fun q => q.2.l)).getD []
theorem bodyE_mem {E : List (Nat × Part)} {i : Nat} (h : i ∈ E.map (·.1)) : ∃ P, (i, P) ∈ E ∧ P.l = bodyE E i := by
  obtain ⟨q, hq, rfl⟩ := List.mem_map.1 h
  have h1 : (E.find? (fun x => x.1 == q.1)).isSome = true := by rw [List.find?_isSome]; exact ⟨q, hq, by simp⟩
  obtain ⟨r, hr⟩ := Option.isSome_iff_exists.1 h1
  have h2 := List.mem_of_find?_eq_some hr
  have h3 : r.1 = q.1 := by have := List.find?_some hr; simpa using this
  exact ⟨r.2, by rw [← h3]; exact h2, by unfold bodyE; rw [hr]; rfl⟩
theorem bodyE_len {E : List (Nat × Part)} (h : ∀ q ∈ E, q.2.l.length ≤ 256) (i : Nat) : (bodyE E i).length ≤ 256 := by
  unfold bodyE
  cases hf : E.find? (fun q => q.1 == i) with
  | none => simp
  | some r => exact h r (List.mem_of_find?_eq_some hf)
/-- a part more. -/
theorem gm_put {w w' : World} {lo p id cnt b pl : Nat} {E : List (Nat × Part)} {P : Part} (h : GM w lo p id cnt (some b) E) (hE : ∀ Q, (pl, Q) ∉ E) (hP : Pt w P) (hpl : pl < cnt) (hl : P.l.length ≤ 256) (hm : MB w' b ((E ++ [(pl, P)]).map Ent)) (hg : w.grownBy w' (some b)) : GM w' lo p id cnt (some b) (E ++ [(pl, P)]) := by
  obtain ⟨hmb, hlo⟩ := gm_mb h
  have hpb : p ≠ b := cell_map hmb (three_g h).1
  refine ⟨h.plo, blk hg hpb h.blk, .inr ⟨b, rfl, hlo, hm⟩, ?_, ?_, ?_, h.idb, h.cnb, ?_, (fun h => by cases h)⟩
  · intro q hq
    rcases List.mem_append.1 hq with hq | hq
    · exact pt_map hmb hg (h.parts q hq)
    · rw [List.mem_singleton.1 hq]; exact pt_map hmb hg hP
  · rw [List.map_append, List.nodup_append]
    refine ⟨h.nod, by simp, fun x hx y hy => ?_⟩
    simp at hy
    subst hy
    rintro rfl
    obtain ⟨q, hq, e⟩ := List.mem_map.1 hx
    exact hE q.2 (by rw [← e]; exact hq)
  · intro q hq
    rcases List.mem_append.1 hq with hq | hq
    · exact h.low q hq
    · rw [List.mem_singleton.1 hq]; exact hpl
  · intro q hq
    rcases List.mem_append.1 hq with hq | hq
    · exact h.len q hq
    · rw [List.mem_singleton.1 hq]; exact hl
theorem gf_put {w w1 w2 : World} {p b : Nat} {m : Option Nat} (h : GF w w1 p m) (hg : w1.grownBy w2 (some b)) (hb : w.heap.size ≤ b ∨ m = some b) : GF w w2 p m :=
  ⟨hg.os.trans h.os, hg.tape.trans h.tape, hg.output.trans h.output, Nat.le_trans h.size hg.size, fun k hk hp hm => (hg.block k (Nat.lt_of_lt_of_le hk h.size) (fun e => by injection e with e; subst e; rcases hb with hb | hb; omega; exact hm hb)).trans (h.block k hk hp hm)⟩
theorem GF.store {w w1 w2 : World} {p : Nat} {m : Option Nat} (h : GF w w1 p m) (hk : ∀ j, j ≠ p → w2.heap[j]? = w1.heap[j]?) (ho : w2.os = w1.os ∧ w2.tape = w1.tape ∧ w2.output = w1.output ∧ w1.heap.size ≤ w2.heap.size) : GF w w2 p m :=
  ⟨ho.1.trans h.os, ho.2.1.trans h.tape, ho.2.2.1.trans h.output, Nat.le_trans h.size ho.2.2.2, fun k hk1 hp hm => (hk k hp).trans (h.block k hk1 hp hm)⟩
/-- a Gather is begun anew. -/
theorem wpList_store_g {w : World} {ops : Array Oper} {rest : List Oper} {o : Oper} {a : Act} {Q : Exit → Act → World → Prop} (hgd : o.guard = none) (x y : Operand) (ho : o.op = .store 51 x y)
    (k : Nat) (v0 v1 : Int) (m : Option Nat) (vs : Array Value) (hx : a.eval x = .pointer (some ⟨k, 0, none⟩)) (hy : a.eval y = .agg #[.int .u64 v0, .int .i64 v1, .map m]) (hg : w.heap[k]? = some (.cells vs 51 (0, 0))) (hv : vs.size = 3)
    (hK : ∀ w', w'.heap[k]? = some (.cells #[.int .u64 v0, .int .i64 v1, .map m] 51) → (∀ j, j ≠ k → w'.heap[j]? = w.heap[j]?) → (w'.os = w.os ∧ w'.tape = w.tape ∧ w'.output = w.output ∧ w.heap.size ≤ w'.heap.size) → wpList Try.prog ops Q rest (a.put o.dst undef) w') : wpList Try.prog ops Q (o :: rest) a w :=
  wpList_plain hgd fun _ hk => wp_store_row (P := Try.prog) 51 x y ho k _ hx hy 51 vs hg (by kernel_rfl) (by simp [hv]) (by simp [Value.oneCell']) (hk _ _ (hK _ (setRow_heap w k _ _ 51 _ hg)
    (fun j hj => setRow_other w k j _ hj) ⟨rfl, rfl, rfl, by simp⟩))
theorem run_len {w : World} {b : Nat} {l : List (Value × Value)} (ty : TypeId) (h : MB w b l) : (Builtin.len_ #[49] ty #[.map (some b)]).run Try.prog w = .ok (goInt l.length) w := by
  obtain ⟨es, clock, hb, rfl⟩ := h
  have : es.toList.length = es.size := by simp
  simp [Builtin.len_, Go.MapKept.run_getObj_map hb, Result.andThen, run_underlying under49]
/-- how many a map has, in a region that draws. -/
theorem still_len {ops : Array Oper} {w : World} {Q : Act → Prop} {a : Act} {o : Oper} {rest : List Oper} (m : Operand) (ho : o.op = .call { callee := .builtin .len, args := #[m], argTypes := #[49] }) (hg : o.guard = none)
    (b n : Nat) (l : List (Value × Value)) (hm : a.eval m = .map (some b)) (hb : MB w b l) (hn : l.length = n) (h : wpStill Try.prog ops w Q rest (a.put o.dst (.int .i64 (n : Int)))) : wpStill Try.prog ops w Q (o :: rest) a := by
  refine wpStill_step fun K hK => ?_
  have hw : Region.wanted o (yielded ops a.tmps) = true := by simp [Region.wanted, hg]
  rw [if_pos hw]
  have hrun := run_len o.type hb
  unfold Oper.still
  simp [execOp, ho, resolve, invoke, builtin, hm, hrun, Result.andThen, Oper.stillUpon]
  rw [hn]
  exact hK _ h
/-- a look-up in a region that draws. -/
theorem still_look {ops : Array Oper} {w : World} {Q : Act → Prop} {a : Act} {o : Oper} {rest : List Oper} (m x : Operand) (t : TypeId) (c : Bool) (ho : o.op = .lookup t m x c) (hg : o.guard = none)
    (mv key v : Value) (hm : a.eval m = mv) (hx : a.eval x = key) (hrun : (Instr.lookup t mv key c).run Try.prog w = .ok v w) (h : wpStill Try.prog ops w Q rest (a.put o.dst v)) : wpStill Try.prog ops w Q (o :: rest) a := by
  refine wpStill_step fun K hK => ?_
  have hw : Region.wanted o (yielded ops a.tmps) = true := by simp [Region.wanted, hg]
  rw [if_pos hw]
  unfold Oper.still
  simp [execOp, ho, hm, hx, hrun, Result.andThen, Oper.stillUpon]
  exact hK _ h
/-- a look-up, wherever the tape stands. -/
theorem look_any {w : World} {b k : Nat} {v : Value} {c : Bool} (h : ∀ w1 : World, w1.heap = w.heap → (Instr.lookup 49 (.map (some b)) (.int .i64 (k : Int)) c).run Try.prog w1 = .ok v w1) (d : Nat) :
    (Instr.lookup 49 (.map (some b)) (.int .i64 (k : Int)) c).run Try.prog { heap := w.heap, tape := w.tape, drawn := d, os := w.os, output := w.output } = .ok v { heap := w.heap, tape := w.tape, drawn := d, os := w.os, output := w.output } := h _ rfl
theorem mb_heap {w w1 : World} {b : Nat} {l : List (Value × Value)} (h : MB w b l) (e : w1.heap = w.heap) : MB w1 b l := h.keep (by rw [e])
set_option maxRecDepth 100000 in
set_option maxHeartbeats 4000000 in
theorem putOld (lo p id cnt : Nat) (m : Option Nat) (E : List (Nat × Part)) (id' pl cn : Nat) (q : Option Addr) (n c : Nat) (body : List Nat) (w : World) (h : GM w lo p id cnt m E) (hn : n = body.length) (hp : Pt w ⟨q, c, body⟩) (hok : PartOk id' pl cn body) (hlo : lo ≤ w.heap.size) (hpx : ∀ x, q = some x → x.block ≠ p) (hi : id' < id) :
    Calls Try.prog 20 #[.pointer (some ⟨p, 0, none⟩), ptA (id' : Int) (pl : Int) (cn : Int) q n c] w fun e w' => e = .returned (.tuple #[.slice none 0 0, .bool false]) ∧ PutR lo p id cnt m E w m w' := by
  have hb := below_one w (ptO (id' : Int) (pl : Int) (cn : Int) q n c)
  have hz := heap_alloc_last w (ptO (id' : Int) (pl : Int) (cn : Int) q n c)
  obtain ⟨x0, x1, x2, x3⟩ := four_c hz
  have hg := h.then_ hb
  have hp0 := pt_then hb (Nat.le_refl _) hp
  obtain ⟨g0, g1, g2⟩ := three_g hg
  have HPZ := Lib.hid (show w.heap.size ≠ p from fun e => by have := (Array.getElem?_eq_some_iff.1 h.blk).1; omega)
  dsimp only [ptO] at hb hz hg hp0 x0 x1 x2 x3 g0 g1 g2
  generalize hw0 : w.alloc (.cells #[.int .u64 (id' : Int), .int .i64 (pl : Int), .int .i64 (cn : Int), .slice q n c] 47) = w0 at *
  have HB := Lib.hid hb
  have HZ := Lib.hid hz
  have HG := Lib.hid hg
  have HPT := Lib.hid hp0
  have HN := Lib.hid hn
  have HOK := Lib.hid hok
  have HLO := Lib.hid hlo
  have HW := Lib.hid h
  have HPX := Lib.hid hpx
  have t1 : (id' : Int) < (id : Int) := by omega
  clear h hn hp hok hlo hpx hb hz hg hp0 hi
  go_enter Try.func20, Try.ntmps20
  go_upto_region 1 with fail
  go_still (by kernel_rfl)
  change Exit.then _ _ _ _ w0.drew
  replace HG := Lib.hid (HG.out.then_ (Below.drew (Below.refl w0.heap.size w0)))
  replace HB := Lib.hid (Below.drew HB.out)
  replace HPT := Lib.hid (show Pt w0.drew ⟨q, c, body⟩ from HPT.out)
  replace HZ := Lib.hid (show w0.drew.heap[w.heap.size]? = _ from HZ.out)
  replace x0 := past_drew x0
  replace x1 := past_drew x1
  replace x2 := past_drew x2
  replace x3 := past_drew x3
  replace g0 := past_drew g0
  replace g1 := past_drew g1
  replace g2 := past_drew g2
  generalize w0.drew = w1 at *
  go_wp2
  go_ret2
  exact ⟨rfl, HG.out, GF.of_below HB.out⟩

set_option maxRecDepth 100000 in
set_option maxHeartbeats 4000000 in
theorem putCnt (lo p id cnt : Nat) (m : Option Nat) (E : List (Nat × Part)) (id' pl cn : Nat) (q : Option Addr) (n c : Nat) (body : List Nat) (w : World) (h : GM w lo p id cnt m E) (hn : n = body.length) (hp : Pt w ⟨q, c, body⟩) (hok : PartOk id' pl cn body) (hlo : lo ≤ w.heap.size) (hpx : ∀ x, q = some x → x.block ≠ p) (hi : id = id') (hc : cn ≠ cnt) :
    Calls Try.prog 20 #[.pointer (some ⟨p, 0, none⟩), ptA (id' : Int) (pl : Int) (cn : Int) q n c] w fun e w' => e = .panicked [{ v := ffault, recovered := false }] ∧ PutR lo p id cnt m E w m w' := by
  subst hi
  have hb := below_one w (ptO (id : Int) (pl : Int) (cn : Int) q n c)
  have hz := heap_alloc_last w (ptO (id : Int) (pl : Int) (cn : Int) q n c)
  obtain ⟨x0, x1, x2, x3⟩ := four_c hz
  have hg := h.then_ hb
  have hp0 := pt_then hb (Nat.le_refl _) hp
  obtain ⟨g0, g1, g2⟩ := three_g hg
  have HPZ := Lib.hid (show w.heap.size ≠ p from fun e => by have := (Array.getElem?_eq_some_iff.1 h.blk).1; omega)
  dsimp only [ptO] at hb hz hg hp0 x0 x1 x2 x3 g0 g1 g2
  generalize hw0 : w.alloc (.cells #[.int .u64 (id : Int), .int .i64 (pl : Int), .int .i64 (cn : Int), .slice q n c] 47) = w0 at *
  have HB := Lib.hid hb
  have HZ := Lib.hid hz
  have HG := Lib.hid hg
  have HPT := Lib.hid hp0
  have HN := Lib.hid hn
  have HOK := Lib.hid hok
  have HLO := Lib.hid hlo
  have HW := Lib.hid h
  have HPX := Lib.hid hpx
  have t1 : ¬ (id : Int) < (id : Int) := by omega
  have t3 : ((cn : Int) == (cnt : Int)) = false := by rw [beq_eq_false_iff_ne]; omega
  clear h hn hp hok hlo hpx hb hz hg hp0 hc
  go_enter Try.func20, Try.ntmps20
  go_upto_region 1 with fail
  go_still (by kernel_rfl)
  change Exit.then _ _ _ _ w0.drew
  replace HG := Lib.hid (HG.out.then_ (Below.drew (Below.refl w0.heap.size w0)))
  replace HB := Lib.hid (Below.drew HB.out)
  replace HPT := Lib.hid (show Pt w0.drew ⟨q, c, body⟩ from HPT.out)
  replace HZ := Lib.hid (show w0.drew.heap[w.heap.size]? = _ from HZ.out)
  replace x0 := past_drew x0
  replace x1 := past_drew x1
  replace x2 := past_drew x2
  replace x3 := past_drew x3
  replace g0 := past_drew g0
  replace g1 := past_drew g1
  replace g2 := past_drew g2
  generalize w0.drew = w1 at *
  go_upto_region 3 with fail
  go_still (by kernel_rfl)
  change Exit.then _ _ _ _ w1.drew
  replace HG := Lib.hid (HG.out.then_ (Below.drew (Below.refl w1.heap.size w1)))
  replace HB := Lib.hid (Below.drew HB.out)
  replace HPT := Lib.hid (show Pt w1.drew ⟨q, c, body⟩ from HPT.out)
  replace HZ := Lib.hid (show w1.drew.heap[w.heap.size]? = _ from HZ.out)
  replace x0 := past_drew x0
  replace x1 := past_drew x1
  replace x2 := past_drew x2
  replace x3 := past_drew x3
  replace g0 := past_drew g0
  replace g1 := past_drew g1
  replace g2 := past_drew g2
  generalize w1.drew = w2 at *
  go_upto_region 5 with fail
  go_still_tail 7, (by kernel_rfl)
  change wpList _ _ _ _ _ w2.drew
  replace HG := Lib.hid (HG.out.then_ (Below.drew (Below.refl w2.heap.size w2)))
  replace HB := Lib.hid (Below.drew HB.out)
  replace HPT := Lib.hid (show Pt w2.drew ⟨q, c, body⟩ from HPT.out)
  replace HZ := Lib.hid (show w2.drew.heap[w.heap.size]? = _ from HZ.out)
  replace x0 := past_drew x0
  replace x1 := past_drew x1
  replace x2 := past_drew x2
  replace x3 := past_drew x3
  replace g0 := past_drew g0
  replace g1 := past_drew g1
  replace g2 := past_drew g2
  generalize w2.drew = w3 at *
  go_wp2_with (go_at_call 26; (with_reducible refine (need_f _).mono ?_); rintro e w' ⟨rfl, rfl⟩)
  exact ⟨rfl, rfl, HG.out, GF.of_below HB.out⟩

set_option maxRecDepth 100000 in
set_option maxHeartbeats 4000000 in
theorem putHad (lo p id cnt : Nat) (b : Nat) (E : List (Nat × Part)) (pl : Nat) (q : Option Addr) (n c : Nat) (body : List Nat) (w : World) (h : GM w lo p id cnt (some b) E) (hn : n = body.length) (hp : Pt w ⟨q, c, body⟩) (hok : PartOk id pl cnt body) (hlo : lo ≤ w.heap.size) (hpx : ∀ x, q = some x → x.block ≠ p) (P : Part) (hP : (pl, P) ∈ E) (hl : P.l = body) :
    Calls Try.prog 20 #[.pointer (some ⟨p, 0, none⟩), ptA (id : Int) (pl : Int) (cnt : Int) q n c] w fun e w' => e = .returned (.tuple #[.slice none 0 0, .bool false]) ∧ PutR lo p id cnt (some b) E w (some b) w' := by
  have hb := below_one w (ptO (id : Int) (pl : Int) (cnt : Int) q n c)
  have hz := heap_alloc_last w (ptO (id : Int) (pl : Int) (cnt : Int) q n c)
  obtain ⟨x0, x1, x2, x3⟩ := four_c hz
  have hg := h.then_ hb
  have hp0 := pt_then hb (Nat.le_refl _) hp
  obtain ⟨g0, g1, g2⟩ := three_g hg
  have HPZ := Lib.hid (show w.heap.size ≠ p from fun e => by have := (Array.getElem?_eq_some_iff.1 h.blk).1; omega)
  dsimp only [ptO] at hb hz hg hp0 x0 x1 x2 x3 g0 g1 g2
  generalize hw0 : w.alloc (.cells #[.int .u64 (id : Int), .int .i64 (pl : Int), .int .i64 (cnt : Int), .slice q n c] 47) = w0 at *
  have HB := Lib.hid hb
  have HZ := Lib.hid hz
  have HG := Lib.hid hg
  have HPT := Lib.hid hp0
  have HN := Lib.hid hn
  have HOK := Lib.hid hok
  have HLO := Lib.hid hlo
  have HW := Lib.hid h
  have HPX := Lib.hid hpx
  have t1 : ¬ (id : Int) < (id : Int) := by omega
  have t3 : ((cnt : Int) == (cnt : Int)) = true := beq_self_eq_true _
  have HE := Lib.hid (fun w1 (h1 : GM w1 lo p id cnt (some b) E) (h2 : Pt w1 ⟨q, c, body⟩) => (show Calls Try.prog 27 #[.slice P.a P.l.length P.cap, .slice q n c] w1 fun e w' => e = .returned (.bool true) ∧ w1 = w' from (equalC P.a q P.l.length n P.cap c P.l body w1 rfl hn (h1.parts _ hP).1 h2.1 (h1.parts _ hP).2.2.2 h2.2.2.2).mono fun e w' hq => ⟨by rw [hq.1, decide_eq_true hl], hq.2⟩))
  have HL := Lib.hid (fun w1 (h1 : GM w1 lo p id cnt (some b) E) (d : Nat) => look_any (w := w1) (b := b) (k := pl) (v := .tuple #[.slice P.a P.l.length P.cap, .bool true]) (c := true) (fun w2 hw => look_yes true (mb_heap (gm_mb h1).1 hw) h1.nod hP) d)
  obtain ⟨pa, pc, Pl⟩ := P
  dsimp only at HE HL hl
  obtain ⟨ln, hln⟩ : ∃ ln, ln = Pl.length := ⟨_, rfl⟩
  rw [← hln] at HE HL
  clear h hn hp hok hlo hpx hb hz hg hp0 hP hl hln
  go_enter Try.func20, Try.ntmps20
  go_upto_region 1 with fail
  go_still (by kernel_rfl)
  change Exit.then _ _ _ _ w0.drew
  replace HG := Lib.hid (HG.out.then_ (Below.drew (Below.refl w0.heap.size w0)))
  replace HB := Lib.hid (Below.drew HB.out)
  replace HPT := Lib.hid (show Pt w0.drew ⟨q, c, body⟩ from HPT.out)
  replace HZ := Lib.hid (show w0.drew.heap[w.heap.size]? = _ from HZ.out)
  replace x0 := past_drew x0
  replace x1 := past_drew x1
  replace x2 := past_drew x2
  replace x3 := past_drew x3
  replace g0 := past_drew g0
  replace g1 := past_drew g1
  replace g2 := past_drew g2
  generalize w0.drew = w1 at *
  go_upto_region 3 with fail
  go_still (by kernel_rfl)
  change Exit.then _ _ _ _ w1.drew
  replace HG := Lib.hid (HG.out.then_ (Below.drew (Below.refl w1.heap.size w1)))
  replace HB := Lib.hid (Below.drew HB.out)
  replace HPT := Lib.hid (show Pt w1.drew ⟨q, c, body⟩ from HPT.out)
  replace HZ := Lib.hid (show w1.drew.heap[w.heap.size]? = _ from HZ.out)
  replace x0 := past_drew x0
  replace x1 := past_drew x1
  replace x2 := past_drew x2
  replace x3 := past_drew x3
  replace g0 := past_drew g0
  replace g1 := past_drew g1
  replace g2 := past_drew g2
  generalize w1.drew = w2 at *
  go_upto_region 5 with fail
  go_still_tail 7, (by kernel_rfl)
  change wpList _ _ _ _ _ w2.drew
  replace HG := Lib.hid (HG.out.then_ (Below.drew (Below.refl w2.heap.size w2)))
  replace HB := Lib.hid (Below.drew HB.out)
  replace HPT := Lib.hid (show Pt w2.drew ⟨q, c, body⟩ from HPT.out)
  replace HZ := Lib.hid (show w2.drew.heap[w.heap.size]? = _ from HZ.out)
  replace x0 := past_drew x0
  replace x1 := past_drew x1
  replace x2 := past_drew x2
  replace x3 := past_drew x3
  replace g0 := past_drew g0
  replace g1 := past_drew g1
  replace g2 := past_drew g2
  generalize w2.drew = w3 at *
  go_upto_region 6 with (go_at_call 26; (with_reducible refine (need_t _).mono ?_); rintro e w' ⟨rfl, rfl⟩)
  refine wp_region_still_lit (by kernel_rfl) (by kernel_rfl) ?_
  repeat still_step
  refine still_look _ _ 49 true rfl rfl _ _ _ rfl rfl (HL.out w3 HG.out _) ?_
  repeat still_step
  refine wpStill_nil ?_
  change Exit.then _ _ _ _ w3.drew
  replace HG := Lib.hid (HG.out.then_ (Below.drew (Below.refl w3.heap.size w3)))
  replace HB := Lib.hid (Below.drew HB.out)
  replace HPT := Lib.hid (show Pt w3.drew ⟨q, c, body⟩ from HPT.out)
  replace HZ := Lib.hid (show w3.drew.heap[w.heap.size]? = _ from HZ.out)
  replace x0 := past_drew x0
  replace x1 := past_drew x1
  replace x2 := past_drew x2
  replace x3 := past_drew x3
  replace g0 := past_drew g0
  replace g1 := past_drew g1
  replace g2 := past_drew g2
  generalize w3.drew = w4 at *
  go_wp2_with (first
    | (go_at_call 27; (with_reducible refine (HE.out w4 HG.out HPT.out).mono ?_); rintro e w' ⟨rfl, rfl⟩)
    | (go_at_call 26; (with_reducible refine (need_t _).mono ?_); rintro e w' ⟨rfl, rfl⟩))
  go_ret2
  exact ⟨rfl, HG.out, GF.of_below HB.out⟩

set_option maxRecDepth 100000 in
set_option maxHeartbeats 4000000 in
theorem putBad (lo p id cnt : Nat) (b : Nat) (E : List (Nat × Part)) (pl : Nat) (q : Option Addr) (n c : Nat) (body : List Nat) (w : World) (h : GM w lo p id cnt (some b) E) (hn : n = body.length) (hp : Pt w ⟨q, c, body⟩) (hok : PartOk id pl cnt body) (hlo : lo ≤ w.heap.size) (hpx : ∀ x, q = some x → x.block ≠ p) (P : Part) (hP : (pl, P) ∈ E) (hl : P.l ≠ body) :
    Calls Try.prog 20 #[.pointer (some ⟨p, 0, none⟩), ptA (id : Int) (pl : Int) (cnt : Int) q n c] w fun e w' => e = .panicked [{ v := ffault, recovered := false }] ∧ PutR lo p id cnt (some b) E w (some b) w' := by
  have hb := below_one w (ptO (id : Int) (pl : Int) (cnt : Int) q n c)
  have hz := heap_alloc_last w (ptO (id : Int) (pl : Int) (cnt : Int) q n c)
  obtain ⟨x0, x1, x2, x3⟩ := four_c hz
  have hg := h.then_ hb
  have hp0 := pt_then hb (Nat.le_refl _) hp
  obtain ⟨g0, g1, g2⟩ := three_g hg
  have HPZ := Lib.hid (show w.heap.size ≠ p from fun e => by have := (Array.getElem?_eq_some_iff.1 h.blk).1; omega)
  dsimp only [ptO] at hb hz hg hp0 x0 x1 x2 x3 g0 g1 g2
  generalize hw0 : w.alloc (.cells #[.int .u64 (id : Int), .int .i64 (pl : Int), .int .i64 (cnt : Int), .slice q n c] 47) = w0 at *
  have HB := Lib.hid hb
  have HZ := Lib.hid hz
  have HG := Lib.hid hg
  have HPT := Lib.hid hp0
  have HN := Lib.hid hn
  have HOK := Lib.hid hok
  have HLO := Lib.hid hlo
  have HW := Lib.hid h
  have HPX := Lib.hid hpx
  have t1 : ¬ (id : Int) < (id : Int) := by omega
  have t3 : ((cnt : Int) == (cnt : Int)) = true := beq_self_eq_true _
  have HE := Lib.hid (fun w1 (h1 : GM w1 lo p id cnt (some b) E) (h2 : Pt w1 ⟨q, c, body⟩) => (show Calls Try.prog 27 #[.slice P.a P.l.length P.cap, .slice q n c] w1 fun e w' => e = .returned (.bool false) ∧ w1 = w' from (equalC P.a q P.l.length n P.cap c P.l body w1 rfl hn (h1.parts _ hP).1 h2.1 (h1.parts _ hP).2.2.2 h2.2.2.2).mono fun e w' hq => ⟨by rw [hq.1, decide_eq_false hl], hq.2⟩))
  have HL := Lib.hid (fun w1 (h1 : GM w1 lo p id cnt (some b) E) (d : Nat) => look_any (w := w1) (b := b) (k := pl) (v := .tuple #[.slice P.a P.l.length P.cap, .bool true]) (c := true) (fun w2 hw => look_yes true (mb_heap (gm_mb h1).1 hw) h1.nod hP) d)
  obtain ⟨pa, pc, Pl⟩ := P
  dsimp only at HE HL hl
  obtain ⟨ln, hln⟩ : ∃ ln, ln = Pl.length := ⟨_, rfl⟩
  rw [← hln] at HE HL
  clear h hn hp hok hlo hpx hb hz hg hp0 hP hl hln
  go_enter Try.func20, Try.ntmps20
  go_upto_region 1 with fail
  go_still (by kernel_rfl)
  change Exit.then _ _ _ _ w0.drew
  replace HG := Lib.hid (HG.out.then_ (Below.drew (Below.refl w0.heap.size w0)))
  replace HB := Lib.hid (Below.drew HB.out)
  replace HPT := Lib.hid (show Pt w0.drew ⟨q, c, body⟩ from HPT.out)
  replace HZ := Lib.hid (show w0.drew.heap[w.heap.size]? = _ from HZ.out)
  replace x0 := past_drew x0
  replace x1 := past_drew x1
  replace x2 := past_drew x2
  replace x3 := past_drew x3
  replace g0 := past_drew g0
  replace g1 := past_drew g1
  replace g2 := past_drew g2
  generalize w0.drew = w1 at *
  go_upto_region 3 with fail
  go_still (by kernel_rfl)
  change Exit.then _ _ _ _ w1.drew
  replace HG := Lib.hid (HG.out.then_ (Below.drew (Below.refl w1.heap.size w1)))
  replace HB := Lib.hid (Below.drew HB.out)
  replace HPT := Lib.hid (show Pt w1.drew ⟨q, c, body⟩ from HPT.out)
  replace HZ := Lib.hid (show w1.drew.heap[w.heap.size]? = _ from HZ.out)
  replace x0 := past_drew x0
  replace x1 := past_drew x1
  replace x2 := past_drew x2
  replace x3 := past_drew x3
  replace g0 := past_drew g0
  replace g1 := past_drew g1
  replace g2 := past_drew g2
  generalize w1.drew = w2 at *
  go_upto_region 5 with fail
  go_still_tail 7, (by kernel_rfl)
  change wpList _ _ _ _ _ w2.drew
  replace HG := Lib.hid (HG.out.then_ (Below.drew (Below.refl w2.heap.size w2)))
  replace HB := Lib.hid (Below.drew HB.out)
  replace HPT := Lib.hid (show Pt w2.drew ⟨q, c, body⟩ from HPT.out)
  replace HZ := Lib.hid (show w2.drew.heap[w.heap.size]? = _ from HZ.out)
  replace x0 := past_drew x0
  replace x1 := past_drew x1
  replace x2 := past_drew x2
  replace x3 := past_drew x3
  replace g0 := past_drew g0
  replace g1 := past_drew g1
  replace g2 := past_drew g2
  generalize w2.drew = w3 at *
  go_upto_region 6 with (go_at_call 26; (with_reducible refine (need_t _).mono ?_); rintro e w' ⟨rfl, rfl⟩)
  refine wp_region_still_lit (by kernel_rfl) (by kernel_rfl) ?_
  repeat still_step
  refine still_look _ _ 49 true rfl rfl _ _ _ rfl rfl (HL.out w3 HG.out _) ?_
  repeat still_step
  refine wpStill_nil ?_
  change Exit.then _ _ _ _ w3.drew
  replace HG := Lib.hid (HG.out.then_ (Below.drew (Below.refl w3.heap.size w3)))
  replace HB := Lib.hid (Below.drew HB.out)
  replace HPT := Lib.hid (show Pt w3.drew ⟨q, c, body⟩ from HPT.out)
  replace HZ := Lib.hid (show w3.drew.heap[w.heap.size]? = _ from HZ.out)
  replace x0 := past_drew x0
  replace x1 := past_drew x1
  replace x2 := past_drew x2
  replace x3 := past_drew x3
  replace g0 := past_drew g0
  replace g1 := past_drew g1
  replace g2 := past_drew g2
  generalize w3.drew = w4 at *
  go_wp2_with (first
    | (go_at_call 27; (with_reducible refine (HE.out w4 HG.out HPT.out).mono ?_); rintro e w' ⟨rfl, rfl⟩)
    | (go_at_call 26; (with_reducible refine (need_f _).mono ?_); rintro e w' ⟨rfl, rfl⟩))
  exact ⟨rfl, rfl, HG.out, GF.of_below HB.out⟩

set_option maxRecDepth 100000 in
set_option maxHeartbeats 4000000 in
theorem putAdd (lo p id cnt : Nat) (b : Nat) (E : List (Nat × Part)) (pl : Nat) (q : Option Addr) (n c : Nat) (body : List Nat) (w : World) (h : GM w lo p id cnt (some b) E) (hn : n = body.length) (hp : Pt w ⟨q, c, body⟩) (hok : PartOk id pl cnt body) (hlo : lo ≤ w.heap.size) (hpx : ∀ x, q = some x → x.block ≠ p) (hE : ∀ Q, (pl, Q) ∉ E) (hc : E.length + 1 < cnt) :
    Calls Try.prog 20 #[.pointer (some ⟨p, 0, none⟩), ptA (id : Int) (pl : Int) (cnt : Int) q n c] w fun e w' => ∃ m', e = .returned (.tuple #[.slice none 0 0, .bool false]) ∧ PutR lo p id cnt m' (E ++ [(pl, ⟨q, c, body⟩)]) w (some b) w' := by
  have hb := below_one w (ptO (id : Int) (pl : Int) (cnt : Int) q n c)
  have hz := heap_alloc_last w (ptO (id : Int) (pl : Int) (cnt : Int) q n c)
  obtain ⟨x0, x1, x2, x3⟩ := four_c hz
  have hg := h.then_ hb
  have hp0 := pt_then hb (Nat.le_refl _) hp
  obtain ⟨g0, g1, g2⟩ := three_g hg
  have HPZ := Lib.hid (show w.heap.size ≠ p from fun e => by have := (Array.getElem?_eq_some_iff.1 h.blk).1; omega)
  dsimp only [ptO] at hb hz hg hp0 x0 x1 x2 x3 g0 g1 g2
  generalize hw0 : w.alloc (.cells #[.int .u64 (id : Int), .int .i64 (pl : Int), .int .i64 (cnt : Int), .slice q n c] 47) = w0 at *
  have HB := Lib.hid hb
  have HZ := Lib.hid hz
  have HG := Lib.hid hg
  have HPT := Lib.hid hp0
  have HN := Lib.hid hn
  have HOK := Lib.hid hok
  have HLO := Lib.hid hlo
  have HW := Lib.hid h
  have HPX := Lib.hid hpx
  have t1 : ¬ (id : Int) < (id : Int) := by omega
  have t3 : ((cnt : Int) == (cnt : Int)) = true := beq_self_eq_true _
  have HNV := Lib.hid (show Value.slice q n c = Part.v ⟨q, c, body⟩ by unfold Part.v; rw [HN.out])
  have HPL := Lib.hid (show pl < cnt from hok.2.2.1)
  have HBL := Lib.hid (show (⟨q, c, body⟩ : Part).l.length ≤ 256 from hok.2.2.2.2.1)
  have HE := Lib.hid hE
  have HLK := Lib.hid (fun w1 (h1 : GM w1 lo p id cnt (some b) E) (d : Nat) => look_any (w := w1) (b := b) (k := pl) (v := .tuple #[.slice none 0 0, .bool false]) (c := true) (fun w2 hw => look_no true (mb_heap (gm_mb h1).1 hw) hE) d)
  have HF := Lib.hid (GF.of_below (p := p) (m := some b) HB.out)
  obtain ⟨en, hen⟩ : ∃ en, en = E.length + 1 := ⟨_, rfl⟩
  have HEN := Lib.hid (show ((E ++ [(pl, (⟨q, c, body⟩ : Part))]).map Ent).length = en by rw [List.length_map, List.length_append, hen]; rfl)
  have HCN := Lib.hid (show en < cnt by omega)
  have t4 : (en : Int) < (cnt : Int) := by omega
  clear h hn hp hok hlo hpx hb hz hg hp0 hE hc hen
  go_enter Try.func20, Try.ntmps20
  go_upto_region 1 with fail
  go_still (by kernel_rfl)
  change Exit.then _ _ _ _ w0.drew
  replace HG := Lib.hid (HG.out.then_ (Below.drew (Below.refl w0.heap.size w0)))
  replace HB := Lib.hid (Below.drew HB.out)
  replace HPT := Lib.hid (show Pt w0.drew ⟨q, c, body⟩ from HPT.out)
  replace HF := Lib.hid (GF.then_ HF.out (Below.drew (Below.refl w0.heap.size w0)))
  replace HZ := Lib.hid (show w0.drew.heap[w.heap.size]? = _ from HZ.out)
  replace x0 := past_drew x0
  replace x1 := past_drew x1
  replace x2 := past_drew x2
  replace x3 := past_drew x3
  replace g0 := past_drew g0
  replace g1 := past_drew g1
  replace g2 := past_drew g2
  generalize w0.drew = w1 at *
  go_upto_region 3 with fail
  go_still (by kernel_rfl)
  change Exit.then _ _ _ _ w1.drew
  replace HG := Lib.hid (HG.out.then_ (Below.drew (Below.refl w1.heap.size w1)))
  replace HB := Lib.hid (Below.drew HB.out)
  replace HPT := Lib.hid (show Pt w1.drew ⟨q, c, body⟩ from HPT.out)
  replace HF := Lib.hid (GF.then_ HF.out (Below.drew (Below.refl w1.heap.size w1)))
  replace HZ := Lib.hid (show w1.drew.heap[w.heap.size]? = _ from HZ.out)
  replace x0 := past_drew x0
  replace x1 := past_drew x1
  replace x2 := past_drew x2
  replace x3 := past_drew x3
  replace g0 := past_drew g0
  replace g1 := past_drew g1
  replace g2 := past_drew g2
  generalize w1.drew = w2 at *
  go_upto_region 5 with fail
  go_still_tail 7, (by kernel_rfl)
  change wpList _ _ _ _ _ w2.drew
  replace HG := Lib.hid (HG.out.then_ (Below.drew (Below.refl w2.heap.size w2)))
  replace HF := Lib.hid (GF.then_ HF.out (Below.drew (Below.refl w2.heap.size w2)))
  replace HPT := Lib.hid (show Pt w2.drew ⟨q, c, body⟩ from HPT.out)
  replace x0 := past_drew x0
  replace x1 := past_drew x1
  replace x2 := past_drew x2
  replace x3 := past_drew x3
  replace g0 := past_drew g0
  replace g1 := past_drew g1
  replace g2 := past_drew g2
  generalize w2.drew = v3 at *
  go_upto_region 6 with (go_at_call 26; (with_reducible refine (need_t _).mono ?_); rintro e w' ⟨rfl, rfl⟩)
  refine wp_region_still_lit (by kernel_rfl) (by kernel_rfl) ?_
  repeat still_step
  refine still_look _ _ 49 true rfl rfl _ _ _ rfl rfl (HLK.out v3 HG.out _) ?_
  repeat still_step
  refine wpStill_nil ?_
  change Exit.then _ _ _ _ v3.drew
  replace HG := Lib.hid (HG.out.then_ (Below.drew (Below.refl v3.heap.size v3)))
  replace HF := Lib.hid (GF.then_ HF.out (Below.drew (Below.refl v3.heap.size v3)))
  replace HPT := Lib.hid (show Pt v3.drew ⟨q, c, body⟩ from HPT.out)
  replace x0 := past_drew x0
  replace x1 := past_drew x1
  replace x2 := past_drew x2
  replace x3 := past_drew x3
  replace g0 := past_drew g0
  replace g1 := past_drew g1
  replace g2 := past_drew g2
  generalize v3.drew = v4 at *
  go_upto_region 10 with fail
  go_still_tail 8, (by kernel_rfl)
  change wpList _ _ _ _ _ v4.drew
  replace HG := Lib.hid (HG.out.then_ (Below.drew (Below.refl v4.heap.size v4)))
  replace HF := Lib.hid (GF.then_ HF.out (Below.drew (Below.refl v4.heap.size v4)))
  replace HPT := Lib.hid (show Pt v4.drew ⟨q, c, body⟩ from HPT.out)
  replace x0 := past_drew x0
  replace x1 := past_drew x1
  replace x2 := past_drew x2
  replace x3 := past_drew x3
  replace g0 := past_drew g0
  replace g1 := past_drew g1
  replace g2 := past_drew g2
  generalize v4.drew = v5 at *
  refine wpList_put rfl _ _ _ rfl b pl E ⟨q, c, body⟩ rfl rfl HNV.out (gm_mb HG.out).1 HE.out ?_
  intro v6 hm hgr
  have HG6 := Lib.hid (gm_put HG.out HE.out HPT.out HPL.out HBL.out hm hgr)
  have HF6 := Lib.hid (gf_put HF.out hgr (.inr rfl))
  clear hm hgr x0 x1 x2 x3 g0 g1 g2 HG HF HPT HLK HE
  obtain ⟨g0, g1, g2⟩ := three_g HG6.out
  have HG := Lib.hid HG6.out
  have HF := Lib.hid HF6.out
  clear HG6 HF6
  go_upto_region 11 with fail
  refine wp_region_still_lit (by kernel_rfl) (by kernel_rfl) ?_
  repeat still_step
  refine still_len _ rfl rfl b en _ rfl (gm_mb HG.out).1 HEN.out ?_
  repeat still_step
  refine wpStill_nil ?_
  change Exit.then _ _ _ _ v6.drew
  replace HG := Lib.hid (HG.out.then_ (Below.drew (Below.refl v6.heap.size v6)))
  replace HF := Lib.hid (GF.then_ HF.out (Below.drew (Below.refl v6.heap.size v6)))
  clear g0 g1 g2
  generalize v6.drew = v7 at *
  go_wp2
  go_ret2
  exact ⟨_, rfl, HG.out, HF.out⟩

set_option maxRecDepth 100000 in
set_option maxHeartbeats 4000000 in
theorem putAll (lo p id cnt : Nat) (b : Nat) (E : List (Nat × Part)) (pl : Nat) (q : Option Addr) (n c : Nat) (body : List Nat) (w : World) (h : GM w lo p id cnt (some b) E) (hn : n = body.length) (hp : Pt w ⟨q, c, body⟩) (hok : PartOk id pl cnt body) (hlo : lo ≤ w.heap.size) (hpx : ∀ x, q = some x → x.block ≠ p) (hE : ∀ Q, (pl, Q) ∉ E) (hc : cnt ≤ E.length + 1) (hc3 : cnt ≤ 3500) :
    Calls Try.prog 20 #[.pointer (some ⟨p, 0, none⟩), ptA (id : Int) (pl : Int) (cnt : Int) q n c] w fun e w' => ∃ m', ∃ u, e = .returned (.tuple #[u, .bool true]) ∧ Rb w' w.heap.size u (catB (bodyE (E ++ [(pl, ⟨q, c, body⟩)])) cnt) ∧ PutR lo p id cnt m' (E ++ [(pl, ⟨q, c, body⟩)]) w (some b) w' := by
  have hb := below_one w (ptO (id : Int) (pl : Int) (cnt : Int) q n c)
  have hz := heap_alloc_last w (ptO (id : Int) (pl : Int) (cnt : Int) q n c)
  obtain ⟨x0, x1, x2, x3⟩ := four_c hz
  have hg := h.then_ hb
  have hp0 := pt_then hb (Nat.le_refl _) hp
  obtain ⟨g0, g1, g2⟩ := three_g hg
  have HPZ := Lib.hid (show w.heap.size ≠ p from fun e => by have := (Array.getElem?_eq_some_iff.1 h.blk).1; omega)
  dsimp only [ptO] at hb hz hg hp0 x0 x1 x2 x3 g0 g1 g2
  generalize hw0 : w.alloc (.cells #[.int .u64 (id : Int), .int .i64 (pl : Int), .int .i64 (cnt : Int), .slice q n c] 47) = w0 at *
  have HB := Lib.hid hb
  have HZ := Lib.hid hz
  have HG := Lib.hid hg
  have HPT := Lib.hid hp0
  have HN := Lib.hid hn
  have HOK := Lib.hid hok
  have HLO := Lib.hid hlo
  have HW := Lib.hid h
  have HPX := Lib.hid hpx
  have t1 : ¬ (id : Int) < (id : Int) := by omega
  have t3 : ((cnt : Int) == (cnt : Int)) = true := beq_self_eq_true _
  have HNV := Lib.hid (show Value.slice q n c = Part.v ⟨q, c, body⟩ by unfold Part.v; rw [HN.out])
  have HPL := Lib.hid (show pl < cnt from hok.2.2.1)
  have HBL := Lib.hid (show (⟨q, c, body⟩ : Part).l.length ≤ 256 from hok.2.2.2.2.1)
  have HE := Lib.hid hE
  have HLK := Lib.hid (fun w1 (h1 : GM w1 lo p id cnt (some b) E) (d : Nat) => look_any (w := w1) (b := b) (k := pl) (v := .tuple #[.slice none 0 0, .bool false]) (c := true) (fun w2 hw => look_no true (mb_heap (gm_mb h1).1 hw) hE) d)
  have HF := Lib.hid (GF.of_below (p := p) (m := some b) HB.out)
  obtain ⟨en, hen⟩ : ∃ en, en = E.length + 1 := ⟨_, rfl⟩
  have HEN := Lib.hid (show ((E ++ [(pl, (⟨q, c, body⟩ : Part))]).map Ent).length = en by rw [List.length_map, List.length_append, hen]; rfl)
  have HCN := Lib.hid (show cnt ≤ en by omega)
  have t4 : ¬ (en : Int) < (cnt : Int) := by omega
  have HC3 := Lib.hid hc3
  clear h hn hp hok hlo hpx hb hz hg hp0 hE hc hen hc3
  go_enter Try.func20, Try.ntmps20
  go_upto_region 1 with fail
  go_still (by kernel_rfl)
  change Exit.then _ _ _ _ w0.drew
  replace HG := Lib.hid (HG.out.then_ (Below.drew (Below.refl w0.heap.size w0)))
  replace HB := Lib.hid (Below.drew HB.out)
  replace HPT := Lib.hid (show Pt w0.drew ⟨q, c, body⟩ from HPT.out)
  replace HF := Lib.hid (GF.then_ HF.out (Below.drew (Below.refl w0.heap.size w0)))
  replace HZ := Lib.hid (show w0.drew.heap[w.heap.size]? = _ from HZ.out)
  replace x0 := past_drew x0
  replace x1 := past_drew x1
  replace x2 := past_drew x2
  replace x3 := past_drew x3
  replace g0 := past_drew g0
  replace g1 := past_drew g1
  replace g2 := past_drew g2
  generalize w0.drew = w1 at *
  go_upto_region 3 with fail
  go_still (by kernel_rfl)
  change Exit.then _ _ _ _ w1.drew
  replace HG := Lib.hid (HG.out.then_ (Below.drew (Below.refl w1.heap.size w1)))
  replace HB := Lib.hid (Below.drew HB.out)
  replace HPT := Lib.hid (show Pt w1.drew ⟨q, c, body⟩ from HPT.out)
  replace HF := Lib.hid (GF.then_ HF.out (Below.drew (Below.refl w1.heap.size w1)))
  replace HZ := Lib.hid (show w1.drew.heap[w.heap.size]? = _ from HZ.out)
  replace x0 := past_drew x0
  replace x1 := past_drew x1
  replace x2 := past_drew x2
  replace x3 := past_drew x3
  replace g0 := past_drew g0
  replace g1 := past_drew g1
  replace g2 := past_drew g2
  generalize w1.drew = w2 at *
  go_upto_region 5 with fail
  go_still_tail 7, (by kernel_rfl)
  change wpList _ _ _ _ _ w2.drew
  replace HG := Lib.hid (HG.out.then_ (Below.drew (Below.refl w2.heap.size w2)))
  replace HF := Lib.hid (GF.then_ HF.out (Below.drew (Below.refl w2.heap.size w2)))
  replace HPT := Lib.hid (show Pt w2.drew ⟨q, c, body⟩ from HPT.out)
  replace x0 := past_drew x0
  replace x1 := past_drew x1
  replace x2 := past_drew x2
  replace x3 := past_drew x3
  replace g0 := past_drew g0
  replace g1 := past_drew g1
  replace g2 := past_drew g2
  generalize w2.drew = v3 at *
  go_upto_region 6 with (go_at_call 26; (with_reducible refine (need_t _).mono ?_); rintro e w' ⟨rfl, rfl⟩)
  refine wp_region_still_lit (by kernel_rfl) (by kernel_rfl) ?_
  repeat still_step
  refine still_look _ _ 49 true rfl rfl _ _ _ rfl rfl (HLK.out v3 HG.out _) ?_
  repeat still_step
  refine wpStill_nil ?_
  change Exit.then _ _ _ _ v3.drew
  replace HG := Lib.hid (HG.out.then_ (Below.drew (Below.refl v3.heap.size v3)))
  replace HF := Lib.hid (GF.then_ HF.out (Below.drew (Below.refl v3.heap.size v3)))
  replace HPT := Lib.hid (show Pt v3.drew ⟨q, c, body⟩ from HPT.out)
  replace x0 := past_drew x0
  replace x1 := past_drew x1
  replace x2 := past_drew x2
  replace x3 := past_drew x3
  replace g0 := past_drew g0
  replace g1 := past_drew g1
  replace g2 := past_drew g2
  generalize v3.drew = v4 at *
  go_upto_region 10 with fail
  go_still_tail 8, (by kernel_rfl)
  change wpList _ _ _ _ _ v4.drew
  replace HG := Lib.hid (HG.out.then_ (Below.drew (Below.refl v4.heap.size v4)))
  replace HF := Lib.hid (GF.then_ HF.out (Below.drew (Below.refl v4.heap.size v4)))
  replace HPT := Lib.hid (show Pt v4.drew ⟨q, c, body⟩ from HPT.out)
  replace x0 := past_drew x0
  replace x1 := past_drew x1
  replace x2 := past_drew x2
  replace x3 := past_drew x3
  replace g0 := past_drew g0
  replace g1 := past_drew g1
  replace g2 := past_drew g2
  generalize v4.drew = v5 at *
  refine wpList_put rfl _ _ _ rfl b pl E ⟨q, c, body⟩ rfl rfl HNV.out (gm_mb HG.out).1 HE.out ?_
  intro v6 hm hgr
  have HG6 := Lib.hid (gm_put HG.out HE.out HPT.out HPL.out HBL.out hm hgr)
  have HF6 := Lib.hid (gf_put HF.out hgr (.inr rfl))
  clear hm hgr x0 x1 x2 x3 g0 g1 g2 HG HF HPT HLK HE
  obtain ⟨g0, g1, g2⟩ := three_g HG6.out
  have HG := Lib.hid HG6.out
  have HF := Lib.hid HF6.out
  clear HG6 HF6
  go_upto_region 11 with fail
  refine wp_region_still_lit (by kernel_rfl) (by kernel_rfl) ?_
  repeat still_step
  refine still_len _ rfl rfl b en _ rfl (gm_mb HG.out).1 HEN.out ?_
  repeat still_step
  refine wpStill_nil ?_
  change Exit.then _ _ _ _ v6.drew
  replace HG := Lib.hid (HG.out.then_ (Below.drew (Below.refl v6.heap.size v6)))
  replace HF := Lib.hid (GF.then_ HF.out (Below.drew (Below.refl v6.heap.size v6)))
  clear g0 g1 g2
  generalize v6.drew = v7 at *
  have HMS := Lib.hid (messageC lo p id cnt b (E ++ [(pl, ⟨q, c, body⟩)]) (bodyE (E ++ [(pl, ⟨q, c, body⟩)])) v7 HG.out HC3.out (bodyE_len HG.out.len) (fun i hi => bodyE_mem (nod_all HG.out.nod (fun x hx => by obtain ⟨y, hy, rfl⟩ := List.mem_map.1 hx; exact HG.out.low y hy) (by rw [List.length_map]; have := HEN.out; rw [List.length_map] at this; have := HCN.out; omega) i hi)))
  go_wp2_with (go_at_call 28; (with_reducible refine HMS.out.mono ?_); rintro e v8 ⟨u, rfl, hr, hb⟩; have HR8 := Lib.hid hr; have HG8 := Lib.hid (HG.out.then_ hb); have HF8 := Lib.hid (GF.then_ HF.out hb); clear hr hb)
  go_ret2
  exact ⟨_, _, rfl, rb_base HR8.out HF.out.size, HG8.out, HF8.out⟩

set_option maxRecDepth 100000 in
set_option maxHeartbeats 4000000 in
theorem putNew (lo p id cnt : Nat) (m : Option Nat) (E : List (Nat × Part)) (id' pl cn : Nat) (q : Option Addr) (n c : Nat) (body : List Nat) (w : World) (h : GM w lo p id cnt m E) (hn : n = body.length) (hp : Pt w ⟨q, c, body⟩) (hok : PartOk id' pl cn body) (hlo : lo ≤ w.heap.size) (hpx : ∀ x, q = some x → x.block ≠ p) (hi : id < id') (hc : 1 < cn) :
    Calls Try.prog 20 #[.pointer (some ⟨p, 0, none⟩), ptA (id' : Int) (pl : Int) (cn : Int) q n c] w fun e w' => ∃ m', e = .returned (.tuple #[.slice none 0 0, .bool false]) ∧ PutR lo p id' cn m' (([] : List (Nat × Part)) ++ [(pl, ⟨q, c, body⟩)]) w m w' := by
  have hb := below_one w (ptO (id' : Int) (pl : Int) (cn : Int) q n c)
  have hz := heap_alloc_last w (ptO (id' : Int) (pl : Int) (cn : Int) q n c)
  obtain ⟨x0, x1, x2, x3⟩ := four_c hz
  have hg := h.then_ hb
  have hp0 := pt_then hb (Nat.le_refl _) hp
  obtain ⟨g0, g1, g2⟩ := three_g hg
  have HPZ := Lib.hid (show w.heap.size ≠ p from fun e => by have := (Array.getElem?_eq_some_iff.1 h.blk).1; omega)
  dsimp only [ptO] at hb hz hg hp0 x0 x1 x2 x3 g0 g1 g2
  generalize hw0 : w.alloc (.cells #[.int .u64 (id' : Int), .int .i64 (pl : Int), .int .i64 (cn : Int), .slice q n c] 47) = w0 at *
  have HB := Lib.hid hb
  have HZ := Lib.hid hz
  have HG := Lib.hid hg
  have HPT := Lib.hid hp0
  have HN := Lib.hid hn
  have HOK := Lib.hid hok
  have HLO := Lib.hid hlo
  have HW := Lib.hid h
  have HPX := Lib.hid hpx
  have t1 : ¬ (id' : Int) < (id : Int) := by omega
  have t2 : (id : Int) < (id' : Int) := by omega
  have t3 : ((cn : Int) == (cn : Int)) = true := beq_self_eq_true _
  have HNV := Lib.hid (show Value.slice q n c = Part.v ⟨q, c, body⟩ by unfold Part.v; rw [HN.out])
  have HPL := Lib.hid (show pl < cn from hok.2.2.1)
  have HBL := Lib.hid (show (⟨q, c, body⟩ : Part).l.length ≤ 256 from hok.2.2.2.2.1)
  have HE := Lib.hid (show ∀ Q, (pl, Q) ∉ ([] : List (Nat × Part)) from fun Q h => by cases h)
  have HF := Lib.hid (GF.of_below (p := p) (m := m) HB.out)
  have HCN := Lib.hid (show 1 < cn by omega)
  have t4 : ((1 : Nat) : Int) < (cn : Int) := by omega
  obtain ⟨en, hen⟩ : ∃ en : Nat, en = 1 := ⟨_, rfl⟩
  rw [← hen] at t4
  have HEN := Lib.hid (show ((([] : List (Nat × Part)) ++ [(pl, (⟨q, c, body⟩ : Part))]).map Ent).length = en by rw [hen]; rfl)
  have HCN := Lib.hid (show en < cn by rw [hen]; exact HCN.out)
  clear h hn hp hok hlo hpx hb hz hg hp0 hc hen hi
  go_enter Try.func20, Try.ntmps20
  go_upto_region 1 with fail
  go_still (by kernel_rfl)
  change Exit.then _ _ _ _ w0.drew
  replace HG := Lib.hid (HG.out.then_ (Below.drew (Below.refl w0.heap.size w0)))
  replace HB := Lib.hid (Below.drew HB.out)
  replace HPT := Lib.hid (show Pt w0.drew ⟨q, c, body⟩ from HPT.out)
  replace HF := Lib.hid (GF.then_ HF.out (Below.drew (Below.refl w0.heap.size w0)))
  replace HZ := Lib.hid (show w0.drew.heap[w.heap.size]? = _ from HZ.out)
  replace x0 := past_drew x0
  replace x1 := past_drew x1
  replace x2 := past_drew x2
  replace x3 := past_drew x3
  replace g0 := past_drew g0
  replace g1 := past_drew g1
  replace g2 := past_drew g2
  generalize w0.drew = w1 at *
  go_upto_region 3 with fail
  go_still (by kernel_rfl)
  change Exit.then _ _ _ _ w1.drew
  replace HG := Lib.hid (HG.out.then_ (Below.drew (Below.refl w1.heap.size w1)))
  replace HB := Lib.hid (Below.drew HB.out)
  replace HPT := Lib.hid (show Pt w1.drew ⟨q, c, body⟩ from HPT.out)
  replace HF := Lib.hid (GF.then_ HF.out (Below.drew (Below.refl w1.heap.size w1)))
  replace HZ := Lib.hid (show w1.drew.heap[w.heap.size]? = _ from HZ.out)
  replace x0 := past_drew x0
  replace x1 := past_drew x1
  replace x2 := past_drew x2
  replace x3 := past_drew x3
  replace g0 := past_drew g0
  replace g1 := past_drew g1
  replace g2 := past_drew g2
  generalize w1.drew = w2 at *
  have HGA := Lib.hid (HG.out.then_ (below_one w2 (.map #[] 0)))
  have HMA := Lib.hid (show MB (w2.alloc (.map #[] 0)) w2.heap.size (([] : List (Nat × Part)).map Ent) from ⟨#[], 0, heap_alloc_last w2 _, rfl⟩)
  have HBB := Lib.hid (show w.heap.size ≤ w2.heap.size from HF.out.size)
  have HPB := Lib.hid (show p ≠ w2.heap.size from fun e => by have := (Array.getElem?_eq_some_iff.1 HG.out.blk).1; omega)
  have hmm : (Instr.makeMap 49 none).run Try.prog w2 = .ok (.map (some w2.heap.size)) (w2.alloc (.map #[] 0)) := rfl
  go_upto_region 5 with ((with_reducible refine wpList_store_g rfl _ _ rfl p (id' : Int) (cn : Int) (some w2.heap.size) _ rfl rfl HGA.out.blk rfl ?_); intro w3 hs hk ho; have HG3 := Lib.hid (show GM w3 lo p id' cn (some w2.heap.size) ([] : List (Nat × Part)) from ⟨HW.out.plo, hs, .inr ⟨_, rfl, Nat.le_trans HLO.out HBB.out, HMA.out.keep (hk _ (Ne.symm HPB.out))⟩, (fun q hq => by cases hq), List.nodup_nil, (fun q hq => by cases hq), HOK.out.2.1, HOK.out.2.2.2.1, (fun q hq => by cases hq), (fun h => by cases h)⟩); have HF3 := Lib.hid (GF.store (GF.then_ HF.out (below_one w2 (.map #[] 0))) hk ho); have HZ3 := Lib.hid ((hk _ HPZ.out).trans (((below_one w2 (.map #[] 0)).block _ (Array.getElem?_eq_some_iff.1 HZ.out).1).trans HZ.out)); have HPT3 := Lib.hid (show Pt w3 ⟨q, c, body⟩ from ⟨sl_kept (sl_then (below_one w2 (.map #[] 0)) (Nat.le_refl _) HPT.out.1) hk (fun x hx => HPX.out x hx), HPT.out.2⟩); clear hs hk ho x0 x1 x2 x3 g0 g1 g2)
  clear hmm
  obtain ⟨x0, x1, x2, x3⟩ := four_c HZ3.out
  obtain ⟨g0, g1, g2⟩ := three_g HG3.out
  have HBB := Lib.hid HBB.out
  clear HMA HGA HPB
  generalize w2.heap.size = b at *
  replace HG := Lib.hid HG3.out
  replace HF := Lib.hid HF3.out
  replace HPT := Lib.hid HPT3.out
  have HLK := Lib.hid (fun w1 (h1 : GM w1 lo p id' cn (some b) ([] : List (Nat × Part))) (d : Nat) => look_any (w := w1) (b := b) (k := pl) (v := .tuple #[.slice none 0 0, .bool false]) (c := true) (fun w2 hw => look_no true (mb_heap (gm_mb h1).1 hw) HE.out) d)
  go_upto_region 5 with fail
  go_still_tail 7, (by kernel_rfl)
  change wpList _ _ _ _ _ w3.drew
  replace HG := Lib.hid (HG.out.then_ (Below.drew (Below.refl w3.heap.size w3)))
  replace HF := Lib.hid (GF.then_ HF.out (Below.drew (Below.refl w3.heap.size w3)))
  replace HPT := Lib.hid (show Pt w3.drew ⟨q, c, body⟩ from HPT.out)
  replace x0 := past_drew x0
  replace x1 := past_drew x1
  replace x2 := past_drew x2
  replace x3 := past_drew x3
  replace g0 := past_drew g0
  replace g1 := past_drew g1
  replace g2 := past_drew g2
  generalize w3.drew = v3 at *
  go_upto_region 6 with (go_at_call 26; (with_reducible refine (need_t _).mono ?_); rintro e w' ⟨rfl, rfl⟩)
  refine wp_region_still_lit (by kernel_rfl) (by kernel_rfl) ?_
  repeat still_step
  refine still_look _ _ 49 true rfl rfl _ _ _ rfl rfl (HLK.out v3 HG.out _) ?_
  repeat still_step
  refine wpStill_nil ?_
  change Exit.then _ _ _ _ v3.drew
  replace HG := Lib.hid (HG.out.then_ (Below.drew (Below.refl v3.heap.size v3)))
  replace HF := Lib.hid (GF.then_ HF.out (Below.drew (Below.refl v3.heap.size v3)))
  replace HPT := Lib.hid (show Pt v3.drew ⟨q, c, body⟩ from HPT.out)
  replace x0 := past_drew x0
  replace x1 := past_drew x1
  replace x2 := past_drew x2
  replace x3 := past_drew x3
  replace g0 := past_drew g0
  replace g1 := past_drew g1
  replace g2 := past_drew g2
  generalize v3.drew = v4 at *
  go_upto_region 10 with fail
  go_still_tail 8, (by kernel_rfl)
  change wpList _ _ _ _ _ v4.drew
  replace HG := Lib.hid (HG.out.then_ (Below.drew (Below.refl v4.heap.size v4)))
  replace HF := Lib.hid (GF.then_ HF.out (Below.drew (Below.refl v4.heap.size v4)))
  replace HPT := Lib.hid (show Pt v4.drew ⟨q, c, body⟩ from HPT.out)
  replace x0 := past_drew x0
  replace x1 := past_drew x1
  replace x2 := past_drew x2
  replace x3 := past_drew x3
  replace g0 := past_drew g0
  replace g1 := past_drew g1
  replace g2 := past_drew g2
  generalize v4.drew = v5 at *
  refine wpList_put rfl _ _ _ rfl b pl ([] : List (Nat × Part)) ⟨q, c, body⟩ rfl rfl HNV.out (gm_mb HG.out).1 HE.out ?_
  intro v6 hm hgr
  have HG6 := Lib.hid (gm_put HG.out HE.out HPT.out HPL.out HBL.out hm hgr)
  have HF6 := Lib.hid (gf_put HF.out hgr (.inl HBB.out))
  clear hm hgr x0 x1 x2 x3 g0 g1 g2 HG HF HPT HLK HE
  obtain ⟨g0, g1, g2⟩ := three_g HG6.out
  have HG := Lib.hid HG6.out
  have HF := Lib.hid HF6.out
  clear HG6 HF6
  go_upto_region 11 with fail
  refine wp_region_still_lit (by kernel_rfl) (by kernel_rfl) ?_
  repeat still_step
  refine still_len _ rfl rfl b en _ rfl (gm_mb HG.out).1 HEN.out ?_
  repeat still_step
  refine wpStill_nil ?_
  change Exit.then _ _ _ _ v6.drew
  replace HG := Lib.hid (HG.out.then_ (Below.drew (Below.refl v6.heap.size v6)))
  replace HF := Lib.hid (GF.then_ HF.out (Below.drew (Below.refl v6.heap.size v6)))
  clear g0 g1 g2
  generalize v6.drew = v7 at *
  go_wp2
  go_ret2
  exact ⟨_, rfl, HG.out, HF.out⟩

set_option maxRecDepth 100000 in
set_option maxHeartbeats 4000000 in
theorem putOne (lo p id cnt : Nat) (m : Option Nat) (E : List (Nat × Part)) (id' pl cn : Nat) (q : Option Addr) (n c : Nat) (body : List Nat) (w : World) (h : GM w lo p id cnt m E) (hn : n = body.length) (hp : Pt w ⟨q, c, body⟩) (hok : PartOk id' pl cn body) (hlo : lo ≤ w.heap.size) (hpx : ∀ x, q = some x → x.block ≠ p) (hi : id < id') (hc : cn = 1) :
    Calls Try.prog 20 #[.pointer (some ⟨p, 0, none⟩), ptA (id' : Int) (pl : Int) (cn : Int) q n c] w fun e w' => ∃ m', ∃ u, e = .returned (.tuple #[u, .bool true]) ∧ Rb w' w.heap.size u (catB (bodyE (([] : List (Nat × Part)) ++ [(pl, ⟨q, c, body⟩)])) cn) ∧ PutR lo p id' cn m' (([] : List (Nat × Part)) ++ [(pl, ⟨q, c, body⟩)]) w m w' := by
  have hb := below_one w (ptO (id' : Int) (pl : Int) (cn : Int) q n c)
  have hz := heap_alloc_last w (ptO (id' : Int) (pl : Int) (cn : Int) q n c)
  obtain ⟨x0, x1, x2, x3⟩ := four_c hz
  have hg := h.then_ hb
  have hp0 := pt_then hb (Nat.le_refl _) hp
  obtain ⟨g0, g1, g2⟩ := three_g hg
  have HPZ := Lib.hid (show w.heap.size ≠ p from fun e => by have := (Array.getElem?_eq_some_iff.1 h.blk).1; omega)
  dsimp only [ptO] at hb hz hg hp0 x0 x1 x2 x3 g0 g1 g2
  generalize hw0 : w.alloc (.cells #[.int .u64 (id' : Int), .int .i64 (pl : Int), .int .i64 (cn : Int), .slice q n c] 47) = w0 at *
  have HB := Lib.hid hb
  have HZ := Lib.hid hz
  have HG := Lib.hid hg
  have HPT := Lib.hid hp0
  have HN := Lib.hid hn
  have HOK := Lib.hid hok
  have HLO := Lib.hid hlo
  have HW := Lib.hid h
  have HPX := Lib.hid hpx
  have t1 : ¬ (id' : Int) < (id : Int) := by omega
  have t2 : (id : Int) < (id' : Int) := by omega
  have t3 : ((cn : Int) == (cn : Int)) = true := beq_self_eq_true _
  have HNV := Lib.hid (show Value.slice q n c = Part.v ⟨q, c, body⟩ by unfold Part.v; rw [HN.out])
  have HPL := Lib.hid (show pl < cn from hok.2.2.1)
  have HBL := Lib.hid (show (⟨q, c, body⟩ : Part).l.length ≤ 256 from hok.2.2.2.2.1)
  have HE := Lib.hid (show ∀ Q, (pl, Q) ∉ ([] : List (Nat × Part)) from fun Q h => by cases h)
  have HF := Lib.hid (GF.of_below (p := p) (m := m) HB.out)
  have HCN := Lib.hid (show cn ≤ 1 by omega)
  have t4 : ¬ ((1 : Nat) : Int) < (cn : Int) := by omega
  obtain ⟨en, hen⟩ : ∃ en : Nat, en = 1 := ⟨_, rfl⟩
  rw [← hen] at t4
  have HEN := Lib.hid (show ((([] : List (Nat × Part)) ++ [(pl, (⟨q, c, body⟩ : Part))]).map Ent).length = en by rw [hen]; rfl)
  have HCN := Lib.hid (show cn ≤ en by rw [hen]; exact HCN.out)
  have HC3 := Lib.hid (show cn ≤ 3500 by omega)
  clear h hn hp hok hlo hpx hb hz hg hp0 hc hen hi
  go_enter Try.func20, Try.ntmps20
  go_upto_region 1 with fail
  go_still (by kernel_rfl)
  change Exit.then _ _ _ _ w0.drew
  replace HG := Lib.hid (HG.out.then_ (Below.drew (Below.refl w0.heap.size w0)))
  replace HB := Lib.hid (Below.drew HB.out)
  replace HPT := Lib.hid (show Pt w0.drew ⟨q, c, body⟩ from HPT.out)
  replace HF := Lib.hid (GF.then_ HF.out (Below.drew (Below.refl w0.heap.size w0)))
  replace HZ := Lib.hid (show w0.drew.heap[w.heap.size]? = _ from HZ.out)
  replace x0 := past_drew x0
  replace x1 := past_drew x1
  replace x2 := past_drew x2
  replace x3 := past_drew x3
  replace g0 := past_drew g0
  replace g1 := past_drew g1
  replace g2 := past_drew g2
  generalize w0.drew = w1 at *
  go_upto_region 3 with fail
  go_still (by kernel_rfl)
  change Exit.then _ _ _ _ w1.drew
  replace HG := Lib.hid (HG.out.then_ (Below.drew (Below.refl w1.heap.size w1)))
  replace HB := Lib.hid (Below.drew HB.out)
  replace HPT := Lib.hid (show Pt w1.drew ⟨q, c, body⟩ from HPT.out)
  replace HF := Lib.hid (GF.then_ HF.out (Below.drew (Below.refl w1.heap.size w1)))
  replace HZ := Lib.hid (show w1.drew.heap[w.heap.size]? = _ from HZ.out)
  replace x0 := past_drew x0
  replace x1 := past_drew x1
  replace x2 := past_drew x2
  replace x3 := past_drew x3
  replace g0 := past_drew g0
  replace g1 := past_drew g1
  replace g2 := past_drew g2
  generalize w1.drew = w2 at *
  have HGA := Lib.hid (HG.out.then_ (below_one w2 (.map #[] 0)))
  have HMA := Lib.hid (show MB (w2.alloc (.map #[] 0)) w2.heap.size (([] : List (Nat × Part)).map Ent) from ⟨#[], 0, heap_alloc_last w2 _, rfl⟩)
  have HBB := Lib.hid (show w.heap.size ≤ w2.heap.size from HF.out.size)
  have HPB := Lib.hid (show p ≠ w2.heap.size from fun e => by have := (Array.getElem?_eq_some_iff.1 HG.out.blk).1; omega)
  have hmm : (Instr.makeMap 49 none).run Try.prog w2 = .ok (.map (some w2.heap.size)) (w2.alloc (.map #[] 0)) := rfl
  go_upto_region 5 with ((with_reducible refine wpList_store_g rfl _ _ rfl p (id' : Int) (cn : Int) (some w2.heap.size) _ rfl rfl HGA.out.blk rfl ?_); intro w3 hs hk ho; have HG3 := Lib.hid (show GM w3 lo p id' cn (some w2.heap.size) ([] : List (Nat × Part)) from ⟨HW.out.plo, hs, .inr ⟨_, rfl, Nat.le_trans HLO.out HBB.out, HMA.out.keep (hk _ (Ne.symm HPB.out))⟩, (fun q hq => by cases hq), List.nodup_nil, (fun q hq => by cases hq), HOK.out.2.1, HOK.out.2.2.2.1, (fun q hq => by cases hq), (fun h => by cases h)⟩); have HF3 := Lib.hid (GF.store (GF.then_ HF.out (below_one w2 (.map #[] 0))) hk ho); have HZ3 := Lib.hid ((hk _ HPZ.out).trans (((below_one w2 (.map #[] 0)).block _ (Array.getElem?_eq_some_iff.1 HZ.out).1).trans HZ.out)); have HPT3 := Lib.hid (show Pt w3 ⟨q, c, body⟩ from ⟨sl_kept (sl_then (below_one w2 (.map #[] 0)) (Nat.le_refl _) HPT.out.1) hk (fun x hx => HPX.out x hx), HPT.out.2⟩); clear hs hk ho x0 x1 x2 x3 g0 g1 g2)
  clear hmm
  obtain ⟨x0, x1, x2, x3⟩ := four_c HZ3.out
  obtain ⟨g0, g1, g2⟩ := three_g HG3.out
  have HBB := Lib.hid HBB.out
  clear HMA HGA HPB
  generalize w2.heap.size = b at *
  replace HG := Lib.hid HG3.out
  replace HF := Lib.hid HF3.out
  replace HPT := Lib.hid HPT3.out
  have HLK := Lib.hid (fun w1 (h1 : GM w1 lo p id' cn (some b) ([] : List (Nat × Part))) (d : Nat) => look_any (w := w1) (b := b) (k := pl) (v := .tuple #[.slice none 0 0, .bool false]) (c := true) (fun w2 hw => look_no true (mb_heap (gm_mb h1).1 hw) HE.out) d)
  go_upto_region 5 with fail
  go_still_tail 7, (by kernel_rfl)
  change wpList _ _ _ _ _ w3.drew
  replace HG := Lib.hid (HG.out.then_ (Below.drew (Below.refl w3.heap.size w3)))
  replace HF := Lib.hid (GF.then_ HF.out (Below.drew (Below.refl w3.heap.size w3)))
  replace HPT := Lib.hid (show Pt w3.drew ⟨q, c, body⟩ from HPT.out)
  replace x0 := past_drew x0
  replace x1 := past_drew x1
  replace x2 := past_drew x2
  replace x3 := past_drew x3
  replace g0 := past_drew g0
  replace g1 := past_drew g1
  replace g2 := past_drew g2
  generalize w3.drew = v3 at *
  go_upto_region 6 with (go_at_call 26; (with_reducible refine (need_t _).mono ?_); rintro e w' ⟨rfl, rfl⟩)
  refine wp_region_still_lit (by kernel_rfl) (by kernel_rfl) ?_
  repeat still_step
  refine still_look _ _ 49 true rfl rfl _ _ _ rfl rfl (HLK.out v3 HG.out _) ?_
  repeat still_step
  refine wpStill_nil ?_
  change Exit.then _ _ _ _ v3.drew
  replace HG := Lib.hid (HG.out.then_ (Below.drew (Below.refl v3.heap.size v3)))
  replace HF := Lib.hid (GF.then_ HF.out (Below.drew (Below.refl v3.heap.size v3)))
  replace HPT := Lib.hid (show Pt v3.drew ⟨q, c, body⟩ from HPT.out)
  replace x0 := past_drew x0
  replace x1 := past_drew x1
  replace x2 := past_drew x2
  replace x3 := past_drew x3
  replace g0 := past_drew g0
  replace g1 := past_drew g1
  replace g2 := past_drew g2
  generalize v3.drew = v4 at *
  go_upto_region 10 with fail
  go_still_tail 8, (by kernel_rfl)
  change wpList _ _ _ _ _ v4.drew
  replace HG := Lib.hid (HG.out.then_ (Below.drew (Below.refl v4.heap.size v4)))
  replace HF := Lib.hid (GF.then_ HF.out (Below.drew (Below.refl v4.heap.size v4)))
  replace HPT := Lib.hid (show Pt v4.drew ⟨q, c, body⟩ from HPT.out)
  replace x0 := past_drew x0
  replace x1 := past_drew x1
  replace x2 := past_drew x2
  replace x3 := past_drew x3
  replace g0 := past_drew g0
  replace g1 := past_drew g1
  replace g2 := past_drew g2
  generalize v4.drew = v5 at *
  refine wpList_put rfl _ _ _ rfl b pl ([] : List (Nat × Part)) ⟨q, c, body⟩ rfl rfl HNV.out (gm_mb HG.out).1 HE.out ?_
  intro v6 hm hgr
  have HG6 := Lib.hid (gm_put HG.out HE.out HPT.out HPL.out HBL.out hm hgr)
  have HF6 := Lib.hid (gf_put HF.out hgr (.inl HBB.out))
  clear hm hgr x0 x1 x2 x3 g0 g1 g2 HG HF HPT HLK HE
  obtain ⟨g0, g1, g2⟩ := three_g HG6.out
  have HG := Lib.hid HG6.out
  have HF := Lib.hid HF6.out
  clear HG6 HF6
  go_upto_region 11 with fail
  refine wp_region_still_lit (by kernel_rfl) (by kernel_rfl) ?_
  repeat still_step
  refine still_len _ rfl rfl b en _ rfl (gm_mb HG.out).1 HEN.out ?_
  repeat still_step
  refine wpStill_nil ?_
  change Exit.then _ _ _ _ v6.drew
  replace HG := Lib.hid (HG.out.then_ (Below.drew (Below.refl v6.heap.size v6)))
  replace HF := Lib.hid (GF.then_ HF.out (Below.drew (Below.refl v6.heap.size v6)))
  clear g0 g1 g2
  generalize v6.drew = v7 at *
  have HMS := Lib.hid (messageC lo p id' cn b (([] : List (Nat × Part)) ++ [(pl, ⟨q, c, body⟩)]) (bodyE (([] : List (Nat × Part)) ++ [(pl, ⟨q, c, body⟩)])) v7 HG.out HC3.out (bodyE_len HG.out.len) (fun i hi => bodyE_mem (nod_all HG.out.nod (fun x hx => by obtain ⟨y, hy, rfl⟩ := List.mem_map.1 hx; exact HG.out.low y hy) (by rw [List.length_map]; have := HEN.out; rw [List.length_map] at this; have := HCN.out; omega) i hi)))
  go_wp2_with (go_at_call 28; (with_reducible refine HMS.out.mono ?_); rintro e v8 ⟨u, rfl, hr, hb⟩; have HR8 := Lib.hid hr; have HG8 := Lib.hid (HG.out.then_ hb); have HF8 := Lib.hid (GF.then_ HF.out hb); clear hr hb)
  go_ret2
  exact ⟨_, _, rfl, rb_base HR8.out HF.out.size, HG8.out, HF8.out⟩
end Go.Proofs.Ytellhkcleicfbaa.Fg
