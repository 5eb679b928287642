/- frag: the Gather in memory; its message. -/
import Derived.Test.YtellhkcleicfbaaFe
import Derived.MapKept
import Derived.Maps.OwnOps
import Derived.Deep.CutRange
set_option linter.unusedVariables false
namespace Go.Proofs.Ytellhkcleicfbaa.Ff
open Go Go.RowKit Go.MapKept Kit Crc Var Get Bytes WireFirst Ref3 Copy Ap Rd RdA RdB RdC RdD RdE Fr Fa Sb Fb Fc Fd Fe

/-- a part in a map. -/
def Ent (q : Nat × Part) : Value × Value := (.int .i64 (q.1 : Int), q.2.v)
/-- a Gather: its block p, its map m, the parts E. -/
structure GM (w : World) (lo p id cnt : Nat) (m : Option Nat) (E : List (Nat × Part)) : Prop where
  plo : lo ≤ p
  blk : w.heap[p]? = some (.cells #[.int .u64 (id : Int), .int .i64 (cnt : Int), .map m] 51)
  map : (m = none ∧ E = []) ∨ ∃ b, m = some b ∧ lo ≤ b ∧ MB w b (E.map Ent)
  parts : ∀ q ∈ E, Pt w q.2
  nod : (E.map (·.1)).Nodup
  low : ∀ q ∈ E, q.1 < cnt
  idb : id ≤ 4611686018427387904
  cnb : cnt ≤ 4096
  len : ∀ q ∈ E, q.2.l.length ≤ 256
  zero : m = none → id = 0
theorem key_ent (q : Nat × Part) : IsKey (.int .i64) (Ent q).1 := rfl
theorem keys_ok (E : List (Nat × Part)) : ∀ p ∈ E.map Ent, IsKey (.int .i64) p.1 := by
  intro p hp
  obtain ⟨q, _, rfl⟩ := List.mem_map.1 hp
  rfl
theorem ent_mem {E : List (Nat × Part)} {k : Nat} {v : Value} (h : (Value.int .i64 (k : Int), v) ∈ E.map Ent) : ∃ P, (k, P) ∈ E ∧ v = P.v := by
  obtain ⟨⟨j, P⟩, hq, e⟩ := List.mem_map.1 h
  unfold Ent at e
  injection e with e1 e2
  injection e1 with _ e1
  have : j = k := by exact_mod_cast e1
  subst this
  exact ⟨P, hq, e2.symm⟩
theorem ent_one {E : List (Nat × Part)} (h : (E.map (·.1)).Nodup) {k : Nat} {P Q : Part} (h1 : (k, P) ∈ E) (h2 : (k, Q) ∈ E) : P = Q := by
  induction E with
  | nil => cases h1
  | cons x E ih =>
    rw [List.map_cons, List.nodup_cons] at h
    rcases List.mem_cons.1 h1 with e1 | e1
    · rcases List.mem_cons.1 h2 with e2 | e2
      · rw [← e1] at e2; injection e2 with _ e2; exact e2.symm
      · exact absurd (List.mem_map.2 ⟨_, e2, by rw [← e1]⟩) h.1
    · rcases List.mem_cons.1 h2 with e2 | e2
      · exact absurd (List.mem_map.2 ⟨_, e1, by rw [← e2]⟩) h.1
      · exact ih h.2 e1 e2
theorem nod_le : ∀ (n : Nat) (l : List Nat), l.Nodup → (∀ x ∈ l, x < n) → l.length ≤ n
  | 0, [], _, _ => Nat.le_refl _
  | 0, x :: l, _, h => absurd (h x (List.mem_cons_self ..)) (Nat.not_lt_zero _)
  | n + 1, l, hn, h => by
    have h1 := nod_le n (l.erase n) (hn.erase n) (fun x hx => by
      have h2 := h x (List.mem_of_mem_erase hx)
      have h3 : x ≠ n := fun e => by subst e; exact (List.Nodup.not_mem_erase hn) hx
      omega)
    by_cases hm : n ∈ l
    · rw [List.length_erase_of_mem hm] at h1; omega
    · rw [List.erase_of_not_mem hm] at h1; omega
/-- as many as there are places: all are there. -/
theorem nod_all {n : Nat} {l : List Nat} (hn : l.Nodup) (h : ∀ x ∈ l, x < n) (hl : n ≤ l.length) : ∀ i, i < n → i ∈ l := by
  intro i hi
  refine Classical.byContradiction fun hni => ?_
  have := nod_le n (i :: l) (List.nodup_cons.2 ⟨hni, hn⟩) (fun x hx => by rcases List.mem_cons.1 hx with rfl | hx; exact hi; exact h x hx)
  simp only [List.length_cons] at this
  omega
theorem under49 : Try.prog.underlying 49 = some (.map 3 23) := Try.underlying49
theorem under3 : Try.prog.underlying 3 = some (.int .i64) := Try.underlying3
theorem zero23 (w : World) : (zeroValue 23).run Try.prog w = .ok (.slice none 0 0) w := by kernel_rfl
/-- a part that is there is found. -/
theorem look_yes {w : World} {b : Nat} {E : List (Nat × Part)} (c : Bool) (h : MB w b (E.map Ent)) (hn : (E.map (·.1)).Nodup) {k : Nat} {P : Part} (hk : (k, P) ∈ E) : (Instr.lookup 49 (.map (some b)) (.int .i64 (k : Int)) c).run Try.prog w = .ok (if c then .tuple #[P.v, .bool true] else P.v) w :=
  mb_yes c under49 under3 h (keys_ok E) rfl (List.mem_map.2 ⟨_, hk, rfl⟩) (fun v' hv => by obtain ⟨Q, hq, rfl⟩ := ent_mem hv; rw [ent_one hn hq hk])
theorem look_no {w : World} {b : Nat} {E : List (Nat × Part)} (c : Bool) (h : MB w b (E.map Ent)) {k : Nat} (hk : ∀ P, (k, P) ∉ E) : (Instr.lookup 49 (.map (some b)) (.int .i64 (k : Int)) c).run Try.prog w = .ok (if c then .tuple #[.slice none 0 0, .bool false] else .slice none 0 0) w :=
  mb_no c under49 under3 h (keys_ok E) rfl (zero23 w) (fun v' hv => by obtain ⟨Q, hq, _⟩ := ent_mem hv; exact hk Q hq)
theorem put_run {w : World} {b : Nat} {E : List (Nat × Part)} (h : MB w b (E.map Ent)) {k : Nat} (P : Part) (hk : ∀ P, (k, P) ∉ E) : ∃ w', (Instr.mapUpdate 49 (.map (some b)) (.int .i64 (k : Int)) P.v).run Try.prog w = .ok () w' ∧ MB w' b ((E ++ [(k, P)]).map Ent) ∧ w.grownBy w' (some b) := by
  obtain ⟨w', h1, h2, h3⟩ := mb_put (v := P.v) under49 under3 h (keys_ok E) (key := .int .i64 (k : Int)) rfl (fun v' hv => by obtain ⟨Q, hq, _⟩ := ent_mem hv; exact hk Q hq)
  exact ⟨w', h1, by rw [List.map_append]; exact h2, h3⟩
/-- the operation: a look-up. -/
theorem wpList_look {w : World} {ops : Array Oper} {rest : List Oper} {o : Oper} {a : Act} {Q : Exit → Act → World → Prop} (hgd : o.guard = none) (m x : Operand) (t : TypeId) (c : Bool) (ho : o.op = .lookup t m x c)
    (mv key v : Value) (hm : a.eval m = mv) (hx : a.eval x = key) (hrun : (Instr.lookup t mv key c).run Try.prog w = .ok v w) (h : wpList Try.prog ops Q rest (a.put o.dst v) w) : wpList Try.prog ops Q (o :: rest) a w := by
  refine wpList_plain hgd fun K' hK' => ?_
  unfold Oper.wp
  simp [execOp, ho, hm, hx, hrun, Result.andThen]
  exact hK' _ _ h
/-- the operation: a part is put into the map. -/
theorem wpList_put {w : World} {ops : Array Oper} {rest : List Oper} {o : Oper} {a : Act} {Q : Exit → Act → World → Prop} (hgd : o.guard = none) (m x y : Operand) (ho : o.op = .mapUpdate 49 m x y)
    (b k : Nat) (E : List (Nat × Part)) (P : Part) (hm : a.eval m = .map (some b)) (hx : a.eval x = .int .i64 (k : Int)) (hy : a.eval y = P.v) (h : MB w b (E.map Ent)) (hk : ∀ P, (k, P) ∉ E)
    (hK : ∀ w', MB w' b ((E ++ [(k, P)]).map Ent) → w.grownBy w' (some b) → wpList Try.prog ops Q rest (a.put o.dst undef) w') : wpList Try.prog ops Q (o :: rest) a w := by
  obtain ⟨w', hrun, h2, h3⟩ := put_run h P hk
  refine wpList_plain hgd fun K' hK' => ?_
  unfold Oper.wp
  simp [execOp, ho, hm, hx, hy, hrun, Result.andThen]
  exact hK' _ _ (hK w' h2 h3)
/-- what is no map, no cell of the Gather, stands. -/
theorem cell_map {w : World} {b k o : Nat} {v : Value} {l : List (Value × Value)} (h : MB w b l) (hc : w.cell? ⟨k, o, none⟩ = some v) : k ≠ b := by
  rintro rfl
  obtain ⟨es, clock, hb, _⟩ := h
  simp [World.cell?, hb] at hc
theorem pt_map {w w' : World} {b : Nat} {l : List (Value × Value)} {P : Part} (h : MB w b l) (hg : w.grownBy w' (some b)) (hp : Pt w P) : Pt w' P := by
  refine ⟨?_, hp.2⟩
  rcases hp.1 with h0 | ⟨k, off, e, hc⟩
  · exact .inl h0
  · exact .inr ⟨k, off, e, fun i hi => cell_grown hg (cell_map h (hc i hi)) (hc i hi)⟩
theorem GM.then_ {w w1 : World} {lo p id cnt : Nat} {m : Option Nat} {E : List (Nat × Part)} (h : GM w lo p id cnt m E) (hb : Below w.heap.size w w1) : GM w1 lo p id cnt m E :=
  ⟨h.plo, (hb.block _ (Array.getElem?_eq_some_iff.1 h.blk).1).trans h.blk, h.map.imp (fun x => x) fun ⟨b, e, h1, h2⟩ => ⟨b, e, h1, h2.keep (hb.block _ h2.lt)⟩, fun q hq => pt_then hb (Nat.le_refl _) (h.parts q hq), h.nod, h.low, h.idb, h.cnb, h.len, h.zero⟩
theorem three_g {w : World} {lo p id cnt : Nat} {m : Option Nat} {E : List (Nat × Part)} (h : GM w lo p id cnt m E) : w.cell? ⟨p, 0, none⟩ = some (.int .u64 (id : Int)) ∧ w.cell? ⟨p, 1, none⟩ = some (.int .i64 (cnt : Int)) ∧ w.cell? ⟨p, 2, none⟩ = some (.map m) := by
  have := h.blk
  refine ⟨?_, ?_, ?_⟩ <;> simp [World.cell?, this]
def catB (B : Nat → List Nat) (n : Nat) : List Nat := (List.range n).flatMap B
theorem catB_next (B : Nat → List Nat) (n : Nat) : catB B (n + 1) = catB B n ++ B n := by unfold catB; rw [List.range_succ, List.flatMap_append]; simp
theorem catB_len (B : Nat → List Nat) (h : ∀ i, (B i).length ≤ 256) (n : Nat) : (catB B n).length ≤ 256 * n := by
  induction n with
  | zero => simp [catB]
  | succ n ih => rw [catB_next, List.length_append]; have := h n; omega
set_option maxRecDepth 100000 in
set_option maxHeartbeats 4000000 in
/-- Gather.message. -/
theorem messageC (lo p id cnt b : Nat) (E : List (Nat × Part)) (B : Nat → List Nat) (w : World) (h : GM w lo p id cnt (some b) E) (hc : cnt ≤ 3500) (hB : ∀ i, (B i).length ≤ 256) (hall : ∀ i, i < cnt → ∃ P, (i, P) ∈ E ∧ P.l = B i) :
    Calls Try.prog 28 #[.pointer (some ⟨p, 0, none⟩)] w (RbQ w (catB B cnt)) := by
  have HG := Lib.hid h
  have HA := Lib.hid hall
  have HL := Lib.hid (catB_len B hB)
  have HLB := Lib.hid hB
  have HC := Lib.hid hc
  have HN := Lib.hid (catB_next B)
  have H0 := Lib.hid (show catB B 0 = [] from rfl)
  generalize catB B = K at *
  obtain ⟨c0, c1, c2⟩ := three_g h
  clear h hc hall hB
  go_enter Try.func28, Try.ntmps28
  go_wp2
  clear c0 c1 c2
  go_loopw [3, 9] (fun s3 s9 wr => ∃ k : Nat, k ≤ cnt ∧ s9 = .int .i64 (k : Int) ∧ Hid (Rb wr w.heap.size s3 (K k)) ∧ Hid (Below w.heap.size w wr)) (fun _ s9 _ => cnt - (intOf s9).toNat)
  case atStart => exact ⟨0, Nat.zero_le _, rfl, by rw [H0.out]; exact Lib.hid (rb_nil _ _), Lib.hid (Below.refl _ _)⟩
  case round =>
    obtain ⟨k, hk, rfl, HR, HB⟩ := hrel
    by_cases hlt : k < cnt
    · have HGr := HG.out.then_ HB.out
      obtain ⟨c0, c1, c2⟩ := three_g HGr
      obtain ⟨P, hP, hPB⟩ := HA.out k hlt
      have HP := Lib.hid (HGr.parts _ hP)
      have hmb : MB wr b (E.map Ent) := by
        rcases HGr.map with ⟨h1, _⟩ | ⟨b', h1, _, h2⟩
        · cases h1
        · injection h1 with h1; subst h1; exact h2
      have hlk := look_yes false hmb HGr.nod hP
      obtain ⟨pa, pc, pl⟩ := P
      dsimp only at hPB
      subst hPB
      have HLK := Lib.hid (show ∀ bl, bl = (B k).length → (Instr.lookup 49 (.map (some b)) (.int .i64 (k : Int)) false).run Try.prog wr = .ok (.slice pa bl pc) wr from fun bl e => by rw [e]; exact hlk)
      obtain ⟨bl, hbl⟩ : ∃ n, n = (B k).length := ⟨_, rfl⟩
      have HLK := Lib.hid (HLK.out bl hbl)
      have HBL := Lib.hid hbl
      have HLL := Lib.hid (show (K k).length + (B k).length ≤ 1000000 by have := HL.out k; have := HLB.out k; have := HC.out; omega)
      have hqI : (k : Int) < (cnt : Int) := by omega
      have hw1 : IntKind.i64.wrap ((k : Int) + 1) = (k : Int) + 1 := IntWalk.i64_in _ (by have := HC.out; omega)
      have HIQ := Lib.hid (show k + 1 ≤ cnt ∧ cnt - (k + 1) < cnt - k by omega)
      clear hk hlt HGr hmb hP hbl hlk
      go_wp2_with (first | (at_lookup; refine wpList_look rfl _ _ 49 false rfl _ _ _ rfl rfl HLK.out ?_) | (at_builtin; refine app_sl rfl _ _ rfl w.heap.size _ (K k) rfl HR.out pa _ pc (B k) rfl HBL.out HP.out.2.1 HP.out.1 HLL.out HB.out.size ?_; intro v3 w3 hr hb; have HR3 := Lib.hid (show Rb w3 w.heap.size v3 (K (k + 1)) by rw [HN.out]; exact hr); have HB3 := Lib.hid (hb _ _ (Nat.le_refl _) HB.out); clear hr hb))
      first
        | exact ⟨⟨k + 1, HIQ.out.1, by go_num, HR3, HB3⟩, by simp only [intOf]; exact HIQ.out.2⟩
        | (go_roundw
           · exact ⟨k + 1, HIQ.out.1, by go_num, HR3, HB3⟩
           · simp only [intOf]; exact HIQ.out.2)
    · obtain rfl : k = cnt := by omega
      clear hk hlt
      go_wp2
      go_ret
      exact ⟨_, rfl, HR.out, HB.out⟩
end Go.Proofs.Ytellhkcleicfbaa.Ff
