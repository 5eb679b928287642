/- frag.need; frag.read, of any bytes. -/
import Derived.Test.YtellhkcleicfbaaFd
import Derived.Deep.WholeRow
set_option linter.unusedVariables false
namespace Go.Proofs.Ytellhkcleicfbaa.Fe
open Go Go.RowKit Kit Crc Var Get Bytes WireFirst Ref3 Copy Ap Rd RdA RdB RdC RdD RdE Fr Fa Sb Fb Fc Fd

abbrev SameR (r r1 : Rdr) : Prop := r1.a = r.a ∧ r1.len = r.len ∧ r1.cap = r.cap
theorem same_on {r r1 r2 : Rdr} (h : SameR r r1) (k : SameR r1 r2) : SameR r r2 := ⟨k.1.trans h.1, k.2.1.trans h.2.1, k.2.2.trans h.2.2⟩
theorem num_a (l : List Nat) (r : Rdr) (m : Nat) : (numN l r m).2.a = r.a ∧ (numN l r m).2.len = r.len ∧ (numN l r m).2.cap = r.cap := by
  unfold numN
  split
  · exact ⟨rfl, rfl, rfl⟩
  · split
    · exact ⟨rfl, rfl, rfl⟩
    · split <;> exact ⟨rfl, rfl, rfl⟩
theorem by_same {w : World} {r r1 : Rdr} {l : List Nat} (h : By w r l) (h1 : SameR r r1) : By w r1 l :=
  ⟨h1.2.1.trans h.len, by rw [h1.1]; exact h.sl, by rw [h1.2.1, h1.2.2]; exact h.cap, h.small, h.byte⟩
section
variable {w w' : World} {p : Nat} {r : Rdr}
theorem By.grown {r0 : Rdr} {l : List Nat} (hp : Rc w p r0) (h : By w r l) (hg : w.grownBy w' (some p)) : By w' r l := by
  refine ⟨h.len, ?_, h.cap, h.small, h.byte⟩
  rcases h.sl with h0 | ⟨b, off, ha, hc⟩
  · exact .inl h0
  · by_cases hl : l.length = 0
    · exact .inl (List.eq_nil_of_length_eq_zero hl)
    · right
      have hne : b ≠ p := by
        rintro rfl
        have h1 := hc 0 (by omega)
        have h' : w.heap[b]? = _ := hp
        simp [World.cell?, h'] at h1
        match off, h1 with
        | 0, h1 => simp at h1
        | 1, h1 => simp at h1
        | 2, h1 => simp at h1
        | n + 3, h1 => simp at h1
      exact ⟨b, off, ha, fun i hi => cell_grown hg hne (hc i hi)⟩
end
theorem grown_new {w w1 w2 : World} {p B : Nat} (hb : Below B w w1) (hB : B ≤ w.heap.size) (hp : B ≤ p) (hg : w1.grownBy w2 (some p)) : Below B w w2 :=
  ⟨hg.os.trans hb.os, hg.tape.trans hb.tape, hg.output.trans hb.output, Nat.le_trans hb.size hg.size, fun k hk => (hg.block k (Nat.lt_of_lt_of_le hk (Nat.le_trans hB hb.size)) (by intro e; injection e with e; omega)).trans (hb.block k hk)⟩
theorem blk {w w' : World} {p k : Nat} {o : Obj} (hg : w.grownBy w' (some p)) (hk : k ≠ p) (h : w.heap[k]? = some o) : w'.heap[k]? = some o :=
  (hg.block k (Array.getElem?_eq_some_iff.1 h).1 (by intro e; injection e with e; exact hk e)).trans h
theorem raw_a (l : List Nat) (r : Rdr) (n : Int) : SameR r (rawN l r n).2 := by
  unfold rawN
  split
  · exact ⟨rfl, rfl, rfl⟩
  · split
    · exact ⟨rfl, rfl, rfl⟩
    · split <;> exact ⟨rfl, rfl, rfl⟩
theorem q_same (l : List Nat) (r : Rdr) : SameR r (q1 l r).2 ∧ SameR r (q2 l r).2 ∧ SameR r (q3 l r).2 := by
  have h1 : SameR r (q1 l r).2 := num_a l r _
  have h2 : SameR r (q2 l r).2 := same_on h1 (num_a l _ _)
  exact ⟨h1, h2, same_on h2 (num_a l _ _)⟩
theorem q_le (l : List Nat) (r : Rdr) (h : r.at_ ≤ l.length) : (q3 l r).2.at_ ≤ l.length := num_le l _ _ (num_le l _ _ (num_le l _ _ h))
/-- what a reading of frag gives up with. -/
def ffault : Value := .iface 53 (.agg #[])
theorem need_t (w : World) : Calls Try.prog 26 #[.bool true] w fun e w' => e = .returned (.tuple #[]) ∧ w = w' := by
  go_enter Try.func26, Try.ntmps26
  go_wp2
  go_end0
  exact ⟨rfl, rfl⟩
theorem need_f (w : World) : Calls Try.prog 26 #[.bool false] w fun e w' => e = .panicked [{ v := ffault, recovered := false }] ∧ w = w' := by
  go_enter Try.func26, Try.ntmps26
  go_wp2
  exact ⟨rfl, rfl, rfl⟩
/-- a value of one cell is stored in a block. -/
theorem wpList_store_at {w : World} {ops : Array Oper} {rest : List Oper} {o : Oper} {a : Act} {Q : Exit → Act → World → Prop} (hgd : o.guard = none) (T : TypeId) (x y : Operand) (ho : o.op = .store T x y) (hi : (Try.prog.info? T).map (·.size) = some 1)
    (k i : Nat) (t : TypeId) (vs us : Array Value) (v : Value) (hx : a.eval x = .pointer (some ⟨k, i, none⟩)) (hy : a.eval y = v) (hc : v.cells = #[v]) (h1 : v.oneCell' = true) (h : w.heap[k]? = some (.cells vs t (0, 0))) (hlt : i < vs.size) (hus : vs.setIfInBounds i v = us)
    (hK : ∀ w', w'.heap[k]? = some (.cells us t (0, 0)) → (∀ B W, B ≤ k → Below B W w → Below B W w') → (∀ j, j ≠ k → w'.heap[j]? = w.heap[j]?) → w.heap.size ≤ w'.heap.size → wpList Try.prog ops Q rest (a.put o.dst undef) w') : wpList Try.prog ops Q (o :: rest) a w := by
  have hst := run_storeCells_at Try.prog k i t [v] 0 vs w h (by simp; omega) (fun u hu => by simp at hu; subst hu; exact h1)
  have e : (vs.toList.take (i + 0) ++ [v] ++ vs.toList.drop (i + 0 + [v].length)).toArray = us := by
    rw [← hus]
    apply Array.ext'
    rw [Array.toList_setIfInBounds]
    simp only [Nat.add_zero, List.length_singleton]
    rw [List.set_eq_take_append_cons_drop, if_pos (by simpa using hlt)]
    simp
  rw [e] at hst
  have hrun : (storeVar T ⟨k, i, none⟩ v).run Try.prog w = .ok () (w.setRow k us) := by
    cases hq : Try.prog.info? T with
    | none => simp [hq] at hi
    | some j =>
      have hs : j.size = 1 := by simpa [hq] using hi
      simp [storeVar, sizeOf, typeInfo, hq, hc, hs]
      exact hst
  refine wpList_plain hgd fun _ hk => ?_
  unfold Oper.wp execOp
  simp only [ho, hx, hy, Instr.storeAt, Instr.sureAddr, Sem.run_bind, Sem.run_pure, Result.andThen_ok, hrun]
  exact hk _ _ (hK _ (setRow_heap _ _ _ _ t _ h) (fun B W hB hb => ⟨hb.os, hb.tape, hb.output, by simpa using hb.size, fun j hj => (setRow_other w k j _ (by omega)).trans (hb.block j hj)⟩) (fun j hj => setRow_other w k j _ hj) (by simp))
abbrev ptA (id place cnt : Int) (q : Option Addr) (n c : Nat) : Value := .agg #[.int .u64 id, .int .i64 place, .int .i64 cnt, .slice q n c]
abbrev ptO (id place cnt : Int) (q : Option Addr) (n c : Nat) : Obj := .cells #[.int .u64 id, .int .i64 place, .int .i64 cnt, .slice q n c] 47
theorem wpList_store_pt {w : World} {ops : Array Oper} {rest : List Oper} {o : Oper} {a : Act} {Q : Exit → Act → World → Prop} (hgd : o.guard = none) (x y : Operand) (ho : o.op = .store 47 x y)
    (k : Nat) (id place cnt : Int) (q : Option Addr) (n c : Nat) (vs : Array Value) (hx : a.eval x = .pointer (some ⟨k, 0, none⟩)) (hy : a.eval y = ptA id place cnt q n c) (hg : w.heap[k]? = some (.cells vs 47 (0, 0))) (hv : vs.size = 4)
    (hK : ∀ w', w'.heap[k]? = some (ptO id place cnt q n c) → (∀ B W, B ≤ k → Below B W w → Below B W w') → (∀ j, j ≠ k → w'.heap[j]? = w.heap[j]?) → w.heap.size ≤ w'.heap.size → wpList Try.prog ops Q rest (a.put o.dst undef) w') : wpList Try.prog ops Q (o :: rest) a w :=
  wpList_plain hgd fun _ hk => wp_store_row (P := Try.prog) 47 x y ho k _ hx hy 47 vs hg (by kernel_rfl) (by simp [hv]) (by simp [Value.oneCell']) (hk _ _ (hK _ (setRow_heap w k _ _ 47 _ hg)
    (fun B W hB hb => ⟨hb.os, hb.tape, hb.output, by simpa using hb.size, fun j hj => (setRow_other w k j _ (by omega)).trans (hb.block j hj)⟩) (fun j hj => setRow_other w k j _ hj) (by simp)))
theorem wpList_store_bd {w : World} {ops : Array Oper} {rest : List Oper} {o : Oper} {a : Act} {Q : Exit → Act → World → Prop} (hgd : o.guard = none) (x y : Operand) (ho : o.op = .store 23 x y)
    (k : Nat) (id place cnt : Int) (q : Option Addr) (n c : Nat) (q' : Option Addr) (n' c' : Nat) (hx : a.eval x = .pointer (some ⟨k, 3, none⟩)) (hy : a.eval y = .slice q' n' c') (h : w.heap[k]? = some (ptO id place cnt q n c))
    (hK : ∀ w', w'.heap[k]? = some (ptO id place cnt q' n' c') → (∀ B W, B ≤ k → Below B W w → Below B W w') → (∀ j, j ≠ k → w'.heap[j]? = w.heap[j]?) → w.heap.size ≤ w'.heap.size → wpList Try.prog ops Q rest (a.put o.dst undef) w') : wpList Try.prog ops Q (o :: rest) a w :=
  wpList_store_at hgd 23 x y ho (by kernel_rfl) k 3 47 _ _ (.slice q' n' c') hx hy rfl rfl h (Nat.lt_of_lt_of_le (by decide) (Nat.le_refl 4)) rfl hK
theorem sl_kept {w w' : World} {k : Nat} {a : Option Addr} {l : List Nat} (h : Sl w a l) (hk : ∀ j, j ≠ k → w'.heap[j]? = w.heap[j]?) (hb : ∀ x, a = some x → x.block ≠ k) : Sl w' a l := by
  rcases h with h | ⟨b, off, e, h⟩
  · exact .inl h
  · exact .inr ⟨b, off, e, fun i hi => (World.cell?_of_block (hk b (hb _ e))).trans (h i hi)⟩
theorem rc_kept {w w' : World} {k p : Nat} {r : Rdr} (h : Rc w p r) (hk : ∀ j, j ≠ k → w'.heap[j]? = w.heap[j]?) (hb : p ≠ k) : Rc w' p r := (hk p hb).trans h
def ReadQ (d : List Nat) (w : World) (e : Ending) (w' : World) : Prop :=
  (∃ id place cnt body q c, d = partL id place cnt body ∧ PartOk id place cnt body ∧ e = .returned (ptA (id : Int) (place : Int) (cnt : Int) q body.length c) ∧ Pt w' ⟨q, c, body⟩ ∧ (∀ x, q = some x → w.heap.size ≤ x.block) ∧ Below w.heap.size w w') ∨
  ((¬ ∃ id place cnt body, d = partL id place cnt body ∧ PartOk id place cnt body) ∧ e = .panicked [{ v := ffault, recovered := false }] ∧ Below w.heap.size w w')

set_option maxRecDepth 100000 in
set_option maxHeartbeats 8000000 in
/-- frag.read. -/
theorem readC (a : Option Addr) (m cap : Nat) (d : List Nat) (w : World) (hm : m = d.length) (hd : d.length ≤ 1000000) (h8 : ∀ c ∈ d, c < 256) (hs : Sl w a d) (h0 : a = none → cap = 0) :
    Calls Try.prog 21 #[.slice a m cap] w (ReadQ d w) := by
  subst hm
  have hb := below_one w (ptO 0 0 0 none 0 0)
  have hz := heap_alloc_last w (ptO 0 0 0 none 0 0)
  have hsz : (w.alloc (ptO 0 0 0 none 0 0)).heap.size = w.heap.size + 1 := by simp
  have HNEW := newC a cap d (w.alloc (ptO 0 0 0 none 0 0)) hd h8 (sl_then hb (Nat.le_refl _) hs) h0
  dsimp only [ptO] at hb hz hsz HNEW
  generalize hw0 : w.alloc (.cells #[.int .u64 0, .int .i64 0, .int .i64 0, .slice none 0 0] 47) = w0 at *
  have HNEW := Lib.hid HNEW
  have HB := Lib.hid hb
  have HZ := Lib.hid hz
  have HSZ := Lib.hid hsz
  have H8 := Lib.hid h8
  have HD := Lib.hid hd
  clear hb hz hsz hd h8 hs h0
  go_enter Try.func21, Try.ntmps21
  go_wp2_with fail
  refine HNEW.out.mono ?_
  rintro e w1 ⟨p, r, hp, rfl, hrc, hat, herr, hby, hb⟩
  have HB1 := Lib.hid (below_then HB.out hb HB.out.size)
  have HZ1 := Lib.hid ((hb.block _ (Array.getElem?_eq_some_iff.1 HZ.out).1).trans HZ.out)
  have HPP := Lib.hid (show w.heap.size ≠ p ∧ w.heap.size ≤ p by have := HSZ.out; omega)
  have HP1 := Lib.hid hrc
  have HF1 := Lib.hid (grown_refl w1 (some p))
  obtain ⟨s1, s2, s3⟩ := q_same d r
  have HBY := Lib.hid (fun (r1 : Rdr) (h : SameR r r1) (w' : World) (hg : w1.grownBy w' (some p)) => by_same (By.grown hrc hby hg) h)
  have HBW := Lib.hid (fun (w' : World) (hg : w1.grownBy w' (some p)) => grown_new HB1.out (Nat.le_refl _) HPP.out.2 hg)
  obtain ⟨k1, e1, b1⟩ := num_in d r 4611686018427387904
  obtain ⟨k2, e2, b2⟩ := num_in d (q1 d r).2 4096
  obtain ⟨k3, e3, b3⟩ := num_in d (q2 d r).2 4096
  have E1 : (q1 d r).1 = (k1 : Int) := e1
  have E2 : (q2 d r).1 = (k2 : Int) := e2
  have E3 : (q3 d r).1 = (k3 : Int) := e3
  have K1 := Lib.hid (fun w' h1 hg => (show Calls Try.prog 30 #[.pointer (some ⟨p, 0, none⟩), .int .u64 4611686018427387904] w' (fun e w2 => e = .returned (.int .u64 (k1 : Int)) ∧ Rc w2 p (q1 d r).2 ∧ w'.grownBy w2 (some p)) from E1 ▸ numC 4611686018427387904 d (w := w') (p := p) (r := r) h1 (HBY.out r ⟨rfl, rfl, rfl⟩ w' hg)))
  have K2 := Lib.hid (fun w' h1 hg => (show Calls Try.prog 30 #[.pointer (some ⟨p, 0, none⟩), .int .u64 4096] w' (fun e w2 => e = .returned (.int .u64 (k2 : Int)) ∧ Rc w2 p (q2 d r).2 ∧ w'.grownBy w2 (some p)) from E2 ▸ numC 4096 d (w := w') (p := p) (r := (q1 d r).2) h1 (HBY.out _ s1 w' hg)))
  have K3 := Lib.hid (fun w' h1 hg => (show Calls Try.prog 30 #[.pointer (some ⟨p, 0, none⟩), .int .u64 4096] w' (fun e w2 => e = .returned (.int .u64 (k3 : Int)) ∧ Rc w2 p (q3 d r).2 ∧ w'.grownBy w2 (some p)) from E3 ▸ numC 4096 d (w := w') (p := p) (r := (q2 d r).2) h1 (HBY.out _ s2 w' hg)))
  have hle := q_le d r (by rw [hat]; exact Nat.zero_le _)
  have hrl : (q3 d r).2.len = d.length := s3.2.1.trans hby.len
  have KL := Lib.hid (fun w' (h1 : Rc w' p (q3 d r).2) => leftC h1 (by rw [hrl]; exact hle) (by rw [hrl]; have := HD.out; omega))
  have KR := Lib.hid (fun w' (h1 : Rc w' p (q3 d r).2) hg => (show Calls Try.prog 31 #[.pointer (some ⟨p, 0, none⟩), .int .i64 ((d.length : Int) - ((q3 d r).2.at_ : Int))] w' (RawQ w' p (qb d r).2 (qb d r).1) from rawC _ d h1 (HBY.out _ s3 w' hg) hle HD.out))
  have KE := Lib.hid (fun w' (h1 : Rc w' p (qb d r).2) => errC h1)
  have HYES := Lib.hid (fun (h : (qb d r).2.err = 0) => read_back H8.out hat h)
  have HNO := Lib.hid (show ∀ id place cnt body, d = partL id place cnt body → PartOk id place cnt body → k1 = id ∧ k2 = place ∧ k3 = cnt ∧ (qb d r).1 = body ∧ (qb d r).2.err = 0 from fun id place cnt body hd hk => by
    have := read_fw id place cnt body r herr hat hk.2.1 (by have := hk.2.2; omega) (by have := hk.2.2; omega)
    rw [← hd, E1, E2, E3] at this
    exact ⟨by have := this.1; omega, by have := this.2.1; omega, by have := this.2.2.1; omega, this.2.2.2.1, this.2.2.2.2⟩)
  obtain ⟨L, hL⟩ : ∃ L, L = (d.length : Int) - ((q3 d r).2.at_ : Int) := ⟨_, rfl⟩
  have KL := Lib.hid (show ∀ w' (h1 : Rc w' p (q3 d r).2), Calls Try.prog 32 #[.pointer (some ⟨p, 0, none⟩)] w' (fun e w2 => e = .returned (.int .i64 L) ∧ ∃ n, w'.drewN n = w2) from fun w' h1 => by rw [hL, ← hrl]; exact leftC h1 (by rw [hrl]; exact hle) (by rw [hrl]; have := HD.out; omega))
  rw [← hL] at KR
  rw [E1, E2, E3] at HYES
  generalize (q1 d r).2 = r1 at *
  generalize (q2 d r).2 = r2 at *
  generalize (q3 d r).2 = r3 at *
  obtain ⟨bd, hbd⟩ : ∃ b, b = (qb d r).1 := ⟨_, rfl⟩
  obtain ⟨er, her⟩ : ∃ b, b = (qb d r).2.err := ⟨_, rfl⟩
  rw [← her] at KE HYES HNO
  rw [← hbd] at KR HYES HNO
  generalize (qb d r).2 = rb at *
  obtain ⟨bl, hbl⟩ : ∃ b, b = bd.length := ⟨_, rfl⟩
  have HBL := Lib.hid hbl
  have hw2 : IntKind.i64.wrap (k2 : Int) = (k2 : Int) := IntWalk.i64_in _ (by omega)
  have hw3 : IntKind.i64.wrap (k3 : Int) = (k3 : Int) := IntWalk.i64_in _ (by omega)
  have hw4 : IntKind.i64.wrap ((k3 : Int) - 1) = (k3 : Int) - 1 := IntWalk.i64_in _ (by omega)
  have HK := Lib.hid (And.intro b1 (And.intro b2 b3))
  clear hp hrc hat herr hby hb s1 s2 s3 e1 e2 e3 E1 E2 E3 hle hrl hL b1 b2 b3 hbd her hbl
  go_upto_region 3 with (first
    | (go_at_call 30; (with_reducible refine (K1.out _ HP1.out HF1.out).mono ?_); rintro e w2 ⟨rfl, hp, hg⟩; have HP2 := Lib.hid hp; have HF2 := Lib.hid (grown_trans HF1.out hg); clear hp hg)
    | (go_at_call 30; (with_reducible refine (K2.out _ HP2.out HF2.out).mono ?_); rintro e w3 ⟨rfl, hp, hg⟩; have HP3 := Lib.hid hp; have HF3 := Lib.hid (grown_trans HF2.out hg); clear hp hg)
    | (go_at_call 30; (with_reducible refine (K3.out _ HP3.out HF3.out).mono ?_); rintro e w4 ⟨rfl, hp, hg⟩; have HP4 := Lib.hid hp; have HF4 := Lib.hid (grown_trans HF3.out hg); have HZ4 := Lib.hid (heap_alloc_last w4 (ptO 0 0 0 none 0 0)); clear hp hg)
    | ((with_reducible refine wpList_store_pt rfl _ _ rfl w4.heap.size (k1 : Int) (k2 : Int) (k3 : Int) none 0 0 _ rfl rfl HZ4.out rfl ?_); intro w5 hs hb0 hk hz; have hb := hb0 _ _ (Nat.le_refl _) (below_one w4 (ptO 0 0 0 none 0 0)); have HF5 := Lib.hid (grown_trans HF4.out (grown_below hb (some p))); have HP5 := Lib.hid (HP4.out.then_ hb); have HV5 := Lib.hid hs; have HQ5 := Lib.hid (show w4.heap.size ≠ p from fun e => by have := HP4.out.lt; omega); have HQ6 := Lib.hid (show w.heap.size ≤ w4.heap.size by have := (HBW.out _ HF4.out).size; exact this); clear hs hb0 hk hz hb))
  have HVV := Lib.hid (show w1.heap.size ≤ w4.heap.size from HF4.out.size)
  generalize w4.heap.size = v at *
  obtain ⟨c0, c1, c2, c3⟩ := four_c HV5.out
  have HVW := Lib.hid (show w.heap.size ≤ v from HQ6.out)
  have HBV := Lib.hid (show ∀ W', w1.grownBy W' (some p) → W'.heap[w.heap.size]? = some (ptO 0 0 0 none 0 0) from fun W' hg => blk hg HPP.out.1 HZ1.out)
  have FIN : er = 0 → 1 ≤ k1 → k2 < k3 → bl ≤ 256 → (bl = 256 ∨ k2 + 1 = k3) → ∀ (w9 : World) (q : Option Addr) (c : Nat), Sl w9 q bd → (q = none → c = 0) → bl ≤ c → (∀ x, q = some x → w.heap.size ≤ x.block) → Below w.heap.size w w9 → ReadQ d w (.returned (ptA (k1 : Int) (k2 : Int) (k3 : Int) q bl c)) w9 := by
    intro g1 g2 g3 g4 g5 w9 q c hs hn hc hf hb
    obtain ⟨id, pl, cn, bo, a1, a2, a3, a4, a5, a6, a7, a8⟩ := HYES.out g1
    obtain rfl : k1 = id := by omega
    obtain rfl : k2 = pl := by omega
    obtain rfl : k3 = cn := by omega
    subst a8
    have hbl := HBL.out
    refine .inl ⟨k1, k2, k3, bd, q, c, a4, ⟨g2, a1, g3, a3, by omega, by omega⟩, by rw [hbl], ⟨hs, hn, by show bd.length ≤ c; omega, fun x hx => H8.out x (by rw [a4]; simp only [partL, List.mem_append]; exact .inr hx)⟩, hf, hb⟩
  have HVX := Lib.hid (show w.heap.size < v by have h1 := HVW.out; have h2 := (Array.getElem?_eq_some_iff.1 HZ1.out).1; exact Nat.lt_of_lt_of_le h2 HVV.out)
  by_cases c1' : er = 0
  · by_cases c2' : 1 ≤ k1
    · by_cases c3' : k2 < k3
      · by_cases c4' : bl ≤ 256
        · by_cases c5' : bl = 256
          · have t1 : (er == 0) = true := by rw [c1']; rfl
            have t2 : (1 : Int) ≤ (k1 : Int) := by omega
            have t3 : (k2 : Int) < (k3 : Int) := by omega
            have t4 : (bl : Int) ≤ 256 := by omega
            have t5 : ((bl : Int) == 256) = true := by rw [beq_iff_eq]; omega
            have HFIN := Lib.hid (FIN (by have := HK.out; exact c1') c2' c3' c4' (.inl c5'))
            clear FIN c1' c2' c3' c4' c5' HNO HYES
            go_wp2_with (first
              | (go_at_call 32; (with_reducible refine (KL.out _ HP5.out).mono ?_); rintro e w6 ⟨rfl, n, hn⟩; have HP6 := Lib.hid (show Rc w6 p r3 by rw [← hn]; exact HP5.out); have HF6 := Lib.hid (show w1.grownBy w6 (some p) by rw [← hn]; exact ⟨HF5.out.os, HF5.out.tape, HF5.out.output, HF5.out.size, HF5.out.block⟩); have HV6 := Lib.hid (show w6.heap[v]? = some (ptO (k1 : Int) (k2 : Int) (k3 : Int) none 0 0) by rw [← hn]; exact HV5.out); clear hn c0 c1 c2 c3)
              | (go_at_call 31; (with_reducible refine (KR.out _ HP6.out HF6.out).mono ?_); rintro e w7 ⟨q, c, rfl, hc, hs, hfar, hrc, hg, hnn⟩; have HC7 := Lib.hid hc; have HS7 := Lib.hid hs; have HFA := Lib.hid (show ∀ x, q = some x → x.block ≠ v ∧ w.heap.size < x.block from fun x hx => by have h1 := (hfar x hx).1; have h2 := (Array.getElem?_eq_some_iff.1 HV6.out).1; have h3 := HVX.out; omega); have HP7 := Lib.hid hrc; have HF7 := Lib.hid (grown_trans HF6.out hg); have HV7 := Lib.hid (blk hg HQ5.out HV6.out); have HNN := Lib.hid hnn; rw [← HBL.out]; clear hc hs hfar hrc hg hnn)
              | ((with_reducible refine wpList_store_bd rfl _ _ rfl v (k1 : Int) (k2 : Int) (k3 : Int) none 0 0 q bl c rfl rfl HV7.out ?_); intro w8 hs hb hk hz; have HP8 := Lib.hid (rc_kept HP7.out hk (Ne.symm HQ5.out)); have HB8 := Lib.hid (hb _ _ HVW.out (HBW.out _ HF7.out)); have HV8 := Lib.hid hs; have HS8 := Lib.hid (sl_kept HS7.out hk (fun x hx => (HFA.out x hx).1)); have HZ8 := Lib.hid (show w8.heap[w.heap.size]? = some (ptO 0 0 0 none 0 0) from (hk _ (Nat.ne_of_lt HVX.out)).trans (HBV.out _ HF7.out)); obtain ⟨x0, x1, x2, x3⟩ := four_c HV8.out; clear hs hb hk hz)
              | (go_at_call 33; (with_reducible refine (KE.out _ HP8.out).mono ?_); rintro e w' ⟨rfl, rfl⟩)
              | (go_at_call 26; (with_reducible refine (need_t _).mono ?_); rintro e w' ⟨rfl, rfl⟩)
              | ((with_reducible refine wpList_store_pt rfl _ _ rfl w.heap.size (k1 : Int) (k2 : Int) (k3 : Int) q bl c _ rfl rfl HZ8.out rfl ?_); intro w9 hs hb hk hz; obtain ⟨y0, y1, y2, y3⟩ := four_c hs; have HB9 := Lib.hid (hb _ _ (Nat.le_refl _) HB8.out); have HS9 := Lib.hid (sl_kept HS8.out hk (fun x hx => Nat.ne_of_gt (HFA.out x hx).2)); clear hs hb hk hz))
            refine bodyPost_ret (v := ptA (k1 : Int) (k2 : Int) (k3 : Int) q bl c) (by simp [results, Try.results21, go_sem, y0, y1, y2, y3]) rfl ?_
            exact HFIN.out w9 q c HS9.out HNN.out (by rw [HBL.out]; exact HC7.out) (fun x hx => Nat.le_of_lt (HFA.out x hx).2) HB9.out
          · by_cases c6' : k2 + 1 = k3
            · have t1 : (er == 0) = true := by rw [c1']; rfl
              have t2 : (1 : Int) ≤ (k1 : Int) := by omega
              have t3 : (k2 : Int) < (k3 : Int) := by omega
              have t4 : (bl : Int) ≤ 256 := by omega
              have t5 : ((bl : Int) == 256) = false := by rw [beq_eq_false_iff_ne]; omega
              have t6 : ((k2 : Int) == (k3 : Int) - 1) = true := by rw [beq_iff_eq]; omega
              have HFIN := Lib.hid (FIN c1' c2' c3' c4' (.inr c6'))
              clear FIN c1' c2' c3' c4' c5' c6' HNO HYES
              go_wp2_with (first
                | (go_at_call 32; (with_reducible refine (KL.out _ HP5.out).mono ?_); rintro e w6 ⟨rfl, n, hn⟩; have HP6 := Lib.hid (show Rc w6 p r3 by rw [← hn]; exact HP5.out); have HF6 := Lib.hid (show w1.grownBy w6 (some p) by rw [← hn]; exact ⟨HF5.out.os, HF5.out.tape, HF5.out.output, HF5.out.size, HF5.out.block⟩); have HV6 := Lib.hid (show w6.heap[v]? = some (ptO (k1 : Int) (k2 : Int) (k3 : Int) none 0 0) by rw [← hn]; exact HV5.out); clear hn c0 c1 c2 c3)
                | (go_at_call 31; (with_reducible refine (KR.out _ HP6.out HF6.out).mono ?_); rintro e w7 ⟨q, c, rfl, hc, hs, hfar, hrc, hg, hnn⟩; have HC7 := Lib.hid hc; have HS7 := Lib.hid hs; have HFA := Lib.hid (show ∀ x, q = some x → x.block ≠ v ∧ w.heap.size < x.block from fun x hx => by have h1 := (hfar x hx).1; have h2 := (Array.getElem?_eq_some_iff.1 HV6.out).1; have h3 := HVX.out; omega); have HP7 := Lib.hid hrc; have HF7 := Lib.hid (grown_trans HF6.out hg); have HV7 := Lib.hid (blk hg HQ5.out HV6.out); have HNN := Lib.hid hnn; rw [← HBL.out]; clear hc hs hfar hrc hg hnn)
                | ((with_reducible refine wpList_store_bd rfl _ _ rfl v (k1 : Int) (k2 : Int) (k3 : Int) none 0 0 q bl c rfl rfl HV7.out ?_); intro w8 hs hb hk hz; have HP8 := Lib.hid (rc_kept HP7.out hk (Ne.symm HQ5.out)); have HB8 := Lib.hid (hb _ _ HVW.out (HBW.out _ HF7.out)); have HV8 := Lib.hid hs; have HS8 := Lib.hid (sl_kept HS7.out hk (fun x hx => (HFA.out x hx).1)); have HZ8 := Lib.hid (show w8.heap[w.heap.size]? = some (ptO 0 0 0 none 0 0) from (hk _ (Nat.ne_of_lt HVX.out)).trans (HBV.out _ HF7.out)); obtain ⟨x0, x1, x2, x3⟩ := four_c HV8.out; clear hs hb hk hz)
                | (go_at_call 33; (with_reducible refine (KE.out _ HP8.out).mono ?_); rintro e w' ⟨rfl, rfl⟩)
                | (go_at_call 26; (with_reducible refine (need_t _).mono ?_); rintro e w' ⟨rfl, rfl⟩)
                | ((with_reducible refine wpList_store_pt rfl _ _ rfl w.heap.size (k1 : Int) (k2 : Int) (k3 : Int) q bl c _ rfl rfl HZ8.out rfl ?_); intro w9 hs hb hk hz; obtain ⟨y0, y1, y2, y3⟩ := four_c hs; have HB9 := Lib.hid (hb _ _ (Nat.le_refl _) HB8.out); have HS9 := Lib.hid (sl_kept HS8.out hk (fun x hx => Nat.ne_of_gt (HFA.out x hx).2)); clear hs hb hk hz))
              refine bodyPost_ret (v := ptA (k1 : Int) (k2 : Int) (k3 : Int) q bl c) (by simp [results, Try.results21, go_sem, y0, y1, y2, y3]) rfl ?_
              exact HFIN.out w9 q c HS9.out HNN.out (by rw [HBL.out]; exact HC7.out) (fun x hx => Nat.le_of_lt (HFA.out x hx).2) HB9.out
            · have t1 : (er == 0) = true := by rw [c1']; rfl
              have t2 : (1 : Int) ≤ (k1 : Int) := by omega
              have t3 : (k2 : Int) < (k3 : Int) := by omega
              have t4 : (bl : Int) ≤ 256 := by omega
              have t5 : ((bl : Int) == 256) = false := by rw [beq_eq_false_iff_ne]; omega
              have t6 : ((k2 : Int) == (k3 : Int) - 1) = false := by rw [beq_eq_false_iff_ne]; omega
              have HNO2 := Lib.hid (show ¬ ∃ id place cnt body, d = partL id place cnt body ∧ PartOk id place cnt body from fun ⟨i, pl, cn, bo, h1, h2⟩ => by obtain ⟨a1, a2, a3, a4, a5⟩ := HNO.out i pl cn bo h1 h2; have := h2.2.2.2.2.2; have := HBL.out; rw [a4] at this; omega)
              clear FIN c1' c2' c3' c4' c5' c6' HNO HYES
              go_wp2_with (first
                | (go_at_call 32; (with_reducible refine (KL.out _ HP5.out).mono ?_); rintro e w6 ⟨rfl, n, hn⟩; have HP6 := Lib.hid (show Rc w6 p r3 by rw [← hn]; exact HP5.out); have HF6 := Lib.hid (show w1.grownBy w6 (some p) by rw [← hn]; exact ⟨HF5.out.os, HF5.out.tape, HF5.out.output, HF5.out.size, HF5.out.block⟩); have HV6 := Lib.hid (show w6.heap[v]? = some (ptO (k1 : Int) (k2 : Int) (k3 : Int) none 0 0) by rw [← hn]; exact HV5.out); clear hn c0 c1 c2 c3)
                | (go_at_call 31; (with_reducible refine (KR.out _ HP6.out HF6.out).mono ?_); rintro e w7 ⟨q, c, rfl, hc, hs, hfar, hrc, hg, hnn⟩; have HC7 := Lib.hid hc; have HS7 := Lib.hid hs; have HFA := Lib.hid (show ∀ x, q = some x → x.block ≠ v ∧ w.heap.size < x.block from fun x hx => by have h1 := (hfar x hx).1; have h2 := (Array.getElem?_eq_some_iff.1 HV6.out).1; have h3 := HVX.out; omega); have HP7 := Lib.hid hrc; have HF7 := Lib.hid (grown_trans HF6.out hg); have HV7 := Lib.hid (blk hg HQ5.out HV6.out); have HNN := Lib.hid hnn; rw [← HBL.out]; clear hc hs hfar hrc hg hnn)
                | ((with_reducible refine wpList_store_bd rfl _ _ rfl v (k1 : Int) (k2 : Int) (k3 : Int) none 0 0 q bl c rfl rfl HV7.out ?_); intro w8 hs hb hk hz; have HP8 := Lib.hid (rc_kept HP7.out hk (Ne.symm HQ5.out)); have HB8 := Lib.hid (hb _ _ HVW.out (HBW.out _ HF7.out)); have HV8 := Lib.hid hs; have HS8 := Lib.hid (sl_kept HS7.out hk (fun x hx => (HFA.out x hx).1)); have HZ8 := Lib.hid (show w8.heap[w.heap.size]? = some (ptO 0 0 0 none 0 0) from (hk _ (Nat.ne_of_lt HVX.out)).trans (HBV.out _ HF7.out)); obtain ⟨x0, x1, x2, x3⟩ := four_c HV8.out; clear hs hb hk hz)
                | (go_at_call 33; (with_reducible refine (KE.out _ HP8.out).mono ?_); rintro e w' ⟨rfl, rfl⟩)
                | (go_at_call 26; (with_reducible refine (need_t _).mono ?_); rintro e w' ⟨rfl, rfl⟩)
                | (go_at_call 26; (with_reducible refine (need_f _).mono ?_); rintro e w' ⟨rfl, rfl⟩))
              exact ⟨rfl, .inr ⟨HNO2.out, rfl, HB8.out⟩⟩
        · have t1 : (er == 0) = true := by rw [c1']; rfl
          have t2 : (1 : Int) ≤ (k1 : Int) := by omega
          have t3 : (k2 : Int) < (k3 : Int) := by omega
          have t4 : decide ((bl : Int) ≤ 256) = false := decide_eq_false (by omega)
          have HNO2 := Lib.hid (show ¬ ∃ id place cnt body, d = partL id place cnt body ∧ PartOk id place cnt body from fun ⟨i, pl, cn, bo, h1, h2⟩ => by obtain ⟨a1, a2, a3, a4, a5⟩ := HNO.out i pl cn bo h1 h2; have := h2.2.2.2.2.1; have := HBL.out; rw [a4] at this; omega)
          clear FIN c1' c2' c3' c4' HNO HYES
          go_wp2_with (first
            | (go_at_call 32; (with_reducible refine (KL.out _ HP5.out).mono ?_); rintro e w6 ⟨rfl, n, hn⟩; have HP6 := Lib.hid (show Rc w6 p r3 by rw [← hn]; exact HP5.out); have HF6 := Lib.hid (show w1.grownBy w6 (some p) by rw [← hn]; exact ⟨HF5.out.os, HF5.out.tape, HF5.out.output, HF5.out.size, HF5.out.block⟩); have HV6 := Lib.hid (show w6.heap[v]? = some (ptO (k1 : Int) (k2 : Int) (k3 : Int) none 0 0) by rw [← hn]; exact HV5.out); clear hn c0 c1 c2 c3)
            | (go_at_call 31; (with_reducible refine (KR.out _ HP6.out HF6.out).mono ?_); rintro e w7 ⟨q, c, rfl, hc, hs, hfar, hrc, hg, hnn⟩; have HC7 := Lib.hid hc; have HS7 := Lib.hid hs; have HFA := Lib.hid (show ∀ x, q = some x → x.block ≠ v ∧ w.heap.size < x.block from fun x hx => by have h1 := (hfar x hx).1; have h2 := (Array.getElem?_eq_some_iff.1 HV6.out).1; have h3 := HVX.out; omega); have HP7 := Lib.hid hrc; have HF7 := Lib.hid (grown_trans HF6.out hg); have HV7 := Lib.hid (blk hg HQ5.out HV6.out); have HNN := Lib.hid hnn; rw [← HBL.out]; clear hc hs hfar hrc hg hnn)
            | ((with_reducible refine wpList_store_bd rfl _ _ rfl v (k1 : Int) (k2 : Int) (k3 : Int) none 0 0 q bl c rfl rfl HV7.out ?_); intro w8 hs hb hk hz; have HP8 := Lib.hid (rc_kept HP7.out hk (Ne.symm HQ5.out)); have HB8 := Lib.hid (hb _ _ HVW.out (HBW.out _ HF7.out)); have HV8 := Lib.hid hs; have HS8 := Lib.hid (sl_kept HS7.out hk (fun x hx => (HFA.out x hx).1)); have HZ8 := Lib.hid (show w8.heap[w.heap.size]? = some (ptO 0 0 0 none 0 0) from (hk _ (Nat.ne_of_lt HVX.out)).trans (HBV.out _ HF7.out)); obtain ⟨x0, x1, x2, x3⟩ := four_c HV8.out; clear hs hb hk hz)
            | (go_at_call 33; (with_reducible refine (KE.out _ HP8.out).mono ?_); rintro e w' ⟨rfl, rfl⟩)
            | (go_at_call 26; (with_reducible refine (need_f _).mono ?_); rintro e w' ⟨rfl, rfl⟩))
          exact ⟨rfl, .inr ⟨HNO2.out, rfl, HB8.out⟩⟩
      · have t1 : (er == 0) = true := by rw [c1']; rfl
        have t2 : (1 : Int) ≤ (k1 : Int) := by omega
        have t3 : ¬ (k2 : Int) < (k3 : Int) := by omega
        have HNO2 := Lib.hid (show ¬ ∃ id place cnt body, d = partL id place cnt body ∧ PartOk id place cnt body from fun ⟨i, pl, cn, bo, h1, h2⟩ => by obtain ⟨a1, a2, a3, a4, a5⟩ := HNO.out i pl cn bo h1 h2; have := h2.2.2.1; omega)
        clear FIN c1' c2' c3' HNO HYES
        go_wp2_with (first
          | (go_at_call 32; (with_reducible refine (KL.out _ HP5.out).mono ?_); rintro e w6 ⟨rfl, n, hn⟩; have HP6 := Lib.hid (show Rc w6 p r3 by rw [← hn]; exact HP5.out); have HF6 := Lib.hid (show w1.grownBy w6 (some p) by rw [← hn]; exact ⟨HF5.out.os, HF5.out.tape, HF5.out.output, HF5.out.size, HF5.out.block⟩); have HV6 := Lib.hid (show w6.heap[v]? = some (ptO (k1 : Int) (k2 : Int) (k3 : Int) none 0 0) by rw [← hn]; exact HV5.out); clear hn c0 c1 c2 c3)
          | (go_at_call 31; (with_reducible refine (KR.out _ HP6.out HF6.out).mono ?_); rintro e w7 ⟨q, c, rfl, hc, hs, hfar, hrc, hg, hnn⟩; have HC7 := Lib.hid hc; have HS7 := Lib.hid hs; have HFA := Lib.hid (show ∀ x, q = some x → x.block ≠ v ∧ w.heap.size < x.block from fun x hx => by have h1 := (hfar x hx).1; have h2 := (Array.getElem?_eq_some_iff.1 HV6.out).1; have h3 := HVX.out; omega); have HP7 := Lib.hid hrc; have HF7 := Lib.hid (grown_trans HF6.out hg); have HV7 := Lib.hid (blk hg HQ5.out HV6.out); have HNN := Lib.hid hnn; rw [← HBL.out]; clear hc hs hfar hrc hg hnn)
          | ((with_reducible refine wpList_store_bd rfl _ _ rfl v (k1 : Int) (k2 : Int) (k3 : Int) none 0 0 q bl c rfl rfl HV7.out ?_); intro w8 hs hb hk hz; have HP8 := Lib.hid (rc_kept HP7.out hk (Ne.symm HQ5.out)); have HB8 := Lib.hid (hb _ _ HVW.out (HBW.out _ HF7.out)); have HV8 := Lib.hid hs; have HS8 := Lib.hid (sl_kept HS7.out hk (fun x hx => (HFA.out x hx).1)); have HZ8 := Lib.hid (show w8.heap[w.heap.size]? = some (ptO 0 0 0 none 0 0) from (hk _ (Nat.ne_of_lt HVX.out)).trans (HBV.out _ HF7.out)); obtain ⟨x0, x1, x2, x3⟩ := four_c HV8.out; clear hs hb hk hz)
          | (go_at_call 33; (with_reducible refine (KE.out _ HP8.out).mono ?_); rintro e w' ⟨rfl, rfl⟩)
          | (go_at_call 26; (with_reducible refine (need_f _).mono ?_); rintro e w' ⟨rfl, rfl⟩))
        exact ⟨rfl, .inr ⟨HNO2.out, rfl, HB8.out⟩⟩
    · have t1 : (er == 0) = true := by rw [c1']; rfl
      have t2 : ¬ (1 : Int) ≤ (k1 : Int) := by omega
      have HNO2 := Lib.hid (show ¬ ∃ id place cnt body, d = partL id place cnt body ∧ PartOk id place cnt body from fun ⟨i, pl, cn, bo, h1, h2⟩ => by obtain ⟨a1, a2, a3, a4, a5⟩ := HNO.out i pl cn bo h1 h2; have := h2.1; omega)
      clear FIN c1' c2' HNO HYES
      go_wp2_with (first
        | (go_at_call 32; (with_reducible refine (KL.out _ HP5.out).mono ?_); rintro e w6 ⟨rfl, n, hn⟩; have HP6 := Lib.hid (show Rc w6 p r3 by rw [← hn]; exact HP5.out); have HF6 := Lib.hid (show w1.grownBy w6 (some p) by rw [← hn]; exact ⟨HF5.out.os, HF5.out.tape, HF5.out.output, HF5.out.size, HF5.out.block⟩); have HV6 := Lib.hid (show w6.heap[v]? = some (ptO (k1 : Int) (k2 : Int) (k3 : Int) none 0 0) by rw [← hn]; exact HV5.out); clear hn c0 c1 c2 c3)
        | (go_at_call 31; (with_reducible refine (KR.out _ HP6.out HF6.out).mono ?_); rintro e w7 ⟨q, c, rfl, hc, hs, hfar, hrc, hg, hnn⟩; have HC7 := Lib.hid hc; have HS7 := Lib.hid hs; have HFA := Lib.hid (show ∀ x, q = some x → x.block ≠ v ∧ w.heap.size < x.block from fun x hx => by have h1 := (hfar x hx).1; have h2 := (Array.getElem?_eq_some_iff.1 HV6.out).1; have h3 := HVX.out; omega); have HP7 := Lib.hid hrc; have HF7 := Lib.hid (grown_trans HF6.out hg); have HV7 := Lib.hid (blk hg HQ5.out HV6.out); have HNN := Lib.hid hnn; rw [← HBL.out]; clear hc hs hfar hrc hg hnn)
        | ((with_reducible refine wpList_store_bd rfl _ _ rfl v (k1 : Int) (k2 : Int) (k3 : Int) none 0 0 q bl c rfl rfl HV7.out ?_); intro w8 hs hb hk hz; have HP8 := Lib.hid (rc_kept HP7.out hk (Ne.symm HQ5.out)); have HB8 := Lib.hid (hb _ _ HVW.out (HBW.out _ HF7.out)); have HV8 := Lib.hid hs; have HS8 := Lib.hid (sl_kept HS7.out hk (fun x hx => (HFA.out x hx).1)); have HZ8 := Lib.hid (show w8.heap[w.heap.size]? = some (ptO 0 0 0 none 0 0) from (hk _ (Nat.ne_of_lt HVX.out)).trans (HBV.out _ HF7.out)); obtain ⟨x0, x1, x2, x3⟩ := four_c HV8.out; clear hs hb hk hz)
        | (go_at_call 33; (with_reducible refine (KE.out _ HP8.out).mono ?_); rintro e w' ⟨rfl, rfl⟩)
        | (go_at_call 26; (with_reducible refine (need_f _).mono ?_); rintro e w' ⟨rfl, rfl⟩))
      exact ⟨rfl, .inr ⟨HNO2.out, rfl, HB8.out⟩⟩
  · have t1 : (er == 0) = false := by rw [beq_eq_false_iff_ne]; exact c1'
    have HNO2 := Lib.hid (show ¬ ∃ id place cnt body, d = partL id place cnt body ∧ PartOk id place cnt body from fun ⟨i, pl, cn, bo, h1, h2⟩ => by obtain ⟨a1, a2, a3, a4, a5⟩ := HNO.out i pl cn bo h1 h2; exact c1' a5)
    clear FIN c1' HNO HYES
    go_wp2_with (first
      | (go_at_call 32; (with_reducible refine (KL.out _ HP5.out).mono ?_); rintro e w6 ⟨rfl, n, hn⟩; have HP6 := Lib.hid (show Rc w6 p r3 by rw [← hn]; exact HP5.out); have HF6 := Lib.hid (show w1.grownBy w6 (some p) by rw [← hn]; exact ⟨HF5.out.os, HF5.out.tape, HF5.out.output, HF5.out.size, HF5.out.block⟩); have HV6 := Lib.hid (show w6.heap[v]? = some (ptO (k1 : Int) (k2 : Int) (k3 : Int) none 0 0) by rw [← hn]; exact HV5.out); clear hn c0 c1 c2 c3)
      | (go_at_call 31; (with_reducible refine (KR.out _ HP6.out HF6.out).mono ?_); rintro e w7 ⟨q, c, rfl, hc, hs, hfar, hrc, hg, hnn⟩; have HC7 := Lib.hid hc; have HS7 := Lib.hid hs; have HFA := Lib.hid (show ∀ x, q = some x → x.block ≠ v ∧ w.heap.size < x.block from fun x hx => by have h1 := (hfar x hx).1; have h2 := (Array.getElem?_eq_some_iff.1 HV6.out).1; have h3 := HVX.out; omega); have HP7 := Lib.hid hrc; have HF7 := Lib.hid (grown_trans HF6.out hg); have HV7 := Lib.hid (blk hg HQ5.out HV6.out); have HNN := Lib.hid hnn; rw [← HBL.out]; clear hc hs hfar hrc hg hnn)
      | ((with_reducible refine wpList_store_bd rfl _ _ rfl v (k1 : Int) (k2 : Int) (k3 : Int) none 0 0 q bl c rfl rfl HV7.out ?_); intro w8 hs hb hk hz; have HP8 := Lib.hid (rc_kept HP7.out hk (Ne.symm HQ5.out)); have HB8 := Lib.hid (hb _ _ HVW.out (HBW.out _ HF7.out)); have HV8 := Lib.hid hs; have HS8 := Lib.hid (sl_kept HS7.out hk (fun x hx => (HFA.out x hx).1)); have HZ8 := Lib.hid (show w8.heap[w.heap.size]? = some (ptO 0 0 0 none 0 0) from (hk _ (Nat.ne_of_lt HVX.out)).trans (HBV.out _ HF7.out)); obtain ⟨x0, x1, x2, x3⟩ := four_c HV8.out; clear hs hb hk hz)
      | (go_at_call 33; (with_reducible refine (KE.out _ HP8.out).mono ?_); rintro e w' ⟨rfl, rfl⟩)
      | (go_at_call 26; (with_reducible refine (need_f _).mono ?_); rintro e w' ⟨rfl, rfl⟩))
    exact ⟨rfl, .inr ⟨HNO2.out, rfl, HB8.out⟩⟩
end Go.Proofs.Ytellhkcleicfbaa.Fe
