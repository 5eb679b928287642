/- frag: what a part's bytes say (pure); a map of one's own. -/
import Derived.Test.YtellhkcleicfbaaFc
import Derived.MapKept
set_option linter.unusedVariables false
namespace Go.Proofs.Ytellhkcleicfbaa.Fd
open Go Go.RowKit Go.MapKept Kit Crc Var Get Bytes WireFirst Ref3 Copy Ap Rd RdA RdB RdC RdD RdE Fr Fa Sb Fb Fc

/-- what is read is the number's own bytes. -/
theorem pow7' (i : Nat) : 2 ^ (7 * (i + 1)) = 128 * 2 ^ (7 * i) := by rw [show 7 * (i + 1) = 7 * i + 7 by omega, Nat.pow_add]; omega
theorem getF_back : ∀ (l : List Nat), (∀ c ∈ l, c < 256) → ∀ (i acc n k : Nat), getF l i acc = (n, k, 0) →
    ∃ q m, k = i + q ∧ 1 ≤ q ∧ q ≤ l.length ∧ n = acc + m * 2 ^ (7 * i) ∧ l.take q = varL m ∧ (m = 0 → i = 0)
  | [], _, i, acc, n, k, h => by simp [getF] at h
  | c :: l, hl, i, acc, n, k, h => by
    rw [getF] at h
    have hc := hl c (List.mem_cons_self ..)
    split at h
    · simp at h
    · split at h
      · rename_i h1 h2
        obtain ⟨q, m, e1, e2, e3, e4, e5, e6⟩ := getF_back l (fun x hx => hl x (List.mem_cons_of_mem _ hx)) (i + 1) _ n k h
        refine ⟨q + 1, c % 128 + 128 * m, by omega, by omega, by simp; omega, ?_, ?_, ?_⟩
        · rw [e4, pow7', Nat.add_mul]
          rw [show m * (128 * 2 ^ (7 * i)) = 128 * m * 2 ^ (7 * i) by rw [← Nat.mul_assoc, Nat.mul_comm m 128]]
          omega
        · have hm : 1 ≤ m := by rcases Nat.eq_zero_or_pos m with hz | hz; have := e6 hz; omega; exact hz
          rw [varL_more (by omega), List.take_succ_cons, e5]
          rw [show (c % 128 + 128 * m) % 128 + 128 = c by omega, show (c % 128 + 128 * m) / 128 = m by omega]
        · intro hz
          have hm : 1 ≤ m := by rcases Nat.eq_zero_or_pos m with hz | hz; have := e6 hz; omega; exact hz
          omega
      · split at h
        · simp at h
        · rename_i h1 h2 h3
          simp only [Prod.mk.injEq, and_true] at h
          refine ⟨1, c, by omega, by omega, by simp, by omega, by rw [varL_small (by omega)]; simp, by omega⟩
theorem getF_eat {l : List Nat} (hl : ∀ c ∈ l, c < 256) {n k : Nat} (h : getF l 0 0 = (n, k, 0)) : 1 ≤ k ∧ k ≤ l.length ∧ l.take k = varL n := by
  obtain ⟨q, m, e1, e2, e3, e4, e5, _⟩ := getF_back l hl 0 0 n k h
  have : n = m := by rw [e4]; simp
  subst this
  have : k = q := by omega
  subst this
  exact ⟨e2, e3, e5⟩
/-- a place behind which the number n is read. -/
theorem getA_eat {l : List Nat} (hl : ∀ c ∈ l, c < 256) {p : Nat} (h : (getA l (p : Int)).2.2 = 0) : ∃ n : Nat, getA l (p : Int) = ((n : Int), ((p + (varL n).length : Nat) : Int), 0) ∧ l.drop p = varL n ++ l.drop (p + (varL n).length) ∧ p + (varL n).length ≤ l.length := by
  unfold getA at h ⊢
  split at h
  · simp at h
  · rename_i h1
    rw [if_neg h1]
    simp only [Int.toNat_natCast] at h ⊢
    have h2 : (getF (l.drop p) 0 0).2.2 = 0 := by simpa using h
    generalize hg : getF (l.drop p) 0 0 = g at *
    obtain ⟨n, k, e⟩ := g
    dsimp only at h2 h ⊢
    subst h2
    obtain ⟨g1, g2, g3⟩ := getF_eat (l := l.drop p) (fun c hc => hl c (List.mem_of_mem_drop hc)) hg
    have e : (varL n).length = k := by rw [← g3, List.length_take]; omega
    rw [List.length_drop] at g2
    refine ⟨n, ?_, ?_, by rw [e]; omega⟩
    · rw [e]; simp [end_]
    · rw [e, ← g3, ← List.drop_drop, List.take_append_drop]
/-- Num, that went well. -/
theorem num_back {l : List Nat} (hl : ∀ c ∈ l, c < 256) {r : Rdr} {m : Nat} (h : (numN l r m).2.err = 0) : r.err = 0 ∧ ∃ n : Nat, n ≤ m ∧ numN l r m = ((n : Int), { r with at_ := r.at_ + (varL n).length }) ∧ l.drop r.at_ = varL n ++ l.drop (r.at_ + (varL n).length) ∧ r.at_ + (varL n).length ≤ l.length := by
  unfold numN at h ⊢
  split at h
  · rename_i h1; exact absurd h h1
  · rename_i h1
    rw [if_neg h1]
    split at h
    · rename_i h2; exact absurd h h2
    · rename_i h2
      rw [if_neg h2]
      split at h
      · simp at h
      · rename_i h3
        rw [if_neg h3]
        obtain ⟨n, e1, e2, e3⟩ := getA_eat hl (by simpa using h2 : (getA l (r.at_ : Int)).2.2 = 0)
        rw [e1] at h3 ⊢
        dsimp only at h3 ⊢
        exact ⟨by simpa using h1, n, by omega, by rw [Int.toNat_natCast], e2, e3⟩
theorem num_fw (A B : List Nat) (x m : Nat) (hm : x ≤ m) (hx : x < 18446744073709551616) (r : Rdr) (h0 : r.err = 0) (h1 : r.at_ = A.length) : numN (A ++ varL x ++ B) r m = ((x : Int), { r with at_ := A.length + (varL x).length }) := by
  have hg := getA_front A B x hx
  unfold numN
  rw [if_neg (by simpa using h0), h1, hg]
  simp only
  rw [if_neg (by simp), if_neg (by omega)]
  congr 2
theorem num_in (l : List Nat) (r : Rdr) (m : Nat) : ∃ n : Nat, (numN l r m).1 = (n : Int) ∧ n ≤ m := by
  unfold numN
  split
  · exact ⟨0, rfl, Nat.zero_le _⟩
  · split
    · exact ⟨0, rfl, Nat.zero_le _⟩
    · split
      · exact ⟨0, rfl, Nat.zero_le _⟩
      · rename_i h2 h3
        obtain ⟨n, y, e, _⟩ := getA_ok l r.at_ (by simpa using h2)
        rw [e] at h3 ⊢
        exact ⟨n, rfl, by dsimp only at h3; omega⟩
theorem num_le (l : List Nat) (r : Rdr) (m : Nat) (h : r.at_ ≤ l.length) : (numN l r m).2.at_ ≤ l.length := by
  unfold numN
  split
  · exact h
  · split
    · exact h
    · split
      · exact h
      · rename_i h2 _
        obtain ⟨n, y, e, _, hy⟩ := RdC.getA_ok l r.at_ (by simpa using h2)
        rw [e]; simpa using hy

def MAXC : Nat := 4611686018427387904
def q1 (l : List Nat) (r : Rdr) := numN l r 4611686018427387904
def q2 (l : List Nat) (r : Rdr) := numN l (q1 l r).2 4096
def q3 (l : List Nat) (r : Rdr) := numN l (q2 l r).2 4096
def qb (l : List Nat) (r : Rdr) := rawN l (q3 l r).2 ((l.length : Int) - ((q3 l r).2.at_ : Int))
/-- what a part may be. -/
def PartOk (id place cnt : Nat) (body : List Nat) : Prop := 1 ≤ id ∧ id ≤ 4611686018427387904 ∧ place < cnt ∧ cnt ≤ 4096 ∧ body.length ≤ 256 ∧ (body.length = 256 ∨ place + 1 = cnt)
theorem raw_err {l : List Nat} {r : Rdr} {n : Int} (h : (rawN l r n).2.err = 0) : r.err = 0 ∧ 0 ≤ n ∧ (r.at_ : Int) + n ≤ l.length ∧ rawN l r n = ((l.drop r.at_).take n.toNat, { r with at_ := r.at_ + n.toNat }) := by
  unfold rawN at h ⊢
  split at h
  · rename_i h1; exact absurd h h1
  · rename_i h1
    rw [if_neg h1]
    split at h
    · simp at h
    · rename_i h2
      rw [if_neg h2]
      split at h
      · simp at h
      · rename_i h3
        rw [if_neg h3]
        exact ⟨by simpa using h1, by omega, by omega, rfl⟩
/-- what is read well, was written. -/
theorem read_back {l : List Nat} (hl : ∀ c ∈ l, c < 256) {r : Rdr} (h1 : r.at_ = 0) (h : (qb l r).2.err = 0) :
    ∃ id place cnt body, id ≤ 4611686018427387904 ∧ place ≤ 4096 ∧ cnt ≤ 4096 ∧ l = partL id place cnt body ∧ (q1 l r).1 = (id : Int) ∧ (q2 l r).1 = (place : Int) ∧ (q3 l r).1 = (cnt : Int) ∧ (qb l r).1 = body := by
  obtain ⟨e3, k1, k2, k3⟩ := raw_err (l := l) (r := (q3 l r).2) (n := (l.length : Int) - ((q3 l r).2.at_ : Int)) h
  obtain ⟨e2, c, c1, c2, c3, c4⟩ := num_back hl (r := (q2 l r).2) (m := 4096) e3
  obtain ⟨e1, b, b1, b2, b3, b4⟩ := num_back hl (r := (q1 l r).2) (m := 4096) e2
  obtain ⟨e0, a, a1, a2, a3, a4⟩ := num_back hl (r := r) (m := 4611686018427387904) e1
  have f1 : q1 l r = ((a : Int), { r with at_ := r.at_ + (varL a).length }) := a2
  have f2 : q2 l r = ((b : Int), { (q1 l r).2 with at_ := (q1 l r).2.at_ + (varL b).length }) := b2
  have f3 : q3 l r = ((c : Int), { (q2 l r).2 with at_ := (q2 l r).2.at_ + (varL c).length }) := c2
  have g1 : (q1 l r).2.at_ = (varL a).length := by rw [f1]; simp [h1]
  have g2 : (q2 l r).2.at_ = (varL a).length + (varL b).length := by rw [f2]; simp [g1]
  have g3 : (q3 l r).2.at_ = (varL a).length + (varL b).length + (varL c).length := by rw [f3]; simp [g2]
  rw [h1, List.drop_zero, Nat.zero_add] at a3
  rw [g1] at b3
  rw [g2] at c3
  refine ⟨a, b, c, l.drop ((q3 l r).2.at_), a1, b1, c1, ?_, by rw [f1], by rw [f2], by rw [f3], ?_⟩
  · unfold partL
    rw [g3, List.append_assoc, List.append_assoc]
    rw [← c3, ← b3, ← a3]
  · show (rawN l (q3 l r).2 _).1 = _
    rw [k3]
    simp only
    rw [List.take_of_length_le]
    rw [List.length_drop]; omega
/-- what was written, is read. -/
theorem read_fw (id place cnt : Nat) (body : List Nat) (r : Rdr) (h0 : r.err = 0) (h1 : r.at_ = 0) (k1 : id ≤ 4611686018427387904) (k2 : place ≤ 4096) (k3 : cnt ≤ 4096) :
    (q1 (partL id place cnt body) r).1 = (id : Int) ∧ (q2 (partL id place cnt body) r).1 = (place : Int) ∧ (q3 (partL id place cnt body) r).1 = (cnt : Int) ∧ (qb (partL id place cnt body) r).1 = body ∧ (qb (partL id place cnt body) r).2.err = 0 := by
  have a2 : q1 (partL id place cnt body) r = ((id : Int), { r with at_ := 0 + (varL id).length }) := by
    have := num_fw [] (varL place ++ (varL cnt ++ body)) id 4611686018427387904 k1 (by omega) r h0 h1
    simpa [partL, q1] using this
  have b2 : q2 (partL id place cnt body) r = ((place : Int), { (q1 (partL id place cnt body) r).2 with at_ := (varL id).length + (varL place).length }) := by
    have := num_fw (varL id) (varL cnt ++ body) place 4096 k2 (by omega) (q1 (partL id place cnt body) r).2 (by rw [a2]; exact h0) (by rw [a2]; simp)
    simpa [partL, q2] using this
  have c2 : q3 (partL id place cnt body) r = ((cnt : Int), { (q2 (partL id place cnt body) r).2 with at_ := (varL id ++ varL place).length + (varL cnt).length }) := by
    have := num_fw (varL id ++ varL place) body cnt 4096 k3 (by omega) (q2 (partL id place cnt body) r).2 (by rw [b2, a2]; exact h0) (by rw [b2]; simp)
    simpa [partL, q3] using this
  have hat : (q3 (partL id place cnt body) r).2.at_ = (varL id ++ varL place ++ varL cnt).length := by rw [c2]; simp only [List.length_append]
  have herr : (q3 (partL id place cnt body) r).2.err = 0 := by rw [c2, b2, a2]; exact h0
  have hd : qb (partL id place cnt body) r = (body, { (q3 (partL id place cnt body) r).2 with at_ := (partL id place cnt body).length }) := by
    unfold qb rawN
    rw [if_neg (by simpa using herr), hat]
    have hl : (partL id place cnt body).length = (varL id ++ varL place ++ varL cnt).length + body.length := by simp only [partL, List.length_append]
    rw [if_neg (by omega), if_neg (by omega)]
    have e : ((partL id place cnt body).length : Int) - ((varL id ++ varL place ++ varL cnt).length : Int) = (body.length : Int) := by omega
    rw [e, Int.toNat_natCast, hl]
    have e2 : (partL id place cnt body).drop (varL id ++ varL place ++ varL cnt).length = body := by
      show (varL id ++ varL place ++ varL cnt ++ body).drop _ = body
      rw [List.drop_left]
    rw [e2, List.take_of_length_le (Nat.le_refl _)]
  refine ⟨by rw [a2], by rw [b2], by rw [c2], by rw [hd], by rw [hd]; exact herr⟩
theorem part_inj {id place cnt id' place' cnt' : Nat} {body body' : List Nat} (k1 : id ≤ 4611686018427387904) (k2 : place ≤ 4096) (k3 : cnt ≤ 4096) (j1 : id' ≤ 4611686018427387904) (j2 : place' ≤ 4096) (j3 : cnt' ≤ 4096) (h : partL id place cnt body = partL id' place' cnt' body') : id = id' ∧ place = place' ∧ cnt = cnt' ∧ body = body' := by
  unfold partL at h
  rw [List.append_assoc, List.append_assoc, List.append_assoc, List.append_assoc] at h
  obtain ⟨e1, h⟩ := varL_inj (by omega) (by omega) h
  obtain ⟨e2, h⟩ := varL_inj (by omega) (by omega) h
  obtain ⟨e3, h⟩ := varL_inj (by omega) (by omega) h
  exact ⟨e1, e2, e3, h⟩

/-- block b is a map with these entries. -/
def MB (w : World) (b : Nat) (l : List (Value × Value)) : Prop := ∃ es clock, w.heap[b]? = some (.map es clock) ∧ es.toList.map (fun e => (e.key, e.val)) = l
theorem MB.lt {w : World} {b : Nat} {l : List (Value × Value)} (h : MB w b l) : b < w.heap.size := by
  obtain ⟨es, clock, hb, _⟩ := h
  exact (Array.getElem?_eq_some_iff.1 hb).1
theorem MB.keep {w w' : World} {b : Nat} {l : List (Value × Value)} (h : MB w b l) (e : w'.heap[b]? = w.heap[b]?) : MB w' b l := by
  obtain ⟨es, clock, hb, hl⟩ := h
  exact ⟨es, clock, e.trans hb, hl⟩
section
variable {P : Program} {w : World} {b : Nat} {l : List (Value × Value)} {t k e : TypeId} {d : TypeDesc} {key v z : Value}
theorem mb_yes (c : Bool) (ht : P.underlying t = some (.map k e)) (hd : P.underlying k = some d) (h : MB w b l) (hks : ∀ p ∈ l, IsKey d p.1) (hk : IsKey d key) (hv : (key, v) ∈ l) (hu : ∀ v', (key, v') ∈ l → v' = v) :
    (Instr.lookup t (.map (some b)) key c).run P w = .ok (if c then .tuple #[v, .bool true] else v) w := by
  obtain ⟨es, clock, hb, rfl⟩ := h
  have hks' : ∀ x ∈ es.toList, IsKey d x.key := fun x hx => hks (x.key, x.val) (List.mem_map.2 ⟨x, hx, rfl⟩)
  rcases findNow_spec hk es.toList 0 hks' with ⟨h1, h2⟩ | ⟨j, e0, h1, h2, h3⟩
  · obtain ⟨x, hx, e⟩ := List.mem_map.1 hv
    injection e with e1 e2
    exact absurd e1 (h2 x hx)
  · have hval : e0.val = v := hu _ (List.mem_map.2 ⟨e0, List.mem_of_getElem? h2, by rw [h3]⟩)
    cases c <;> simp [Instr.lookup, run_underlying ht, Go.MapKept.run_getObj_map hb, Go.MapKept.run_checkKey hd hk, Go.MapKept.run_findKey hd h1, Result.andThen, hval]
theorem mb_no (c : Bool) (ht : P.underlying t = some (.map k e)) (hd : P.underlying k = some d) (h : MB w b l) (hks : ∀ p ∈ l, IsKey d p.1) (hk : IsKey d key) (hz : (zeroValue e).run P w = .ok z w) (hn : ∀ v', (key, v') ∉ l) :
    (Instr.lookup t (.map (some b)) key c).run P w = .ok (if c then .tuple #[z, .bool false] else z) w := by
  obtain ⟨es, clock, hb, rfl⟩ := h
  have hks' : ∀ x ∈ es.toList, IsKey d x.key := fun x hx => hks (x.key, x.val) (List.mem_map.2 ⟨x, hx, rfl⟩)
  rcases findNow_spec hk es.toList 0 hks' with ⟨h1, h2⟩ | ⟨j, e0, h1, h2, h3⟩
  · cases c <;> simp [Instr.lookup, run_underlying ht, Go.MapKept.run_getObj_map hb, Go.MapKept.run_checkKey hd hk, Go.MapKept.run_findKey hd h1, Result.andThen, hz]
  · exact absurd (List.mem_map.2 ⟨e0, List.mem_of_getElem? h2, by rw [h3]⟩) (hn e0.val)
theorem mb_put (ht : P.underlying t = some (.map k e)) (hd : P.underlying k = some d) (h : MB w b l) (hks : ∀ p ∈ l, IsKey d p.1) (hk : IsKey d key) (hn : ∀ v', (key, v') ∉ l) :
    ∃ w', (Instr.mapUpdate t (.map (some b)) key v).run P w = .ok () w' ∧ MB w' b (l ++ [(key, v)]) ∧ w.grownBy w' (some b) := by
  obtain ⟨es, clock, hb, rfl⟩ := h
  have hks' : ∀ x ∈ es.toList, IsKey d x.key := fun x hx => hks (x.key, x.val) (List.mem_map.2 ⟨x, hx, rfl⟩)
  rcases findNow_spec hk es.toList 0 hks' with ⟨h1, h2⟩ | ⟨j, e0, h1, h2, h3⟩
  · refine ⟨{ w with heap := w.heap.setIfInBounds b (.map (es.push { key, val := v, born := clock }) (clock + 1)) }, ?_, ⟨_, _, (heap_set hb).1, by simp⟩, ⟨rfl, rfl, rfl, by simp, fun i _ hi => (heap_set hb).2 i (fun e => hi (by rw [e]))⟩⟩
    simp [Instr.mapUpdate, run_underlying ht, Go.MapKept.run_getObj_map hb, Go.MapKept.run_checkKey hd hk, Go.MapKept.run_findKey hd h1, Go.MapKept.run_setObj_map _ hb, Result.andThen]
  · exact absurd (List.mem_map.2 ⟨e0, List.mem_of_getElem? h2, by rw [h3]⟩) (hn e0.val)
end
end Go.Proofs.Ytellhkcleicfbaa.Fd
