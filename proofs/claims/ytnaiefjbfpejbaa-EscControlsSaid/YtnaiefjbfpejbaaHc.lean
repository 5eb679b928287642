/- What is written and what is wanted. -/
import Derived.Test.YtnaiefjbfpejbaaHb
set_option linter.unusedVariables false
namespace Go.Proofs.Ytnaiefjbfpejbaa.Hc
open Go Go.RowKit Kit Ep Eb Er Ea Es Et Eu Ev Ek Ew Ex Ey Ez Fa Fb Fc Fd Ga Gb Gc Ha Hb


/-- the signs that are written, and the params that are wanted. -/
structure Tw (w2 w : World) (vl : Value) (L : List Int) (vw : Value) (M : List Int) : Prop where
  l : w.ownsRow 0 21 1 vl L.length (rv L)
  m : w.ownsRow 0 3 1 vw M.length (iv M)
  fl : ∀ k, vl.ownBlock = some k → w2.heap.size ≤ k
  fm : ∀ k, vw.ownBlock = some k → w2.heap.size ≤ k
  b : Below w2.heap.size w2 w
theorem own_below {w w1 : World} {e : TypeId} {n : Nat} {u : Value} {xs : List Value} (hu : w.ownsRow 0 e 1 u n xs) (hb : Below w.heap.size w w1) : w1.ownsRow 0 e 1 u n xs := by
  refine ⟨hu.1, ?_⟩
  rcases hu.2 with h1 | ⟨g1, cap, cur, hv, h0, h1, rest⟩
  · exact .inl h1
  · exact .inr ⟨g1, cap, cur, hv, h0, (hb.block _ (lt_of h1)).trans h1, rest⟩
theorem Tw.below {w2 w w' : World} {vl vw : Value} {L M : List Int} (h : Tw w2 w vl L vw M) (hb : Below w.heap.size w w') : Tw w2 w' vl L vw M :=
  ⟨own_below h.l hb, own_below h.m hb, h.fl, h.fm, below_then h.b hb h.b.size⟩
theorem Tw.alloc {w2 w : World} {vl vw : Value} {L M : List Int} (h : Tw w2 w vl L vw M) (O : Obj) : Tw w2 (w.alloc O) vl L vw M := h.below ((Below.refl _ w).alloc (Nat.le_refl _) O)
theorem bel_grown {w2 w w' : World} {v : Value} (hb : Below w2.heap.size w2 w) (hg : w.grownBy w' v.ownBlock) (hf : ∀ k, v.ownBlock = some k → w2.heap.size ≤ k) : Below w2.heap.size w2 w' := hb.grown hg hb.size hf
theorem new_fresh {w2 w : World} {v v' : Value} (hb : Below w2.heap.size w2 w) (hn : New w v v') (hf : ∀ k, v.ownBlock = some k → w2.heap.size ≤ k) : ∀ k, v'.ownBlock = some k → w2.heap.size ≤ k := by
  intro k hk
  rcases hn k hk with h | h
  · exact hf k h
  · exact Nat.le_trans hb.size h
theorem rv_snoc {w : World} {v : Value} {l : List Int} {y : Int} (h : w.ownsRow 0 21 1 v (l.length + 1) (rv l ++ [.int .i32 y])) : w.ownsRow 0 21 1 v (l ++ [y]).length (rv (l ++ [y])) := by
  have e1 : (l ++ [y]).length = l.length + 1 := by simp
  have e2 : rv (l ++ [y]) = rv l ++ [.int .i32 y] := by simp [rv]
  rw [e1, e2]; exact h
theorem lit_cell (w : World) (t : TypeId) (u : Value) : (w.alloc (.cells #[u] t)).cell? ⟨w.heap.size, 0, none⟩ = some u := by
  rw [cell_of_row _ _ 0 _ t (0, 0) (heap_alloc_last w _)]; rfl
/-- a sign more. -/
theorem app_l {ops : Array Oper} {rest : List Oper} {o : Oper} {a : Act} {Q : Exit → Act → World → Prop} {w : World} (hgd : o.guard = none) (s y : Operand)
    (ho : o.op = .call { callee := .builtin .append, args := #[s, y], argTypes := #[22, 22] }) (w2 : World) (vl vw : Value) (L M : List Int) (r : Int) (hs : a.eval s = vl) (hT : Tw w2 w vl L vw M) (k : Nat) (hx : a.eval y = .slice (some ⟨k, 0, none⟩) 1 1) (hk : w.cell? ⟨k, 0, none⟩ = some (.int .i32 r)) (hn : L.length ≤ 9000)
    (h : ∀ v' w', Tw w2 w' v' (L ++ [r]) vw M → wpList Try.prog ops Q rest (a.put o.dst v') w') : wpList Try.prog ops Q (o :: rest) a w := by
  refine app_one hgd s y ho info21 Try.underlying22 rfl (by decide) vl L.length (rv L) hs hT.l k hx hk rfl (by omega) ?_
  intro v' w' o4 b4 n4
  exact h v' w' ⟨rv_snoc o4, own_grown hT.m hT.l (by decide) b4, new_fresh hT.b n4 hT.fl, hT.fm, bel_grown hT.b b4 hT.fl⟩
/-- a wanted param more. -/
theorem app_m {ops : Array Oper} {rest : List Oper} {o : Oper} {a : Act} {Q : Exit → Act → World → Prop} {w : World} (hgd : o.guard = none) (s y : Operand)
    (ho : o.op = .call { callee := .builtin .append, args := #[s, y], argTypes := #[23, 23] }) (w2 : World) (vl vw : Value) (L M : List Int) (r : Int) (hs : a.eval s = vw) (hT : Tw w2 w vl L vw M) (k : Nat) (hx : a.eval y = .slice (some ⟨k, 0, none⟩) 1 1) (hk : w.cell? ⟨k, 0, none⟩ = some (.int .i64 r)) (hn : M.length ≤ 9000)
    (h : ∀ v' w', Tw w2 w' vl L v' (M ++ [r]) → wpList Try.prog ops Q rest (a.put o.dst v') w') : wpList Try.prog ops Q (o :: rest) a w := by
  refine app_one hgd s y ho info3 Try.underlying23 rfl (by decide) vw M.length (iv M) hs hT.m k hx hk rfl (by omega) ?_
  intro v' w' o4 b4 n4
  exact h v' w' ⟨own_grown hT.l hT.m (by decide) b4, snoc_own o4, hT.fl, new_fresh hT.b n4 hT.fm, bel_grown hT.b b4 hT.fm⟩
theorem tw_start (w2 : World) : Tw w2 (w2.alloc (.cells #[.int .i32 27, .int .i32 91] 21)) (.slice (some ⟨w2.heap.size, 0, none⟩) 2 2) [27, 91] (.slice none 0 0) [] :=
  ⟨World.ownsRow_lit w2 #[.int .i32 27, .int .i32 91] 2 (Nat.zero_le _) (by decide) rfl, World.ownsRow_nil _ _ _ _, (fun k hk => by
    have : w2.heap.size = k := by injection hk
    omega), (fun k hk => by cases hk), (Below.refl _ w2).alloc (Nat.le_refl _) _⟩
theorem decL_20 {x : Int} (h : x < 9223372036854775808) : (decL x.toNat).length ≤ 20 := decL_len x.toNat 19 (by omega)
theorem body_len {ps : List Int} (h : ∀ x ∈ ps, x < 9223372036854775808) : ∀ i, i ≤ ps.length → (bodyN ps i).length ≤ 21 * i := by
  intro i
  induction i with
  | zero => intro _; exact Nat.le_refl _
  | succ i ih =>
    intro hi
    have h1 := ih (by omega)
    rw [bodyN, List.length_append, List.length_append]
    have h2 : (if 0 < i then [59] else ([] : List Int)).length ≤ 1 := by split <;> simp
    have h3 : (if ps.getD i 0 < 0 then [] else decL (ps.getD i 0).toNat).length ≤ 20 := by
      split
      · simp
      · refine decL_20 (h _ ?_)
        rw [List.getD_eq_getElem?_getD, List.getElem?_eq_getElem (by omega)]
        exact List.getElem_mem _
    omega
/-- a byte of a text of digits. -/
theorem dec_index (l : List Int) (hd : ∀ r ∈ l, 48 ≤ r ∧ r ≤ 57) (k : Nat) (hk : k < l.length) (w : World) : (Instr.index 9 (.string (strOfNums l)) (.int .i64 (k : Int))).run Try.prog w = .ok (.int .u8 l[k]) w := by
  have h1 : k < (strOfNums l).size := by rw [strOfNums_size]; exact hk
  rw [run_index_string (P := Try.prog) w 9 (strOfNums l) .i64 (k : Int) Try.underlying9, dif_pos ⟨by omega, by omega⟩]
  have h2 := hd l[k] (List.getElem_mem hk)
  have h3 : (strOfNums l)[((k : Nat) : Int).toNat]'(by simpa using h1) = UInt8.ofNat l[k].toNat := by
    have h5 : (strOfNums l)[((k : Nat) : Int).toNat]'(by simpa using h1) = (strOfNums l).data[k]'h1 := rfl
    rw [h5]
    simp [strOfNums]
  rw [h3]
  have h4 : (UInt8.ofNat l[k].toNat).toNat = l[k].toNat := by simp; omega
  rw [h4, Int.toNat_of_nonneg (by omega)]

end Go.Proofs.Ytnaiefjbfpejbaa.Hc
