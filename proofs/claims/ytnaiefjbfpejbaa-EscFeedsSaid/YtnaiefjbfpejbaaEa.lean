/- Appends to a row of one's own. -/
import Derived.Test.YtnaiefjbfpejbaaEr
import Derived.Deep.DeepAppendWide
import Derived.Lib.SlFresh
import Derived.OwnWalk
set_option linter.unusedVariables false
namespace Go.Proofs.Ytnaiefjbfpejbaa.Ea
open Go Go.RowKit Kit Ep Eb Er


/-- an append to a row of one's own: the row is the same block, or a new one. -/
theorem run_own (w : World) (t ty e : TypeId) (z : Value) (size bytes : Nat) (hinfo : (Try.prog.info? e).map (fun i => (i.zero, i.size, i.bytes)) = some (some z, size, bytes)) (ht : Try.prog.underlying t = some (.slice e)) (hzs : z.cells.size = size) (hsz : 0 < size) (hby : bytes ≤ 128)
    (v : Value) (n : Nat) (xs : List Value) (hown : w.ownsRow 0 e size v n xs) (ad : Addr) (m c : Nat) (news : List Value) (hl : news.length = m * size) (hnews : ∀ j u, news[j]? = some u → w.cell? (ad.add j) = some u) (h1 : ∀ u ∈ news, u.oneCell' = true) (hn : n + m ≤ 100000) (hm : 0 < m) :
    ∃ v' w', (Builtin.append_ #[t, t] ty #[v, .slice (some ad) m c]).run Try.prog w = .ok v' w' ∧ w'.ownsRow 0 e size v' (n + m) (xs ++ news) ∧ w.grownBy w' v.ownBlock ∧ New w v v' := by
  obtain ⟨i0, hi, hz, hs, hb⟩ := info_parts hinfo
  have hbb : (n + m) * bytes ≤ 100000 * 128 := Nat.mul_le_mul hn hby
  obtain ⟨v', w', hr, h2, h3, _⟩ := run_append_own (P := Try.prog) w 0 t ty e i0 z size bytes ht hi hz hs hb hzs hsz v n xs hown ad m c news hl hnews h1 (by unfold maxLen; omega) (by omega) (Nat.zero_le _)
  refine ⟨v', w', hr, h2, h3, ?_⟩
  rcases hown.2 with ⟨rfl, rfl⟩ | ⟨g0, cap, cur, rfl, _, hg, hnc, _, hcs, _⟩
  · have hr2 := run_append_nil (P := Try.prog) w t ty e i0 _ ht hi hz ad m c news (by rw [hl, hs]) hnews hm (by omega) (by rw [hb]; rw [Nat.zero_add] at hbb; omega)
    rw [hr] at hr2
    injection hr2 with e1 e2
    subst e1
    intro k hk
    have : w.heap.size = k := by injection hk
    exact .inr (by omega)
  · by_cases hroom : n + m ≤ cap
    · have hfit : n * i0.size + news.length ≤ cur.size := by rw [hl, hcs, hs, ← Nat.add_mul]; exact Nat.mul_le_mul_right _ hroom
      have hr2 := run_append_room (P := Try.prog) w t ty e i0 ht hi g0 n cap cur hg ad m c news (by rw [hl, hs]) hnews h1 hroom hfit
      rw [hr] at hr2
      injection hr2 with e1 e2
      subst e1
      exact fun k hk => .inl hk
    · have holds : ∀ j u, xs[j]? = some u → w.cell? ((⟨g0, 0, none⟩ : Addr).add j) = some u := hown.cells (g := g0) rfl
      have hr2 := run_append_grow (P := Try.prog) w t ty e i0 _ ht hi hz ⟨g0, 0, none⟩ n cap xs (by rw [hs]; exact hown.1) holds ad m c news (by rw [hl, hs]) hnews (by omega) (by omega) (by rw [hb]; exact growslice_fits_wide (by omega) (by
        have : (n + m + (n + m) / 4 + 192) * bytes ≤ 200000 * 128 := Nat.mul_le_mul (by omega) hby
        omega))
      rw [hr] at hr2
      injection hr2 with e1 e2
      subst e1
      intro k hk
      have : w.heap.size = k := by injection hk
      exact .inr (by omega)
theorem info3 : (Try.prog.info? 3).map (fun i => (i.zero, i.size, i.bytes)) = some (some (.int .i64 0), 1, 8) := by kernel_rfl
theorem info21 : (Try.prog.info? 21).map (fun i => (i.zero, i.size, i.bytes)) = some (some (.int .i32 0), 1, 4) := by kernel_rfl
theorem Fr.grown {g : Nat} {v x v1 x1 u : Value} {w w1 w2 : World} (h : Fr g v x w w1) (hg : w1.grownBy w2 u.ownBlock) (hu : ∀ k, u.ownBlock = some k → k < w.heap.size → v.ownBlock = some k ∨ x.ownBlock = some k) : Fr g v x w w2 :=
  ⟨hg.os.trans h.os, hg.tape.trans h.tape, hg.output.trans h.output, Nat.le_trans h.size hg.size, fun k hk h1 h2 h3 => by
    rw [hg.block k (Nat.lt_of_lt_of_le hk h.size) (fun e => by rcases hu k e.symm hk with h | h; exact h2 h; exact h3 h)]
    exact h.block k hk h1 h2 h3⟩
theorem own_grown {w w' : World} {e e2 : TypeId} {v u : Value} {n n2 : Nat} {xs ys : List Value} (h : w.ownsRow 0 e 1 v n xs) (hu : w.ownsRow 0 e2 1 u n2 ys) (he : e ≠ e2) (hg : w.grownBy w' u.ownBlock) : w'.ownsRow 0 e 1 v n xs := by
  refine h.kept hg ?_
  cases hv : v.ownBlock with
  | none => exact .inl rfl
  | some k =>
    refine .inr (fun h2 => ?_)
    rcases h.2 with ⟨rfl, _⟩ | ⟨g1, c1, u1, rfl, _, h1, _⟩
    · cases hv
    · have e1 : g1 = k := by injection hv
      rcases hu.2 with ⟨rfl, _⟩ | ⟨g2, c2, u2, rfl, _, h3, _⟩
      · cases h2
      · have e2 : k = g2 := by injection h2
        rw [e1, e2, h3] at h1
        injection h1 with h1; injection h1 with _ h1; exact he h1.symm
/-- a text sign more, and its row is the parser's. -/
theorem StP.text {w w1 w2 : World} {g : Nat} {v x v1 x1 x2 : Value} {p p' : Ps} {r : Int} (h : StP g v x w p v1 x1 w1) (h2 : w2.ownsRow 0 21 1 x2 (p.tx.length + 1) (rv p.tx ++ [.int .i32 r])) (h3 : w1.grownBy w2 x1.ownBlock) (h4 : New w1 x1 x2) (hg : g < w.heap.size) (hp : p' = { p with tx := p.tx ++ [r] }) : StP g v x w p' v1 x2 (w2.setCell ⟨g, 6, none⟩ x2) := by
  subst hp
  have hx : x2.ownBlock ≠ some g := fun e => by
    rcases h4 g e with h5 | h5
    · exact h.1.other.2 h5
    · have := h.1.lt; omega
  have hrow : w2.heap[g]? = some (.cells (prC v1 x1 p) 49 (0, 0)) := (h3.block g h.1.lt (fun e => h.1.other.2 e.symm)).trans h.1.row
  have hl : (p.tx ++ [r]).length = p.tx.length + 1 := by simp
  refine ⟨⟨?_, ownsRow_setCell_other (own_grown h.1.pa h.1.tx (by decide) h3) h.1.other.1 _, ?_, h.1.nil⟩, ?_, h.2.2.1, ?_⟩
  · rw [heap_setCell_same _ g 6 _ 49 _ hrow]; rfl
  · show (w2.setCell ⟨g, 6, none⟩ x2).ownsRow 0 21 1 x2 (p.tx ++ [r]).length (rv (p.tx ++ [r]))
    rw [hl, show rv (p.tx ++ [r]) = rv p.tx ++ [.int .i32 r] by simp [rv]]
    exact ownsRow_setCell_other h2 hx _
  · refine (Fr.grown (v1 := v1) (x1 := x1) h.2.1 h3 (fun k hk hw => ?_)).set hg 6 x2
    rcases h.2.2.2 k hk with h5 | h5
    · exact .inr h5
    · omega
  · intro k hk
    rcases h4 k hk with h5 | h5
    · exact h.2.2.2 k h5
    · exact .inr (Nat.le_trans h.2.1.size h5)
/-- a param more, and its row is the parser's. -/
theorem StP.param {w w1 w2 : World} {g : Nat} {v x v1 x1 v2 : Value} {p p' : Ps} {l : List Int} (h : StP g v x w p v1 x1 w1) (h2 : w2.ownsRow 0 3 1 v2 l.length (iv l)) (h3 : w1.grownBy w2 v1.ownBlock) (h4 : New w1 v1 v2) (hg : g < w.heap.size) (hne : l ≠ []) (hp : p' = { p with pa := l }) : StP g v x w p' v2 x1 (w2.setCell ⟨g, 4, none⟩ v2) := by
  subst hp
  have hx : v2.ownBlock ≠ some g := fun e => by
    rcases h4 g e with h5 | h5
    · exact h.1.other.1 h5
    · have := h.1.lt; omega
  have hrow : w2.heap[g]? = some (.cells (prC v1 x1 p) 49 (0, 0)) := (h3.block g h.1.lt (fun e => h.1.other.1 e.symm)).trans h.1.row
  refine ⟨⟨?_, ownsRow_setCell_other h2 hx _, ownsRow_setCell_other (own_grown h.1.tx h.1.pa (by decide) h3) h.1.other.2 _, fun e => absurd e hne⟩, ?_, ?_, h.2.2.2⟩
  · rw [heap_setCell_same _ g 4 _ 49 _ hrow]; rfl
  · refine (Fr.grown (v1 := v1) (x1 := x1) h.2.1 h3 (fun k hk hw => ?_)).set hg 4 v2
    rcases h.2.2.1 k hk with h5 | h5
    · exact .inl h5
    · omega
  · intro k hk
    rcases h4 k hk with h5 | h5
    · exact h.2.2.1 k h5
    · exact .inr (Nat.le_trans h.2.1.size h5)
/-- an append of one value, ahead of what follows. -/
theorem app_one {ops : Array Oper} {rest : List Oper} {o : Oper} {a : Act} {Q : Exit → Act → World → Prop} {w : World} {t e : TypeId} {z u : Value} {bytes : Nat} (hgd : o.guard = none) (s y : Operand)
    (ho : o.op = .call { callee := .builtin .append, args := #[s, y], argTypes := #[t, t] }) (hinfo : (Try.prog.info? e).map (fun i => (i.zero, i.size, i.bytes)) = some (some z, 1, bytes)) (ht : Try.prog.underlying t = some (.slice e)) (hzs : z.cells.size = 1) (hby : bytes ≤ 128) (v : Value) (n : Nat) (xs : List Value) (hs : a.eval s = v) (hown : w.ownsRow 0 e 1 v n xs) (k : Nat) (hx : a.eval y = .slice (some ⟨k, 0, none⟩) 1 1) (hk : w.cell? ⟨k, 0, none⟩ = some u) (hu : u.oneCell' = true) (hn : n + 1 ≤ 100000)
    (h : ∀ v' w', w'.ownsRow 0 e 1 v' (n + 1) (xs ++ [u]) → w.grownBy w' v.ownBlock → New w v v' → wpList Try.prog ops Q rest (a.put o.dst v') w') : wpList Try.prog ops Q (o :: rest) a w := by
  obtain ⟨v', w', hr, h2, h3, h4⟩ := run_own w t o.type e z 1 bytes hinfo ht hzs (by decide) hby v n xs hown ⟨k, 0, none⟩ 1 1 [u] rfl (fun j y hj => by
    cases j with
    | zero => simp at hj; subst hj; exact hk
    | succ j => simp at hj) (fun y hy => by simp at hy; subst hy; exact hu) hn (by decide)
  exact Lib.wpList_append_run_sl w hgd s y t ho _ _ hs hx hr (h v' w' h2 h3 h4)

end Go.Proofs.Ytnaiefjbfpejbaa.Ea
