/- Appends of cells to what is empty. -/
import Derived.Test.YtfdjmlncdbpkgaaXa
import Derived.Deep.AppendSrc
set_option linter.unusedVariables false
namespace Go.Proofs.Ytfdjmlncdbpkgaa.Xb
open Go Go.RowKit Kit Gm Gv Fl Me Cp Sl Gg Gh Gp Gq Gk Xa

theorem one_flat : ∀ (L : List Ce), ∀ u ∈ flat L, u.oneCell' = true := fun L => flat_one L
theorem cs_front {w : World} {b : Nat} {X : List Ce} {Z : List Value} (h : w.heap[b]? = some (.cells (flat X ++ Z).toArray 37 (0, 0))) : CS w b X := by
  intro j hj i hi
  rw [← flat_at j hj i hi]
  have hl : j * 5 + i < (flat X).length := by rw [flat_len]; omega
  simp [World.cell?, h, List.getElem?_append_left hl]
theorem run_append_fresh {w : World} (ty : TypeId) (d : Option Addr) (X : List Ce) (ad : Addr) (c : Nat) (h0 : 0 < X.length) (hn : X.length ≤ 12000)
    (hsrc : ∀ j v, (flat X)[j]? = some v → w.cell? (ad.add j) = some v) :
    ∃ cap w', (Builtin.append_ #[41, 41] ty #[.slice d 0 0, .slice (some ad) X.length c]).run Try.prog w = .ok (.slice (some ⟨w.heap.size, 0, none⟩) X.length cap) w' ∧ CS w' w.heap.size X ∧ Below w.heap.size w w' ∧ X.length ≤ cap := by
  obtain ⟨i0, hi, hz, hs, hb⟩ := info_parts info37
  have hold : (Builtin.firstCells i0.size 0 (.slice d 0 0)).run Try.prog w.drew = .ok (([] : List Value)).toArray w.drew := by
    cases d with
    | none => exact run_firstCells_none w.drew i0.size 0 0 0
    | some a => exact run_firstCells_some w.drew i0.size 0 a 0 0 [] (by simp) (by simp)
  have hsr := Src.ofSlice (P := Try.prog) w (size := i0.size) (tx := 41) under41 ad X.length c (flat X) (by rw [flat_len, hs]) hsrc (flat_one X)
  have hr := run_append_grow_src (P := Try.prog) w 41 41 ty 37 i0 _ under41 hi hz d 0 0 [] hold _ X.length (flat X) hsr (by omega) (by omega) (by rw [hb, Nat.zero_add, nextslicecap_zero h0]; omega)
  rw [Nat.zero_add] at hr
  rw [hr]
  refine ⟨_, _, rfl, cs_front (Z := (Builtin.zeroCells (Value.agg #[.int .i32 0, .int .i64 0, .int .i64 0, .int .i64 0, .int .i64 0]).cells (grownCap w X.length 0 37 - X.length)).toList) ?_, below_undrew ((Below.refl _ w.drew).alloc (Nat.le_refl _) _), grownCap_ge w X.length 0 37⟩
  have := heap_alloc_last w.drew (.cells ((([] : List Value) ++ flat X).toArray ++ Builtin.zeroCells (Value.agg #[.int .i32 0, .int .i64 0, .int .i64 0, .int .i64 0, .int .i64 0]).cells (grownCap w X.length 0 37 - X.length)) 37)
  rw [List.nil_append] at this ⊢
  have e : ((flat X) ++ (Builtin.zeroCells (Value.agg #[.int .i32 0, .int .i64 0, .int .i64 0, .int .i64 0, .int .i64 0]).cells (grownCap w X.length 0 37 - X.length)).toList).toArray = (flat X).toArray ++ Builtin.zeroCells (Value.agg #[.int .i32 0, .int .i64 0, .int .i64 0, .int .i64 0, .int .i64 0]).cells (grownCap w X.length 0 37 - X.length) := by
    apply Array.ext'; simp
  rw [e]; exact this
/-- the same, as a step. -/
theorem wp_append_fresh {o : Oper} {a : Act} {w : World} {K : Act → World → Prop} {Q : Exit → Act → World → Prop} (s x : Operand)
    (ho : o.op = .call { callee := .builtin .append, args := #[s, x], argTypes := #[41, 41] })
    (d : Option Addr) (n c : Nat) (ad : Addr) (hs : a.eval s = .slice d 0 0) (hx : a.eval x = .slice (some ad) n c) (X : List Ce) (hn : n = X.length) (h0 : 0 < n) (h1 : n ≤ 12000)
    (hsrc : ∀ j v, (flat X)[j]? = some v → w.cell? (ad.add j) = some v)
    (hK : ∀ cap w', CS w' w.heap.size X → Below w.heap.size w w' → n ≤ cap → K (a.put o.dst (.slice (some ⟨w.heap.size, 0, none⟩) n cap)) w') : o.wp Try.prog a w K Q := by
  subst hn
  obtain ⟨cap, w', hrun, h2, h3, h4⟩ := run_append_fresh o.type d X ad c h0 h1 hsrc
  unfold Oper.wp
  simp [execOp, ho, resolve, invoke, builtin, hs, hx, hrun, Result.andThen]
  exact hK cap w' h2 h3 h4
/-- the document's mending: every cell looks at what stood on its two sides. -/
def emC (pr : Int) (c : Ce) (t : List Ce) : Ce := if (c.wd = 1 ∧ ∀ d, t.head? = some d → ¬ d.wd = 2) ∨ (c.wd = 2 ∧ ¬ pr = 1) then spaceC c else c
def em : Int → List Ce → List Ce
  | _, [] => []
  | pr, c :: t => emC pr c t :: em c.wd t
theorem em_len : ∀ (l : List Ce) (pr : Int), (em pr l).length = l.length
  | [], _ => rfl
  | c :: t, pr => by simp [em, em_len t]
theorem em_mend : ∀ (n : Nat) (l : List Ce), l.length ≤ n → (∀ c ∈ l, c.wd = 0 ∨ c.wd = 1 ∨ c.wd = 2) → ∀ pr : Int, (pr = 1 → ∀ d, l.head? = some d → ¬ d.wd = 2) → em pr l = mend l := by
  intro n
  induction n with
  | zero => intro l h _ pr _; obtain rfl : l = [] := List.eq_nil_of_length_eq_zero (by omega); simp [em, mend]
  | succ n ih =>
    intro l h hk pr hp
    match l, h, hk, hp with
    | [], _, _, _ => simp [em, mend]
    | c :: t, h, hk, hp =>
      simp only [List.length_cons] at h
      have ht : ∀ x ∈ t, x.wd = 0 ∨ x.wd = 1 ∨ x.wd = 2 := fun x hx => hk x (List.mem_cons_of_mem _ hx)
      unfold em
      rcases hk c (by simp) with h0 | h1 | h2
      · rw [mend_zero h0, ih t (by omega) ht c.wd (by omega)]
        congr 1; unfold emC; rw [if_neg]; omega
      · match t, h, ht, hp with
        | [], _, _, _ =>
          rw [mend_last (by omega)]; unfold emC em; rw [if_pos (.inl ⟨h1, by simp⟩)]
        | d :: t, h, ht, hp =>
          simp only [List.length_cons] at h
          by_cases h2 : d.wd = 2
          · rw [mend_pair h1 h2]; unfold em
            rw [ih t (by omega) (fun x hx => ht x (List.mem_cons_of_mem _ hx)) d.wd (by omega)]
            congr 1
            · unfold emC; rw [if_neg]; simp [h1, h2]
            · congr 1; unfold emC; rw [if_neg]; omega
          · rw [mend_lone (by omega) (by omega), ih (d :: t) (by simp; omega) ht c.wd (by simp [h2])]
            congr 1; unfold emC; rw [if_pos]; exact .inl ⟨h1, by simp [h2]⟩
      · have hpr : ¬ pr = 1 := fun e => hp e c rfl h2
        have e : emC pr c t = spaceC c := by unfold emC; rw [if_pos]; exact .inr ⟨h2, hpr⟩
        rw [e, ih t (by omega) ht c.wd (by omega)]
        match t with
        | [] => rw [mend_last (by omega)]; simp [mend]
        | d :: t => rw [mend_lone (by omega) (by omega)]
theorem wp_store_cell2 {o : Oper} {a : Act} {w : World} {K : Act → World → Prop} {Q : Exit → Act → World → Prop} (x y : Operand) (ho : o.op = .store 37 x y)
    (b q : Nat) (d : Ce) (hx : a.eval x = .pointer (some ⟨b, q, none⟩)) (hy : a.eval y = cvA d) {A Z : List Ce} {c : Ce} (h : RB w b (A ++ c :: Z)) (hq : q = A.length * 5)
    (hK : ∀ w', putR w b (A ++ d :: Z) = w' → K (a.put o.dst undef) w') : o.wp Try.prog a w K Q := wp_store_cell x y ho b q d hx hy h hq (hK _ rfl)
end Go.Proofs.Ytfdjmlncdbpkgaa.Xb
