/- What a segment's bytes tell. -/
import Derived.Test.YtabgelmmjpjejaaDoorSp
set_option linter.unusedVariables false
namespace Go.Proofs.YtabgelmmjpjejaaDoor.Sq
open Go Go.RowKit Kit Crc Var Get Ref3 Copy Bytes Bx Py Py2 Ry Rz Dn Df Dd Da Dc Rs Rf Rg Ar Bg Hd Sn Rh Sr So Sp


/-- may D stand behind the parts P, where the first's number is F? -/
def folL (F : Nat) (P : List (Dec × Nat)) (D : Dec) : Bool := match P.getLast? with
  | none => decide (D.k = 1) && decide (D.s = F)
  | some p => decide (D.s = p.1.s + 1) && decide (p.1.t ≤ D.t)
/-- what a segment's bytes tell behind their beginning. -/
def rdL (l : List Nat) (F : Nat) : Nat → List (Dec × Nat) → Nat → List (Dec × Nat) × Nat
  | 0, P, g => (P, g)
  | m + 1, P, g => if (decA l (g : Int)).e = 0 ∧ folL F P (decA l (g : Int)) = true then rdL l F m (P ++ [(decA l (g : Int), g)]) (g + (decA l (g : Int)).n) else (P, g)
theorem rdL_stop {l : List Nat} {F m : Nat} {P : List (Dec × Nat)} {g : Nat} (h : ¬ ((decA l (g : Int)).e = 0 ∧ folL F P (decA l (g : Int)) = true)) : rdL l F m P g = (P, g) := by
  cases m with
  | zero => rfl
  | succ m => rw [rdL, if_neg h]
def absP (ps : List PV) : List (Dec × Nat) := ps.map fun p => (p.D, p.at')
theorem absP_app (ps : List PV) (p : PV) : absP (ps ++ [p]) = absP ps ++ [(p.D, p.at')] := by simp [absP]
theorem decA_ok {l : List Nat} {g : Nat} (hl : ∀ c ∈ l, c < 256) (hg : g ≤ l.length) (h : (decA l (g : Int)).e = 0) : 10 ≤ (decA l (g : Int)).n ∧ g + (decA l (g : Int)).n ≤ l.length ∧ mayR ((decA l (g : Int)).k : Int) (decA l (g : Int)).s (decA l (g : Int)).t (decA l (g : Int)).b.length = true := by
  have e : decA l (g : Int) = decM (l.drop g) := by rw [decA, if_neg (by omega)]; rfl
  rw [e] at h ⊢
  have hd : ∀ c ∈ l.drop g, c < 256 := fun c hc => hl c (List.mem_of_mem_drop hc)
  obtain ⟨h1, h2, _⟩ := back_facts hd h
  obtain ⟨_, _, h3⟩ := dec_back hd h
  rw [List.length_drop] at h2
  exact ⟨h1, by omega, h3⟩
theorem rdL_fuel {l : List Nat} (hl : ∀ c ∈ l, c < 256) (F : Nat) : ∀ (d g : Nat) (P : List (Dec × Nat)) (a b : Nat), l.length - g = d → g ≤ l.length → l.length < g + a → l.length < g + b → rdL l F a P g = rdL l F b P g := by
  intro d
  induction d using Nat.strongRecOn with
  | ind d ih =>
    intro g P a b hd hg ha hb
    cases a with
    | zero => omega
    | succ a =>
      cases b with
      | zero => omega
      | succ b =>
        rw [rdL, rdL]
        by_cases hc : (decA l (g : Int)).e = 0 ∧ folL F P (decA l (g : Int)) = true
        · rw [if_pos hc, if_pos hc]
          obtain ⟨h1, h2, _⟩ := decA_ok hl hg hc.1
          exact ih (l.length - (g + (decA l (g : Int)).n)) (by omega) _ _ a b rfl h2 (by omega) (by omega)
        · rw [if_neg hc, if_neg hc]
/-- the parts that a reading finds. -/
def rdP (l : List Nat) (F : Nat) : List (Dec × Nat) × Nat := rdL l F (l.length + 1) [] 20
theorem rdL_go {l : List Nat} (hl : ∀ c ∈ l, c < 256) {F : Nat} {P : List (Dec × Nat)} {g m : Nat} (hg : g ≤ l.length) (hm : l.length < g + m) (h0 : (decA l (g : Int)).e = 0) (h1 : folL F P (decA l (g : Int)) = true) : rdL l F m P g = rdL l F m (P ++ [(decA l (g : Int), g)]) (g + (decA l (g : Int)).n) := by
  obtain ⟨h2, h3, _⟩ := decA_ok hl hg h0
  cases m with
  | zero => omega
  | succ m =>
    rw [rdL, if_pos ⟨h0, h1⟩]
    exact rdL_fuel hl F _ _ _ m (m + 1) rfl h3 (by omega) (by omega)
theorem last_at (ps : List PV) (h : ps ≠ []) : ∃ j, ∃ hj : j < ps.length, j + 1 = ps.length ∧ (absP ps).getLast? = some (ps[j].D, ps[j].at') := by
  have h0 := List.length_pos_iff.2 h
  refine ⟨ps.length - 1, by omega, by omega, ?_⟩
  unfold absP
  rw [List.getLast?_map, List.getLast?_eq_getElem?, List.getElem?_eq_getElem (by omega)]
  rfl

theorem folK (g6 N F : Nat) (v : Value) (q : Int) (ps : List PV) (base : Nat) (D : Dec) (da : Option Addr) (dc : Nat) (w : World) (h : w.heap[g6]? = some (.cells #[.int .i64 (N : Int), .int .u64 (F : Int), v, .int .i64 q] 56 (0, 0))) (hI : ScanI w base v ps) (hn : ps.length ≤ 100000) (hb : ∀ p ∈ ps, p.D.s ≤ 4611686018427387904) (r : Bool) (hr : r = folL F (absP ps) D) :
    Calls Tryd.prog 49 #[.pointer (some ⟨g6, 0, none⟩), .agg #[.int .i64 (D.k : Int), .int .u64 (D.s : Int), .int .u64 (D.t : Int), .slice da D.b.length dc]] w fun e w' => e = .returned (.bool r) ∧ Below w.heap.size w w' := by
  obtain ⟨a, c, rfl, hne⟩ := scan_slice hI
  by_cases h0 : ps = []
  · subst h0
    exact folNone g6 N F a c q (D.k : Int) D.s D.t da D.b.length dc w h r (by rw [hr, show decide ((D.k : Int) = 1) = decide (D.k = 1) from decide_eq_decide.2 (by omega)]; rfl)
  · obtain ⟨g, rfl⟩ := hne h0
    obtain ⟨j, hj, hj1, hl⟩ := last_at ps h0
    have hS := hb _ (List.getElem_mem hj)
    have hc := fun i hi => scan_cells hI j hj i hi
    rw [← hj1] at h
    refine folSome g6 N F g j c (ps[j].D.s) (ps[j].D.t) (ps[j].D.k : Int) (ps[j].at' : Int) ((ps[j].at' + ps[j].D.n : Nat) : Int) q (D.k : Int) (ps[j].a) (ps[j].D.b.length) (ps[j].c) D.s D.t da D.b.length dc w h (hc 0 (by decide)) (hc 1 (by decide)) (hc 2 (by decide)) (hc 3 (by decide)) (hc 4 (by decide)) (hc 5 (by decide)) (by omega) (by omega) r ?_
    rw [hr, folL, hl]
/-- a part more, ahead of what follows. -/
theorem app_part {ops : Array Oper} {rest : List Oper} {o : Oper} {a : Act} {Q : Exit → Act → World → Prop} {w : World} (hgd : o.guard = none) (s x : Operand)
    (ho : o.op = .call { callee := .builtin .append, args := #[s, x], argTypes := #[54, 54] }) (base : Nat) (v : Value) (ps : List PV) (p : PV) (hs : a.eval s = v) (hI : ScanI w base v ps) (g : Nat) (hx : a.eval x = .slice (some ⟨g, 0, none⟩) 1 1) (hm : w.heap[g]? = some (.cells (pcells p).toArray 72 (0, 0))) (hn : ps.length ≤ 100000) (hbase : base ≤ w.heap.size)
    (hp : p.D.b = [] ∨ ∃ b off, p.a = some ⟨b, off, none⟩ ∧ Cells w b off p.D.b ∧ base ≤ b ∧ b < w.heap.size ∧ v.ownBlock ≠ some b)
    (h : ∀ v' w', ScanI w' base v' (ps ++ [p]) → (∀ B W0, B ≤ base → Below B W0 w → Below B W0 w') → wpList Tryd.prog ops Q rest (a.put o.dst v') w') : wpList Tryd.prog ops Q (o :: rest) a w := by
  obtain ⟨v', w', hr, h2, h3, h4⟩ := run_part w o.type base v ps.length (ps.flatMap pcells) hI.1 g (pcells p) hm rfl (pcells_one p) hn hbase
  refine Lib.wpList_append_run_sl w hgd s x 54 ho _ _ hs hx hr ?_
  exact h v' w' (scan_app hI h2 h3 h4 hp) (fun B W0 hB hb => scan_grown hI h3 hB hbase hb)

end Go.Proofs.YtabgelmmjpjejaaDoor.Sq
