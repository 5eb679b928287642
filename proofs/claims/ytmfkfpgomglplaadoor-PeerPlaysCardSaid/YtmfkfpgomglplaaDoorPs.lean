/- One end of the line: New, Address, Out, In. -/
import Derived.Test.YtmfkfpgomglplaaDoorPe
import Derived.Test.YtmfkfpgomglplaaDoorWn
set_option linter.unusedVariables false
namespace Go.Proofs.YtmfkfpgomglplaaDoor.Ps
open Go Go.RowKit Kit Mb Sha Ap Mc1 Sc Mx Sb Pd Su Pa Hm Mm Tg Mf Pk Se Wn Op Pe


/-- a slice's bytes behind a row of one's own, however many. -/
theorem app_big {ops : Array Oper} {rest : List Oper} {o : Oper} {a : Act} {Q : Exit → Act → World → Prop} {w : World} (hgd : o.guard = none) (s x : Operand)
    (ho : o.op = .call { callee := .builtin .append, args := #[s, x], argTypes := #[22, 22] }) (base : Nat) (v : Value) (l : List Nat) (hs : a.eval s = v) (hown : Rb w base v l)
    (ad : Option Addr) (n cap : Nat) (m : List Nat) (hx : a.eval x = .slice ad n cap) (hn : n = m.length) (h0 : ad = none → cap = 0) (hm : Sl w ad m) (hlen : l.length + m.length ≤ 140737488355328) (hbase : base ≤ w.heap.size)
    (h : ∀ v' w', Rb w' base v' (l ++ m) → (∀ B W0, B ≤ base → Below B W0 w → Below B W0 w') → wpList Tryd.prog ops Q rest (a.put o.dst v') w') : wpList Tryd.prog ops Q (o :: rest) a w := by
  subst hn
  obtain ⟨i0, hi, hz0, hz1, hz2⟩ := info_parts info5
  cases ad with
  | none =>
    obtain rfl := h0 rfl
    have hm0 : m = [] := by
      rcases hm with h | ⟨_, _, e, _⟩
      · exact h
      · cases e
    subst hm0
    refine wpList_append_own_none hgd s x 22 ho base 5 i0 1 Tryd.underlying22 hi v _ _ hs hown hx ?_
    exact h v w (by rw [List.append_nil]; exact hown) (fun _ _ _ hb => hb)
  | some y =>
    refine wpList_append_own w hgd s x 22 ho base 5 i0 (.int .u8 0) 1 1 Tryd.underlying22 hi hz0 hz1 hz2 rfl (by decide) v _ _ hs hown y m.length cap (cellsOf m) hx (by simp [cellsOf]) (sl_cells hm) cellsOf_one (by unfold maxLen; omega) (by omega) hbase ?_
    intro v' w' h2 h3 _
    refine h v' w' ?_ (fun B W0 hB hb => hb.grown h3 (Nat.le_trans hB hbase) (fun j hj => Nat.le_trans hB (hown.lt j hj).1))
    rw [cellsOf_app] at h2
    exact rb_of h2 (by simp) rfl
/-- what bytes.Clone answers. -/
def ClP (l : List Nat) (w : World) (e : Ending) (w' : World) : Prop :=
  ∃ b c, e = .returned (.slice b l.length c) ∧ Sl w' b l ∧ (b = none → c = 0) ∧ l.length ≤ c ∧ (∀ y, b = some y → w.heap.size ≤ y.block ∧ y.block < w'.heap.size) ∧ Below w.heap.size w w'
set_option maxRecDepth 100000 in
theorem cloneSome (x : Addr) (cap : Nat) (l : List Nat) (w : World) (hm : l.length ≤ 140737488355328) (hc : Sl w (some x) l) :
    Calls Tryd.prog 55 #[.slice (some x) l.length cap] w (ClP l w) := by
  have HS := Lib.hid (show Sl (w.alloc (.cells #[] 5)) (some x) l from sl_alloc hc _)
  have HR := Lib.hid (show Rb (w.alloc (.cells #[] 5)) w.heap.size (.slice (some ⟨w.heap.size, 0, none⟩) 0 0) [] from World.ownsRow_made w #[] 0 (Nat.le_refl _) (by simp) rfl)
  have HB := Lib.hid ((Below.refl w.heap.size w).alloc (Nat.le_refl _) (.cells #[] 5))
  have HM := Lib.hid (show ([] : List Nat).length + l.length ≤ 140737488355328 by simpa using hm)
  have ke := fun (w1 : World) => Lib.run_eql_slice_nil (P := Tryd.prog) w1 22 5 (some x) l.length cap 0 0 Tryd.underlying22
  clear hc hm
  go_enter Tryd.func55, Tryd.ntmps55
  go_wp2_with (at_builtin; refine app_big rfl _ _ rfl w.heap.size _ [] rfl HR.out (some x) l.length cap l rfl rfl (fun h => by cases h) HS.out HM.out HB.out.size ?_; intro v2 w2 o2 b2; have q2 := b2 _ _ (Nat.le_refl _) HB.out; obtain ⟨ya, yc, rfl, hyc, hys, hy0, hyx⟩ := rb_sl o2; have HO := Lib.hid (And.intro hyc (And.intro hys (And.intro hy0 (And.intro hyx q2)))); clear hyc hys hy0 hyx q2 b2 o2)
  go_ret
  exact ⟨ya, yc, rfl, HO.out.2.1, HO.out.2.2.1, HO.out.1, HO.out.2.2.2.1, HO.out.2.2.2.2⟩
set_option maxRecDepth 100000 in
theorem cloneNone (w : World) : Calls Tryd.prog 55 #[.slice none 0 0] w (ClP [] w) := by
  have ke := fun (w1 : World) => Lib.run_eql_slice_nil (P := Tryd.prog) w1 22 5 none 0 0 0 0 Tryd.underlying22
  go_enter Tryd.func55, Tryd.ntmps55
  go_wp2
  go_ret
  exact ⟨none, 0, rfl, .inl rfl, fun _ => rfl, Nat.le_refl _, fun y hy => (by cases hy), Below.refl _ _⟩
theorem cloneN (a : Option Addr) (cap : Nat) (l : List Nat) (w : World) (hc : Sl w a l) (h0 : a = none → cap = 0) (hm : l.length ≤ 140737488355328) :
    Calls Tryd.prog 55 #[.slice a l.length cap] w (ClP l w) := by
  cases a with
  | none =>
    obtain rfl := h0 rfl
    rcases hc with rfl | ⟨_, _, e, _⟩
    · exact cloneNone w
    · cases e
  | some x => exact cloneSome x cap l w hm hc
theorem mayOne (d v : Int) (w : World) (r : Bool) (hr : r = mayB d v 1 0) : Calls Tryd.prog 30 #[.agg #[.int .i64 d, .int .i64 v, .int .u64 1, .slice none 0 0]] w fun e w' => e = .returned (.bool r) ∧ Below w.heap.size w w' := by
  subst hr; exact mayC d v 1 none 0 [] w
/-- what New answers where all is well. -/
def NwP (key : List Nat) (d v out : Nat) (w : World) (e : Ending) (w' : World) : Prop :=
  ∃ x, e = .returned (.tuple #[.pointer (some ⟨x.g, 0, none⟩), .int .i64 0]) ∧ Pr w' x ⟨key, d, v, out, 0, -1⟩ ∧ w.heap.size ≤ x.lo ∧ x.hi ≤ w'.heap.size ∧ Below w.heap.size w w'
set_option maxRecDepth 100000 in
theorem newPeer (ka : Option Addr) (kc : Nat) (key : List Nat) (d v out : Nat) (w : World) (ks : Sl w ka key) (k0 : ka = none → kc = 0) (klen : key.length ≤ 140737488355328) (h1 : 1 ≤ d) (h2 : d ≤ 2) (h3 : v < 8) (ho : out ≤ 4611686018427387904) :
    Calls Tryd.prog 39 #[.slice ka key.length kc, .int .i64 (d : Int), .int .i64 (v : Int), .int .u64 (out : Int)] w (NwP key d v out w) := by
  have KM := Lib.hid (fun w1 => mayOne (d : Int) (v : Int) w1 true (by simp [mayB]; omega))
  have KS := Lib.hid ks
  have K0 := Lib.hid k0
  have KL := Lib.hid klen
  have n1 : ¬ 4611686018427387904 < (out : Int) := by omega
  have n2 : (out : Int) ≤ 4611686018427387904 := by omega
  clear ks k0 klen h1 h2 h3 ho
  go_enter Tryd.func39, Tryd.ntmps39
  go_wp2_with (first
    | (go_at_call 30; (with_reducible refine (KM.out _).mono ?_); rintro e w1 ⟨rfl, b1⟩; have HB1 := Lib.hid b1; clear b1)
    | (go_at_call 55; (with_reducible refine (cloneN ka kc key w1 (sl_then HB1.out (Nat.le_refl _) KS.out) K0.out KL.out).mono ?_); rintro e w2 ⟨ya, yc, rfl, ys, y0, yl, yx, b2⟩; have HY := Lib.hid (And.intro ys (And.intro y0 (And.intro yl (And.intro yx b2)))); clear ys y0 yl yx b2)
    | (go_at_call 33; refine (newWindowC 0 w2).mono ?_; rintro e w3 ⟨rfl, hw, b3⟩; have HW := Lib.hid hw; have HB3 := Lib.hid b3; clear hw b3))
  go_ret2
  obtain ⟨ys, y0, yl, yx, b2⟩ := HY.out
  have hb1 := HB1.out
  have hb3 := HB3.out
  have hw := HW.out
  have s1 := hb1.size
  have s2 := b2.size
  have s3 := hw.lt
  have ba := (Below.refl w3.heap.size w3).alloc (Nat.le_refl _) (.cells #[.slice ya key.length yc, .int .i64 (d : Int), .int .i64 (v : Int), .int .u64 (out : Int), .pointer (some ⟨w2.heap.size, 0, none⟩), .int .i64 (-1)] 93)
  refine ⟨⟨w.heap.size, w3.heap.size + 1, w3.heap.size, w2.heap.size, ya, yc⟩, rfl, ⟨heap_alloc_last w3 _, hw.then ba (Nat.le_refl _), sl_then ba (Nat.le_refl _) (sl_then hb3 (Nat.le_refl _) ys), y0, yl, fun y hy => by have := yx y hy; simp only; omega, fun y hy => by have := yx y hy; simp only; omega, by simp only; omega, by simp only; omega, by simp only; omega, by simp only; omega, by simp only; omega⟩, Nat.le_refl _, by simp, ?_⟩
  exact below_then (below_then (below_then hb1 b2 s1) hb3 (by omega)) ba (by omega)
set_option maxRecDepth 100000 in
theorem newPeerNo (ka : Option Addr) (kn kc : Nat) (d v : Int) (out : Nat) (w : World) (hno : mayB d v 1 0 = false ∨ 4611686018427387904 < out) :
    Calls Tryd.prog 39 #[.slice ka kn kc, .int .i64 d, .int .i64 v, .int .u64 (out : Int)] w fun e w' => e = .returned (.tuple #[.pointer none, .int .i64 1]) ∧ Below w.heap.size w w' := by
  by_cases hm : mayB d v 1 0 = true
  · have KM := Lib.hid (fun w1 => mayOne d v w1 true hm.symm)
    have n1 : 4611686018427387904 < (out : Int) := by
      rcases hno with h | h
      · rw [hm] at h; cases h
      · omega
    clear hno hm
    go_enter Tryd.func39, Tryd.ntmps39
    go_wp2_with (go_at_call 30; (with_reducible refine (KM.out _).mono ?_); rintro e w1 ⟨rfl, b1⟩; have HB1 := Lib.hid b1; clear b1)
    go_ret2
    exact ⟨rfl, HB1.out⟩
  · have KM := Lib.hid (fun w1 => mayOne d v w1 false (by simpa using hm))
    clear hno hm
    go_enter Tryd.func39, Tryd.ntmps39
    go_wp2_with (go_at_call 30; (with_reducible refine (KM.out _).mono ?_); rintro e w1 ⟨rfl, b1⟩; have HB1 := Lib.hid b1; clear b1)
    go_ret2
    exact ⟨rfl, HB1.out⟩
theorem addrC (x : Pl) (q : Pe) (w : World) (h : Pr w x q) : Calls Tryd.prog 45 #[.pointer (some ⟨x.g, 0, none⟩)] w fun e w' => e = .returned (.int .i64 q.ad) ∧ w = w' := by
  have c5 := h.cell5
  clear h
  go_enter Tryd.func45, Tryd.ntmps45
  go_wp2
  go_ret
  exact ⟨rfl, rfl⟩
theorem outC (x : Pl) (q : Pe) (w : World) (h : Pr w x q) : Calls Tryd.prog 46 #[.pointer (some ⟨x.g, 0, none⟩)] w fun e w' => e = .returned (.int .u64 (q.out : Int)) ∧ w = w' := by
  have c3 := h.cell3
  clear h
  go_enter Tryd.func46, Tryd.ntmps46
  go_wp2
  go_ret
  exact ⟨rfl, rfl⟩
theorem inC (x : Pl) (q : Pe) (w : World) (h : Pr w x q) : Calls Tryd.prog 47 #[.pointer (some ⟨x.g, 0, none⟩)] w fun e w' => e = .returned (.int .u64 (q.last : Int)) ∧ w = w' := by
  have c4 := h.cell4
  have HW := Lib.hid h.win
  clear h
  go_enter Tryd.func47, Tryd.ntmps47
  go_wp2_with (go_at_call 36; refine (lastC x.h q.last w HW.out).mono ?_; rintro e w' ⟨rfl, rfl⟩)
  go_ret
  exact ⟨rfl, rfl⟩

end Go.Proofs.YtmfkfpgomglplaaDoor.Ps
