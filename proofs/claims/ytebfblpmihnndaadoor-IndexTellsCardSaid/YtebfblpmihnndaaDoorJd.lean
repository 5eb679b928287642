/- The document's entries: Plain, SameEntries, Find, EncodeIndex. -/
import Derived.Test.YtebfblpmihnndaaDoorJc
import Derived.Test.YtebfblpmihnndaaDoorIe
import Derived.BigQuiet
set_option linter.unusedVariables false
namespace Go.Proofs.YtebfblpmihnndaaDoor.Jd
open Go Go.RowKit Kit Crc Var Get Ref2 Ref3 Copy Bytes Bx Ia Ib Ic Ir Ie Jc

abbrev edO (e : En) : Obj := .cells #[.int .u64 (e.s : Int), .int .u64 (e.t : Int), .int .i64 e.n, .int .i64 e.a] 45
/-- a row of the document's entries of one's own. -/
def Od (w : World) (B : Nat) (v : Value) (O : List En) : Prop := w.ownsRow B 45 4 v O.length (flatE O)
theorem Od.nil (w : World) (B : Nat) : Od w B (.slice none 0 0) [] := World.ownsRow_nil w B 45 4
theorem Od.below {w w1 : World} {B : Nat} {v : Value} {O : List En} (h : Od w B v O) (hb : Below w.heap.size w w1) : Od w1 B v O :=
  World.ownsRow.kept (row := none) h ⟨hb.os, hb.tape, hb.output, hb.size, fun k hk _ => hb.block k hk⟩ (by cases e : v.ownBlock <;> simp)
theorem Od.slice {w : World} {B : Nat} {v : Value} {O : List En} (h : Od w B v O) : ∃ a cap, v = .slice a O.length cap ∧ Es w a O ∧ O.length ≤ cap ∧ (a = none → cap = 0) := by
  rcases h.2 with ⟨rfl, e⟩ | ⟨g, cap, cur, rfl, hb, hg, hc, _⟩
  · have : O = [] := List.eq_nil_of_length_eq_zero e
    subst this
    exact ⟨none, 0, rfl, .inl rfl, Nat.le_refl _, fun _ => rfl⟩
  · refine ⟨some ⟨g, 0, none⟩, cap, rfl, .inr ⟨g, 0, rfl, fun i hi j hj => ?_⟩, hc, fun h => by cases h⟩
    have hl : i * 4 + j < (flatE O).length := by rw [flatE_len]; omega
    have e := World.ownsRow.cells h (g := g) rfl (i * 4 + j) _ (List.getElem?_eq_getElem hl)
    have hadd : (⟨g, 0, none⟩ : Addr).add (i * 4 + j) = ⟨g, i * 4 + j, none⟩ := by unfold Addr.add; split <;> simp_all
    rw [hadd] at e
    rw [← flatE_at i hi j hj, List.getElem?_eq_getElem hl, ← e]
    congr 2; omega
theorem info45 : (Tryd.prog.info? 45).map (fun i => (i.zero, i.size, i.bytes)) = some (some (.agg #[.int .u64 0, .int .u64 0, .int .i64 0, .int .i64 0]), 4, 32) := by kernel_rfl
theorem under29 : Tryd.prog.underlying 29 = some (.slice 45) := Tryd.underlying29
theorem wp_append_ed {o : Oper} {a : Act} {w : World} {K : Act → World → Prop} {Q : Exit → Act → World → Prop} (s x : Operand)
    (ho : o.op = .call { callee := .builtin .append, args := #[s, x], argTypes := #[29, 29] }) (B : Nat) (v : Value) (O : List En) (hs : a.eval s = v) (h : Od w B v O)
    (g cap : Nat) (c : En) (hx : a.eval x = .slice (some ⟨g, 0, none⟩) 1 cap) (hc : w.heap[g]? = some (edO c)) (hl : O.length ≤ 1000000) (hB : B ≤ w.heap.size)
    (hK : ∀ v' w', Od w' B v' (O ++ [c]) → Below B w w' → K (a.put o.dst v') w') : o.wp Tryd.prog a w K Q := by
  obtain ⟨i0, hi, hz, hs5, hby⟩ := info_parts info45
  refine wp_append_own w s x 29 ho B 45 i0 _ 4 32 under29 hi hz hs5 hby rfl (by decide) v O.length (flatE O) hs h ⟨g, 0, none⟩ 1 cap (flatE [c]) hx (flatE_len [c]) ?_ (flatE_one [c]) (by simp only [maxLen]; omega) (by omega) hB ?_
  · intro j u hu
    have hadd : (⟨g, 0, none⟩ : Addr).add j = ⟨g, j, none⟩ := by unfold Addr.add; split <;> simp_all
    rw [hadd]
    simp [World.cell?, hc]
    simpa [flatE, ev] using hu
  · intro v' w' h1 h2 _
    refine hK v' w' ?_ ⟨h2.os, h2.tape, h2.output, h2.size, fun k hk => h2.block k (Nat.lt_of_lt_of_le hk hB) fun e => ?_⟩
    · unfold Od; rw [List.length_append, flatE_app]; exact h1
    · have := (World.ownsRow.lt h k e.symm).1; omega
theorem wpList_append_ed {w : World} {ops : Array Oper} {rest : List Oper} {o : Oper} {a : Act} {Q : Exit → Act → World → Prop} (hg : o.guard = none) (s x : Operand)
    (ho : o.op = .call { callee := .builtin .append, args := #[s, x], argTypes := #[29, 29] }) (B : Nat) (v : Value) (O : List En) (hs : a.eval s = v) (h : Od w B v O)
    (g cap : Nat) (c : En) (hx : a.eval x = .slice (some ⟨g, 0, none⟩) 1 cap) (hc : w.heap[g]? = some (edO c)) (hl : O.length ≤ 1000000) (hB : B ≤ w.heap.size)
    (hK : ∀ v' w', Od w' B v' (O ++ [c]) → Below B w w' → wpList Tryd.prog ops Q rest (a.put o.dst v') w') : wpList Tryd.prog ops Q (o :: rest) a w :=
  wpList_plain hg fun _ hk => wp_append_ed s x ho B v O hs h g cap c hx hc hl hB fun v' w' h1 h2 => hk _ _ (hK v' w' h1 h2)
theorem take_nextE {O : List En} {j : Nat} {c : En} (h : O[j]? = some c) : O.take (j + 1) = O.take j ++ [c] := by
  rw [List.take_add_one, h]; rfl
set_option maxRecDepth 100000 in
set_option maxHeartbeats 4000000 in
/-- tiklaw19.Plain: the same entries, in a row of the document's. -/
theorem plainC (a : Option Addr) (n cap : Nat) (L : List En) (w : World) (hn : n = L.length) (hm : n ≤ 100000) (hs : Es w a L) :
    Calls Tryd.prog 9 #[.slice a n cap] w fun x w' => ∃ v, x = .returned v ∧ Od w' w.heap.size v L ∧ Below w.heap.size w w' := by
  have HS := Lib.hid hs
  have HN := Lib.hid hn
  clear hs hn
  go_enter Tryd.func9, Tryd.ntmps9
  go_wp2
  go_loopw [3, 4] (fun s3 s4 wr => ∃ k : Nat, k ≤ n ∧ s4 = .int .i64 k ∧ Hid (Od wr w.heap.size s3 (L.take k)) ∧ Hid (Below w.heap.size w wr)) (fun _ s4 _ => n - (intOf s4).toNat)
  case atStart => exact ⟨0, Nat.zero_le _, rfl, Lib.hid (Od.nil _ _), Lib.hid (Below.refl _ _)⟩
  case round =>
    obtain ⟨k, hk, rfl, HO, HB⟩ := hrel
    by_cases hlt : k < n
    · have HKk := Lib.hid (show k + 1 ≤ n ∧ n - (k + 1) < n - k by omega)
      have hkL : k < L.length := by rw [← HN.out]; exact hlt
      obtain ⟨b, off, rfl, hc⟩ : ∃ b off, a = some ⟨b, off, none⟩ ∧ EnC w b off L := by
        rcases HS.out with h | h
        · rw [h] at hkL; simp at hkL
        · exact h
      have hat := fun w1 (hb : Below w.heap.size w w1) => (hc.then_ hb (Nat.le_refl _)).at_ k _ (List.getElem?_eq_getElem hkL)
      have hnx := take_nextE (List.getElem?_eq_getElem hkL)
      have HLk := Lib.hid (show (L.take k).length ≤ 1000000 by rw [List.length_take]; omega)
      generalize L[k] = e at *
      obtain ⟨es, et, en, ea⟩ := e
      dsimp only at hat
      have HNX := Lib.hid hnx
      have hcW := Lib.hid hat
      obtain ⟨c0, c1, c2, c3⟩ := hat wr HB.out
      have ho2 : Od (wr.alloc (.cells #[.int .u64 (es : Int), .int .u64 (et : Int), .int .i64 en, .int .i64 ea] 45)) w.heap.size u3 (L.take k) := HO.out.below ((Below.refl _ wr).alloc (Nat.le_refl _) _)
      have hb2 : Below w.heap.size w (wr.alloc (.cells #[.int .u64 (es : Int), .int .u64 (et : Int), .int .i64 en, .int .i64 ea] 45)) := HB.out.alloc HB.out.size _
      have hc2 : (wr.alloc (.cells #[.int .u64 (es : Int), .int .u64 (et : Int), .int .i64 en, .int .i64 ea] 45)).heap[wr.heap.size]? = some (edO ⟨es, et, en, ea⟩) := heap_alloc_last wr _
      generalize hwa : wr.alloc (.cells #[.int .u64 (es : Int), .int .u64 (et : Int), .int .i64 en, .int .i64 ea] 45) = wa at *
      have HO2 := Lib.hid (show Od wa.drew w.heap.size u3 (L.take k) from ho2)
      have HB2 := Lib.hid (drw hb2)
      have HC2 := Lib.hid (show wa.drew.heap[wr.heap.size]? = some (edO ⟨es, et, en, ea⟩) from hc2)
      obtain ⟨d0, d1, d2, d3⟩ := hat wa hb2
      have hw1 : IntKind.i64.wrap ((k : Int) + 1) = (k : Int) + 1 := IntWalk.i64_in _ (by omega)
      have hkI : (k : Int) < (n : Int) := by omega
      clear ho2 hb2 hc2 hat hnx hc hkL hk
      go_wp2
      refine wp_region_held_drew (S := (fun W => W.cell? ⟨b, off + k * 4, none⟩ = some (.int .u64 (es : Int)) ∧ W.cell? ⟨b, off + k * 4 + 1, none⟩ = some (.int .u64 (et : Int)) ∧ W.cell? ⟨b, off + k * 4 + 2, none⟩ = some (.int .i64 en) ∧ W.cell? ⟨b, off + k * 4 + 3, none⟩ = some (.int .i64 ea))) (by kernel_rfl) ?_ (fun hHeld => ?_)
      · ((try dsimp only); exact ⟨c0, c1, c2, c3⟩)
      refine wpAnyH_take (i := 0) (oi := { dst := some 11, op := Op.move (Operand.tmp 3), type := 29, pos := _, after := #[], guard := none }) (v := ?_) rfl (by kernel_rfl) (by kernel_rfl) (by kernel_rfl) (fun _ _ _ h => h) (Or.inl ⟨by rfl, ?_⟩) (by assumption) ?_
      rotate_left
      · ((intro w hSw); (try dsimp only at hSw); go_simp; (try with_reducible rfl))
      try simp only [Act.put, List.setIfInBounds_toArray, List.set_cons_zero, List.set_cons_succ]
      refine wpAnyH_take (i := 1) (oi := { dst := some 12, op := Op.move (Operand.tmp 0), type := 22, pos := _, after := #[], guard := none }) (v := ?_) rfl (by kernel_rfl) (by kernel_rfl) (by kernel_rfl) (fun _ _ _ h => h) (Or.inl ⟨by rfl, ?_⟩) (by assumption) ?_
      rotate_left
      · ((intro w hSw); (try dsimp only at hSw); go_simp; (try with_reducible rfl))
      try simp only [Act.put, List.setIfInBounds_toArray, List.set_cons_zero, List.set_cons_succ]
      refine wpAnyH_take (i := 2) (oi := { dst := some 13, op := Op.move (Operand.tmp 4), type := 3, pos := _, after := #[], guard := none }) (v := ?_) rfl (by kernel_rfl) (by kernel_rfl) (by kernel_rfl) (fun _ _ _ h => h) (Or.inl ⟨by rfl, ?_⟩) (by assumption) ?_
      rotate_left
      · ((intro w hSw); (try dsimp only at hSw); go_simp; (try with_reducible rfl))
      try simp only [Act.put, List.setIfInBounds_toArray, List.set_cons_zero, List.set_cons_succ]
      refine wpAnyH_take (i := 3) (oi := { dst := some 14, op := Op.indexAddr 22 (Operand.tmp 12) (Operand.tmp 13), type := 0, pos := _, after := #[{ on := 1, ground := Ground.data }, { on := 2, ground := Ground.data }], guard := none }) (v := ?_) rfl (by kernel_rfl) (by kernel_rfl) (by kernel_rfl) (fun _ _ _ h => h) (Or.inl ⟨by rfl, ?_⟩) (by assumption) ?_
      rotate_left
      · ((intro w hSw); (try dsimp only at hSw); go_simp; (try with_reducible rfl))
      try simp only [Act.put, List.setIfInBounds_toArray, List.set_cons_zero, List.set_cons_succ]
      refine wpAnyH_take (i := 4) (oi := { dst := some 15, op := Op.fieldAddr 38 (Operand.tmp 14) 0, type := 0, pos := _, after := #[{ on := 3, ground := Ground.data }], guard := none }) (v := ?_) rfl (by kernel_rfl) (by kernel_rfl) (by kernel_rfl) (fun _ _ _ h => h) (Or.inl ⟨by rfl, ?_⟩) (by assumption) ?_
      rotate_left
      · ((intro w hSw); (try dsimp only at hSw); go_simp; (try with_reducible rfl))
      try simp only [Act.put, List.setIfInBounds_toArray, List.set_cons_zero, List.set_cons_succ]
      refine wpAnyH_take (i := 5) (oi := { dst := some 16, op := Op.load 24 (Operand.tmp 15), type := 24, pos := _, after := #[{ on := 4, ground := Ground.data }], guard := none }) (v := ?_) rfl (by kernel_rfl) (by kernel_rfl) (by kernel_rfl) (fun _ _ _ h => h) (Or.inl ⟨by rfl, ?_⟩) (by assumption) ?_
      rotate_left
      · ((intro w hSw); (try dsimp only at hSw); go_simp; (try with_reducible rfl))
      try simp only [Act.put, List.setIfInBounds_toArray, List.set_cons_zero, List.set_cons_succ]
      refine wpAnyH_take (i := 6) (oi := { dst := some 17, op := Op.move (Operand.tmp 0), type := 22, pos := _, after := #[], guard := none }) (v := ?_) rfl (by kernel_rfl) (by kernel_rfl) (by kernel_rfl) (fun _ _ _ h => h) (Or.inl ⟨by rfl, ?_⟩) (by assumption) ?_
      rotate_left
      · ((intro w hSw); (try dsimp only at hSw); go_simp; (try with_reducible rfl))
      try simp only [Act.put, List.setIfInBounds_toArray, List.set_cons_zero, List.set_cons_succ]
      refine wpAnyH_take (i := 7) (oi := { dst := some 18, op := Op.move (Operand.tmp 4), type := 3, pos := _, after := #[], guard := none }) (v := ?_) rfl (by kernel_rfl) (by kernel_rfl) (by kernel_rfl) (fun _ _ _ h => h) (Or.inl ⟨by rfl, ?_⟩) (by assumption) ?_
      rotate_left
      · ((intro w hSw); (try dsimp only at hSw); go_simp; (try with_reducible rfl))
      try simp only [Act.put, List.setIfInBounds_toArray, List.set_cons_zero, List.set_cons_succ]
      refine wpAnyH_take (i := 8) (oi := { dst := some 19, op := Op.indexAddr 22 (Operand.tmp 17) (Operand.tmp 18), type := 0, pos := _, after := #[{ on := 6, ground := Ground.data }, { on := 7, ground := Ground.data }], guard := none }) (v := ?_) rfl (by kernel_rfl) (by kernel_rfl) (by kernel_rfl) (fun _ _ _ h => h) (Or.inl ⟨by rfl, ?_⟩) (by assumption) ?_
      rotate_left
      · ((intro w hSw); (try dsimp only at hSw); go_simp; (try with_reducible rfl))
      try simp only [Act.put, List.setIfInBounds_toArray, List.set_cons_zero, List.set_cons_succ]
      refine wpAnyH_take (i := 9) (oi := { dst := some 20, op := Op.fieldAddr 38 (Operand.tmp 19) 1, type := 0, pos := _, after := #[{ on := 8, ground := Ground.data }], guard := none }) (v := ?_) rfl (by kernel_rfl) (by kernel_rfl) (by kernel_rfl) (fun _ _ _ h => h) (Or.inl ⟨by rfl, ?_⟩) (by assumption) ?_
      rotate_left
      · ((intro w hSw); (try dsimp only at hSw); go_simp; (try with_reducible rfl))
      try simp only [Act.put, List.setIfInBounds_toArray, List.set_cons_zero, List.set_cons_succ]
      refine wpAnyH_take (i := 10) (oi := { dst := some 21, op := Op.load 24 (Operand.tmp 20), type := 24, pos := _, after := #[{ on := 9, ground := Ground.data }], guard := none }) (v := ?_) rfl (by kernel_rfl) (by kernel_rfl) (by kernel_rfl) (fun _ _ _ h => h) (Or.inl ⟨by rfl, ?_⟩) (by assumption) ?_
      rotate_left
      · ((intro w hSw); (try dsimp only at hSw); go_simp; (try with_reducible rfl))
      try simp only [Act.put, List.setIfInBounds_toArray, List.set_cons_zero, List.set_cons_succ]
      refine wpAnyH_take (i := 11) (oi := { dst := some 22, op := Op.move (Operand.tmp 0), type := 22, pos := _, after := #[], guard := none }) (v := ?_) rfl (by kernel_rfl) (by kernel_rfl) (by kernel_rfl) (fun _ _ _ h => h) (Or.inl ⟨by rfl, ?_⟩) (by assumption) ?_
      rotate_left
      · ((intro w hSw); (try dsimp only at hSw); go_simp; (try with_reducible rfl))
      try simp only [Act.put, List.setIfInBounds_toArray, List.set_cons_zero, List.set_cons_succ]
      refine wpAnyH_take (i := 12) (oi := { dst := some 23, op := Op.move (Operand.tmp 4), type := 3, pos := _, after := #[], guard := none }) (v := ?_) rfl (by kernel_rfl) (by kernel_rfl) (by kernel_rfl) (fun _ _ _ h => h) (Or.inl ⟨by rfl, ?_⟩) (by assumption) ?_
      rotate_left
      · ((intro w hSw); (try dsimp only at hSw); go_simp; (try with_reducible rfl))
      try simp only [Act.put, List.setIfInBounds_toArray, List.set_cons_zero, List.set_cons_succ]
      refine wpAnyH_take (i := 13) (oi := { dst := some 24, op := Op.indexAddr 22 (Operand.tmp 22) (Operand.tmp 23), type := 0, pos := _, after := #[{ on := 11, ground := Ground.data }, { on := 12, ground := Ground.data }], guard := none }) (v := ?_) rfl (by kernel_rfl) (by kernel_rfl) (by kernel_rfl) (fun _ _ _ h => h) (Or.inl ⟨by rfl, ?_⟩) (by assumption) ?_
      rotate_left
      · ((intro w hSw); (try dsimp only at hSw); go_simp; (try with_reducible rfl))
      try simp only [Act.put, List.setIfInBounds_toArray, List.set_cons_zero, List.set_cons_succ]
      refine wpAnyH_take (i := 14) (oi := { dst := some 25, op := Op.fieldAddr 38 (Operand.tmp 24) 2, type := 0, pos := _, after := #[{ on := 13, ground := Ground.data }], guard := none }) (v := ?_) rfl (by kernel_rfl) (by kernel_rfl) (by kernel_rfl) (fun _ _ _ h => h) (Or.inl ⟨by rfl, ?_⟩) (by assumption) ?_
      rotate_left
      · ((intro w hSw); (try dsimp only at hSw); go_simp; (try with_reducible rfl))
      try simp only [Act.put, List.setIfInBounds_toArray, List.set_cons_zero, List.set_cons_succ]
      refine wpAnyH_take (i := 15) (oi := { dst := some 26, op := Op.load 3 (Operand.tmp 25), type := 3, pos := _, after := #[{ on := 14, ground := Ground.data }], guard := none }) (v := ?_) rfl (by kernel_rfl) (by kernel_rfl) (by kernel_rfl) (fun _ _ _ h => h) (Or.inl ⟨by rfl, ?_⟩) (by assumption) ?_
      rotate_left
      · ((intro w hSw); (try dsimp only at hSw); go_simp; (try with_reducible rfl))
      try simp only [Act.put, List.setIfInBounds_toArray, List.set_cons_zero, List.set_cons_succ]
      refine wpAnyH_take (i := 16) (oi := { dst := some 27, op := Op.move (Operand.tmp 0), type := 22, pos := _, after := #[], guard := none }) (v := ?_) rfl (by kernel_rfl) (by kernel_rfl) (by kernel_rfl) (fun _ _ _ h => h) (Or.inl ⟨by rfl, ?_⟩) (by assumption) ?_
      rotate_left
      · ((intro w hSw); (try dsimp only at hSw); go_simp; (try with_reducible rfl))
      try simp only [Act.put, List.setIfInBounds_toArray, List.set_cons_zero, List.set_cons_succ]
      refine wpAnyH_take (i := 17) (oi := { dst := some 28, op := Op.move (Operand.tmp 4), type := 3, pos := _, after := #[], guard := none }) (v := ?_) rfl (by kernel_rfl) (by kernel_rfl) (by kernel_rfl) (fun _ _ _ h => h) (Or.inl ⟨by rfl, ?_⟩) (by assumption) ?_
      rotate_left
      · ((intro w hSw); (try dsimp only at hSw); go_simp; (try with_reducible rfl))
      try simp only [Act.put, List.setIfInBounds_toArray, List.set_cons_zero, List.set_cons_succ]
      refine wpAnyH_take (i := 18) (oi := { dst := some 29, op := Op.indexAddr 22 (Operand.tmp 27) (Operand.tmp 28), type := 0, pos := _, after := #[{ on := 16, ground := Ground.data }, { on := 17, ground := Ground.data }], guard := none }) (v := ?_) rfl (by kernel_rfl) (by kernel_rfl) (by kernel_rfl) (fun _ _ _ h => h) (Or.inl ⟨by rfl, ?_⟩) (by assumption) ?_
      rotate_left
      · ((intro w hSw); (try dsimp only at hSw); go_simp; (try with_reducible rfl))
      try simp only [Act.put, List.setIfInBounds_toArray, List.set_cons_zero, List.set_cons_succ]
      refine wpAnyH_take (i := 19) (oi := { dst := some 30, op := Op.fieldAddr 38 (Operand.tmp 29) 3, type := 0, pos := _, after := #[{ on := 18, ground := Ground.data }], guard := none }) (v := ?_) rfl (by kernel_rfl) (by kernel_rfl) (by kernel_rfl) (fun _ _ _ h => h) (Or.inl ⟨by rfl, ?_⟩) (by assumption) ?_
      rotate_left
      · ((intro w hSw); (try dsimp only at hSw); go_simp; (try with_reducible rfl))
      try simp only [Act.put, List.setIfInBounds_toArray, List.set_cons_zero, List.set_cons_succ]
      refine wpAnyH_take (i := 20) (oi := { dst := some 31, op := Op.load 3 (Operand.tmp 30), type := 3, pos := _, after := #[{ on := 19, ground := Ground.data }], guard := none }) (v := ?_) rfl (by kernel_rfl) (by kernel_rfl) (by kernel_rfl) (fun _ _ _ h => h) (Or.inl ⟨by rfl, ?_⟩) (by assumption) ?_
      rotate_left
      · ((intro w hSw); (try dsimp only at hSw); go_simp; (try with_reducible rfl))
      try simp only [Act.put, List.setIfInBounds_toArray, List.set_cons_zero, List.set_cons_succ]
      refine wpAnyH_take (i := 21) (oi := { dst := some 32, op := Op.build 45 #[(0, Operand.tmp 16), (1, Operand.tmp 21), (2, Operand.tmp 26), (3, Operand.tmp 31)], type := 45, pos := _, after := #[{ on := 5, ground := Ground.data }, { on := 10, ground := Ground.data }, { on := 15, ground := Ground.data }, { on := 20, ground := Ground.data }], guard := none }) (v := ?_) rfl (by kernel_rfl) (by kernel_rfl) (by kernel_rfl) (fun _ _ _ h => h) (Or.inl ⟨by rfl, ?_⟩) (by assumption) ?_
      rotate_left
      · ((intro w hSw); (try dsimp only at hSw); go_simp; (try with_reducible rfl))
      try simp only [Act.put, List.setIfInBounds_toArray, List.set_cons_zero, List.set_cons_succ]
      refine wpAnyH_ready (rs := [22]) (by kernel_rfl) (by simp) ?_
      refine (AllReadyH.cons (o := { dst := some 33, op := Op.buildSlice 29 1 #[(0, Operand.tmp 32)], type := 29, pos := _, after := #[{ on := 21, ground := Ground.data }], guard := none }) rfl (fun K hK => ?_) AllReadyH.nil)
      go_simp
      refine hK.out _ _ ?_ (fun hHeld => ?_)
      · ((try dsimp only); exact ⟨d0, d1, d2, d3⟩)
      clear hK K
      try simp only [Act.put, List.setIfInBounds_toArray, List.set_cons_zero, List.set_cons_succ]
      refine wpAnyH_ready (rs := [23]) (by kernel_rfl) (by simp) ?_
      refine (AllReadyH.cons (o := { dst := some 34, op := Op.call { callee := Callee.builtin Builtin.append, args := #[Operand.tmp 11, Operand.tmp 33], argTypes := #[29, 29] }, type := 29, pos := _, after := #[{ on := 0, ground := Ground.data }, { on := 22, ground := Ground.data }], guard := none }) rfl (fun K hK => ?_) AllReadyH.nil)
      rw [if_pos (by rfl)]
      refine wp_append_ed _ _ rfl w.heap.size _ (L.take k) rfl HO2.out wr.heap.size 1 ⟨es, et, en, ea⟩ rfl HC2.out HLk.out HB2.out.size ?_
      intro v5 w5 o5 b5
      have HO5 := Lib.hid (show Od w5 w.heap.size v5 (L.take (k + 1)) by rw [HNX.out]; exact o5)
      have HB5 := Lib.hid (HB2.out.trans b5)
      clear o5 b5
      refine hK.out _ _ ?_ (fun hHeld => ?_)
      · ((try dsimp only); exact (hcW.out _ HB5.out))
      clear hK K
      try simp only [Act.put, List.setIfInBounds_toArray, List.set_cons_zero, List.set_cons_succ]
      refine wpAnyH_take (i := 24) (oi := { dst := some 3, op := Op.assign (Operand.tmp 34), type := 29, pos := _, after := #[{ on := 23, ground := Ground.data }, { on := 23, ground := Ground.chain }, { on := 0, ground := Ground.phase }, { on := 1, ground := Ground.phase }, { on := 2, ground := Ground.phase }, { on := 3, ground := Ground.phase }, { on := 4, ground := Ground.phase }, { on := 5, ground := Ground.phase }, { on := 6, ground := Ground.phase }, { on := 7, ground := Ground.phase }, { on := 8, ground := Ground.phase }, { on := 9, ground := Ground.phase }, { on := 10, ground := Ground.phase }, { on := 11, ground := Ground.phase }, { on := 12, ground := Ground.phase }, { on := 13, ground := Ground.phase }, { on := 14, ground := Ground.phase }, { on := 15, ground := Ground.phase }, { on := 16, ground := Ground.phase }, { on := 17, ground := Ground.phase }, { on := 18, ground := Ground.phase }, { on := 19, ground := Ground.phase }, { on := 20, ground := Ground.phase }, { on := 21, ground := Ground.phase }, { on := 22, ground := Ground.phase }, { on := 23, ground := Ground.phase }], guard := none }) (v := ?_) rfl (by kernel_rfl) (by kernel_rfl) (by kernel_rfl) (fun _ _ _ h => h) (Or.inl ⟨by rfl, ?_⟩) (by assumption) ?_
      rotate_left
      · ((intro w hSw); (try dsimp only at hSw); go_simp; (try with_reducible rfl))
      try simp only [Act.put, List.setIfInBounds_toArray, List.set_cons_zero, List.set_cons_succ]
      refine wpAnyH_done (by kernel_rfl) ?_ _
      go_wp2
      go_roundw
      · exact ⟨k + 1, HKk.out.1, by go_num, HO5, HB5⟩
      · simp only [intOf]; exact HKk.out.2
    · obtain rfl : k = n := by omega
      go_wp2
      go_ret
      exact ⟨_, rfl, by have := HO.out; rwa [List.take_of_length_le (by rw [← HN.out]; exact Nat.le_refl _)] at this, HB.out⟩
set_option maxRecDepth 100000 in
set_option maxHeartbeats 1000000 in
/-- tikref18.Find. -/
theorem rFindC (a : Option Addr) (n cap : Nat) (L : List En) (time : Nat) (w : World) (hn : n = L.length) (hm : n ≤ 1000000) (hs : Es w a L) :
    Calls Tryd.prog 14 #[.slice a n cap, .int .u64 (time : Int)] w fun e w' => e = .returned (.int .i64 (findL L time)) ∧ w = w' := by
  have HS := Lib.hid hs
  have HN := Lib.hid hn
  clear hs hn
  go_enter Tryd.func14, Tryd.ntmps14
  go_wp2
  go_loopw [5, 6] (fun s5 s6 wr => ∃ k : Nat, k ≤ n ∧ s6 = .int .i64 k ∧ s5 = .int .i64 (findN L time k) ∧ w = wr) (fun _ s6 _ => n - (intOf s6).toNat)
  case atStart => exact ⟨0, Nat.zero_le _, rfl, rfl, rfl⟩
  case round =>
    obtain ⟨k, hk, rfl, rfl, rfl⟩ := hrel
    by_cases hlt : k < n
    · have hkL : k < L.length := by rw [← HN.out]; exact hlt
      obtain ⟨b, off, rfl, hc⟩ : ∃ b off, a = some ⟨b, off, none⟩ ∧ EnC w b off L := by
        rcases HS.out with h | h
        · rw [h] at hkL; simp at hkL
        · exact h
      obtain ⟨c0, c1, c2, c3⟩ := hc.at_ k _ (List.getElem?_eq_getElem hkL)
      have hg : (L.getD k default) = L[k] := by rw [List.getD_eq_getElem?_getD, List.getElem?_eq_getElem hkL]; rfl
      have HU := Lib.hid (show findN L time (k + 1) = if (L[k]).t ≤ time then (k : Int) else findN L time k by rw [← hg]; rfl)
      obtain ⟨T, hT⟩ : ∃ T, T = (L[k]).t := ⟨_, rfl⟩
      rw [← hT] at HU c1
      have HKk := Lib.hid (show k + 1 ≤ n ∧ n - (k + 1) < n - k by omega)
      have hkI : (k : Int) < (n : Int) := by omega
      have hw1 : IntKind.i64.wrap ((k : Int) + 1) = (k : Int) + 1 := IntWalk.i64_in _ (by omega)
      generalize findN L time k = V at *
      clear hT hg hc c0 c2 c3 hk
      by_cases hle : T ≤ time
      · have hleI : (T : Int) ≤ (time : Int) := by omega
        have HV := Lib.hid (show (k : Int) = findN L time (k + 1) by rw [HU.out, if_pos hle])
        go_wp2
        first
          | exact ⟨⟨k + 1, HKk.out.1, by go_num, by rw [← HV.out], by trivial⟩, by simp only [intOf]; exact HKk.out.2⟩
          | (go_roundw
             · exact ⟨k + 1, HKk.out.1, by go_num, by rw [← HV.out], by trivial⟩
             · simp only [intOf]; exact HKk.out.2)
      · have hleI : ¬ (T : Int) ≤ (time : Int) := by omega
        have HV := Lib.hid (show V = findN L time (k + 1) by rw [HU.out, if_neg hle])
        go_wp2
        first
          | exact ⟨⟨k + 1, HKk.out.1, by go_num, by rw [← HV.out], by trivial⟩, by simp only [intOf]; exact HKk.out.2⟩
          | (go_roundw
             · exact ⟨k + 1, HKk.out.1, by go_num, by rw [← HV.out], by trivial⟩
             · simp only [intOf]; exact HKk.out.2)
    · obtain rfl : k = n := by omega
      have HF := Lib.hid (show findL L time = findN L time k by rw [HN.out]; rfl)
      generalize findN L time k = V at *
      go_wp2
      go_ret
      exact ⟨by rw [HF.out]; rfl, rfl⟩
set_option maxRecDepth 100000 in
set_option maxHeartbeats 1000000 in
/-- SameEntries, of the same. -/
theorem sameC (a1 a2 : Option Addr) (n1 n2 c1 c2 : Nat) (L : List En) (w : World) (h1 : n1 = L.length) (h2 : n2 = L.length) (hm : n1 ≤ 1000000) (hs1 : Es w a1 L) (hs2 : Es w a2 L) :
    Calls Tryd.prog 10 #[.slice a1 n1 c1, .slice a2 n2 c2] w fun e w' => e = .returned (.bool true) ∧ ∃ m, w.drewN m = w' := by
  obtain rfl : n1 = n2 := h1.trans h2.symm
  have H1 := Lib.hid hs1
  have H2 := Lib.hid hs2
  have HN := Lib.hid h1
  clear hs1 hs2 h1 h2
  go_enter Tryd.func10, Tryd.ntmps10
  go_wp2
  go_loopw [5] (fun s5 wr => ∃ k : Nat, k ≤ n1 ∧ s5 = .int .i64 k ∧ ∃ m, w.drewN m = wr) (fun s5 _ => n1 - (intOf s5).toNat)
  case atStart => exact ⟨0, Nat.zero_le _, rfl, 0, rfl⟩
  case round =>
    obtain ⟨k, hk, rfl, m, rfl⟩ := hrel
    by_cases hlt : k < n1
    · have hkL : k < L.length := by rw [← HN.out]; exact hlt
      obtain ⟨b1, o1, rfl, hc1⟩ : ∃ b off, a1 = some ⟨b, off, none⟩ ∧ EnC w b off L := by
        rcases H1.out with h | h
        · rw [h] at hkL; simp at hkL
        · exact h
      obtain ⟨b2, o2, rfl, hc2⟩ : ∃ b off, a2 = some ⟨b, off, none⟩ ∧ EnC w b off L := by
        rcases H2.out with h | h
        · rw [h] at hkL; simp at hkL
        · exact h
      obtain ⟨x0, x1, x2, x3⟩ := hc1.at_ k _ (List.getElem?_eq_getElem hkL)
      obtain ⟨y0, y1, y2, y3⟩ := hc2.at_ k _ (List.getElem?_eq_getElem hkL)
      generalize L[k] = e at *
      obtain ⟨es, et, en, ea⟩ := e
      dsimp only at x0 x1 x2 x3 y0 y1 y2 y3
      have HKk := Lib.hid (show k + 1 ≤ n1 ∧ n1 - (k + 1) < n1 - k by omega)
      have hkI : (k : Int) < (n1 : Int) := by omega
      have hw1 : IntKind.i64.wrap ((k : Int) + 1) = (k : Int) + 1 := IntWalk.i64_in _ (by omega)
      clear hc1 hc2 hk hkL
      go_wp2
      go_quiet (fail)
      go_wp2
      first
        | exact ⟨⟨k + 1, HKk.out.1, by go_num, m + nq, rfl⟩, by simp only [intOf]; exact HKk.out.2⟩
        | (go_roundw
           · exact ⟨k + 1, HKk.out.1, by go_num, _, rfl⟩
           · simp only [intOf]; exact HKk.out.2)
    · obtain rfl : k = n1 := by omega
      go_wp2
      go_ret
      exact ⟨rfl, m, rfl⟩
end Go.Proofs.YtebfblpmihnndaaDoor.Jd
