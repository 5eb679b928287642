/- Noughts behind a row of one's own: append of a make. -/
import Derived.Test.YtmfkfpgomglplaaDoorAp
import Derived.Laws.AppendOwn
set_option linter.unusedVariables false
namespace Go.Proofs.YtmfkfpgomglplaaDoor.Mz
open Go Go.RowKit Kit Mb Ap


def zs (n : Nat) : List Nat := List.replicate n 0
theorem zs_cells (n : Nat) : (Builtin.zeroCells #[.int .u8 0] n) = (cellsOf (zs n)).toArray := by
  apply Array.ext'
  simp only [Builtin.zeroCells, cellsOf, zs, List.size_toArray, List.length_cons, List.length_nil, Nat.zero_add, Nat.mul_one, Array.toList_map, Array.toList_range, List.map_replicate]
  apply List.ext_getElem
  · simp
  · intro i h1 h2
    simp [Nat.mod_one]
section
variable {w : World}
theorem run_zeros_room (ty : TypeId) (g sLen sCap : Nat) (cur : Array Value) (hg : w.heap[g]? = some (.cells cur 5 (0, 0))) (m : Nat) (hm : m ≤ 1000000) (hroom : sLen + m ≤ sCap) (hfit : sLen + m ≤ cur.size) :
    (Builtin.append_ #[22, 3] ty #[.slice (some ⟨g, 0, none⟩) sLen sCap, .int .i64 (m : Int)]).run Tryd.prog w =
      .ok (.slice (some ⟨g, 0, none⟩) (sLen + m) sCap) (w.setRow g (cur.toList.take sLen ++ cellsOf (zs m) ++ cur.toList.drop (sLen + m)).toArray) := by
  obtain ⟨i0, hi, hz0, hz1, hz2⟩ := info_parts info5
  have vc0 : (Value.int .u8 0).cells = #[.int .u8 0] := rfl
  have hst := run_storeCells_at Tryd.prog g sLen 5 (cellsOf (zs m)) 0 cur w hg (by simpa [cellsOf, zs] using hfit) cellsOf_one
  simp only [Nat.add_zero] at hst
  have hw : IntKind.i64.wrap (m : Int) = (m : Int) := IntWalk.i64_in _ (by omega)
  have h0 : ¬ (m : Int) < 0 := by omega
  have h48 : ¬ (281474976710656 < (m : Int)) := by omega
  have hlen : (cellsOf (zs m)).length = m := by simp [cellsOf, zs]
  by_cases hm0 : m = 0
  · subst hm0
    have hc0 : cellsOf (zs 0) = [] := rfl
    have w00 : IntKind.i64.wrap 0 = 0 := by decide
    have hroom0 : sLen ≤ sCap := by omega
    rw [hc0] at hst ⊢
    simp [go_sem] at hst
    simp [Builtin.append_, run_underlying Tryd.underlying22, run_underlying Tryd.underlying3, sizeOf, typeInfo, hi, hz2, asInt, asIntOf, w00, hroom0, Addr.add_lit, go_sem]
    exact hst
  · have hzc := zs_cells m
    simp [Builtin.append_, run_underlying Tryd.underlying22, run_underlying Tryd.underlying3, sizeOf, typeInfo, zeroValue, hi, hz0, hz1, hz2, asInt, asIntOf, hw, h0, h48, hm0, hroom, Addr.add_lit, hzc, hst, hlen, go_sem]
theorem run_zeros_grow (ty : TypeId) (b : Addr) (sLen sCap : Nat) (olds : List Value) (hlo : olds.length = sLen) (holds : ∀ j v, olds[j]? = some v → w.cell? (b.add j) = some v) (m : Nat) (hm : m ≤ 1000000) (hs : sLen ≤ 1000000) (hg : sCap < sLen + m)
    (hsl : sLen ≤ sCap) :
    (Builtin.append_ #[22, 3] ty #[.slice (some b) sLen sCap, .int .i64 (m : Int)]).run Tryd.prog w =
      .ok (.slice (some ⟨w.heap.size, 0, none⟩) (sLen + m) (grownCap w (sLen + m) sCap 5))
        (w.drew.alloc (.cells (olds.toArray ++ (cellsOf (zs m)).toArray ++ Builtin.zeroCells #[.int .u8 0] (grownCap w (sLen + m) sCap 5 - (sLen + m))) 5)) := by
  obtain ⟨i0, hi, hz0, hz1, hz2⟩ := info_parts info5
  have vc0 : (Value.int .u8 0).cells = #[.int .u8 0] := rfl
  have hn : ¬ (sLen + m ≤ sCap) := by omega
  have h63' : ¬ (9223372036854775807 < ((sLen : Int) + (m : Int))) := by omega
  have h48' : ¬ (281474976710656 < Builtin.nextslicecap (sLen + m) sCap) := by
    have := growslice_fits (need := sLen + m) (old := sCap) (bytes := 1) (by omega) (by omega)
    omega
  have hfo := run_firstCells_some (P := Tryd.prog) w.drew 1 sLen b sLen sCap olds (by simpa using hlo) (by simpa using holds)
  have hw : IntKind.i64.wrap (m : Int) = (m : Int) := IntWalk.i64_in _ (by omega)
  have h0 : ¬ (m : Int) < 0 := by omega
  have h48 : ¬ (281474976710656 < (m : Int)) := by omega
  have hm0 : ¬ m = 0 := by omega
  have hzc := zs_cells m
  simp [Builtin.append_, run_underlying Tryd.underlying22, run_underlying Tryd.underlying3, sizeOf, typeInfo, zeroValue, hi, hz0, hz1, hz2, asInt, asIntOf, vc0, hw, h0, h48, hm0, hn, h63', h48', Question.forced, hfo, newRow, grownCap, hzc]
  congr 2
  apply Array.ext'
  simp [List.append_assoc]
end
/-- noughts behind a row of bytes of one's own. -/
theorem run_zeros {w : World} (ty : TypeId) (base : Nat) (v : Value) (l : List Nat) (hown : Rb w base v l) (hne : v ≠ .slice none 0 0) (m : Nat) (hm : m ≤ 1000000) (hl : l.length ≤ 1000000) (hbase : base ≤ w.heap.size) :
    ∃ v' w', (Builtin.append_ #[22, 3] ty #[v, .int .i64 (m : Int)]).run Tryd.prog w = .ok v' w' ∧ Rb w' base v' (l ++ zs m) ∧ w.grownBy w' v.ownBlock := by
  have hlen : (l ++ zs m).length = l.length + m := by simp [zs]
  have hcl : (cellsOf (l ++ zs m)).length = (l ++ zs m).length * 1 := by simp [cellsOf]
  rcases hown.2 with ⟨h, _⟩ | ⟨g, cap, cur, rfl, hbg, hg, hnc, hcm, hcs, htake⟩
  · exact absurd h hne
  · rw [Nat.mul_one] at hcs htake
    by_cases hroom : l.length + m ≤ cap
    · refine ⟨_, _, run_zeros_room ty g l.length cap cur hg m hm hroom (by omega), ⟨hcl, .inr ⟨g, cap, _, by rw [hlen], hbg, setRow_heap w g cur _ 5 _ hg, by rw [hlen]; exact hroom, hcm, ?_, ?_⟩⟩, ⟨rfl, rfl, rfl, by simp, fun k _ hk => setRow_other w g k _ (fun e => hk (by simp [Value.ownBlock, e]))⟩⟩
      · simp only [List.size_toArray, List.length_append, List.length_take, List.length_drop, Array.length_toList]
        simp [cellsOf, zs]; omega
      · rw [htake, hlen, Nat.mul_one, cellsOf_app, List.take_append_of_le_length (by simp [cellsOf, zs]), List.take_of_length_le (by simp [cellsOf, zs])]
    · have holds : ∀ j u, (cellsOf l)[j]? = some u → w.cell? ((⟨g, 0, none⟩ : Addr).add j) = some u := hown.cells (g := g) rfl
      have hge := grownCap_ge w (l.length + m) cap 5
      have hcm2 : grownCap w (l.length + m) cap 5 ≤ maxLen := grownCap_le_maxLen w (l.length + m) cap 5 (by unfold maxLen; omega)
      refine ⟨_, _, run_zeros_grow ty ⟨g, 0, none⟩ l.length cap (cellsOf l) (by simp [cellsOf]) holds m hm hl (by omega) hnc, ⟨hcl, .inr ⟨w.heap.size, _, _, by rw [hlen], hbase, heap_alloc_new w.drew _, by rw [hlen]; exact hge, hcm2, ?_, ?_⟩⟩, ⟨rfl, rfl, rfl, by simp, fun k hk _ => Below.heap_alloc w.drew _ k hk⟩⟩
      · simp [size_zeroCells, cellsOf, zs]; omega
      · rw [hlen, Nat.mul_one]
        simp only [Array.toList_append, List.append_assoc]
        rw [← List.append_assoc, cellsOf_app, ← hlen, show (l ++ zs m).length = (cellsOf (l ++ zs m)).length by simp [cellsOf]]
        exact List.take_left
theorem app_zeros {ops : Array Oper} {rest : List Oper} {o : Oper} {a : Act} {Q : Exit → Act → World → Prop} {w : World} (hgd : o.guard = none) (s x : Operand)
    (ho : o.op = .call { callee := .builtin .append, args := #[s, x], argTypes := #[22, 3] }) (base : Nat) (v : Value) (l : List Nat) (hs : a.eval s = v) (hown : Rb w base v l) (hne : v ≠ .slice none 0 0)
    (m : Nat) (hx : a.eval x = .int .i64 (m : Int)) (hm : m ≤ 1000000) (hl : l.length ≤ 1000000) (hbase : base ≤ w.heap.size)
    (h : ∀ v' w', Rb w' base v' (l ++ zs m) → (∀ B W0, B ≤ base → Below B W0 w → Below B W0 w') → wpList Tryd.prog ops Q rest (a.put o.dst v') w') : wpList Tryd.prog ops Q (o :: rest) a w := by
  obtain ⟨v', w', hr, h2, h3⟩ := run_zeros (w := w) o.type base v l hown hne m hm hl hbase
  refine wpList_plain hgd fun _ hK => ?_
  unfold Oper.wp execOp
  simp only [ho, resolve, invoke, builtin, Sem.run_bind, Sem.run_pure, Result.andThen_ok, List.map_toArray, List.map_cons, List.map_nil, hs, hx, hr]
  exact hK _ _ (h v' w' h2 (fun B W0 hB hb => hb.grown h3 (Nat.le_trans hB hbase) (fun j hj => Nat.le_trans hB (hown.lt j hj).1)))

end Go.Proofs.YtmfkfpgomglplaaDoor.Mz
