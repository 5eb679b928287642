/- frag: NewGather, ID, Have, Cut that refuses; what the chapter's examples fix. -/
import Derived.Test.YtellhkcleicfbaaFi
set_option linter.unusedVariables false
namespace Go.Proofs.Ytellhkcleicfbaa.Fj
open Go Go.RowKit Go.MapKept Kit Crc Var Get Bytes WireFirst Ref3 Copy Ap Rd RdA RdB RdC RdD RdE Fr Fa Sb Fb Fc Fd Fe Ff Fg Fh Fi

set_option maxRecDepth 100000 in
/-- NewGather. -/
theorem newG (w : World) : Calls Try.prog 10 #[] w fun e w' => e = .returned (.pointer (some ⟨w.heap.size, 0, none⟩)) ∧ GM w' w.heap.size w.heap.size 0 0 none [] ∧ Below w.heap.size w w' := by
  go_enter Try.func10, Try.ntmps10
  go_wp2
  go_ret
  exact ⟨rfl, ⟨Nat.le_refl _, heap_alloc_last w _, .inl ⟨rfl, rfl⟩, (fun q hq => by cases hq), List.nodup_nil, (fun q hq => by cases hq), Nat.zero_le _, Nat.zero_le _, (fun q hq => by cases hq), fun _ => rfl⟩, below_one w _⟩
/-- Gather.ID. -/
theorem idC (lo p id cnt : Nat) (m : Option Nat) (E : List (Nat × Part)) (w : World) (h : GM w lo p id cnt m E) : Calls Try.prog 14 #[.pointer (some ⟨p, 0, none⟩)] w fun e w' => e = .returned (.int .u64 (id : Int)) ∧ w = w' := by
  obtain ⟨g0, g1, g2⟩ := three_g h
  clear h
  go_enter Try.func14, Try.ntmps14
  go_wp2
  go_ret
  exact ⟨rfl, rfl⟩
theorem lenN (w : World) (ty : TypeId) : (Builtin.len_ #[49] ty #[.map none]).run Try.prog w = .ok (goInt 0) w := by
  simp [Builtin.len_, run_underlying under49, Result.andThen]
/-- the operation: how many a map has. -/
theorem wpList_len {w : World} {ops : Array Oper} {rest : List Oper} {o : Oper} {a : Act} {Q : Exit → Act → World → Prop} (hgd : o.guard = none) (m : Operand) (ho : o.op = .call { callee := .builtin .len, args := #[m], argTypes := #[49] })
    (b n : Nat) (l : List (Value × Value)) (hm : a.eval m = .map (some b)) (hb : MB w b l) (hn : l.length = n) (h : wpList Try.prog ops Q rest (a.put o.dst (.int .i64 (n : Int))) w) : wpList Try.prog ops Q (o :: rest) a w := by
  refine wpList_plain hgd fun K hK => ?_
  have hrun := run_len o.type hb
  unfold Oper.wp
  simp [execOp, ho, resolve, invoke, builtin, hm, hrun, Result.andThen]
  rw [hn]
  exact hK _ _ h
/-- Gather.Have. -/
theorem haveC (lo p id cnt : Nat) (m : Option Nat) (E : List (Nat × Part)) (w : World) (h : GM w lo p id cnt m E) : Calls Try.prog 15 #[.pointer (some ⟨p, 0, none⟩)] w fun e w' => e = .returned (.int .i64 (E.length : Int)) ∧ w = w' := by
  obtain ⟨g0, g1, g2⟩ := three_g h
  rcases h.map with ⟨rfl, rfl⟩ | ⟨b, rfl, _, hb⟩
  · clear h
    go_enter Try.func15, Try.ntmps15
    go_wp2
    go_ret
    exact ⟨rfl, rfl⟩
  · obtain ⟨en, hen⟩ : ∃ n, n = E.length := ⟨_, rfl⟩
    have HN := Lib.hid (show (E.map Ent).length = en by rw [List.length_map, hen])
    have HB := Lib.hid hb
    rw [← hen]
    clear h hb hen
    go_enter Try.func15, Try.ntmps15
    go_wp2_with (first | ((with_reducible refine wpList_len rfl _ rfl b en _ rfl HB.out HN.out ?_)))
    go_ret
    exact ⟨rfl, rfl⟩
/-- Cut, that refuses the id. -/
theorem cutId (id : Int) (a : Option Addr) (n cap : Nat) (w : World) (h1 : id = 0 ∨ 4611686018427387904 < id) :
    Calls Try.prog 8 #[.int .u64 id, .slice a n cap] w fun e w' => e = .returned (.tuple #[.slice none 0 0, .int .i64 17]) ∧ w = w' := by
  rcases h1 with rfl | h1
  · go_enter Try.func8, Try.ntmps8
    go_wp2
    go_ret2
    exact ⟨rfl, rfl⟩
  · have d1 : (id == 0) = false := by rw [beq_eq_false_iff_ne]; omega
    go_enter Try.func8, Try.ntmps8
    go_wp2
    go_ret2
    exact ⟨rfl, rfl⟩
/-- Cut, of too much. -/
theorem cutLong (id : Nat) (a : Option Addr) (n cap : Nat) (w : World) (h1 : 1 ≤ id ∧ id ≤ 4611686018427387904) (hn : 1048576 < n) :
    Calls Try.prog 8 #[.int .u64 (id : Int), .slice a n cap] w fun e w' => e = .returned (.tuple #[.slice none 0 0, .int .i64 4]) ∧ w = w' := by
  have d1 : ((id : Int) == 0) = false := by rw [beq_eq_false_iff_ne]; omega
  have d2 : ¬ (4611686018427387904 : Int) < (id : Int) := by omega
  have d3 : (1048576 : Int) < (n : Int) := by omega
  clear h1 hn
  go_enter Try.func8, Try.ntmps8
  go_wp2
  go_ret2
  exact ⟨rfl, rfl⟩
end Go.Proofs.Ytellhkcleicfbaa.Fj
