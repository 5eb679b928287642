/- Plain facts for WireTexts: the texts of strings, one behind the other. -/
import Derived.Test.YtlhapnnepcnfbabDoorFronts
import Derived.Lib.AppendStr
import Derived.OwnWalk
set_option linter.unusedVariables false
namespace Go.Proofs.YtlhapnnepcnfbabDoor.TxM
open Go Go.RowKit Kit Crc Var Get Bytes Fronts

/-- a string's bytes. -/
def byL (s : ByteArray) : List Nat := s.data.toList.map UInt8.toNat
theorem byL_len (s : ByteArray) : (byL s).length = s.size := by unfold byL; rw [List.length_map, Array.length_toList]; rfl
theorem byL_byte (s : ByteArray) : ∀ c ∈ byL s, c < 256 := by
  intro c hc
  simp only [byL, List.mem_map] at hc
  obtain ⟨b, _, rfl⟩ := hc
  exact b.toNat_lt
theorem strCells_eq (s : ByteArray) : Lib.strCells s = cellsOf (byL s) := by simp [Lib.strCells, cellsOf, byL, Function.comp_def]
theorem strL_byL (s : ByteArray) : strL (byL s) = s := by
  apply ByteArray.ext
  apply Array.toList_inj.1
  simp [strL, strOfNums, byL, Function.comp_def]
/-- the texts, one behind the other. -/
def encL (S : List ByteArray) : List Nat := S.flatMap fun s => varL s.size ++ byL s
theorem encL_take (S : List ByteArray) (i : Nat) (h : i < S.length) : encL (S.take (i + 1)) = encL (S.take i) ++ varL S[i].size ++ byL S[i] := by
  rw [List.take_succ_eq_append_getElem h]
  unfold encL
  rw [List.flatMap_append, List.flatMap_cons, List.flatMap_nil, List.append_nil, List.append_assoc]
theorem encL_split (S : List ByteArray) (i : Nat) (h : i < S.length) : encL S = encL (S.take i) ++ varL S[i].size ++ (byL S[i] ++ encL (S.drop (i + 1))) := by
  have h1 : encL S = encL (S.take (i + 1) ++ S.drop (i + 1)) := by rw [List.take_append_drop]
  rw [h1]
  unfold encL
  rw [List.flatMap_append]
  have h2 := encL_take S i h
  unfold encL at h2
  rw [h2]
  simp [List.append_assoc]
theorem encL_byte (S : List ByteArray) : ∀ c ∈ encL S, c < 256 := by
  intro c hc
  simp only [encL, List.mem_flatMap, List.mem_append] at hc
  obtain ⟨s, _, h | h⟩ := hc
  · exact varL_bytes _ c h
  · exact byL_byte s c h
/-- the sum that the law bounds. -/
def sumM (S : List ByteArray) : Nat := (S.map fun s => min s.size 3001).sum
theorem sumM_take (S : List ByteArray) (i : Nat) (h : i < S.length) : sumM (S.take (i + 1)) = sumM (S.take i) + min S[i].size 3001 := by
  rw [List.take_succ_eq_append_getElem h]
  unfold sumM
  rw [List.map_append, List.sum_append, List.map_cons, List.map_nil, List.sum_cons, List.sum_nil, Nat.add_zero]
theorem sumM_le (S : List ByteArray) : sumM S ≤ S.length * 3001 := by
  induction S with
  | nil => simp [sumM]
  | cons a S ih =>
    simp only [sumM, List.map_cons, List.sum_cons, List.length_cons] at ih ⊢
    have := Nat.min_le_right a.size 3001
    omega
theorem sumM_mem (S : List ByteArray) : ∀ s ∈ S, min s.size 3001 ≤ sumM S := by
  induction S with
  | nil => simp
  | cons a S ih =>
    intro s hs
    simp only [sumM, List.map_cons, List.sum_cons] at ih ⊢
    rcases List.mem_cons.1 hs with rfl | h
    · omega
    · have := ih s h; omega
theorem sumM_small {S : List ByteArray} (h : sumM S ≤ 3000) : ∀ s ∈ S, s.size ≤ 3000 := by
  intro s hs
  have := sumM_mem S s hs
  rcases Nat.le_total s.size 3001 with h1 | h1
  · rw [Nat.min_eq_left h1] at this; omega
  · rw [Nat.min_eq_right h1] at this; omega
theorem encL_len (S : List ByteArray) (h : ∀ s ∈ S, s.size ≤ 3000) : (encL S).length ≤ S.length * 3010 := by
  induction S with
  | nil => simp [encL]
  | cons a S ih =>
    have h1 := h a (by simp)
    have h2 := ih (fun s hs => h s (by simp [hs]))
    have h3 := varL_ten (n := a.size) (by omega)
    simp only [encL, List.flatMap_cons, List.length_append, byL_len, List.length_cons] at h2 ⊢
    omega
/-- what stands at the place of the i-th. -/
theorem getA_enc (S : List ByteArray) (i : Nat) (h : i < S.length) (hn : S[i].size < 18446744073709551616) :
    getA (encL S) ((encL (S.take i)).length : Nat) = (((S[i].size : Nat) : Int), (((encL (S.take i)).length + (varL S[i].size).length : Nat) : Int), 0) := by
  rw [encL_split S i h, getA_front _ _ _ hn]
  simp
theorem enc_fit (S : List ByteArray) (i : Nat) (h : i < S.length) : (encL (S.take i)).length + (varL S[i].size).length + S[i].size ≤ (encL S).length := by
  rw [encL_split S i h]
  simp only [List.length_append, byL_len]
  omega
theorem enc_cut (S : List ByteArray) (i : Nat) (h : i < S.length) : ((encL S).drop ((encL (S.take i)).length + (varL S[i].size).length)).take S[i].size = byL S[i] := by
  rw [encL_split S i h, ← List.length_append, List.drop_left, ← byL_len, List.take_left]
theorem enc_next (S : List ByteArray) (i : Nat) (h : i < S.length) : (encL (S.take (i + 1))).length = (encL (S.take i)).length + (varL S[i].size).length + S[i].size := by
  rw [encL_take S i h]
  simp only [List.length_append, byL_len]
theorem wp_append_str {P : Program} {w : World} {o : Oper} {a : Act} {K : Act → World → Prop} {Q : Exit → Act → World → Prop} (sl x : Operand) (t u : TypeId)
    (ho : o.op = .call { callee := .builtin .append, args := #[sl, x], argTypes := #[t, u] })
    (base : Nat) (e : TypeId) (i : TypeInfo) (ht : P.underlying t = some (.slice e)) (hu : P.underlying u = some .string) (hi : P.info? e = some i) (hz : i.zero = some (.int .u8 0))
    (hsize : i.size = 1) (hby : i.bytes = 1)
    (v : Value) (n : Nat) (xs : List Value) (hs : a.eval sl = v) (hown : w.ownsRow base e 1 v n xs) (s : ByteArray) (hx : a.eval x = .string s)
    (h63 : n + s.size ≤ maxLen) (hbytes : n + s.size ≤ 140737488355328) (hbase : base ≤ w.heap.size)
    (h : ∀ v' w', w'.ownsRow base e 1 v' (n + s.size) (xs ++ Lib.strCells s) → w.grownBy w' v.ownBlock → K (a.put o.dst v') w') : o.wp P a w K Q := by
  obtain ⟨v', w', hr, h2, h3, h4⟩ := Lib.run_append_own_string (P := P) w base t u o.type e i ht hu hi hz hsize hby v n xs hown s h63 hbytes hbase
  unfold Oper.wp execOp
  simp only [ho, resolve, invoke, builtin, Sem.run_bind, Sem.run_pure, Result.andThen_ok, List.map_toArray, List.map_cons, List.map_nil, hs, hx, hr]
  exact h v' w' h2 h3
end Go.Proofs.YtlhapnnepcnfbabDoor.TxM
