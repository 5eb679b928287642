/- frag: parts of a message, put (pure). -/
import Derived.Test.YtellhkcleicfbaaFl
set_option linter.unusedVariables false
namespace Go.Proofs.Ytellhkcleicfbaa.Fm
open Go Go.RowKit Go.MapKept Kit Crc Var Get Bytes WireFirst Ref3 Copy Ap Rd RdA RdB RdC RdD RdE Fr Fa Sb Fb Fc Fd Fe Ff Fg Fh Fi Fj Fk Fl

theorem flat_chunk (b : List Nat) : ∀ k, (List.range k).flatMap (chunk b) = b.take (k * 256)
  | 0 => by simp
  | k + 1 => by
    rw [List.range_succ, List.flatMap_append, flat_chunk b k]
    simp only [List.flatMap_cons, List.flatMap_nil, List.append_nil]
    unfold chunk
    rw [show (k + 1) * 256 = k * 256 + 256 by omega, List.take_add]
theorem cnt_all (n : Nat) : n ≤ cntN n * 256 := by unfold cntN; omega
theorem part_ok {id : Nat} {b : List Nat} {i : Nat} (hid : 1 ≤ id ∧ id ≤ 4611686018427387904) (hb : b.length ≤ 200000) (hi : i < cntN b.length) : PartOk id i (cntN b.length) (chunk b i) := by
  have h1 := cnt_le hb
  have h2 := chunk_len b i
  refine ⟨hid.1, hid.2, hi, by omega, by omega, ?_⟩
  by_cases h : i + 1 < cntN b.length
  · exact .inl (chunk_full h)
  · exact .inr (by omega)
theorem chunk_byte {b : List Nat} (h : ∀ c ∈ b, c < 256) (i : Nat) : ∀ c ∈ chunk b i, c < 256 := fun c hc => h c (List.mem_of_mem_drop (List.mem_of_mem_take hc))
/-- what came are parts of b. -/
def PsOk (b : List Nat) (l : List (Nat × List Nat)) : Prop := (∀ q ∈ l, q.2 = chunk b q.1 ∧ q.1 < cntN b.length) ∧ (l.map (·.1)).Nodup
theorem bodyL_ok {b : List Nat} {l : List (Nat × List Nat)} (h : PsOk b l) {i : Nat} (hi : i ∈ l.map (·.1)) : bodyL l i = chunk b i := by
  obtain ⟨q, hq, rfl⟩ := List.mem_map.1 hi
  have h1 : (l.find? (fun x => x.1 == q.1)).isSome = true := by rw [List.find?_isSome]; exact ⟨q, hq, by simp⟩
  obtain ⟨r, hr⟩ := Option.isSome_iff_exists.1 h1
  have h2 := List.mem_of_find?_eq_some hr
  have h3 : r.1 = q.1 := by have := List.find?_some hr; simpa using this
  unfold bodyL
  rw [hr]
  show r.2 = _
  rw [(h.1 r h2).1, h3]
theorem ps_len {b : List Nat} {l : List (Nat × List Nat)} (h : PsOk b l) : l.length ≤ cntN b.length := by
  have := nod_le (cntN b.length) (l.map (·.1)) h.2 (fun x hx => by obtain ⟨q, hq, rfl⟩ := List.mem_map.1 hx; exact (h.1 q hq).2)
  rwa [List.length_map] at this
/-- all the parts are the message. -/
theorem cat_ok {b : List Nat} {l : List (Nat × List Nat)} (h : PsOk b l) (hl : l.length = cntN b.length) : catB (bodyL l) (cntN b.length) = b := by
  have hall := nod_all h.2 (fun x hx => by obtain ⟨q, hq, rfl⟩ := List.mem_map.1 hx; exact (h.1 q hq).2) (by rw [List.length_map, hl]; exact Nat.le_refl _)
  have e : catB (bodyL l) (cntN b.length) = (List.range (cntN b.length)).flatMap (chunk b) := by
    unfold catB
    rw [List.flatMap_def, List.flatMap_def]
    congr 1
    apply List.map_congr_left
    intro i hi
    exact bodyL_ok h (hall i (List.mem_range.1 hi))
  rw [e, flat_chunk, List.take_of_length_le (cnt_all _)]
theorem ps_snoc {b : List Nat} {l : List (Nat × List Nat)} (h : PsOk b l) {i : Nat} (hi : i < cntN b.length) (hn : i ∉ l.map (·.1)) : PsOk b (l ++ [(i, chunk b i)]) := by
  refine ⟨fun q hq => ?_, ?_⟩
  · rcases List.mem_append.1 hq with hq | hq
    · exact h.1 q hq
    · rw [List.mem_singleton.1 hq]; exact ⟨rfl, hi⟩
  · rw [List.map_append, List.nodup_append]
    refine ⟨h.2, by simp, fun x hx y hy => ?_⟩
    simp at hy
    subst hy
    rintro rfl
    exact hn hx
theorem ps_nil (b : List Nat) : PsOk b [] := ⟨(fun q hq => by cases hq), List.nodup_nil⟩
/-- a part more. -/
theorem add_new {b : List Nat} {s : PS} (h : PsOk b s.l) (hc : s.cnt = cntN b.length) {i : Nat} (hi : i < cntN b.length) (hn : i ∉ s.l.map (·.1)) :
    addP s i (cntN b.length) (chunk b i) = (⟨s.id, s.cnt, s.l ++ [(i, chunk b i)]⟩, decide (s.l.length + 1 = cntN b.length), 0, if s.l.length + 1 = cntN b.length then b else []) := by
  have h2 := ps_snoc h hi hn
  have h3 := ps_len h2
  rw [List.length_append, List.length_singleton] at h3
  unfold addP
  rw [if_neg (by rw [hc]; simp), if_neg hn]
  by_cases h4 : s.l.length + 1 < s.cnt
  · rw [if_pos h4, decide_eq_false (by omega), if_neg (by omega)]
  · rw [if_neg h4, decide_eq_true (by omega), if_pos (by omega)]
    rw [hc, cat_ok h2 (by rw [List.length_append, List.length_singleton]; omega)]
theorem add_had {b : List Nat} {s : PS} (h : PsOk b s.l) (hc : s.cnt = cntN b.length) {i : Nat} (hn : i ∈ s.l.map (·.1)) : addP s i (cntN b.length) (chunk b i) = (s, false, 0, []) := by
  unfold addP
  rw [if_neg (by rw [hc]; simp), if_pos hn, if_pos (bodyL_ok h hn)]
theorem step_newer {b : List Nat} {s : PS} {id : Nat} (h : s.id < id) {i : Nat} (hi : i < cntN b.length) :
    stepP s id i (cntN b.length) (chunk b i) = (⟨id, cntN b.length, [(i, chunk b i)]⟩, decide (1 = cntN b.length), 0, if 1 = cntN b.length then b else []) := by
  unfold stepP
  rw [if_neg (by omega), if_pos h]
  have := add_new (b := b) (s := ⟨id, cntN b.length, []⟩) (ps_nil b) rfl hi (by simp)
  simpa using this
theorem step_elder {b : List Nat} {s : PS} {id : Nat} (h : id < s.id) (i : Nat) : stepP s id i (cntN b.length) (chunk b i) = (s, false, 0, []) := by
  unfold stepP
  rw [if_pos h]
theorem step_more {b : List Nat} {s : PS} {id : Nat} (hid : s.id = id) (h : PsOk b s.l) (hc : s.cnt = cntN b.length) {i : Nat} (hi : i < cntN b.length) (hn : i ∉ s.l.map (·.1)) :
    stepP s id i (cntN b.length) (chunk b i) = (⟨id, cntN b.length, s.l ++ [(i, chunk b i)]⟩, decide (s.l.length + 1 = cntN b.length), 0, if s.l.length + 1 = cntN b.length then b else []) := by
  unfold stepP
  rw [if_neg (by omega), if_neg (by omega), add_new h hc hi hn, hid, hc]
theorem step_had {b : List Nat} {s : PS} {id : Nat} (hid : s.id = id) (h : PsOk b s.l) (hc : s.cnt = cntN b.length) {i : Nat} (hn : i ∈ s.l.map (·.1)) :
    stepP s id i (cntN b.length) (chunk b i) = (s, false, 0, []) := by
  unfold stepP
  rw [if_neg (by omega), if_neg (by omega), add_had h hc hn]
/-- the first k parts. -/
def frontL (b : List Nat) (k : Nat) : List (Nat × List Nat) := (List.range k).map fun i => (i, chunk b i)
theorem front_keys (b : List Nat) (k : Nat) : (frontL b k).map (·.1) = List.range k := by unfold frontL; rw [List.map_map]; simp [Function.comp_def]
theorem front_ok {b : List Nat} {k : Nat} (hk : k ≤ cntN b.length) : PsOk b (frontL b k) := by
  refine ⟨fun q hq => ?_, by rw [front_keys]; exact List.nodup_range⟩
  obtain ⟨i, hi, rfl⟩ := List.mem_map.1 hq
  have := List.mem_range.1 hi
  exact ⟨rfl, by show i < _; omega⟩
theorem front_next (b : List Nat) (k : Nat) : frontL b (k + 1) = frontL b k ++ [(k, chunk b k)] := by unfold frontL; rw [List.range_succ, List.map_append]; rfl
theorem front_len (b : List Nat) (k : Nat) : (frontL b k).length = k := by unfold frontL; rw [List.length_map, List.length_range]
/-- the state behind k parts, one behind the other. -/
def stA (s0 : PS) (id : Nat) (b : List Nat) (k : Nat) : PS := if k = 0 then s0 else ⟨id, cntN b.length, frontL b k⟩
theorem stA_next {s0 : PS} {id : Nat} {b : List Nat} (h0 : s0.id < id) {k : Nat} (hk : k < cntN b.length) :
    stepP (stA s0 id b k) id k (cntN b.length) (chunk b k) = (stA s0 id b (k + 1), decide (k + 1 = cntN b.length), 0, if k + 1 = cntN b.length then b else []) := by
  have e : stA s0 id b (k + 1) = ⟨id, cntN b.length, frontL b (k + 1)⟩ := by unfold stA; rw [if_neg (by omega)]
  rw [e]
  by_cases h : k = 0
  · subst h
    have e0 : stA s0 id b 0 = s0 := by unfold stA; rw [if_pos rfl]
    rw [e0, step_newer h0 hk]
    rfl
  · have e0 : stA s0 id b k = ⟨id, cntN b.length, frontL b k⟩ := by unfold stA; rw [if_neg h]
    rw [e0, step_more rfl (front_ok (by omega)) rfl hk (by rw [front_keys]; simp)]
    rw [front_next, front_len]
theorem stA_lt {s0 : PS} {id : Nat} {b : List Nat} (k : Nat) (h : s0.id ≤ id) : (stA s0 id b k).id ≤ id := by
  unfold stA; split
  · exact h
  · exact Nat.le_refl _
theorem stA_len {s0 : PS} {id : Nat} {b : List Nat} (k : Nat) (h : s0.l.length ≤ 3000) (hk : k ≤ 3000) : (stA s0 id b k).l.length ≤ 3000 := by
  unfold stA; split
  · exact h
  · rw [front_len]; exact hk
end Go.Proofs.Ytellhkcleicfbaa.Fm
