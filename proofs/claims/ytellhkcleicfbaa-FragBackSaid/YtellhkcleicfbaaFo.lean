/- FragBack: what each part changes (pure); Put beside a row of bools. -/
import Derived.Test.YtellhkcleicfbaaFn
set_option linter.unusedVariables false
namespace Go.Proofs.Ytellhkcleicfbaa.Fo
open Go Go.RowKit Go.MapKept Kit Crc Var Get Bytes WireFirst Ref3 Copy Ap Rd RdA RdB RdC RdD RdE Fr Fa Sb Fb Fc Fd Fe Ff Fg Fh Fi Fj Fk Fl Fm Fn

/-- where the picks stand: no part of the message came yet, or some did. -/
def Inv (id : Nat) (b old : List Nat) (np i : Nat) (s : PS) (n came : Nat) (f : Nat → Bool) : Prop :=
  (s.id < id ∧ n = 0 ∧ came = 0 ∧ (∀ k, f k = false) ∧ i ≤ np ∧ (s = ⟨0, 0, []⟩ ∨ (s.id + 1 = id ∧ s.cnt = cntN old.length ∧ PsOk old s.l))) ∨
  (s.id = id ∧ s.cnt = cntN b.length ∧ PsOk b s.l ∧ n = s.l.length ∧ 1 ≤ n ∧ (∀ k, k < cntN b.length → (f k = true ↔ k ∈ s.l.map (·.1))) ∧ came = (if n = cntN b.length then 1 else 0) ∧ (∀ k, k + np < i → k ∈ s.l.map (·.1)))
theorem Inv.len {id : Nat} {b old : List Nat} {np i : Nat} {s : PS} {n came : Nat} {f : Nat → Bool} (h : Inv id b old np i s n came f) (hb : b.length ≤ 5000) (ho : old.length ≤ 5000) : s.l.length ≤ 3000 ∧ n ≤ 20 ∧ came ≤ 1 := by
  have c1 := cnt_bounds hb
  have c2 := cnt_bounds ho
  rcases h with ⟨_, rfl, rfl, _, _, h | h⟩ | ⟨_, _, h, rfl, _, _, rfl, _⟩
  · subst h; exact ⟨Nat.zero_le _, by omega, by omega⟩
  · have := ps_len h.2.2; exact ⟨by omega, by omega, by omega⟩
  · have := ps_len h; refine ⟨by omega, by omega, ?_⟩; split <;> omega
theorem inv_start (id : Nat) (b old : List Nat) (np : Nat) (h : 2 ≤ id) : Inv id b old np 0 ⟨0, 0, []⟩ 0 0 (fun _ => false) := .inl ⟨by show 0 < id; omega, rfl, rfl, (fun _ => rfl), Nat.zero_le _, .inl rfl⟩
/-- a part of the elder message. -/
theorem inv_old {id : Nat} {b old : List Nat} {np i : Nat} {s : PS} {n came : Nat} {f : Nat → Bool} (h : Inv id b old np i s n came f) (hid : 2 ≤ id) (hi : i < np) (j : Nat) (hj : j < cntN old.length) :
    ∃ s' ok msg, stepP s (id - 1) j (cntN old.length) (chunk old j) = (s', ok, 0, msg) ∧ Inv id b old np (i + 1) s' n came f ∧ (ok = true → n = 0) := by
  rcases h with ⟨h1, rfl, rfl, h2, h3, h4 | ⟨h4, h5, h6⟩⟩ | ⟨h1, h2, h3, h4, h5, h6, h7, h8⟩
  · subst h4
    refine ⟨_, _, _, step_newer (by show 0 < id - 1; omega) hj, .inl ⟨by show id - 1 < id; omega, rfl, rfl, h2, by omega, .inr ⟨by show id - 1 + 1 = id; omega, rfl, ?_⟩⟩, fun _ => rfl⟩
    exact ps_snoc (ps_nil old) hj (by simp)
  · by_cases hm : j ∈ s.l.map (·.1)
    · exact ⟨_, _, _, step_had (by omega) h6 h5 hm, .inl ⟨h1, rfl, rfl, h2, by omega, .inr ⟨h4, h5, h6⟩⟩, fun _ => rfl⟩
    · exact ⟨_, _, _, step_more (by omega) h6 h5 hj hm, .inl ⟨by show id - 1 < id; omega, rfl, rfl, h2, by omega, .inr ⟨by show id - 1 + 1 = id; omega, rfl, ps_snoc h6 hj hm⟩⟩, fun _ => rfl⟩
  · exact ⟨_, _, _, step_elder (by omega) j, .inr ⟨h1, h2, h3, h4, h5, h6, h7, fun k hk => h8 k (by omega)⟩, fun h => by cases h⟩
/-- a part of the message. -/
theorem inv_new {id : Nat} {b old : List Nat} {np i : Nat} {s : PS} {n came : Nat} {f : Nat → Bool} (h : Inv id b old np i s n came f) (k : Nat) (hk : k < cntN b.length) (hi : i < np ∨ k + np = i) :
    ∃ s' ok msg, stepP s id k (cntN b.length) (chunk b k) = (s', ok, 0, msg) ∧ Inv id b old np (i + 1) s' (if f k then n else n + 1) (if ok then came + 1 else came) (fun j => if j = k then true else f j) ∧ s'.id = id ∧ s'.l.length = (if f k then n else n + 1) ∧ (ok = true → (n + 1 = cntN b.length ∧ msg = b ∧ f k = false)) := by
  rcases h with ⟨h1, rfl, rfl, h2, h3, _⟩ | ⟨h1, h2, h3, rfl, h5, h6, rfl, h8⟩
  · have hkk : ∀ x, x + np < i + 1 → x = k := by intro x hx; omega
    rw [h2 k]
    refine ⟨_, _, _, step_newer h1 hk, .inr ⟨rfl, rfl, ps_snoc (ps_nil b) hk (by simp), rfl, Nat.le_refl _, fun x hx => ?_, ?_, fun x hx => by rw [hkk x hx]; simp⟩, rfl, rfl, fun h => ?_⟩
    · simp [h2 x]
    · by_cases hn : 1 = cntN b.length
      · simp [← hn]
      · simp [hn]
    · rw [decide_eq_true_eq] at h
      exact ⟨h, by rw [if_pos h], rfl⟩
  · by_cases hm : k ∈ s.l.map (·.1)
    · have hf : f k = true := (h6 k hk).2 hm
      rw [hf]
      refine ⟨_, _, _, step_had h1 h3 h2 hm, .inr ⟨h1, h2, h3, rfl, h5, fun x hx => ?_, rfl, fun x hx => ?_⟩, h1, rfl, fun h => by cases h⟩
      · by_cases hxk : x = k
        · subst hxk; simpa using hm
        · simp only [hxk, if_false]; exact h6 x hx
      · by_cases hxi : x + np < i
        · exact h8 x hxi
        · have : x = k := by omega
          rw [this]; exact hm
    · have hf : f k = false := by
        cases hfk : f k with
        | false => rfl
        | true => exact absurd ((h6 k hk).1 hfk) hm
      rw [hf]
      have hps := ps_snoc h3 hk hm
      refine ⟨_, _, _, step_more h1 h3 h2 hk hm, .inr ⟨rfl, rfl, hps, by simp, by simp, fun x hx => ?_, ?_, fun x hx => ?_⟩, rfl, by simp, fun h => ?_⟩
      · by_cases hxk : x = k
        · subst hxk; simp
        · simp only [hxk, if_false, List.map_append, List.mem_append, List.map_cons, List.map_nil, List.mem_singleton, or_false]
          exact h6 x hx
      · have hle := ps_len hps
        rw [List.length_append, List.length_singleton] at hle
        have hlt : ¬ s.l.length = cntN b.length := by omega
        by_cases hn : s.l.length + 1 = cntN b.length
        · simp [hn, hlt]
        · simp [hn, hlt]
      · rw [List.map_append, List.mem_append]
        by_cases hxi : x + np < i
        · exact .inl (h8 x hxi)
        · have : x = k := by omega
          rw [this]; exact .inr (by simp)
      · rw [decide_eq_true_eq] at h
        exact ⟨h, by rw [if_pos h], rfl⟩
theorem nod_sub : ∀ (l1 l2 : List Nat), l1.Nodup → (∀ x ∈ l1, x ∈ l2) → l1.length ≤ l2.length
  | [], _, _, _ => Nat.zero_le _
  | a :: l1, l2, hn, hs => by
    have ha := hs a (List.mem_cons_self ..)
    rw [List.nodup_cons] at hn
    have h := nod_sub l1 (l2.erase a) hn.2 (fun x hx => (List.mem_erase_of_ne (by rintro rfl; exact hn.1 hx)).2 (hs x (List.mem_cons_of_mem _ hx)))
    rw [List.length_erase_of_mem ha] at h
    have := List.length_pos_of_mem ha
    rw [List.length_cons]
    omega
/-- in the end it came once. -/
theorem inv_end {id : Nat} {b old : List Nat} {np : Nat} {s : PS} {n came : Nat} {f : Nat → Bool} (h : Inv id b old np (np + cntN b.length) s n came f) : came = 1 := by
  have hc := cnt_pos b.length
  rcases h with ⟨_, _, _, _, h, _⟩ | ⟨h1, h2, h3, rfl, h5, h6, rfl, h8⟩
  · omega
  · have h9 : cntN b.length ≤ s.l.length := by
      have h10 := nod_sub (List.range (cntN b.length)) (s.l.map (·.1)) List.nodup_range (fun x hx => h8 x (by have := List.mem_range.1 hx; omega))
      rw [List.length_range, List.length_map] at h10
      exact h10
    have := ps_len h3
    rw [if_pos (by omega)]
/-- what Put answers, beside a row of bools. -/
def PutB (p h : Nat) (s : PS) (ok : Bool) (msg : List Nat) (ln : Nat) (w : World) (e : Ending) (w' : World) : Prop :=
  ∃ m' E' va vc, e = .returned (.tuple #[.slice va ln vc, .bool ok, .int .i64 0]) ∧ Sl w' va msg ∧ GM w' p p s.id s.cnt m' E' ∧ pairs E' = s.l ∧ (∀ W, Below p W w → Below p W w') ∧ w.heap.size ≤ w'.heap.size ∧ (∀ v, w.heap[h]? = some (.cells v 4) → w'.heap[h]? = some (.cells v 4))
theorem putB {p h : Nat} {s s' : PS} {m : Option Nat} {E : List (Nat × Part)} {a : Option Addr} {n cap : Nat} {w : World} (hg : GM w p p s.id s.cnt m E) (hE : pairs E = s.l) {id pl cn : Nat} {body msg : List Nat} {ok : Bool} {ln : Nat} (hok : PartOk id pl cn body) (hn : n = (partL id pl cn body).length) (h8 : ∀ c ∈ body, c < 256) (hs : Sl w a (partL id pl cn body)) (hlo : p ≤ w.heap.size) (hl : s.l.length ≤ 3000)
    (hst : stepP s id pl cn body = (s', ok, 0, msg)) (hln : ln = msg.length) : Calls Try.prog 12 #[.pointer (some ⟨p, 0, none⟩), .slice a n cap] w (PutB p h s' ok msg ln w) := by
  have hlen : (partL id pl cn body).length ≤ 1000000 := by
    have h1 : (varL id).length ≤ 10 := varL_ten (by have := hok.2.1; omega)
    have h2 : (varL pl).length ≤ 10 := varL_ten (by have := hok.2.2; omega)
    have h3 : (varL cn).length ≤ 10 := varL_ten (by have := hok.2.2; omega)
    have h4 := hok.2.2.2.2.1
    simp only [partL, List.length_append]
    omega
  refine (putC p p s.id s.cnt m E a n cap _ w hg hn hlen (part_byte h8) hs (fun e => (sl_some hs (part_ne _ _ _ _) e).elim) hlo (by rw [← pairs_len, hE]; exact hl)).mono fun e w' hq => ?_
  rw [hE] at hq
  rcases hq with ⟨id', pl', cn', body', k1, k2, m', E', v, he, hg', hp, hf, hr⟩ | ⟨k1, _⟩
  · obtain ⟨rfl, rfl, rfl, rfl⟩ := part_inj hok.2.1 (by have := hok.2.2; omega) hok.2.2.2.1 k2.2.1 (by have := k2.2.2; omega) k2.2.2.2.1 k1
    rw [hst] at he hg' hp hr
    obtain ⟨va, vc, rfl, _, hsl, _, _⟩ := rb_sl hr
    refine ⟨m', E', va, vc, by rw [hln]; exact he, hsl, hg', hp, fun W hW => hf.below hg'.plo (gm_lo hg) hW hlo, hf.size, fun u hu => (hf.block h (Array.getElem?_eq_some_iff.1 hu).1 ?_ ?_).trans hu⟩
    · rintro rfl; have := hg.blk; rw [hu] at this; cases this
    · rintro rfl
      obtain ⟨⟨es, clock, hb, _⟩, _⟩ := gm_mb hg
      rw [hu] at hb; cases hb
  · exact absurd ⟨id, pl, cn, body, rfl, hok⟩ k1
/-- a row of bools. -/
def hadV (n : Nat) (f : Nat → Bool) : Array Value := ((List.range n).map fun k => Value.bool (f k)).toArray
theorem hadV_size (n : Nat) (f : Nat → Bool) : (hadV n f).size = n := by simp [hadV]
theorem hadV_set (n : Nat) (f : Nat → Bool) (k : Nat) (hk : k < n) : (hadV n f).setIfInBounds k (.bool true) = hadV n (fun j => if j = k then true else f j) := by
  unfold hadV
  apply Array.ext
  · simp
  · intro i h1 h2
    simp only [List.setIfInBounds_toArray, List.getElem_toArray, List.getElem_set, List.getElem_map, List.getElem_range]
    by_cases hik : k = i
    · subst hik; simp
    · rw [if_neg hik]; simp [Ne.symm hik]
theorem hadV_cell {w : World} {h n : Nat} {f : Nat → Bool} (hh : w.heap[h]? = some (.cells (hadV n f) 4)) (k : Nat) (hk : k < n) : w.cell? ⟨h, k, none⟩ = some (.bool (f k)) := by
  simp [World.cell?, hh, hadV, hk]
theorem info4 : (Try.prog.info? 4).map (fun i => (i.zero, i.size, i.bytes)) = some (some (.bool false), 1, 1) := by kernel_rfl
theorem make_had (n : Nat) (hn : n ≤ 1000) (w : World) : (Instr.makeSlice 32 (.int .i64 (n : Int)) (.int .i64 (n : Int))).run Try.prog w = .ok (.slice (some ⟨w.heap.size, 0, none⟩) n n) (w.alloc (.cells (hadV n (fun _ => false)) 4)) := by
  obtain ⟨i0, hi, hz0, hz1, hz2⟩ := info_parts info4
  have h := run_make (P := Try.prog) (w := w) 32 4 i0 (.bool false) Try.underlying32 hi hz0 .i64 .i64 (n : Int) (n : Int) (Int.natCast_nonneg _) (Int.le_refl _) (by rw [hz2]; omega) (by omega)
  rw [Int.toNat_natCast, hz1] at h
  rw [h]
  congr 4
  apply Array.ext
  · simp [size_madeCells, hadV]
  · intro i h1 h2
    simp [madeCells, hadV, Value.cells, Nat.mod_one]
end Go.Proofs.Ytellhkcleicfbaa.Fo
