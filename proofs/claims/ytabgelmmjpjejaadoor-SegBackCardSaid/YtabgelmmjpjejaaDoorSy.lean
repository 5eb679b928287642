/- The records of an argument, and what is written of them. -/
import Derived.Test.YtabgelmmjpjejaaDoorSs
import Derived.Test.YtabgelmmjpjejaaDoorHo
set_option linter.unusedVariables false
namespace Go.Proofs.YtabgelmmjpjejaaDoor.Sy
open Go Go.RowKit Kit Crc Var Get Ref3 Copy Bytes Bx Py Py2 Ry Rz Dn Df Dd Da Dc Rs Rf Rg Ar Bg Hd Ho Sn Rh Sr So Sp Sq Sl2 Sl3 Sx Sv Ss


/-- the records of an argument, one by one. -/
structure RA (w : World) (blk off len : Nat) (k : Nat → Int) (s t : Nat → Nat) (ad : Nat → Option Addr) (c : Nat → Nat) (b : Nat → List Nat) : Prop where
  c0 : ∀ i, i < len → w.cell? ⟨blk, off + i * 4, none⟩ = some (.int .i64 (k i))
  c1 : ∀ i, i < len → w.cell? ⟨blk, off + i * 4 + 1, none⟩ = some (.int .u64 (s i : Int))
  c2 : ∀ i, i < len → w.cell? ⟨blk, off + i * 4 + 2, none⟩ = some (.int .u64 (t i : Int))
  c3 : ∀ i, i < len → w.cell? ⟨blk, off + i * 4 + 3, none⟩ = some (.slice (ad i) (b i).length (c i))
  sl : ∀ i, i < len → Sl w (ad i) (b i)
  nil : ∀ i, i < len → ad i = none → c i = 0
  cap : ∀ i, i < len → (b i).length ≤ c i
  lt : ∀ i, i < len → ∀ x ∈ b i, x < 256
  wf : ∀ i, i < len → s i < 18446744073709551616 ∧ t i < 18446744073709551616
theorem ra_of {w : World} {a : Option Addr} {len cap : Nat} {F : Nat → RV} (h : IsRecs w a len cap F) : ∃ blk off k s t ad c b, (0 < len → a = some ⟨blk, off, none⟩) ∧ RA w blk off len k s t ad c b := by
  rcases h.2.2 with h0 | ⟨blk, off, ha, hc⟩
  · subst h0
    exact ⟨0, 0, fun _ => 0, fun _ => 0, fun _ => 0, fun _ => none, fun _ => 0, fun _ => [], (fun h => absurd h (by omega)), ⟨fun i hi => absurd hi (by omega), fun i hi => absurd hi (by omega), fun i hi => absurd hi (by omega), fun i hi => absurd hi (by omega), fun i hi => absurd hi (by omega), fun i hi => absurd hi (by omega), fun i hi => absurd hi (by omega), fun i hi => absurd hi (by omega), fun i hi => absurd hi (by omega)⟩⟩
  · have e : ∀ i, i < len → ∃ l : List Nat, l.length = (F i).m ∧ (∀ c ∈ l, c < 256) ∧ Sl w (F i).a l ∧ ((F i).a = none → (F i).c = 0) ∧ (F i).m ≤ (F i).c := by
      intro i hi
      obtain ⟨l, h1, h2, h3, h4, h5, _⟩ := row_bytes (hc i hi).2.2.2.2.2.2
      exact ⟨l, h1, h2, h3, h4, h5⟩
    obtain ⟨b, hb⟩ := Go.Deep.choose_lt e
    refine ⟨blk, off, fun i => (F i).k, fun i => (F i).s, fun i => (F i).t, fun i => (F i).a, fun i => (F i).c, b, fun _ => ha, ⟨fun i hi => (hc i hi).1, fun i hi => (hc i hi).2.1, fun i hi => (hc i hi).2.2.1, fun i hi => ?_, fun i hi => (hb i hi).2.2.1, fun i hi => (hb i hi).2.2.2.1, fun i hi => ?_, fun i hi => (hb i hi).2.1, fun i hi => ⟨(hc i hi).2.2.2.2.1, (hc i hi).2.2.2.2.2.1⟩⟩⟩
    · rw [(hb i hi).1]; exact (hc i hi).2.2.2.1
    · rw [(hb i hi).1]; exact (hb i hi).2.2.2.2
theorem RA.then_ {B : Nat} {w w1 : World} {blk off len : Nat} {k : Nat → Int} {s t : Nat → Nat} {ad : Nat → Option Addr} {c : Nat → Nat} {b : Nat → List Nat} (h : RA w blk off len k s t ad c b) (hb : Below B w w1) (hB : w.heap.size ≤ B) : RA w1 blk off len k s t ad c b :=
  ⟨fun i hi => cell_then hb hB (h.c0 i hi), fun i hi => cell_then hb hB (h.c1 i hi), fun i hi => cell_then hb hB (h.c2 i hi), fun i hi => cell_then hb hB (h.c3 i hi), fun i hi => sl_then hb hB (h.sl i hi), h.nil, h.cap, h.lt, h.wf⟩
/-- the records of a list are those of the argument. -/
def MatR (k : Nat → Int) (s t : Nat → Nat) (b : Nat → List Nat) (rs : List R4) : Prop := ∀ j (h : j < rs.length), k j = (rs[j].K : Int) ∧ s j = rs[j].s ∧ t j = rs[j].t ∧ b j = rs[j].b ∧ rs[j].may ∧ rs[j].b.length ≤ 300
def recAt (k : Nat → Int) (s t : Nat → Nat) (b : Nat → List Nat) (i : Nat) : R4 := ⟨(k i).toNat, s i, t i, b i⟩
theorem mat_snoc {k : Nat → Int} {s t : Nat → Nat} {b : Nat → List Nat} {rs : List R4} {i : Nat} (h : MatR k s t b rs) (hi : rs.length = i) (hm : mayR (k i) (s i) (t i) (b i).length = true) (h3 : (b i).length ≤ 300) : MatR k s t b (rs ++ [recAt k s t b i]) := by
  intro j hj
  by_cases h1 : j < rs.length
  · rw [List.getElem_append_left h1]; exact h j h1
  · have : j = rs.length := by simp at hj; omega
    subst this
    have hk := (mayR_of hm).1
    have hk2 : ((k rs.length).toNat : Int) = k rs.length := by subst hi; omega
    subst hi
    simp only [List.getElem_concat_length, recAt, R4.may]
    refine ⟨hk2.symm, trivial, trivial, trivial, ?_, h3⟩
    rw [hk2]; exact hm
theorem mat_all {k : Nat → Int} {s t : Nat → Nat} {b : Nat → List Nat} {rs : List R4} (h : MatR k s t b rs) : ∀ r ∈ rs, r.may ∧ r.b.length ≤ 300 := by
  intro r hr
  obtain ⟨j, hj, rfl⟩ := List.getElem_of_mem hr
  exact (h j hj).2.2.2.2
theorem enc_len {r : R4} (h : r.may ∧ r.b.length ≤ 300) : r.enc.length ≤ 337 := by
  obtain ⟨h1, h2, h3, h4, h5⟩ := mayR_of h.1
  have a := varL_ten (u64_of h3)
  have b := varL_ten (u64_of h4)
  have c := varL_ten (n := r.b.length) (by have := h.2; omega)
  have := h.2
  unfold R4.enc; rw [recL_len]; omega
theorem flat_len {rs : List R4} (h : ∀ r ∈ rs, r.may ∧ r.b.length ≤ 300) : (rs.flatMap R4.enc).length ≤ 337 * rs.length := by
  induction rs with
  | nil => simp
  | cons r rs ih =>
    rw [List.flatMap_cons, List.length_append, List.length_cons]
    have a := enc_len (h r (List.mem_cons_self ..))
    have b := ih (fun q hq => h q (List.mem_cons_of_mem _ hq))
    omega
theorem flat_snoc (X : List Nat) (rs : List R4) (r : R4) : X ++ (rs ++ [r]).flatMap R4.enc = X ++ rs.flatMap R4.enc ++ r.enc := by
  rw [List.flatMap_append, List.append_assoc]; simp
theorem enc_rec {k : Nat → Int} {s t : Nat → Nat} {b : Nat → List Nat} {i : Nat} (hm : mayR (k i) (s i) (t i) (b i).length = true) : (recAt k s t b i).enc = encL (k i) (s i) (t i) (b i) ∧ (0 : Nat) = encE (k i) (s i) (t i) (b i) := by
  unfold encL encE
  rw [if_pos hm, if_pos hm]
  exact ⟨rfl, rfl⟩
theorem enc_lt {r : R4} (h : r.may) (hb : ∀ c ∈ r.b, c < 256) : ∀ c ∈ r.enc, c < 256 := by
  have := (mayR_of h).1
  exact recL_lt (by omega) hb

end Go.Proofs.YtabgelmmjpjejaaDoor.Sy
