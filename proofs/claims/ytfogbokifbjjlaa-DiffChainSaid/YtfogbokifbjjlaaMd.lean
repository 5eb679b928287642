/- What was written is read: cells by runs (pure). -/
import Derived.Test.YtfogbokifbjjlaaMc
import Derived.Test.YtfogbokifbjjlaaLf
import Derived.Test.YtfogbokifbjjlaaTk
set_option linter.unusedVariables false
namespace Go.Proofs.Ytfogbokifbjjlaa.Md
open Go Go.RowKit Kit Gm Gv Crc Var Get Bytes WireFirst Ref3 Copy Ap Sa Sb Rd RdA RdB RdC RdF La Lb Ma Mb Fr

theorem num_at (A B : List Nat) (x : Nat) (hx : x < 18446744073709551616) (r : Rdr) (h0 : r.err = 0) (h1 : r.at_ = A.length) : numN (A ++ varL x ++ B) r M64 = ((x : Int), { r with at_ := A.length + (varL x).length }) := by
  have hg := getA_front A B x hx
  unfold numN
  rw [if_neg (by simpa using h0), h1, hg]
  simp only
  have hM : M64 + 1 = 18446744073709551616 := rfl
  rw [if_neg (by simp), if_neg (fun h => by have h2 : M64 < x := Int.ofNat_lt.1 h; omega)]
  congr 2
def bytesOf (ns : List Nat) : List Nat := ns.flatMap varL
theorem bytes_split (ns : List Nat) (k : Nat) (h : k < ns.length) : bytesOf ns = bytesOf (ns.take k) ++ varL ns[k] ++ bytesOf (ns.drop (k + 1)) := by
  have : ns = ns.take k ++ ns[k] :: ns.drop (k + 1) := by rw [← List.drop_eq_getElem_cons h, List.take_append_drop]
  unfold bytesOf
  conv => lhs; rw [this]
  rw [List.flatMap_append, List.flatMap_cons, List.append_assoc]
theorem nums_at (A B : List Nat) (ns : List Nat) (hx : ∀ x ∈ ns, x < 18446744073709551616) (r : Rdr) (h0 : r.err = 0) (h1 : r.at_ = A.length) : ∀ k, k ≤ ns.length → rst (A ++ bytesOf ns ++ B) r k = { r with at_ := A.length + (bytesOf (ns.take k)).length } := by
  intro k
  induction k with
  | zero => intro _; simp [rst, bytesOf, ← h1]
  | succ k ih =>
    intro hk
    rw [rst, ih (by omega)]
    have hs : ns.take (k + 1) = ns.take k ++ [ns[k]] := List.take_succ_eq_append_getElem (by omega)
    have hl : A ++ bytesOf ns ++ B = (A ++ bytesOf (ns.take k)) ++ varL ns[k] ++ (bytesOf (ns.drop (k + 1)) ++ B) := by
      rw [bytes_split ns k (by omega)]; simp only [List.append_assoc]
    rw [hl, num_at _ _ _ (hx _ (List.getElem_mem _)) { r with at_ := A.length + (bytesOf (ns.take k)).length } h0 (by simp)]
    have e : bytesOf (ns.take (k + 1)) = bytesOf (ns.take k) ++ varL ns[k] := by
      rw [hs]; simp only [bytesOf, List.flatMap_append, List.flatMap_cons, List.flatMap_nil, List.append_nil]
    rw [e, List.length_append, List.length_append, Nat.add_assoc]
theorem val_at (A B : List Nat) (ns : List Nat) (hx : ∀ x ∈ ns, x < 18446744073709551616) (r : Rdr) (h0 : r.err = 0) (h1 : r.at_ = A.length) (k : Nat) (hk : k < ns.length) : rva (A ++ bytesOf ns ++ B) r k = (ns[k] : Int) := by
  unfold rva
  rw [nums_at A B ns hx r h0 h1 k (by omega)]
  have hl : A ++ bytesOf ns ++ B = (A ++ bytesOf (ns.take k)) ++ varL ns[k] ++ (bytesOf (ns.drop (k + 1)) ++ B) := by
    rw [bytes_split ns k hk]; simp only [List.append_assoc]
  rw [hl, num_at _ _ _ (hx _ (List.getElem_mem _)) { r with at_ := A.length + (bytesOf (ns.take k)).length } h0 (by simp)]
theorem may_all {r f fg bg wd : Int} (h : Cell.mayB r f fg bg wd = true) : (0 ≤ r ∧ r ≤ 1114111) ∧ (0 ≤ f ∧ f ≤ 255) ∧ (0 ≤ fg ∧ fg < 33554432) ∧ (0 ≤ bg ∧ bg < 33554432) ∧ (0 ≤ wd ∧ wd ≤ 2) := by
  unfold Cell.mayB at h
  simp only [Cell.attrB, Bool.and_eq_true, Bool.or_eq_true, decide_eq_true_eq, beq_iff_eq] at h
  obtain ⟨⟨⟨hf, h1⟩, h2⟩, h3⟩ := h
  have hz : ∀ z, Cell.widthZ r = z → z ≠ 0 → 0 ≤ r ∧ r ≤ 1114111 := by
    intro z hz h0
    have hn : Cell.noneB r = false := by
      cases e : Cell.noneB r with
      | false => rfl
      | true => exact absurd (hz ▸ (Cell.widthZ_0 e).symm) h0
    unfold Cell.noneB at hn
    rw [decide_eq_false_iff_not] at hn
    omega
  refine ⟨?_, hf, Le.colB_le h1, Le.colB_le h2, ?_⟩
  · rcases h3 with (⟨_, h⟩ | ⟨_, h⟩) | ⟨_, h⟩
    · exact hz _ h (by decide)
    · exact hz _ h (by decide)
    · omega
  · rcases h3 with (⟨h, _⟩ | ⟨h, _⟩) | ⟨h, _⟩ <;> omega
abbrev MayC (c : Ce) : Prop := Tj.MayC c
theorem un_back {n : Int} (h0 : 0 ≤ n) (h1 : n < 9223372036854775808) : wrap64 ((un n : Nat) : Int) = n := by
  obtain ⟨k, rfl⟩ := Int.eq_ofNat_of_zero_le h0
  rw [un_nat k (by omega), IntWalk.wrap64_in _ (by omega)]
theorem un_back32 {n : Int} (h0 : 0 ≤ n) (h1 : n < 2147483648) : wrap32 ((un n : Nat) : Int) = n := by
  obtain ⟨k, rfl⟩ := Int.eq_ofNat_of_zero_le h0
  rw [un_nat k (by omega)]
  unfold wrap32; omega
theorem one_bytes (k : Nat) (c : Ce) : varL k ++ oneL c = bytesOf [k, un c.r, un c.fl, un c.fg, un c.bg, un c.wd] := by
  simp [bytesOf, oneP]
/-- a run that was written is read. -/
theorem run_at (A B : List Nat) (k : Nat) (c : Ce) (hk : k < 18446744073709551616) (hc : MayC c) (r : Rdr) (h0 : r.err = 0) (h1 : r.at_ = A.length) :
    okRun (A ++ (varL k ++ oneL c) ++ B) r ∧ rva (A ++ (varL k ++ oneL c) ++ B) r 0 = (k : Int) ∧ cellR (rva (A ++ (varL k ++ oneL c) ++ B) r) = c ∧ rst (A ++ (varL k ++ oneL c) ++ B) r 6 = { r with at_ := A.length + (varL k ++ oneL c).length } := by
  rw [one_bytes]
  have hx : ∀ x ∈ [k, un c.r, un c.fl, un c.fg, un c.bg, un c.wd], x < 18446744073709551616 := by
    intro x hx
    simp only [List.mem_cons, List.not_mem_nil, or_false] at hx
    rcases hx with rfl | rfl | rfl | rfl | rfl | rfl
    · exact hk
    all_goals exact un_lt _
  have hv := val_at A B _ hx r h0 h1
  have v0 := hv 0 (by simp); have v1 := hv 1 (by simp); have v2 := hv 2 (by simp); have v3 := hv 3 (by simp); have v4 := hv 4 (by simp); have v5 := hv 5 (by simp)
  simp only [List.getElem_cons_zero, List.getElem_cons_succ] at v0 v1 v2 v3 v4 v5
  have hs := nums_at A B _ hx r h0 h1 6 (by simp)
  obtain ⟨a, b, d, e, g⟩ := may_all hc
  have hcell : cellR (rva (A ++ bytesOf [k, un c.r, un c.fl, un c.fg, un c.bg, un c.wd] ++ B) r) = c := by
    unfold cellR
    rw [v1, v2, v3, v4, v5, un_back32 a.1 (by omega), un_back b.1 (by omega), un_back d.1 (by omega), un_back e.1 (by omega), un_back g.1 (by omega)]
  refine ⟨⟨by rw [hs]; exact h0, ?_, by rw [hcell]; exact hc⟩, v0, hcell, hs⟩
  rw [v1]
  obtain ⟨j, hj⟩ := Int.eq_ofNat_of_zero_le a.1
  rw [hj, un_nat j (by omega)]
  omega
theorem mem_tw {p : Ce → Bool} {d : Ce} : ∀ t : List Ce, d ∈ t.takeWhile p → p d = true
  | [], h => by simp at h
  | e :: t, h => by
    rw [List.takeWhile_cons] at h
    split at h
    · rcases List.mem_cons.1 h with rfl | h
      · assumption
      · exact mem_tw t h
    · simp at h
theorem drop_tw (p : Ce → Bool) : ∀ t : List Ce, t.drop (t.takeWhile p).length = t.dropWhile p
  | [] => rfl
  | e :: t => by
    rw [List.takeWhile_cons, List.dropWhile_cons]
    split
    · rw [List.length_cons, List.drop_succ_cons]; exact drop_tw p t
    · rfl
theorem drop_run (c : Ce) (t : List Ce) : ∃ T, (c :: t).drop (runL (c :: t)) = T ∧ c :: t = List.replicate (runL (c :: t)) c ++ T ∧ (T = [] ∨ T.head? ≠ some c) := by
  refine ⟨_, rfl, ?_, ?_⟩
  · have h : (c :: t).take (runL (c :: t)) = List.replicate (runL (c :: t)) c := by
      rw [List.eq_replicate_iff]
      have hp := run_pos c t
      refine ⟨by rw [List.length_take, List.length_cons]; omega, fun d hd => ?_⟩
      unfold runL at hd
      rw [List.take_succ_cons] at hd
      rcases List.mem_cons.1 hd with h | h
      · exact h
      · have hpre : t.take (t.takeWhile (· == c)).length = t.takeWhile (· == c) := (List.prefix_iff_eq_take.1 (List.takeWhile_prefix _)).symm
        rw [hpre] at h
        have := mem_tw t h
        simpa using this
    conv => lhs; rw [← List.take_append_drop (runL (c :: t)) (c :: t), h]
  · unfold runL
    rw [List.drop_succ_cons]
    rw [drop_tw]
    cases he : t.dropWhile (· == c) with
    | nil => exact .inl rfl
    | cons d u =>
      right
      have := List.head?_dropWhile_not (p := (· == c)) (l := t)
      rw [he] at this
      simp at this
      simpa using this
/-- cells that were written as runs are read. -/
theorem runs_at : ∀ (m : Nat) (L : List Ce), L.length ≤ m → ∀ (A B : List Nat) (acc : List Ce) (n f : Nat) (r : Rdr), (∀ c ∈ L, MayC c) → r.err = 0 → r.at_ = A.length → acc.length + L.length = n → n < 9223372036854775808 → L.length < f → (acc = [] ∨ L = [] ∨ acc.getLast? ≠ L.head?) →
    runsF (A ++ cellsB L ++ B) n f r acc = some ({ r with at_ := A.length + (cellsB L).length }, acc ++ L) := by
  intro m
  induction m with
  | zero =>
    intro L hL A B acc n f r _ h0 h1 hn _ _ _
    obtain rfl : L = [] := List.eq_nil_of_length_eq_zero (by omega)
    rw [runs_end (by simp at hn; omega), cellsB_nil]
    simp [← h1]
  | succ m ih =>
    intro L hL A B acc n f r hmay h0 h1 hn hn63 hf hlast
    match L, hL, hmay, hn, hf, hlast with
    | [], _, _, hn, _, _ =>
      rw [runs_end (by simp at hn; omega), cellsB_nil]
      simp [← h1]
    | c :: t, hL, hmay, hn, hf, hlast =>
      obtain ⟨T, hT, hrep, hhd⟩ := drop_run c t
      have hp := run_pos c t
      obtain ⟨f, rfl⟩ : ∃ f', f = f' + 1 := ⟨f - 1, by simp at hf; omega⟩
      rw [cellsB_cons, hT]
      rw [List.length_cons] at hL hn hf
      generalize hk : runL (c :: t) = k at *
      have hl : A ++ (varL k ++ oneL c ++ cellsB T) ++ B = A ++ (varL k ++ oneL c) ++ (cellsB T ++ B) := by simp only [List.append_assoc]
      obtain ⟨hok, hv0, hcell, hst⟩ := run_at A (cellsB T ++ B) k c (by omega) (hmay c (by simp)) r h0 h1
      have hTl : T.length + k = t.length + 1 := by
        have := congrArg List.length hrep
        simp only [List.length_cons, List.length_append, List.length_replicate] at this
        omega
      rw [hl, runsF, if_neg (by omega)]
      rw [if_pos ⟨hok, by rw [hv0]; omega, by rw [hv0]; omega, by
        rw [hcell]
        rcases hlast with h | h | h
        · exact .inl h
        · cases h
        · exact .inr (by simpa using h)⟩]
      rw [hv0, hcell, hst, Int.toNat_natCast]
      have hl2 : A ++ (varL k ++ oneL c) ++ (cellsB T ++ B) = (A ++ (varL k ++ oneL c)) ++ cellsB T ++ B := by simp only [List.append_assoc]
      rw [hl2]
      have hmT : ∀ d ∈ T, MayC d := fun d hd => hmay d (by rw [hrep]; simp [hd])
      have := ih T (by omega) (A ++ (varL k ++ oneL c)) B (acc ++ List.replicate k c) n f { r with at_ := A.length + (varL k ++ oneL c).length } hmT h0 (by simp) (by simp; omega) hn63 (by omega) (by
        rcases hhd with h | h
        · exact .inr (.inl h)
        · refine .inr (.inr ?_)
          obtain ⟨j, rfl⟩ : ∃ j, k = j + 1 := ⟨k - 1, by omega⟩
          rw [List.replicate_succ', ← List.append_assoc, List.getLast?_append]
          simp
          exact fun e => h e.symm)
      rw [this]
      congr 1
      congr 1
      · simp only [List.length_append]; congr 1; omega
      · rw [List.append_assoc, ← hrep]
end Go.Proofs.Ytfogbokifbjjlaa.Md
