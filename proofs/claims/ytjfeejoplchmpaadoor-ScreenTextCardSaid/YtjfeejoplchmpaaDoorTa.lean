/- Screens: plain signs written cell by cell (pure), Blank of a size that may not be. -/
import Derived.Test.YtjfeejoplchmpaaDoorSn
import Derived.Test.YtjfeejoplchmpaaDoorSp
set_option linter.unusedVariables false
namespace Go.Proofs.YtjfeejoplchmpaaDoor.Ta
open Go Go.RowKit Kit Gm Gv Sa Sb Sd Sf Sg Sh Si Sj Sk Sl Sm

/-- the sign of cell i. -/
def sgn (zs : List Int) (n i : Nat) : Nat := if i < n then (zs.getD i 0).toNat else 32
def rsL (zs : List Int) (n k : Nat) : List Nat := (List.range k).map (sgn zs n)
abbrev ceN (r : Nat) : Ce := ⟨(r : Int), 0, 0, 0, 0⟩
def celL (zs : List Int) (n k q : Nat) : List Ce := (rsL zs n k).map ceN ++ List.replicate (q - k) blk
theorem rs_len (zs : List Int) (n k : Nat) : (rsL zs n k).length = k := by simp [rsL]
theorem rs_at (zs : List Int) (n k i : Nat) (h : i < k) : (rsL zs n k)[i]? = some (sgn zs n i) := by
  simp [rsL, List.getElem?_range h]
theorem cel_zero (zs : List Int) (n q : Nat) : celL zs n 0 q = List.replicate q blk := by simp [celL, rsL]
theorem cel_last (zs : List Int) (n q : Nat) : celL zs n q q = (rsL zs n q).map ceN := by simp [celL]
theorem cel_len (zs : List Int) (n k q : Nat) (h : k ≤ q) : (celL zs n k q).length = q := by simp [celL, rs_len]; omega
theorem cel_head (zs : List Int) (n k q : Nat) (h : k < q) : celL zs n k q = (rsL zs n k).map ceN ++ blk :: List.replicate (q - (k + 1)) blk := by
  rw [celL, show q - k = (q - (k + 1)) + 1 by omega, List.replicate_succ]
theorem rs_next (zs : List Int) (n k : Nat) : rsL zs n (k + 1) = rsL zs n k ++ [sgn zs n k] := by simp [rsL, List.range_succ]
theorem cel_next (zs : List Int) (n k q : Nat) : celL zs n (k + 1) q = (rsL zs n k).map ceN ++ ceN (sgn zs n k) :: List.replicate (q - (k + 1)) blk := by
  rw [celL, rs_next]; simp
theorem cel_stay (zs : List Int) (n k q : Nat) (h : k < q) (hn : n ≤ k) : celL zs n (k + 1) q = celL zs n k q := by
  rw [cel_next, cel_head zs n k q h]
  have : sgn zs n k = 32 := by unfold sgn; rw [if_neg (by omega)]
  rw [this]; rfl
theorem cel_at (zs : List Int) (n k q : Nat) (h : k < q) : (celL zs n (k + 1) q)[k]? = some (ceN (sgn zs n k)) := by
  rw [cel_next, List.getElem?_append_right (by simp [rs_len])]; simp [rs_len]
theorem sgn_in {zs : List Int} {n k i : Nat} (h : ∀ i, i < k → i < n → 32 ≤ zs.getD i 0 ∧ zs.getD i 0 ≤ 126) (hi : i < k) : 32 ≤ sgn zs n i ∧ sgn zs n i ≤ 126 := by
  unfold sgn
  by_cases hn : i < n
  · rw [if_pos hn]; have := h i hi hn; omega
  · rw [if_neg hn]; omega
theorem rs_in {zs : List Int} {n k : Nat} (h : ∀ i, i < k → i < n → 32 ≤ zs.getD i 0 ∧ zs.getD i 0 ≤ 126) : ∀ c ∈ rsL zs n k, 32 ≤ c ∧ c ≤ 126 := by
  intro c hc
  simp only [rsL, List.mem_map, List.mem_range] at hc
  obtain ⟨i, hi, rfl⟩ := hc
  exact sgn_in h hi
theorem ceN_nw (r : Nat) (h : 32 ≤ r ∧ r ≤ 126) : (ceN r).wd = 0 ∧ Cell.mayB (ceN r).r (ceN r).fl (ceN r).fg (ceN r).bg (ceN r).wd = true := by
  refine ⟨rfl, ?_⟩
  have h1 : Cell.noneB (r : Int) = false := by
    unfold Cell.noneB; rw [decide_eq_false_iff_not]; omega
  have h2 : Cell.wideB (r : Int) = false := by
    unfold Cell.wideB; rw [decide_eq_false_iff_not]; omega
  have h3 : Cell.widthZ (r : Int) = 1 := (Cell.widthZ_1 h1 h2).symm
  show Cell.mayB (r : Int) 0 0 0 0 = true
  unfold Cell.mayB
  rw [h3]; rfl
theorem cel_nw {zs : List Int} {n q : Nat} (h : ∀ i, i < q → i < n → 32 ≤ zs.getD i 0 ∧ zs.getD i 0 ≤ 126) : Nw (celL zs n q q) := by
  rw [cel_last]
  intro c hc
  obtain ⟨r, hr, rfl⟩ := List.mem_map.1 hc
  exact ceN_nw r (rs_in h r hr)
theorem cel_r (zs : List Int) (n q : Nat) : (celL zs n q q).map Ce.r = (rsL zs n q).map (fun n : Nat => (n : Int)) := by
  rw [cel_last, List.map_map]; rfl
/-- the line so far. -/
def lineL (C : Nat) (rs : List Nat) (j m : Nat) : List Nat := (rs.drop (j * C)).take m
theorem line_next {C : Nat} {rs : List Nat} {j m c : Nat} (h : rs[j * C + m]? = some c) : lineL C rs j (m + 1) = lineL C rs j m ++ [c] := by
  unfold lineL
  rw [List.take_add_one, List.getElem?_drop, h]; rfl
theorem asc_snoc (l : List Nat) (c : Nat) : asc l ++ ⟨#[UInt8.ofNat c]⟩ = asc (l ++ [c]) := by
  apply ByteArray.ext
  simp [asc, ByteArray.data_append]
theorem asc_snoc' (l : List Nat) (c : Nat) : asc l ++ ⟨#[UInt8.ofNat c]⟩ = asc (l ++ [c]) := asc_snoc l c
theorem put_tr {w : World} {B g : Nat} {v : Value} {O : List ByteArray} (h : Tr w B v O) (hg : g < B) (L : List Ce) : Tr (putR w g L) B v O := by
  refine ⟨h.1, ?_⟩
  rcases h.2 with h | ⟨x, cap, cur, h1, h2, h3, rest⟩
  · exact .inl h
  · exact .inr ⟨x, cap, cur, h1, h2, (setRow_other w g x _ (by omega)).trans h3, rest⟩
theorem put_below {B g : Nat} {W w : World} (h : Below B W w) (hB : B ≤ g) (L : List Ce) : Below B W (putR w g L) :=
  ⟨h.os, h.tape, h.output, by unfold putR; simpa using h.size, fun j hj => (setRow_other w g j _ (by omega)).trans (h.block j hj)⟩
/-- a row of numbers that came in: where it lies. -/
theorem row_plain {k : IntKind} {w : World} {a : Option Addr} {len cap : Nat} {zs : List Int} (h : IsRow k w a len cap zs) (h0 : 0 < len) : len ≤ cap ∧ ∃ b off, a = some ⟨b, off, none⟩ ∧ ∀ i, i < len → w.cell? ⟨b, off + i, none⟩ = some (.int k (zs.getD i 0)) := by
  rcases h with ⟨_, h1, _⟩ | ⟨⟨b, off, sp⟩, rfl, hl, hm, hz, hc, _⟩
  · omega
  · have hsp : sp = none := by simpa [Addr.add] using World.cell?_spot (hc 0 (by omega))
    subst hsp
    refine ⟨hl, b, off, rfl, fun i hi => ?_⟩
    have := hc i (by omega)
    rwa [Sp.add_plain] at this
theorem blankNo (R C : Int) (w : World) (h : ¬ (1 ≤ R ∧ R ≤ 60 ∧ 1 ≤ C ∧ C ≤ 200)) :
    Calls Tryd.prog 10 #[.int .i64 R, .int .i64 C] w fun e w' => (∃ n, n ≠ 0 ∧ e = .returned (.tuple #[svA ⟨0, 0, 0, 0, false, ⟨#[]⟩⟩ none 0 0, .int .i64 n])) ∧ Below w.heap.size w w' := by
  have H18 := Lib.hid (fun w1 => (maySize R C w1).mono fun e w' (h' : _ ∧ _) => (⟨by rw [h'.1, ← size_f h], h'.2⟩ : e = .returned (.bool false) ∧ w1 = w'))
  have hb := below_one w (svO ⟨0, 0, 0, 0, false, ⟨#[]⟩⟩ none 0 0)
  have HB := Lib.hid hb
  clear h hb
  go_enter Tryd.func10, Tryd.ntmps10
  go_wp2_with (go_at_call 18; (with_reducible refine (H18.out _).mono ?_); rintro e w' ⟨rfl, rfl⟩)
  refine bodyPost_ret (v := .tuple #[svA ⟨0, 0, 0, 0, false, ⟨#[]⟩⟩ none 0 0, .int .i64 1]) (by simp [results, Tryd.results10, go_sem]) rfl ?_
  exact ⟨⟨1, by decide, rfl⟩, HB.out⟩
end Go.Proofs.YtjfeejoplchmpaaDoor.Ta
