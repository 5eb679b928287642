/- Records that were written, read. -/
import Derived.Test.YtabgelmmjpjejaaDoorSl3
set_option linter.unusedVariables false
namespace Go.Proofs.YtabgelmmjpjejaaDoor.Sx
open Go Go.RowKit Kit Crc Var Get Ref3 Copy Bytes Bx Py Py2 Ry Rz Dn Df Dd Da Dc Rs Rf Rg Ar Bg Hd Sn Rh Sr So Sp Sq Sl2 Sl3


/-- a record, as its fields. -/
structure R4 where
  K : Nat
  s : Nat
  t : Nat
  b : List Nat
def R4.may (r : R4) : Prop := mayR (r.K : Int) r.s r.t r.b.length = true
def R4.enc (r : R4) : List Nat := recL r.K r.s r.t r.b
def R4.dec (r : R4) : Dec := ⟨0, r.K, r.s, r.t, r.b, r.enc.length⟩
/-- what a reading finds in records that were written one behind the other. -/
def runL (F : Nat) : List R4 → List (Dec × Nat) → Nat → List (Dec × Nat) × Nat
  | [], P, g => (P, g)
  | r :: rs, P, g => if folL F P r.dec = true then runL F rs (P ++ [(r.dec, g)]) (g + r.enc.length) else (P, g)
theorem decA_rec (X Y : List Nat) (r : R4) (h : r.may) : decA (X ++ (r.enc ++ Y)) (X.length : Int) = r.dec := by
  rw [decA, if_neg (by rw [List.length_append]; omega), Int.toNat_natCast, List.drop_left]
  exact dec_on r.K r.s r.t r.b Y h
theorem decA_end (X : List Nat) : decA X (X.length : Int) = bad 3 := by
  rw [decA, if_neg (by omega), Int.toNat_natCast, List.drop_length]; rfl
theorem rd_run (F : Nat) (rs : List R4) : ∀ (X : List Nat) (P : List (Dec × Nat)) (m : Nat), (∀ r ∈ rs, r.may) → (X ++ rs.flatMap R4.enc).length < X.length + m → rdL (X ++ rs.flatMap R4.enc) F m P X.length = runL F rs P X.length := by
  induction rs with
  | nil =>
    intro X P m _ _
    rw [List.flatMap_nil, List.append_nil, runL, rdL_stop]
    rw [decA_end]
    exact fun h => absurd h.1 (by decide)
  | cons r rs ih =>
    intro X P m hm hl
    have hd := decA_rec X (rs.flatMap R4.enc) r (hm r (List.mem_cons_self ..))
    rw [List.flatMap_cons] at hl ⊢
    have h10 : 0 < r.enc.length := by
      have a := varL_pos r.s
      unfold R4.enc; rw [recL_len]; omega
    rw [List.length_append, List.length_append] at hl
    cases m with
    | zero => omega
    | succ m =>
      rw [rdL, hd, runL]
      by_cases hf : folL F P r.dec = true
      · rw [if_pos ⟨rfl, hf⟩, if_pos hf]
        have h := ih (X ++ r.enc) (P ++ [(r.dec, X.length)]) m (fun q hq => hm q (List.mem_cons_of_mem _ hq)) (by rw [List.length_append, List.length_append]; omega)
        rw [List.append_assoc, List.length_append] at h
        exact h
      · rw [if_neg (fun h => hf h.2), if_neg hf]
/-- what Read finds behind a good beginning. -/
theorem rdP_run (F : Nat) (rs : List R4) (X : List Nat) (hX : X.length = 20) (hm : ∀ r ∈ rs, r.may) : rdP (X ++ rs.flatMap R4.enc) F = runL F rs [] 20 := by
  unfold rdP
  have h := rd_run F rs X [] ((X ++ rs.flatMap R4.enc).length + 1) hm (by omega)
  rw [hX] at h
  exact h
theorem foldl_num (m : List Nat) : ∀ acc, m.foldl (fun n c => n * 256 + c) acc = acc * 256 ^ m.length + numL m := by
  induction m with
  | nil => intro acc; simp [numL]
  | cons c m ih =>
    intro acc
    unfold numL
    rw [List.foldl_cons, List.foldl_cons, ih, ih (0 * 256 + c), List.length_cons, Nat.pow_succ, Nat.add_mul, Nat.zero_mul, Nat.zero_add, Nat.mul_assoc, Nat.mul_comm 256, Nat.add_assoc]
theorem numL_app (l m : List Nat) : numL (l ++ m) = numL l * 256 ^ m.length + numL m := by
  unfold numL; rw [List.foldl_append]; exact foldl_num m _
/-- a beginning that Header wrote is good. -/
theorem hd_good (n f : Nat) (Y : List Nat) (h : hdOk n f) : hdN (hdL n f ++ Y) = n ∧ hdV (hdL n f ++ Y) = f ∧ hdY (hdL n f ++ Y) := by
  obtain ⟨h1, h2, h3, h4⟩ := h
  have e1 : hdN (hdL n f ++ Y) = n := by
    have : ((hdL n f ++ Y).drop 4).take 4 = fourL (n : Int) := rfl
    rw [hdN, this]; exact four_num n (by omega)
  have e2 : hdV (hdL n f ++ Y) = f := by
    have : ((hdL n f ++ Y).drop 8).take 8 = fourL ((f / 4294967296 : Nat) : Int) ++ fourL ((f % 4294967296 : Nat) : Int) := rfl
    rw [hdV, this]
    have a := four_num (f / 4294967296) (by omega)
    have b := four_num (f % 4294967296) (by omega)
    rw [numL_app, a, b, fourL_len, show 256 ^ 4 = 4294967296 from rfl]
    exact Nat.div_add_mod' f 4294967296
  refine ⟨e1, e2, ?_, ?_, ?_⟩
  · rw [List.length_append, hdL_len]; exact Nat.le_add_right _ _
  · rw [e1, e2]; exact ⟨h1, h2, h3, h4⟩
  · rw [e1, e2]; exact List.take_left' (hdL_len n f)

end Go.Proofs.YtabgelmmjpjejaaDoor.Sx
