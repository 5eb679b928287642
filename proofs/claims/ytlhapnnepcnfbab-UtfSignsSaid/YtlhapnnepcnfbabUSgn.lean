/- Signs' bytes in their order. -/
import Derived.Test.YtlhapnnepcnfbabUMath2
import Derived.Test.YtlhapnnepcnfbabUBytes
set_option linter.unusedVariables false
namespace Go.Proofs.Ytlhapnnepcnfbab.USgn
open Go Go.RowKit Words UMath

def lessL : List Int → List Int → Bool
  | _, [] => false
  | [], _ :: _ => true
  | a :: x, b :: y => decide (a < b) || (decide (a = b) && lessL x y)
theorem u8_lt (m n : Int) (h1 : 0 ≤ m ∧ m ≤ 255) (h2 : 0 ≤ n ∧ n ≤ 255) : decide (UInt8.ofNat m.toNat < UInt8.ofNat n.toNat) = decide (m < n) := by
  rw [Bool.eq_iff_iff]; simp [UInt8.lt_iff_toNat_lt]; omega
theorem u8_eq (m n : Int) (h1 : 0 ≤ m ∧ m ≤ 255) (h2 : 0 ≤ n ∧ n ≤ 255) : (UInt8.ofNat m.toNat == UInt8.ofNat n.toNat) = decide (m = n) := by
  rw [Bool.eq_iff_iff, beq_iff_eq, decide_eq_true_iff, ← UInt8.toNat_inj]; simp; omega
theorem less_map (l : List Int) : ∀ m : List Int, (∀ c ∈ l, 0 ≤ c ∧ c ≤ 255) → (∀ c ∈ m, 0 ≤ c ∧ c ≤ 255) → Op.bytesLess (l.map fun n : Int => UInt8.ofNat n.toNat) (m.map fun n : Int => UInt8.ofNat n.toNat) = lessL l m := by
  induction l with
  | nil => intro m _ _; cases m <;> simp [Op.bytesLess, lessL]
  | cons a x ih =>
    intro m hl hm
    cases m with
    | nil => simp [Op.bytesLess, lessL]
    | cons b y =>
      rw [List.map_cons, List.map_cons, Op.bytesLess, lessL, ih y (fun c hc => hl c (by simp [hc])) (fun c hc => hm c (by simp [hc])), u8_lt a b (hl a (by simp)) (hm b (by simp)), u8_eq a b (hl a (by simp)) (hm b (by simp))]
theorem enc_cases (a : Int) (ha : signB a = true) : (a < 128 ∧ encZ a = [a]) ∨ (128 ≤ a ∧ a < 2048 ∧ encZ a = [192 + a / 64, 128 + a % 64]) ∨ (2048 ≤ a ∧ a < 65536 ∧ encZ a = [224 + a / 4096, 128 + a / 64 % 64, 128 + a % 64]) ∨ (65536 ≤ a ∧ encZ a = [240 + a / 262144, 128 + a / 4096 % 64, 128 + a / 64 % 64, 128 + a % 64]) := by
  have hf : fixZ a = a := by unfold fixZ; rw [ha]; rfl
  unfold encZ tailZ
  rw [hf]
  by_cases h1 : a < 128
  · left; exact ⟨h1, by rw [if_pos h1]⟩
  · by_cases h2 : a < 2048
    · right; left; exact ⟨by omega, h2, by rw [if_neg h1, if_pos h2]⟩
    · by_cases h3 : a < 65536
      · right; right; left; exact ⟨by omega, h3, by rw [if_neg h1, if_neg h2, if_pos h3]⟩
      · right; right; right; exact ⟨by omega, by rw [if_neg h1, if_neg h2, if_neg h3]⟩
theorem less_L (a b : Int) (ha : signB a = true) (hb : signB b = true) : lessL (encZ a) (encZ b) = decide (a < b) := by
  have h1 := sign_in ha
  have h2 := sign_in hb
  rcases enc_cases a ha with ⟨x1, ea⟩ | ⟨x1, x2, ea⟩ | ⟨x1, x2, ea⟩ | ⟨x1, ea⟩ <;> rcases enc_cases b hb with ⟨y1, eb⟩ | ⟨y1, y2, eb⟩ | ⟨y1, y2, eb⟩ | ⟨y1, eb⟩
  all_goals
    rw [ea, eb, Bool.eq_iff_iff]
    simp only [lessL, Bool.or_eq_true, Bool.and_eq_true, decide_eq_true_eq, Bool.false_eq_true, and_false, or_false, and_true]
    try omega
theorem less_enc (a b : Int) (ha : signB a = true) (hb : signB b = true) : Op.bytesLess (UBytes.strL (encZ a)).toList (UBytes.strL (encZ b)).toList = decide (a < b) := by
  rw [UBytes.strL_list, UBytes.strL_list, less_map _ _ (enc_byte a) (enc_byte b), less_L a b ha hb]
theorem enc_inj {a b : Int} (ha : signB a = true) (hb : signB b = true) (h : encZ a = encZ b) : a = b := by
  have h1 := read_enc a
  have h2 := read_enc b
  rw [h, h2] at h1
  have hfa : fixZ a = a := by unfold fixZ; rw [ha]; rfl
  have hfb : fixZ b = b := by unfold fixZ; rw [hb]; rfl
  rw [hfa, hfb] at h1
  simp at h1
  exact h1.symm
theorem eq_enc (a b : Int) (ha : signB a = true) (hb : signB b = true) : ((UBytes.strL (encZ a)).toList == (UBytes.strL (encZ b)).toList) = (a == b) := by
  rw [UBytes.strL_inj (enc_byte a) (enc_byte b), Bool.eq_iff_iff, decide_eq_true_iff, beq_iff_eq]
  exact ⟨enc_inj ha hb, fun h => by rw [h]⟩
/-- no sign's bytes begin another's. -/
theorem front_ne (a b : Int) (h : (encZ a).length < (encZ b).length) : (((UBytes.strL (encZ b)).extract 0 (encZ a).length).toList == (UBytes.strL (encZ a)).toList) = false := by
  have e1 : ((UBytes.strL (encZ b)).extract 0 (encZ a).length).toList = ((encZ b).take (encZ a).length).map fun n : Int => UInt8.ofNat n.toNat := by
    have := UBytes.strL_list (encZ b)
    rw [ByteArray.toList_eq] at this
    rw [ByteArray.toList_eq, ByteArray.data_extract, Array.toList_extract]
    simp [this, List.extract_eq_take_drop, List.map_take]
  rw [e1, UBytes.strL_list, beq_eq_false_iff_ne]
  intro he
  have hb2 : ∀ c ∈ (encZ b).take (encZ a).length, 0 ≤ c ∧ c ≤ 255 := fun c hc => enc_byte b c (List.mem_of_mem_take hc)
  have := congrArg (List.map fun u : UInt8 => (u.toNat : Int)) he
  simp only [List.map_map, Function.comp_def] at this
  rw [UBytes.back_list hb2, UBytes.back_list (enc_byte a)] at this
  have hp := (part_enc b (encZ a).length (enc_len4 a).1 h).1
  rw [this, read_enc] at hp
  cases hp
end Go.Proofs.Ytlhapnnepcnfbab.USgn
