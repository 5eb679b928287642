/- tiklaw9.cut and tikref.CopyInts: contracts. -/
import Derived.Test.YtkpneocolbmnpaaSgrList
import Derived.Test.YtkpneocolbmnpaaParams
import Derived.LoopTactic
set_option linter.unusedVariables false
namespace Go.Proofs.Ytkpneocolbmnpaa.SgrCut
open Go Go.RowKit Kit Sgr Col Apply Cell Params SgrFirst SgrList

theorem any_at {l : List Int} {k : Nat} (hk : k < l.length) : (l.drop k).any isC = (isC l[k] || (l.drop (k + 1)).any isC) := by
  rw [List.drop_eq_getElem_cons hk]; rfl
theorem bad_at {l : List Int} {k : Nat} (hk : k + 1 < l.length) : badAt (l.drop k) = ((isC l[k] && (l[k + 1] != 5 && l[k + 1] != 2)) || badAt (l.drop (k + 1))) := by
  rw [List.drop_eq_getElem_cons (by omega : k < l.length), List.drop_eq_getElem_cons hk]; rfl
theorem bad_last {l : List Int} {k : Nat} (hk : k + 1 = l.length) : badAt (l.drop k) = isC (l[k]'(by omega)) := by
  rw [List.drop_eq_getElem_cons (by omega : k < l.length), List.drop_eq_nil_of_le (by omega)]; rfl
theorem isC_def (c : Int) : isC c = (c == 38 || c == 48) := rfl
set_option maxRecDepth 100000 in
theorem cutEmpty (a : Option Addr) (cap : Nat) (w : World) : Calls Try.prog 24 #[.slice a 0 cap] w fun e w' => e = .returned (.bool (cutL [])) ∧ w = w' := by
  go_enter Try.func24, Try.ntmps24
  go_wp2
  refine wp_loop_rounds 1 ?_
  rw [rounds_succ]
  go_wp2
  refine wp_loop_rounds 1 ?_
  rw [rounds_succ]
  go_wp2
  go_ret
  exact ⟨rfl, rfl⟩
set_option maxRecDepth 100000 in
set_option maxHeartbeats 2000000 in
theorem cutRow (b off cap : Nat) (l : List Int) (w : World) (h0 : 0 < l.length) (hn : l.length < 9223372036854775000) (h : Ints w (some ⟨b, off, none⟩) l) :
    Calls Try.prog 24 #[.slice (some ⟨b, off, none⟩) l.length cap] w fun e w' => e = .returned (.bool (cutL l)) ∧ w = w' := by
  generalize hR : cutL l = R
  have HR := Lib.hid (show cutL l = R from hR)
  have HI := Lib.hid h
  obtain ⟨k0, hk0⟩ : ∃ k0, k0 = l.length - 4 := ⟨_, rfl⟩
  have hk0l : k0 ≤ l.length := by omega
  have hT0 := Lib.hid (show tailC l = (l.drop k0).any isC from by rw [tailC, hk0])
  clear hR h
  have HK := Lib.hid hk0
  clear hk0
  go_enter Try.func24, Try.ntmps24
  go_wp2
  all_goals
    go_loop [3] (fun s3 => ∃ k : Nat, k ≤ l.length ∧ s3 = .int .i64 (k : Int) ∧ Hid (tailC l = (l.drop k).any isC)) (fun s3 => l.length - (intOf s3).toNat)
    case atStart => (have hkk := HK.out; exact ⟨k0, hk0l, by (congr 1; omega), hT0⟩)
    case round =>
      obtain ⟨k, hk, rfl, hT⟩ := hrel
      by_cases hlt : k < l.length
      · have hcell := Col.ints_at HI.out k hlt
        have ha := Lib.hid (any_at hlt)
        generalize l[k] = c at hcell ha
        by_cases hC : c = 38 ∨ c = 48
        · have HX := Lib.hid (show true = R from by
            rw [← HR.out, cutL, hT.out, ha.out]
            rcases hC with rfl | rfl <;> simp [isC])
          clear ha hT
          rcases hC with rfl | rfl
          all_goals
            go_wp2
            go_ret
            exact ⟨ret_bool HX.out, rfl⟩
        · have h38 : (c == 38) = false := by simp; omega
          have h48 : (c == 48) = false := by simp; omega
          have HX := Lib.hid (show tailC l = (l.drop (k + 1)).any isC from by rw [hT.out, ha.out]; simp [isC, h38, h48])
          clear ha hT hC
          go_wp2
          go_round
          case rel => exact ⟨k + 1, by omega, by go_num, HX⟩
          case measure => simp [intOf]; omega
      · obtain rfl : k = l.length := by omega
        have HT := Lib.hid (show tailC l = false from by rw [hT.out, List.drop_length]; rfl)
        clear hT
        go_wp2
        go_loop [4] (fun s4 => ∃ k : Nat, k ≤ l.length ∧ s4 = .int .i64 (k : Int) ∧ Hid (badAt l = badAt (l.drop k))) (fun s4 => l.length - (intOf s4).toNat)
        case atStart => exact ⟨0, Nat.zero_le _, rfl, Lib.hid rfl⟩
        case round =>
          obtain ⟨k, hk, rfl, hB⟩ := hrel
          by_cases hlt : k < l.length
          · have hcell := Col.ints_at HI.out k hlt
            by_cases hl1 : k + 1 < l.length
            · have hcell2 := Col.ints_at HI.out (k + 1) hl1
              have hcell3 : w.cell? ⟨b, off + k + 1, none⟩ = some (.int .i64 l[k + 1]) := by rw [Nat.add_assoc]; exact hcell2
              have hb := Lib.hid (bad_at hl1)
              generalize l[k] = c at hcell hb
              generalize l[k + 1] = d at hcell2 hcell3 hb
              have hne : ((k : Int) + 1 == (l.length : Int)) = false := by simp; omega
              by_cases hC : c = 38 ∨ c = 48
              · by_cases hD : d = 5 ∨ d = 2
                · have HX := Lib.hid (show badAt l = badAt (l.drop (k + 1)) from by rw [hB.out, hb.out]; rcases hC with rfl | rfl <;> rcases hD with rfl | rfl <;> simp [isC])
                  clear hb hB
                  rcases hC with rfl | rfl <;> rcases hD with rfl | rfl
                  all_goals
                    go_wp2
                    go_round
                    case rel => exact ⟨k + 1, by omega, by go_num, HX⟩
                    case measure => simp [intOf]; omega
                · have h5 : (d != 5) = true := by simp; omega
                  have h2 : (d != 2) = true := by simp; omega
                  have HX := Lib.hid (show true = R from by
                    rw [← HR.out, cutL, hB.out, hb.out]
                    rcases hC with rfl | rfl <;> simp [isC, h5, h2])
                  clear hb hB hD
                  rcases hC with rfl | rfl
                  all_goals
                    go_wp2
                    go_ret
                    exact ⟨ret_bool HX.out, rfl⟩
              · have h38 : (c == 38) = false := by simp; omega
                have h48 : (c == 48) = false := by simp; omega
                have HX := Lib.hid (show badAt l = badAt (l.drop (k + 1)) from by rw [hB.out, hb.out]; simp [isC, h38, h48])
                clear hb hB hC
                go_wp2
                go_round
                case rel => exact ⟨k + 1, by omega, by go_num, HX⟩
                case measure => simp [intOf]; omega
            · have hb := Lib.hid (bad_last (l := l) (k := k) (by omega))
              have hd := Lib.hid (show l.drop (k + 1) = [] from List.drop_eq_nil_of_le (by omega))
              have heq : ((k : Int) + 1 == (l.length : Int)) = true := by simp; omega
              generalize l[k]'hlt = c at hcell hb
              by_cases hC : c = 38 ∨ c = 48
              · have HX := Lib.hid (show true = R from by
                  rw [← HR.out, cutL, hB.out, hb.out]
                  rcases hC with rfl | rfl <;> simp [isC])
                clear hb hB
                rcases hC with rfl | rfl
                all_goals
                  go_wp2
                  go_ret
                  exact ⟨ret_bool HX.out, rfl⟩
              · have h38 : (c == 38) = false := by simp; omega
                have h48 : (c == 48) = false := by simp; omega
                have HX := Lib.hid (show badAt l = badAt (l.drop (k + 1)) from by rw [hB.out, hb.out, hd.out]; simp [isC, h38, h48, badAt])
                clear hb hB hC
                go_wp2
                go_round
                case rel => exact ⟨k + 1, by omega, by go_num, HX⟩
                case measure => simp [intOf]; omega
          · obtain rfl : k = l.length := by omega
            have HX := Lib.hid (show false = R from by rw [← HR.out, cutL, HT.out, hB.out, List.drop_length]; rfl)
            clear hB
            go_wp2
            go_ret
            exact ⟨ret_bool HX.out, rfl⟩
theorem cutC (a : Option Addr) (l : List Int) (cap : Nat) (w : World) (hn : l.length < 9223372036854775000) (h : Ints w a l) :
    Calls Try.prog 24 #[.slice a l.length cap] w fun e w' => e = .returned (.bool (cutL l)) ∧ w = w' := by
  by_cases h0 : 0 < l.length
  · rcases h with rfl | ⟨b, off, rfl, h⟩
    · simp at h0
    · exact cutRow b off cap l w h0 hn (.inr ⟨b, off, rfl, h⟩)
  · obtain rfl : l = [] := List.eq_nil_of_length_eq_zero (by omega)
    exact cutEmpty a cap w
/-- what CopyInts answers. -/
def CpI (l : List Int) (w : World) (e : Ending) (w' : World) : Prop :=
  ∃ v, e = .returned v ∧ w'.ownsRow w.heap.size 3 1 v l.length (cellsI l) ∧ Below w.heap.size w w'
set_option maxRecDepth 100000 in
theorem copyRow (b off cap : Nat) (l : List Int) (w : World) (hm : l.length ≤ 1000000) (hc : Ints w (some ⟨b, off, none⟩) l) :
    Calls Try.prog 25 #[.slice (some ⟨b, off, none⟩) l.length cap] w (CpI l w) := by
  have hcs := cellsI_at (ints_alloc (o := .cells #[] 3) hc)
  have hlen : (cellsI l).length = l.length * 1 := by simp [cellsI]
  obtain ⟨i0, hi, hz0, hz1, hz2⟩ := info_parts info3
  have hown : (w.alloc (.cells #[] 3)).ownsRow w.heap.size 3 1 (.slice (some ⟨w.heap.size, 0, none⟩) 0 0) 0 [] := World.ownsRow_made w #[] 0 (Nat.le_refl _) (by simp) rfl
  go_enter Try.func25, Try.ntmps25
  go_wp2_with (at_builtin; refine wpList_append_own _ rfl _ _ 34 rfl w.heap.size 3 i0 (.int .i64 0) 1 8 Try.underlying34 hi hz0 hz1 hz2 rfl (by decide) _ _ _ rfl hown ⟨b, off, none⟩ l.length cap (cellsI l) rfl hlen hcs cellsI_one (by unfold maxLen; omega) (by omega) (by simp) ?_; intro v' w3 hown' hgrow3 hnil3)
  go_ret
  refine ⟨v', rfl, by simpa using hown', ?_⟩
  exact ((Below.refl _ _).alloc (Nat.le_refl _) _).grown hgrow3 (by simp) (fun j hj => by cases hj; exact Nat.le_refl _)
set_option maxRecDepth 100000 in
theorem copyEmpty (x : Addr) (cap : Nat) (w : World) : Calls Try.prog 25 #[.slice (some x) 0 cap] w (CpI [] w) := by
  obtain ⟨i0, hi, hz0, hz1, hz2⟩ := info_parts info3
  have hown : (w.alloc (.cells #[] 3)).ownsRow w.heap.size 3 1 (.slice (some ⟨w.heap.size, 0, none⟩) 0 0) 0 [] := World.ownsRow_made w #[] 0 (Nat.le_refl _) (by simp) rfl
  go_enter Try.func25, Try.ntmps25
  go_wp2_with (at_builtin; refine wpList_append_own _ rfl _ _ 34 rfl w.heap.size 3 i0 (.int .i64 0) 1 8 Try.underlying34 hi hz0 hz1 hz2 rfl (by decide) _ _ _ rfl hown x 0 cap [] rfl rfl (fun j u hu => by simp at hu) (fun u hu => by simp at hu) (by unfold maxLen; omega) (by omega) (by simp) ?_; intro v' w3 hown' hgrow3 hnil3)
  go_ret
  refine ⟨v', rfl, by show World.ownsRow w3 w.heap.size 3 1 v' 0 []; simpa using hown', ?_⟩
  exact ((Below.refl _ _).alloc (Nat.le_refl _) _).grown hgrow3 (by simp) (fun j hj => by cases hj; exact Nat.le_refl _)
set_option maxRecDepth 100000 in
theorem copyNil (w : World) : Calls Try.prog 25 #[.slice none 0 0] w (CpI [] w) := by
  obtain ⟨i0, hi, hz0, hz1, hz2⟩ := info_parts info3
  have hown : (w.alloc (.cells #[] 3)).ownsRow w.heap.size 3 1 (.slice (some ⟨w.heap.size, 0, none⟩) 0 0) 0 [] := World.ownsRow_made w #[] 0 (Nat.le_refl _) (by simp) rfl
  go_enter Try.func25, Try.ntmps25
  go_wp2_with (at_builtin; refine wpList_append_own_none rfl _ _ 34 rfl w.heap.size 3 i0 1 Try.underlying34 hi _ _ _ rfl hown rfl ?_)
  go_ret
  exact ⟨_, rfl, hown, (Below.refl _ _).alloc (Nat.le_refl _) _⟩
/-- of whatever slice that came in: nil, or one with an address. -/
theorem copyC (a : Option Addr) (l : List Int) (cap : Nat) (w : World) (hm : l.length ≤ 1000000) (h0 : a = none → cap = 0) (hc : Ints w a l) :
    Calls Try.prog 25 #[.slice a l.length cap] w (CpI l w) := by
  rcases hc with rfl | ⟨b, off, rfl, hc⟩
  · cases a with
    | none => rw [h0 rfl]; exact copyNil w
    | some x => exact copyEmpty x cap w
  · exact copyRow b off cap l w hm (.inr ⟨b, off, rfl, hc⟩)
end Go.Proofs.Ytkpneocolbmnpaa.SgrCut
