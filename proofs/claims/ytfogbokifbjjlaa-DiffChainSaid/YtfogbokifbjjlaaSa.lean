/- Screens: cells by a slice, sizes, Equal, Clone. -/
import Derived.Test.YtfogbokifbjjlaaGv
import Derived.BigQuiet
import Derived.Deep.QuietTactic
import Derived.Laws.OwnMore
import Derived.Laws.AppendOwn
import Derived.Laws.Cover4
set_option linter.unusedVariables false
namespace Go.Proofs.Ytfogbokifbjjlaa.Sa
open Go Go.RowKit Kit Gm Gv

theorem below_one (w : World) (o : Obj) : Below w.heap.size w (w.alloc o) := (Below.refl _ w).alloc (Nat.le_refl _) o
theorem info52 : (Try.prog.info? 52).map (fun i => (i.zero, i.size, i.bytes)) = some (some (.agg #[.int .i32 0, .int .i64 0, .int .i64 0, .int .i64 0, .int .i64 0]), 5, 40) := by kernel_rfl
theorem info_parts {P : Program} {t : TypeId} {z : Value} {s b : Nat} (h : (P.info? t).map (fun i => (i.zero, i.size, i.bytes)) = some (some z, s, b)) : ∃ i, P.info? t = some i ∧ i.zero = some z ∧ i.size = s ∧ i.bytes = b := by
  cases hi : P.info? t with
  | none => simp [hi] at h
  | some i => simp [hi] at h; exact ⟨i, rfl, h⟩
/-- the cells that a slice shows. -/
def Sc (w : World) (b off : Nat) (L : List Ce) : Prop := ∀ j, (h : j < L.length) → ∀ i, i < 5 → w.cell? ⟨b, off + j * 5 + i, none⟩ = (cv L[j])[i]?
theorem Sc.then_ {w w1 : World} {B b off : Nat} {L : List Ce} (h : Sc w b off L) (hb : Below B w w1) (hB : w.heap.size ≤ B) : Sc w1 b off L := by
  intro j hj i hi
  have e := h j hj i hi
  have hl : i < (cv L[j]).length := hi
  rw [List.getElem?_eq_getElem hl] at e ⊢
  exact cell_then hb hB e
theorem Sc.at_ {w : World} {b off : Nat} {L : List Ce} (h : Sc w b off L) (j : Nat) (c : Ce) (hj : L[j]? = some c) : w.cell? ⟨b, off + j * 5, none⟩ = some (.int .i32 c.r) ∧ w.cell? ⟨b, off + j * 5 + 1, none⟩ = some (.int .i64 c.fl) ∧ w.cell? ⟨b, off + j * 5 + 2, none⟩ = some (.int .i64 c.fg) ∧ w.cell? ⟨b, off + j * 5 + 3, none⟩ = some (.int .i64 c.bg) ∧ w.cell? ⟨b, off + j * 5 + 4, none⟩ = some (.int .i64 c.wd) := by
  obtain ⟨hl, rfl⟩ := List.getElem?_eq_some_iff.1 hj
  exact ⟨h j hl 0 (by omega), h j hl 1 (by omega), h j hl 2 (by omega), h j hl 3 (by omega), h j hl 4 (by omega)⟩
def sizeB (R C : Int) : Bool := decide (1 ≤ R ∧ R ≤ 60 ∧ 1 ≤ C ∧ C ≤ 200)
theorem size_t {R C : Int} (h : 1 ≤ R ∧ R ≤ 60 ∧ 1 ≤ C ∧ C ≤ 200) : true = sizeB R C := by simp [sizeB, h]
theorem size_f {R C : Int} (h : ¬ (1 ≤ R ∧ R ≤ 60 ∧ 1 ≤ C ∧ C ≤ 200)) : false = sizeB R C := by
  cases e : sizeB R C with
  | false => rfl
  | true => exact absurd (by simpa [sizeB] using e) h
/-- maySize. -/
theorem maySize (R C : Int) (w : World) : Calls Try.prog 55 #[.int .i64 R, .int .i64 C] w fun e w' => e = .returned (.bool (sizeB R C)) ∧ w = w' := by
  go_enter Try.func55, Try.ntmps55
  by_cases h1 : 1 ≤ R
  · by_cases h2 : R ≤ 60
    · by_cases h3 : 1 ≤ C
      · by_cases h4 : C ≤ 200
        · go_wp2
          go_ret
          exact ⟨ret_bool (size_t ⟨h1, h2, h3, h4⟩), rfl⟩
        · go_wp2
          go_ret
          exact ⟨ret_bool (size_f (by omega)), rfl⟩
      · go_wp2
        go_ret
        exact ⟨ret_bool (size_f (by omega)), rfl⟩
    · go_wp2
      go_ret
      exact ⟨ret_bool (size_f (by omega)), rfl⟩
  · go_wp2
    go_ret
    exact ⟨ret_bool (size_f (by omega)), rfl⟩
set_option maxRecDepth 100000 in
set_option maxHeartbeats 2000000 in
/-- slices.Equal. -/
theorem equalC (b1 o1 b2 o2 n1 n2 c1 c2 : Nat) (L1 L2 : List Ce) (w : World) (e1 : n1 = L1.length) (e2 : n2 = L2.length) (h1 : Sc w b1 o1 L1) (h2 : Sc w b2 o2 L2) (m1 : n1 ≤ 1000000) :
    Calls Try.prog 58 #[.slice (some ⟨b1, o1, none⟩) n1 c1, .slice (some ⟨b2, o2, none⟩) n2 c2] w fun e w' => e = .returned (.bool (decide (L1 = L2))) ∧ ∃ k, w.drewN k = w' := by
  have HN1 := Lib.hid e1
  have HN2 := Lib.hid e2
  by_cases hne : n1 = n2
  · subst hne
    have H1 := Lib.hid (fun m => (show Sc (w.drewN m) b1 o1 L1 from h1))
    have H2 := Lib.hid (fun m => (show Sc (w.drewN m) b2 o2 L2 from h2))
    clear h1 h2 e1 e2
    go_enter Try.func58, Try.ntmps58
    go_wp2
    go_loopw [13] (fun s13 wr => ∃ k : Nat, k ≤ n1 ∧ s13 = .int .i64 k ∧ Hid (L1.take k = L2.take k) ∧ ∃ m, wr = w.drewN m) (fun s13 _ => n1 - (intOf s13).toNat)
    case atStart => exact ⟨0, Nat.zero_le _, rfl, Lib.hid rfl, 0, rfl⟩
    case round =>
      obtain ⟨k, hk, rfl, HT, m, rfl⟩ := hrel
      by_cases hlt : k < n1
      · have hk1 : k < L1.length := by rw [← HN1.out]; exact hlt
        have hk2 : k < L2.length := by rw [← HN2.out]; exact hlt
        obtain ⟨x0, x1, x2, x3, x4⟩ := (H1.out m).at_ k _ (List.getElem?_eq_getElem hk1)
        obtain ⟨y0, y1, y2, y3, y4⟩ := (H2.out m).at_ k _ (List.getElem?_eq_getElem hk2)
        have HA := Lib.hid (show L1.take (k + 1) = L1.take k ++ [L1[k]] by rw [List.take_add_one, List.getElem?_eq_getElem hk1]; rfl)
        have HB := Lib.hid (show L2.take (k + 1) = L2.take k ++ [L2[k]] by rw [List.take_add_one, List.getElem?_eq_getElem hk2]; rfl)
        have HC := Lib.hid (show L1[k] ≠ L2[k] → ¬ L1 = L2 from fun hn he => hn (by subst he; rfl))
        generalize L1[k] = c at *
        generalize L2[k] = d at *
        clear hk1 hk2
        have HKk := Lib.hid (show k + 1 ≤ n1 ∧ n1 - (k + 1) < n1 - k by omega)
        generalize hwr : w.drewN m = wr at *
        have HW := Lib.hid hwr
        clear hwr
        by_cases hcd : c = d
        · subst hcd
          go_wp2
          go_quiet (fail)
          go_wp2
          exact ⟨⟨k + 1, HKk.out.1, by go_num, Lib.hid (by rw [HA.out, HB.out, HT.out]), m + nq, by rw [← HW.out, World.drewN_drewN]⟩, by simp only [intOf]; exact HKk.out.2⟩
        · have HF := Lib.hid (HC.out hcd)
          obtain ⟨cr, cfl, cfg, cbg, cwd⟩ := c
          obtain ⟨dr, dfl, dfg, dbg, dwd⟩ := d
          dsimp only at x0 x1 x2 x3 x4 y0 y1 y2 y3 y4
          by_cases e0 : cr = dr
          · subst e0
            by_cases e1 : cfl = dfl
            · subst e1
              by_cases e2 : cfg = dfg
              · subst e2
                by_cases e3 : cbg = dbg
                · subst e3
                  have e4 : (cwd == dwd) = false := by rw [beq_eq_false_iff_ne]; intro e; subst e; exact hcd rfl
                  clear hcd
                  go_wp2
                  go_quiet (fail)
                  go_wp2
                  go_ret
                  exact ⟨ret_bool (decide_eq_false HF.out).symm, m + nq, by rw [← HW.out, World.drewN_drewN]⟩
                · have e : (cbg == dbg) = false := by rw [beq_eq_false_iff_ne]; exact e3
                  clear hcd e3
                  go_wp2
                  go_quiet (fail)
                  go_wp2
                  go_ret
                  exact ⟨ret_bool (decide_eq_false HF.out).symm, m + nq, by rw [← HW.out, World.drewN_drewN]⟩
              · have e : (cfg == dfg) = false := by rw [beq_eq_false_iff_ne]; exact e2
                clear hcd e2
                go_wp2
                go_quiet (fail)
                go_wp2
                go_ret
                exact ⟨ret_bool (decide_eq_false HF.out).symm, m + nq, by rw [← HW.out, World.drewN_drewN]⟩
            · have e : (cfl == dfl) = false := by rw [beq_eq_false_iff_ne]; exact e1
              clear hcd e1
              go_wp2
              go_quiet (fail)
              go_wp2
              go_ret
              exact ⟨ret_bool (decide_eq_false HF.out).symm, m + nq, by rw [← HW.out, World.drewN_drewN]⟩
          · have e : (cr == dr) = false := by rw [beq_eq_false_iff_ne]; exact e0
            clear hcd e0
            go_wp2
            go_quiet (fail)
            go_wp2
            go_ret
            exact ⟨ret_bool (decide_eq_false HF.out).symm, m + nq, by rw [← HW.out, World.drewN_drewN]⟩
      · obtain rfl : k = n1 := by omega
        have HE := Lib.hid (show L1 = L2 by have := HT.out; rwa [List.take_of_length_le (by rw [← HN1.out]; exact Nat.le_refl _), List.take_of_length_le (by rw [← HN2.out]; exact Nat.le_refl _)] at this)
        clear hk hlt
        go_wp2
        go_ret
        exact ⟨ret_bool (decide_eq_true HE.out).symm, _, rfl⟩
  · have HF := Lib.hid (show ¬ L1 = L2 from fun h => hne (by rw [e1, e2, h]))
    have hne' : ((n1 : Int) != (n2 : Int)) = true := by rw [bne_iff_ne]; omega
    clear h1 h2 e1 e2
    go_enter Try.func58, Try.ntmps58
    go_wp2
    go_ret
    exact ⟨ret_bool (decide_eq_false HF.out).symm, 0, rfl⟩
end Go.Proofs.Ytfogbokifbjjlaa.Sa
