/- Screens: Text, of a narrow plain screen; Texts. -/
import Derived.Test.YtjfeejoplchmpaaDoorSk
set_option linter.unusedVariables false
namespace Go.Proofs.YtjfeejoplchmpaaDoor.Sl
open Go Go.RowKit Kit Gm Gv Sa Sb Sd Sf Sg Sh Si Sj Sk

/-- a row of texts of one's own. -/
def Tr (w : World) (B : Nat) (v : Value) (ts : List ByteArray) : Prop := w.ownsRow B 9 1 v ts.length (ts.map Value.string)
theorem Tr.nil (w : World) (B : Nat) : Tr w B (.slice none 0 0) [] := World.ownsRow_nil w B 9 1
theorem Tr.below {w w1 : World} {B : Nat} {v : Value} {O : List ByteArray} (h : Tr w B v O) (hb : Below w.heap.size w w1) : Tr w1 B v O :=
  World.ownsRow.kept (row := none) h ⟨hb.os, hb.tape, hb.output, hb.size, fun k hk _ => hb.block k hk⟩ (by cases e : v.ownBlock <;> simp)
theorem info9 : (Tryd.prog.info? 9).map (fun i => (i.zero, i.size, i.bytes)) = some (some (.string ⟨#[]⟩), 1, 16) := by kernel_rfl
theorem wpList_append_tx {w : World} {ops : Array Oper} {rest : List Oper} {o : Oper} {a : Act} {Q : Exit → Act → World → Prop} (hg : o.guard = none) (s x : Operand)
    (ho : o.op = .call { callee := .builtin .append, args := #[s, x], argTypes := #[38, 38] }) (B : Nat) (v : Value) (O : List ByteArray) (hs : a.eval s = v) (h : Tr w B v O)
    (g cap : Nat) (c : ByteArray) (hx : a.eval x = .slice (some ⟨g, 0, none⟩) 1 cap) (hc : w.cell? ⟨g, 0, none⟩ = some (.string c)) (hl : O.length ≤ 1000000) (hB : B ≤ w.heap.size)
    (hK : ∀ v' w', Tr w' B v' (O ++ [c]) → Below B w w' → wpList Tryd.prog ops Q rest (a.put o.dst v') w') : wpList Tryd.prog ops Q (o :: rest) a w := by
  obtain ⟨i0, hi, hz, hs5, hby⟩ := info_parts info9
  refine wpList_append_own w hg s x 38 ho B 9 i0 _ 1 16 Tryd.underlying38 hi hz hs5 hby rfl (by decide) v O.length (O.map Value.string) hs h ⟨g, 0, none⟩ 1 cap [.string c] hx rfl ?_ (by intro u hu; simp at hu; subst hu; rfl) (by simp only [maxLen]; omega) (by omega) hB ?_
  · intro j u hu
    have hadd : (⟨g, 0, none⟩ : Addr).add j = ⟨g, j, none⟩ := by unfold Addr.add; split <;> simp_all
    rw [hadd]
    cases j with
    | zero => simp at hu; subst hu; exact hc
    | succ j => simp at hu
  · intro v' w' h1 h2 _
    refine hK v' w' ?_ ⟨h2.os, h2.tape, h2.output, h2.size, fun k hk => h2.block k (Nat.lt_of_lt_of_le hk hB) fun e => ?_⟩
    · unfold Tr; rw [List.length_append, List.map_append]; exact h1
    · have := (World.ownsRow.lt h k e.symm).1; omega
theorem one_text (w : World) (r : ByteArray) : (w.alloc (.cells #[.string r] 9)).cell? ⟨w.heap.size, 0, none⟩ = some (.string r) := by
  have h : (w.alloc (.cells #[.string r] 9)).heap[w.heap.size]? = _ := heap_alloc_last w _
  unfold World.cell?
  simp only [h]
  rfl
/-- texts that a slice shows. -/
def Tx (w : World) (a : Option Addr) (ts : List ByteArray) : Prop := ts = [] ∨ ∃ g, a = some ⟨g, 0, none⟩ ∧ ∀ i, (h : i < ts.length) → w.cell? ⟨g, i, none⟩ = some (.string ts[i])
theorem Tr.slice {w : World} {B : Nat} {v : Value} {O : List ByteArray} (h : Tr w B v O) : ∃ a cap, v = .slice a O.length cap ∧ Tx w a O := by
  rcases h.2 with ⟨rfl, e⟩ | ⟨g, cap, cur, rfl, hb, hg, hc, _⟩
  · have : O = [] := List.eq_nil_of_length_eq_zero e
    subst this
    exact ⟨none, 0, rfl, .inl rfl⟩
  · refine ⟨some ⟨g, 0, none⟩, cap, rfl, .inr ⟨g, rfl, fun i hi => ?_⟩⟩
    have e := World.ownsRow.cells h (g := g) rfl i (.string O[i]) (by rw [List.getElem?_map, List.getElem?_eq_getElem hi]; rfl)
    have hadd : (⟨g, 0, none⟩ : Addr).add i = ⟨g, i, none⟩ := by unfold Addr.add; split <;> simp_all
    rw [hadd] at e
    exact e
set_option maxRecDepth 100000 in
set_option maxHeartbeats 2000000 in
/-- Texts, of two that are the same. -/
theorem textsSame (a1 a2 : Option Addr) (n c1 c2 : Nat) (ts : List ByteArray) (w : World) (hn : ts.length = n) (hm : n ≤ 1000000) (h1 : Tx w a1 ts) (h2 : Tx w a2 ts) :
    Calls Tryd.prog 12 #[.slice a1 n c1, .slice a2 n c2] w fun e w' => e = .returned (.bool true) ∧ ∃ k, w.drewN k = w' := by
  have HN := Lib.hid hn
  have H1 := Lib.hid h1
  have H2 := Lib.hid h2
  clear hn h1 h2
  go_enter Tryd.func12, Tryd.ntmps12
  go_wp2
  go_loopw [5] (fun s5 wr => ∃ k : Nat, k ≤ n ∧ s5 = .int .i64 k ∧ ∃ m, wr = w.drewN m) (fun s5 _ => n - (intOf s5).toNat)
  case atStart => exact ⟨0, Nat.zero_le _, rfl, 0, rfl⟩
  case round =>
    obtain ⟨k, hk, rfl, m, rfl⟩ := hrel
    by_cases hlt : k < n
    · have hkL : k < ts.length := by rw [HN.out]; exact hlt
      have hw1 : IntKind.i64.wrap ((k : Int) + 1) = (k : Int) + 1 := IntWalk.i64_in _ (by omega)
      obtain ⟨g1, rfl, k1⟩ : ∃ g, a1 = some ⟨g, 0, none⟩ ∧ ∀ i, (h : i < ts.length) → w.cell? ⟨g, i, none⟩ = some (.string ts[i]) := by
        rcases H1.out with h | h
        · rw [h] at hkL; simp at hkL
        · exact h
      obtain ⟨g2, rfl, k2⟩ : ∃ g, a2 = some ⟨g, 0, none⟩ ∧ ∀ i, (h : i < ts.length) → w.cell? ⟨g, i, none⟩ = some (.string ts[i]) := by
        rcases H2.out with h | h
        · rw [h] at hkL; simp at hkL
        · exact h
      have x1 : (w.drewN m).cell? ⟨g1, k, none⟩ = some (.string ts[k]) := k1 k hkL
      have x2 : (w.drewN m).cell? ⟨g2, k, none⟩ = some (.string ts[k]) := k2 k hkL
      have HKk := Lib.hid (show k + 1 ≤ n ∧ n - (k + 1) < n - k by omega)
      have hkI : (k : Int) < (n : Int) := by omega
      generalize ts[k] = t at *
      generalize hwr : w.drewN m = wr at *
      have HW := Lib.hid hwr
      clear hwr k1 k2 hkL
      go_wp2
      go_quiet (fail)
      go_wp2
      exact ⟨⟨k + 1, HKk.out.1, by go_num, m + nq, by rw [← HW.out, World.drewN_drewN]⟩, by simp only [intOf]; exact HKk.out.2⟩
    · obtain rfl : k = n := by omega
      clear hk hlt
      go_wp2
      go_ret
      exact ⟨rfl, _, rfl⟩
end Go.Proofs.YtjfeejoplchmpaaDoor.Sl
