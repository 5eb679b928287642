/- Package tabs: contracts. -/
import Derived.Test.YtkpneocolbmnpaaInts
import Derived.Test.YtkpneocolbmnpaaTabsMath
import Derived.Laws.CopyOwn
import Derived.Maps.AppendAt
set_option linter.unusedVariables false
namespace Go.Proofs.Ytkpneocolbmnpaa.Tabs
open Go Go.RowKit Kit Ints TabsMath

/-- stops at p, the columns in block b. -/
def St (w : World) (p b : Nat) (l : List Bool) : Prop :=
  w.heap[p]? = some (.cells #[.slice (some ⟨b, 0, none⟩) l.length l.length] 73 (0, 0)) ∧ w.rowIs b 4 l.length (fun i => .bool (l.getD i false))
theorem lt_of_block {w : World} {p : Nat} {o : Obj} (h : w.heap[p]? = some o) : p < w.heap.size := (Array.getElem?_eq_some_iff.1 h).1
theorem St.p_lt {w : World} {p b : Nat} {l : List Bool} (h : St w p b l) : p < w.heap.size := lt_of_block h.1
theorem St.b_lt {w : World} {p b : Nat} {l : List Bool} (h : St w p b l) : b < w.heap.size := h.2.lt
theorem St.ne_ {w : World} {p b : Nat} {l : List Bool} (h : St w p b l) : p ≠ b := by
  rintro rfl
  obtain ⟨h1, c, h2, _⟩ := h
  rw [h1] at h2; cases h2
theorem St.cp {w : World} {p b : Nat} {l : List Bool} (h : St w p b l) : w.cell? ⟨p, 0, none⟩ = some (.slice (some ⟨b, 0, none⟩) l.length l.length) := by
  simp [World.cell?, h.1]
theorem St.fp {w : World} {p b : Nat} {l : List Bool} (h : St w p b l) : w.frozen? ⟨p, 0, none⟩ = false := by
  simp [World.frozen?, h.1]
theorem St.cb {w : World} {p b : Nat} {l : List Bool} (h : St w p b l) (i : Nat) (hi : i < l.length) : w.cell? ⟨b, i, none⟩ = some (.bool (l.getD i false)) := h.2.cell hi
theorem St.fb {w : World} {p b : Nat} {l : List Bool} (h : St w p b l) (i : Nat) : w.frozen? ⟨b, i, none⟩ = false := h.2.frozen i
theorem St.then_ {w w' : World} {B p b : Nat} {l : List Bool} (h : St w p b l) (hb : Below B w w') (hB : w.heap.size ≤ B) : St w' p b l :=
  ⟨(hb.block p (Nat.lt_of_lt_of_le h.p_lt hB)).trans h.1, h.2.of_block (hb.block b (Nat.lt_of_lt_of_le h.b_lt hB))⟩
theorem St.drewN {w : World} {p b : Nat} {l : List Bool} (h : St w p b l) (n : Nat) : St (w.drewN n) p b l := h
theorem St.put {w : World} {p b : Nat} {l : List Bool} (h : St w p b l) (i : Nat) (v : Bool) (hi : i < l.length) : St (w.setCell ⟨b, i, none⟩ (.bool v)) p b (l.set i v) := by
  refine ⟨(Below.heap_setCell w ⟨b, i, none⟩ (.bool v) p h.ne_).trans (by rw [List.length_set]; exact h.1), ?_⟩
  rw [List.length_set]
  refine (h.2.set i (.bool v)).congr fun j hj => ?_
  by_cases e : j = i
  · subst e; simp [hi]
  · simp [e, Ne.symm e]
theorem Below.setIn {B : Nat} {a w : World} (h : Below B a w) {b i : Nat} (hp : B ≤ b) (u : Value) : Below B a (w.setCell ⟨b, i, none⟩ u) := h.setCell (p := ⟨b, i, none⟩) hp u

set_option maxRecDepth 100000 in
theorem putC (p b : Nat) (l : List Bool) (col : Int) (v : Bool) (w : World) (h : St w p b l) (hl : l.length ≤ 200) (h0 : 0 ≤ col) (h1 : col < l.length) :
    Calls Try.prog 54 #[.pointer (some ⟨p, 0, none⟩), .int .i64 col, .bool v] w fun e w' => e = .returned (.bool true) ∧ w.setCell ⟨b, col.toNat, none⟩ (.bool v) = w' := by
  obtain ⟨i, rfl⟩ := Int.eq_ofNat_of_zero_le h0
  have h1 : i < l.length := by omega
  have c0 := h.cp
  have cb := h.cb i h1
  have fb := h.fb i
  go_enter Try.func54, Try.ntmps54
  go_wp2
  go_ret
  exact ⟨rfl, rfl⟩
set_option maxRecDepth 100000 in
theorem putNo (p b : Nat) (l : List Bool) (col : Int) (v : Bool) (w : World) (h : St w p b l) (hl : l.length ≤ 200) (hc : col < 0 ∨ (l.length : Int) ≤ col) :
    Calls Try.prog 54 #[.pointer (some ⟨p, 0, none⟩), .int .i64 col, .bool v] w fun e w' => e = .returned (.bool false) ∧ w = w' := by
  have c0 := h.cp
  rcases hc with hc | hc
  · go_enter Try.func54, Try.ntmps54
    go_wp2
    go_ret
    exact ⟨rfl, rfl⟩
  · go_enter Try.func54, Try.ntmps54
    go_wp2
    go_ret
    exact ⟨rfl, rfl⟩
theorem nextZ_def (l : List Bool) (col n : Int) : nextZ l col n = nextG l (l.length - 1) (l.length - 1 - (clampN col (l.length - 1) + 1)) (max n 1).toNat (clampN col (l.length - 1) + 1) := rfl
theorem nextG_yes {l : List Bool} {last f m k : Nat} (h : l.getD k false = true) (hm : 2 ≤ m) : nextG l last (f + 1) m k = nextG l last f (m - 1) (k + 1) := by rw [nextG, if_pos h, if_neg (by omega)]
theorem nextG_one {l : List Bool} {last f k : Nat} (h : l.getD k false = true) : nextG l last (f + 1) 1 k = k := by rw [nextG, if_pos h, if_pos (by omega)]
theorem nextG_no {l : List Bool} {last f m k : Nat} (h : l.getD k false = false) : nextG l last (f + 1) m k = nextG l last f m (k + 1) := by rw [nextG, if_neg (by rw [h]; decide)]
set_option maxRecDepth 100000 in
set_option maxHeartbeats 1000000 in
theorem nextC (p b : Nat) (l : List Bool) (col n : Int) (w : World) (h : St w p b l) (h0 : 0 < l.length) (hl : l.length ≤ 200) (hn : n ≤ 9223372036854775807) :
    Calls Try.prog 38 #[.pointer (some ⟨p, 0, none⟩), .int .i64 col, .int .i64 n] w fun e w' => e = .returned (.int .i64 (nextZ l col n)) ∧ w = w' := by
  have c0 := h.cp
  have HC := Lib.hid h.cb
  obtain ⟨R, hR⟩ : ∃ R : Nat, R = nextG l (l.length - 1) (l.length - 1 - (clampN col (l.length - 1) + 1)) (max n 1).toNat (clampN col (l.length - 1) + 1) := ⟨_, rfl⟩
  have HR := Lib.hid hR
  rw [show nextZ l col n = (R : Int) from by rw [nextZ_def, hR]]
  clear hR
  have HK : ∃ k0 m0 : Nat, 1 ≤ m0 ∧ (m0 : Int) ≤ 9223372036854775807 ∧ (m0 : Int) = max n 1 ∧ 1 ≤ k0 ∧ k0 ≤ l.length ∧ (k0 : Int) = min (max col 0) ((l.length : Int) - 1) + 1 ∧ Hid (R = nextG l (l.length - 1) (l.length - 1 - k0) m0 k0) := by
    refine ⟨clampN col (l.length - 1) + 1, (max n 1).toNat, by omega, by omega, by omega, by omega, by unfold clampN; omega, by unfold clampN; omega, HR⟩
  obtain ⟨k0, m0, hm1, hm2, hm3, hk1, hk2, hk3, HR0⟩ := HK
  clear HR
  have HM := Lib.hid hm3
  have HK := Lib.hid hk3
  clear hm3 hk3
  go_enter Try.func38, Try.ntmps38
  go_wp2
  all_goals
    go_loop [2, 8] (fun s2 s8 => ∃ m k : Nat, 1 ≤ m ∧ (m : Int) ≤ 9223372036854775807 ∧ k ≤ l.length ∧ s2 = .int .i64 (m : Int) ∧ s8 = .int .i64 (k : Int) ∧ Hid (R = nextG l (l.length - 1) (l.length - 1 - k) m k)) (fun _ s8 => l.length - (intOf s8).toNat)
    case atStart => (have e1 := HM.out; have e2 := HK.out; exact ⟨m0, k0, hm1, hm2, hk2, by (congr 1; omega), by (congr 1; omega), HR0⟩)
    case round =>
      obtain ⟨m, k, hm1, hm2, hk, rfl, rfl, hG⟩ := hrel
      by_cases hlt : (k : Int) < (l.length : Int) - 1
      · have hc := HC.out k (by omega)
        have hs : l.length - 1 - k = (l.length - 1 - (k + 1)) + 1 := by omega
        rw [hs] at hG
        cases hv : l.getD k false
        · rw [hv] at hc
          have hG' := Lib.hid (hG.out.trans (nextG_no hv))
          have hm0 : ((m : Int) == 0) = false := by simp; omega
          clear hG hv hs
          go_wp2
          go_round
          case rel => exact ⟨m, k + 1, hm1, hm2, by omega, rfl, by go_num, hG'⟩
          case measure => simp [intOf]; omega
        · rw [hv] at hc
          by_cases h1 : m = 1
          · subst h1
            have hG' := Lib.hid (hG.out.trans (nextG_one hv))
            clear hG hv hs
            go_wp2
            go_ret
            exact ⟨ret_int (by rw [hG'.out]), rfl⟩
          · have hG' := Lib.hid (hG.out.trans (nextG_yes hv (by omega)))
            have hm0 : ((m : Int) - 1 == 0) = false := by simp; omega
            clear hG hv hs
            go_wp2
            go_round
            case rel => exact ⟨m - 1, k + 1, by omega, by omega, by omega, by (congr 1; omega), by go_num, hG'⟩
            case measure => simp [intOf]; omega
      · have hs : l.length - 1 - k = 0 := by omega
        rw [hs] at hG
        have hG' := Lib.hid (hG.out.trans (by rw [nextG]))
        clear hG hs
        go_wp2
        go_ret
        exact ⟨ret_int (by rw [hG'.out]; omega), rfl⟩
end Go.Proofs.Ytkpneocolbmnpaa.Tabs
