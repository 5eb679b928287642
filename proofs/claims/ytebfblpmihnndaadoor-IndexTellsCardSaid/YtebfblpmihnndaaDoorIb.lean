/- Entries in memory; index.Find, index.Encode. -/
import Derived.Test.YtebfblpmihnndaaDoorIa
import Derived.Laws.Tables
set_option linter.unusedVariables false
namespace Go.Proofs.YtebfblpmihnndaaDoor.Ib
open Go Go.RowKit Kit Crc Var Get Ref3 Copy Bytes Bx Ia

/-- the four values of an entry. -/
def ev (e : En) : List Value := [.int .u64 (e.s : Int), .int .u64 (e.t : Int), .int .i64 e.n, .int .i64 e.a]
/-- entries in a block. -/
def EnC (w : World) (b off : Nat) (L : List En) : Prop := ∀ i, (h : i < L.length) → ∀ j, j < 4 → w.cell? ⟨b, off + i * 4 + j, none⟩ = (ev L[i])[j]?
/-- entries as a slice has them. -/
def Es (w : World) (a : Option Addr) (L : List En) : Prop := L = [] ∨ ∃ b off, a = some ⟨b, off, none⟩ ∧ EnC w b off L
theorem EnC.at_ {w : World} {b off : Nat} {L : List En} (h : EnC w b off L) (i : Nat) (e : En) (hi : L[i]? = some e) : w.cell? ⟨b, off + i * 4, none⟩ = some (.int .u64 (e.s : Int)) ∧ w.cell? ⟨b, off + i * 4 + 1, none⟩ = some (.int .u64 (e.t : Int)) ∧ w.cell? ⟨b, off + i * 4 + 2, none⟩ = some (.int .i64 e.n) ∧ w.cell? ⟨b, off + i * 4 + 3, none⟩ = some (.int .i64 e.a) := by
  obtain ⟨hl, rfl⟩ := List.getElem?_eq_some_iff.1 hi
  exact ⟨h i hl 0 (by omega), h i hl 1 (by omega), h i hl 2 (by omega), h i hl 3 (by omega)⟩
theorem EnC.then_ {w w1 : World} {B b off : Nat} {L : List En} (h : EnC w b off L) (hb : Below B w w1) (hB : w.heap.size ≤ B) : EnC w1 b off L := fun i hi j hj => by
  have hlt := World.block_lt_of_cell? w _ (show w.cell? ⟨b, off + i * 4 + 0, none⟩ = some (.int .u64 ((L[i]).s : Int)) from h i hi 0 (by omega))
  rw [hb.cell (p := ⟨b, off + i * 4 + j, none⟩) (Nat.lt_of_lt_of_le hlt hB)]; exact h i hi j hj
theorem Es.then_ {w w1 : World} {B : Nat} {a : Option Addr} {L : List En} (h : Es w a L) (hb : Below B w w1) (hB : w.heap.size ≤ B) : Es w1 a L := by
  rcases h with h | ⟨b, off, rfl, h⟩
  · exact .inl h
  · exact .inr ⟨b, off, rfl, h.then_ hb hB⟩
/-- the place of the last entry that is not behind the time, among the first k; -1 if there is none. -/
def findN (L : List En) (time : Nat) : Nat → Int
  | 0 => -1
  | k + 1 => if (L.getD k default).t ≤ time then (k : Int) else findN L time k
def findL (L : List En) (time : Nat) : Int := findN L time L.length
set_option maxRecDepth 100000 in
set_option maxHeartbeats 1000000 in
theorem findC (a : Option Addr) (n cap : Nat) (L : List En) (time : Nat) (w : World) (hn : n = L.length) (hm : n ≤ 1000000) (hs : Es w a L) :
    Calls Tryd.prog 13 #[.slice a n cap, .int .u64 (time : Int)] w fun e w' => e = .returned (.int .i64 (findL L time)) ∧ w = w' := by
  have HS := Lib.hid hs
  have HF := Lib.hid (show findL L time = findN L time n by rw [hn]; rfl)
  have HN := Lib.hid hn
  have e1 : IntKind.i64.wrap ((n : Int) - 1) = (n : Int) - 1 := IntWalk.i64_in _ (by omega)
  clear hs hn
  go_enter Tryd.func13, Tryd.ntmps13
  go_wp2
  go_loopw [5] (fun s5 wr => ∃ k : Nat, k ≤ n ∧ s5 = .int .i64 ((k : Int) - 1) ∧ Hid (findL L time = findN L time k) ∧ w = wr) (fun s5 _ => (intOf s5 + 1).toNat)
  case atStart => exact ⟨n, Nat.le_refl _, rfl, HF, rfl⟩
  case round =>
    obtain ⟨k, hk, rfl, HK, rfl⟩ := hrel
    cases k with
    | zero =>
      go_wp2
      go_ret
      exact ⟨by rw [HK.out]; rfl, rfl⟩
    | succ k =>
      have hkn : k < n := hk
      obtain ⟨b, off, rfl, hc⟩ : ∃ b off, a = some ⟨b, off, none⟩ ∧ EnC w b off L := by
        rcases HS.out with h | h
        · have := HN.out; rw [h] at this; simp at this; omega
        · exact h
      have hkL : k < L.length := by rw [← HN.out]; exact hkn
      obtain ⟨c0, c1, c2, c3⟩ := hc.at_ k _ (List.getElem?_eq_getElem hkL)
      have hg : (L.getD k default) = L[k] := by rw [List.getD_eq_getElem?_getD, List.getElem?_eq_getElem hkL]; rfl
      have HU := Lib.hid (show findN L time (k + 1) = if (L[k]).t ≤ time then (k : Int) else findN L time k by rw [← hg]; rfl)
      obtain ⟨T, hT⟩ : ∃ T, T = (L[k]).t := ⟨_, rfl⟩
      rw [← hT] at HU c1
      have q1 : ((k + 1 : Nat) : Int) - 1 = (k : Int) := by omega
      rw [q1]
      have q2 : IntKind.i64.wrap ((k : Int) - 1) = (k : Int) - 1 := IntWalk.i64_in _ (by omega)
      have hkI : (k : Int) < (n : Int) := by omega
      clear hT hg hc c0 c2 c3 hk e1
      by_cases hle : T ≤ time
      · have hleI : (T : Int) ≤ (time : Int) := by omega
        go_wp2
        go_ret
        exact ⟨by rw [HK.out, HU.out, if_pos hle]; rfl, rfl⟩
      · have hleI : ¬ (T : Int) ≤ (time : Int) := by omega
        go_wp2
        first
          | exact ⟨⟨k, by omega, by rfl, Lib.hid (by rw [HK.out, HU.out, if_neg hle]), by trivial⟩, by simp only [intOf]; omega⟩
          | (go_roundw
             · exact ⟨k, by omega, by rfl, Lib.hid (by rw [HK.out, HU.out, if_neg hle]), by trivial⟩
             · simp only [intOf]; omega)
end Go.Proofs.YtebfblpmihnndaaDoor.Ib
