/- Numbers as bytes (wire.Var): a plain function, and the contract of the code. -/
import Derived.Test.YtellhkcleicfbaaCrc
import Derived.OwnWalk
namespace Go.Proofs.Ytellhkcleicfbaa.Var
open Go Go.RowKit Kit Crc

/-- a number in as few bytes as it needs, the least bits first. -/
def varL (n : Nat) : List Nat := if n < 128 then [n] else (n % 128 + 128) :: varL (n / 128)
termination_by n
decreasing_by omega
theorem varL_small {n : Nat} (h : n < 128) : varL n = [n] := by rw [varL, if_pos h]
theorem varL_more {n : Nat} (h : ¬ n < 128) : varL n = (n % 128 + 128) :: varL (n / 128) := by rw [varL, if_neg h]
theorem varL_len (k n : Nat) (h : n < 128 * 128 ^ k) : (varL n).length ≤ k + 1 := by
  induction k generalizing n with
  | zero => rw [varL_small (by omega)]; simp
  | succ k ih =>
    by_cases hs : n < 128
    · rw [varL_small hs]; simp
    · rw [varL_more hs]
      have := ih (n / 128) (by rw [Nat.pow_succ] at h; omega)
      simp; omega
theorem varL_ten {n : Nat} (h : n < 18446744073709551616) : (varL n).length ≤ 10 := varL_len 9 n (by omega)
theorem varL_bytes (n : Nat) : ∀ c ∈ varL n, c < 256 := by
  induction n using Nat.strongRecOn with
  | ind n ih =>
    by_cases hs : n < 128
    · rw [varL_small hs]; intro c hc; simp at hc; omega
    · rw [varL_more hs]; intro c hc
      rcases List.mem_cons.1 hc with rfl | hc
      · omega
      · exact ih (n / 128) (by omega) c hc
/-- bytes as cells. -/
def cellsOf (l : List Nat) : List Value := l.map fun c : Nat => Value.int .u8 (c : Int)
theorem cellsOf_snoc (l : List Nat) (c : Nat) : cellsOf l ++ [.int .u8 (c : Int)] = cellsOf (l ++ [c]) := by simp [cellsOf]
theorem cellsOf_nil : cellsOf [] = [] := rfl
theorem info5 : (Try.prog.info? 5).map (fun i => (i.zero, i.size, i.bytes)) = some (some (.int .u8 0), 1, 1) := by kernel_rfl
theorem or128 {m : Nat} : bits .or .u8 ((m : Int) % 256) 128 = ((m % 128 + 128 : Nat) : Int) := by
  rw [u8_or _ _ (by omega) (by omega) (by decide) (by decide)]
  congr 1
  have h1 : ((m : Int) % 256).toNat = m % 256 := by omega
  rw [h1, show (128 : Int).toNat = 2 ^ 7 * 1 from rfl]
  have h2 := Nat.two_pow_add_eq_or_of_lt (show m % 128 < 2 ^ 7 by omega) 1
  by_cases hb : m % 256 < 128
  · rw [show m % 256 = m % 128 by omega, Nat.or_comm, ← h2]; omega
  · have e : m % 256 = 2 ^ 7 * 1 + m % 128 := by omega
    rw [e, h2, Nat.or_comm, ← Nat.or_assoc, Nat.or_self, ← h2]; omega

/-- what the loop of Var keeps: what was written, and the number that is left. -/
def Rel (n : Nat) (w : World) (s0 s3 : Value) (wr : World) : Prop :=
  ∃ (L : List Nat) (m : Nat), s0 = .int .u64 m ∧ m ≤ n ∧ wr.ownsRow w.heap.size 5 1 s3 L.length (cellsOf L) ∧ varL n = L ++ varL m ∧ Below w.heap.size w wr
/-- what Var answers. -/
def Ans (n : Nat) (w : World) (e : Ending) (w' : World) : Prop :=
  ∃ v, e = .returned v ∧ w'.ownsRow w.heap.size 5 1 v (varL n).length (cellsOf (varL n)) ∧ Below w.heap.size w w'
set_option maxRecDepth 100000 in
set_option maxHeartbeats 800000 in
theorem varC (n : Nat) (w : World) (hn : n < 18446744073709551616) :
    Calls Try.prog 25 #[.int .u64 n] w (Ans n w) := by
  have hten := varL_ten hn
  obtain ⟨i0, hi, hz0, hz1, hz2⟩ := info_parts info5
  clear hn
  go_enter Try.func25, Try.ntmps25
  go_wp2
  go_loopw [0, 3] (fun s0 s3 wr => Rel n w s0 s3 wr) (fun s0 _ _ => (intOf s0).toNat)
  case atStart => exact ⟨[], n, rfl, Nat.le_refl _, (by rw [cellsOf_nil]; exact World.ownsRow_nil _ _ _ _), rfl, Below.refl _ _⟩
  case round =>
    obtain ⟨L, m, rfl, hmn, hown, hL, hb⟩ := hrel
    have hlen : L.length + 1 ≤ 10 := by
      have h1 : (varL n).length = L.length + (varL m).length := by rw [hL, List.length_append]
      have h2 : 1 ≤ (varL m).length := by by_cases hs : m < 128; rw [varL_small hs]; simp; rw [varL_more hs]; simp
      omega
    have hH := Lib.hid hL
    clear hL
    have hbz := hb.size
    by_cases hs : m < 128
    · have e1 : (m : Int) % 256 = m := by omega
      go_wp2_with (at_builtin; refine wpList_append_own _ rfl _ _ 23 rfl w.heap.size 5 i0 (.int .u8 0) 1 1 Try.underlying23 hi hz0 hz1 hz2 rfl (by decide) _ _ _ rfl (hown.alloc _) ⟨wr.heap.size, 0, none⟩ 1 1 [.int .u8 (m : Int)] rfl rfl (cell_one_new _ _ _) (fun x hx => by simp at hx; subst hx; rfl) (by unfold maxLen; omega) (by omega) (by simp; omega) ?_; intro v' w3 hown' hgrow3 hnil3)
      go_ret
      refine ⟨v', rfl, ?_, ?_⟩
      · rw [hH.out, varL_small hs, List.length_append, ← cellsOf_snoc]; exact hown'
      · exact (hb.alloc hbz _).grown hgrow3 (by simp; omega) (fun j hj => (hown.lt j hj).1)
    · have eo := @or128 m
      have hge : (128 : Int) ≤ (m : Int) := by omega
      go_wp2_with (at_builtin; refine wpList_append_own _ rfl _ _ 23 rfl w.heap.size 5 i0 (.int .u8 0) 1 1 Try.underlying23 hi hz0 hz1 hz2 rfl (by decide) _ _ _ rfl (hown.alloc _) ⟨wr.heap.size, 0, none⟩ 1 1 [.int .u8 ((m % 128 + 128 : Nat) : Int)] rfl rfl (cell_one_new _ _ _) (fun x hx => by simp at hx; subst hx; rfl) (by unfold maxLen; omega) (by omega) (by simp; omega) ?_; intro v' w3 hown' hgrow3 hnil3)
      refine ⟨⟨L ++ [m % 128 + 128], m / 128, by congr 1, by omega, ?_, ?_, ?_⟩, ?_⟩
      · rw [List.length_append, ← cellsOf_snoc]; exact hown'
      · rw [hH.out, varL_more hs]; simp
      · exact (hb.alloc hbz _).grown hgrow3 (by simp; omega) (fun j hj => (hown.lt j hj).1)
      · simp only [intOf]; omega
/-- an owned row of bytes, as a slice: its address, and its cells. -/
theorem row_sl {w : World} {base : Nat} {v : Value} {l : List Nat} (h : w.ownsRow base 5 1 v l.length (cellsOf l)) :
    ∃ a cap, v = .slice a l.length cap ∧ l.length ≤ cap ∧ Sl w a l ∧ (∀ x, a = some x → base ≤ x.block ∧ x.block < w.heap.size) := by
  rcases h.2 with ⟨rfl, hn⟩ | ⟨g, cap, cur, rfl, hb, hg, hnc, _, hcs, htake⟩
  · have : l = [] := List.eq_nil_of_length_eq_zero hn
    subst this
    exact ⟨none, 0, rfl, Nat.le_refl _, .inl rfl, fun x hx => by cases hx⟩
  · refine ⟨_, cap, rfl, hnc, .inr ⟨g, 0, rfl, ?_⟩, fun x hx => by cases hx; exact ⟨hb, (Array.getElem?_eq_some_iff.1 hg).1⟩⟩
    intro i hi
    have hu : (cellsOf l)[i]? = some (.int .u8 ((l[i] : Nat) : Int)) := by simp [cellsOf, hi]
    have := h.cells (g := g) rfl i _ hu
    have hadd : (⟨g, 0, none⟩ : Addr).add i = ⟨g, i, none⟩ := by unfold Addr.add; split <;> simp_all
    rw [hadd] at this
    rw [Nat.zero_add]; exact this
end Go.Proofs.Ytellhkcleicfbaa.Var
