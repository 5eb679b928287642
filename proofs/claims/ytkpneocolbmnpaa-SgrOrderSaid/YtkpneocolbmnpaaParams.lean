/- Package sgr: Params, and tikref.Ints. -/
import Derived.Test.YtkpneocolbmnpaaApply
import Derived.Test.YtkpneocolbmnpaaCell
import Derived.OwnWalk
import Derived.Laws.AppendOwnNone
set_option linter.unusedVariables false
namespace Go.Proofs.Ytkpneocolbmnpaa.Params
open Go Go.RowKit Kit Sgr Col Apply Cell

def cellsI (l : List Int) : List Value := l.map fun c : Int => Value.int .i64 c
theorem cellsI_app (l m : List Int) : cellsI l ++ cellsI m = cellsI (l ++ m) := by simp [cellsI]
theorem info3 : (Try.prog.info? 3).map (fun i => (i.zero, i.size, i.bytes)) = some (some (.int .i64 0), 1, 8) := by kernel_rfl
theorem add_at (b o i : Nat) : (⟨b, o, none⟩ : Addr).add i = ⟨b, o + i, none⟩ := by unfold Addr.add; split <;> simp_all
/-- an owned row of integers, as a slice. -/
theorem row_ints {w : World} {base : Nat} {v : Value} {l : List Int} {n : Nat} (hn : n = l.length) (h : w.ownsRow base 3 1 v n (cellsI l)) :
    ∃ a cap, v = .slice a l.length cap ∧ (l.length ≤ cap ∧ cap ≤ 9223372036854775807) ∧ Ints w a l ∧ (∀ x, a = some x → base ≤ x.block ∧ x.block < w.heap.size) := by
  subst hn
  rcases h.2 with ⟨rfl, hn⟩ | ⟨g, cap, cur, rfl, hb, hg, hnc, hmx, hcs, htake⟩
  · have : l = [] := List.eq_nil_of_length_eq_zero hn
    subst this
    exact ⟨none, 0, rfl, ⟨Nat.le_refl _, by decide⟩, .inl rfl, fun x hx => by cases hx⟩
  · refine ⟨_, cap, rfl, ⟨hnc, by unfold maxLen at hmx; omega⟩, .inr ⟨g, 0, rfl, ?_⟩, fun x hx => by cases hx; exact ⟨hb, (Array.getElem?_eq_some_iff.1 hg).1⟩⟩
    intro i hi
    have hu : (cellsI l)[i]? = some (.int .i64 l[i]) := by simp [cellsI, hi]
    have := h.cells (g := g) rfl i _ hu
    rw [add_at] at this
    exact this
theorem row_any {w : World} {base : Nat} {v : Value} {l : List Int} {n : Nat} (h : w.ownsRow base 3 1 v n (cellsI l)) :
    ∃ a cap, v = .slice a l.length cap ∧ (l.length ≤ cap ∧ cap ≤ 9223372036854775807) ∧ Ints w a l ∧ (∀ x, a = some x → base ≤ x.block ∧ x.block < w.heap.size) :=
  row_ints (by have := h.1; simp [cellsI] at this; omega) h
/-- a new block that holds integers. -/
theorem ints_new {w : World} {n : Nat} {cs : Array Value} {l : List Int} (hn : n = w.heap.size) (hcs : cs = (cellsI l).toArray) (t : TypeId) : Ints (w.alloc (.cells cs t)) (some ⟨n, 0, none⟩) l := by
  subst hn hcs
  refine .inr ⟨_, 0, rfl, fun i hi => ?_⟩
  rw [Nat.zero_add, World.cell?_alloc_new]
  simp [cellsI, hi]
theorem ints_alloc {w : World} {a : Option Addr} {l : List Int} {o : Obj} (h : Ints w a l) : Ints (w.alloc o) a l := by
  rcases h with h | ⟨b, off, rfl, h⟩
  · exact .inl h
  · refine .inr ⟨b, off, rfl, fun i hi => ?_⟩
    rw [World.cell?_alloc_lt _ _ _ (World.block_lt_of_cell? w _ (h i hi))]; exact h i hi
theorem attr_cols {f fg bg : Int} (h : attrB f fg bg = true) : (fg = 0 ∨ (1 ≤ fg ∧ fg ≤ 256) ∨ (16777216 ≤ fg ∧ fg < 33554432)) ∧ (bg = 0 ∨ (1 ≤ bg ∧ bg ≤ 256) ∨ (16777216 ≤ bg ∧ bg < 33554432)) := by
  simp [attrB, colB] at h
  omega
/-- are two slices of integers the same? -/
theorem intsLen (a1 a2 : Option Addr) (n1 n2 c1 c2 : Nat) (w : World) (h : n1 ≠ n2) :
    Calls Try.prog 35 #[.slice a1 n1 c1, .slice a2 n2 c2] w fun e w' => e = .returned (.bool false) ∧ w = w' := by
  have hb : ((n1 : Int) != (n2 : Int)) = true := by simp; omega
  go_enter Try.func35, Try.ntmps35
  go_wp2
  go_ret
  exact ⟨rfl, rfl⟩
theorem intsEmpty (a1 a2 : Option Addr) (c1 c2 : Nat) (w : World) :
    Calls Try.prog 35 #[.slice a1 0 c1, .slice a2 0 c2] w fun e w' => e = .returned (.bool true) ∧ w = w' := by
  go_enter Try.func35, Try.ntmps35
  go_wp2
  refine wp_loop_rounds 1 ?_
  rw [rounds_succ]
  go_wp2
  go_ret
  exact ⟨rfl, rfl⟩
theorem take_eq_step {l m : List Int} {k : Nat} (hk : k < l.length) (hm : k < m.length) (h : l.take k = m.take k) (e : l[k] = m[k]) : l.take (k + 1) = m.take (k + 1) := by
  rw [List.take_succ_eq_append_getElem hk, List.take_succ_eq_append_getElem hm, h, e]
set_option maxRecDepth 100000 in
set_option maxHeartbeats 1000000 in
theorem intsRow (b1 o1 b2 o2 c1 c2 : Nat) (l m : List Int) (w : World) (hlm : l.length = m.length) (hm : l.length ≤ 9223372036854775000)
    (h1 : ∀ i, (h : i < l.length) → w.cell? ⟨b1, o1 + i, none⟩ = some (.int .i64 l[i])) (h2 : ∀ i, (h : i < m.length) → w.cell? ⟨b2, o2 + i, none⟩ = some (.int .i64 m[i])) :
    Calls Try.prog 35 #[.slice (some ⟨b1, o1, none⟩) l.length c1, .slice (some ⟨b2, o2, none⟩) m.length c2] w fun e w' => e = .returned (.bool (decide (l = m))) ∧ ∃ n, w.drewN n = w' := by
  have HL := Lib.hid hlm
  rw [← hlm]
  generalize hR : decide (l = m) = R
  have HR := Lib.hid hR
  clear hR
  go_enter Try.func35, Try.ntmps35
  go_wp2
  go_loopw [5] (fun s5 wr => ∃ k : Nat, k ≤ l.length ∧ s5 = .int .i64 k ∧ Hid (l.take k = m.take k) ∧ ∃ n, wr = w.drewN n) (fun s5 _ => l.length - (intOf s5).toNat)
  case atStart => exact ⟨0, Nat.zero_le _, rfl, Lib.hid rfl, 0, rfl⟩
  case round =>
    obtain ⟨k, hk, rfl, hT, n, rfl⟩ := hrel
    by_cases hlt : k < l.length
    · have hlt2 : k < m.length := by rw [← HL.out]; exact hlt
      have x1 := h1 k hlt
      have x2 := h2 k hlt2
      by_cases he : l[k] = m[k]
      · have hs := Lib.hid (take_eq_step hlt hlt2 hT.out he)
        rw [he] at x1
        have hne : ((m[k] : Int) != m[k]) = false := by simp
        generalize m[k] = v at x1 x2 hne
        clear he hlm h1 h2
        go_wp2
        go_quiet (fail)
        go_wp2
        exact ⟨⟨k + 1, by omega, by go_num, hs, _, rfl⟩, by simp only [intOf]; omega⟩
      · have hne : ((l[k] : Int) != m[k]) = true := by simpa using he
        have hF := Lib.hid (show l ≠ m from fun h => by subst h; exact he rfl)
        generalize m[k] = v at x2 hne
        generalize l[k] = u at x1 hne
        clear he hlm h1 h2
        go_wp2
        go_quiet (fail)
        go_wp2
        go_ret
        exact ⟨ret_bool (by rw [← HR.out]; simpa using hF.out), _, (World.drewN_drewN _ _ _).symm⟩
    · obtain rfl : k = l.length := by omega
      clear h1 h2 hlm
      go_wp2
      go_ret
      refine ⟨ret_bool ?_, _, rfl⟩
      rw [← HR.out]
      have := hT.out
      rw [List.take_of_length_le (Nat.le_refl _), List.take_of_length_le (by rw [HL.out]; exact Nat.le_refl _)] at this
      simpa using this
theorem intsC (a1 a2 : Option Addr) (c1 c2 : Nat) (l m : List Int) (w : World) (hm : l.length ≤ 9223372036854775000) (h1 : Ints w a1 l) (h2 : Ints w a2 m) :
    Calls Try.prog 35 #[.slice a1 l.length c1, .slice a2 m.length c2] w fun e w' => e = .returned (.bool (decide (l = m))) ∧ ∃ n, w.drewN n = w' := by
  by_cases hlm : l.length = m.length
  · rcases h1 with rfl | ⟨b1, o1, rfl, h1⟩
    · obtain rfl : m = [] := List.eq_nil_of_length_eq_zero hlm.symm
      exact (intsEmpty a1 a2 c1 c2 w).mono fun _ _ ⟨h, g⟩ => ⟨h, 0, g⟩
    · rcases h2 with rfl | ⟨b2, o2, rfl, h2⟩
      · obtain rfl : l = [] := List.eq_nil_of_length_eq_zero hlm
        exact (intsEmpty _ a2 c1 c2 w).mono fun _ _ ⟨h, g⟩ => ⟨h, 0, g⟩
      · exact intsRow b1 o1 b2 o2 c1 c2 l m w hlm hm h1 h2
  · rw [decide_eq_false (fun h => hlm (by rw [h]))]
    exact (intsLen a1 a2 _ _ c1 c2 w hlm).mono fun _ _ ⟨h, g⟩ => ⟨h, 0, g⟩
/-- a colour as params. -/
def colL (k n : Int) : List Int := if n = 0 then [] else if n < 16777216 then [k, 5, n - 1] else [k, 2, (n - 16777216) / 65536, (n - 16777216) / 256 % 256, (n - 16777216) % 256]
def ColPost (L : List Int) (w : World) (e : Ending) (w' : World) : Prop :=
  (L = [] ∧ e = .returned (.slice none 0 0) ∧ w = w') ∨ (e = .returned (.slice (some ⟨w.heap.size, 0, none⟩) L.length L.length) ∧ w.alloc (.cells (cellsI L).toArray 3) = w')
theorem and255 (n : Int) : bits .and .i64 n 255 = n % 256 := by
  have h255 : (BitVec.ofInt 64 255).toNat = 2 ^ 8 - 1 := by decide
  have key : (BitVec.ofInt 64 n &&& BitVec.ofInt 64 255).toNat = (n % ((2 ^ 64 : Nat) : Int)).toNat % 2 ^ 8 := by
    rw [BitVec.toNat_and, BitVec.toNat_ofInt, h255, Nat.and_two_pow_sub_one_eq_mod]
  show IntKind.i64.wrap ((BitVec.ofInt 64 n &&& BitVec.ofInt 64 255).toNat : Nat) = n % 256
  rw [key, IntKind.wrap_i64]
  omega
set_option maxRecDepth 100000 in
theorem colParams (k n : Int) (w : World) (hn : n = 0 ∨ (1 ≤ n ∧ n ≤ 256) ∨ (16777216 ≤ n ∧ n < 33554432)) : Calls Try.prog 50 #[.int .i64 k, .int .i64 n] w (ColPost (colL k n) w) := by
  rcases hn with rfl | ⟨h1, h2⟩ | ⟨h1, h2⟩
  · go_enter Try.func50, Try.ntmps50
    go_wp2
    go_ret
    exact .inl ⟨rfl, rfl, rfl⟩
  · have hne : (n == 0) = false := by simp; omega
    have HE := Lib.hid (show colL k n = [k, 5, n - 1] from by rw [colL, if_neg (by omega), if_pos (by omega)])
    generalize colL k n = L at HE
    go_enter Try.func50, Try.ntmps50
    go_wp2
    go_ret
    rw [HE.out]
    exact .inr ⟨rfl, rfl⟩
  · have hne : (n == 0) = false := by simp; omega
    have HE := Lib.hid (show colL k n = [k, 2, (n - 16777216) / 65536, (n - 16777216) / 256 % 256, (n - 16777216) % 256] from by rw [colL, if_neg (by omega), if_neg (by omega)])
    generalize colL k n = L at HE
    obtain ⟨m, hm⟩ : ∃ m, m = n - 16777216 := ⟨_, rfl⟩
    obtain rfl : n = m + 16777216 := by omega
    have e1 := and255 (m / 256)
    have e2 := and255 m
    have e3 : m + 16777216 - 16777216 = m := by omega
    rw [e3] at HE
    clear hm
    go_enter Try.func50, Try.ntmps50
    go_wp2
    go_ret
    rw [HE.out]
    exact .inr ⟨rfl, rfl⟩
/-- is flag n in f? -/
def flagB (f n : Int) : Bool := bits .and .i64 f (setZ n) != 0
/-- the flags below number n. -/
def flagsU (f : Int) : Nat → List Int
  | 0 => []
  | n + 1 => flagsU f n ++ (if flagB f (n : Int) then [(n : Int)] else [])
/-- what makes looks of whatever was. -/
def paramsL (f fg bg : Int) : List Int := if attrB f fg bg then 0 :: flagsU f 10 ++ colL 38 fg ++ colL 48 bg else [0]
theorem flagsU_len (f : Int) (k : Nat) : (flagsU f k).length ≤ k := by
  induction k with
  | zero => simp [flagsU]
  | succ k ih => rw [flagsU, List.length_append]; split <;> simp <;> omega
theorem flagsU_one (f : Int) : flagsU f 1 = [] := by
  have : flagB f 0 = false := by
    unfold flagB
    rw [show setZ 0 = 0 from by decide]
    have : bits .and .i64 f 0 = 0 := by
      show IntKind.i64.wrap ((BitVec.ofInt 64 f &&& BitVec.ofInt 64 0).toNat : Nat) = 0
      rw [show BitVec.ofInt 64 0 = 0#64 from rfl, BitVec.and_zero]
      decide
    rw [this]; decide
  show flagsU f 0 ++ (if flagB f ((0 : Nat) : Int) then _ else _) = _
  rw [show ((0 : Nat) : Int) = 0 from rfl, this]; rfl
theorem flagsU_yes {f : Int} {n : Nat} (h : flagB f (n : Int) = true) : flagsU f (n + 1) = flagsU f n ++ [(n : Int)] := by rw [flagsU, if_pos h]
theorem flagsU_no {f : Int} {n : Nat} (h : flagB f (n : Int) = false) : flagsU f (n + 1) = flagsU f n := by rw [flagsU, if_neg (by simp [h])]; simp
theorem colL_len (k n : Int) : (colL k n).length ≤ 5 := by unfold colL; split <;> (try split) <;> simp
theorem own_made {base : Nat} (w : World) (l : List Int) (hb : base ≤ w.heap.size) (hl : l.length ≤ maxLen) : (w.alloc (.cells (cellsI l).toArray 3)).ownsRow base 3 1 (.slice (some ⟨w.heap.size, 0, none⟩) l.length l.length) l.length (cellsI l) :=
  ⟨by simp [cellsI], .inr ⟨w.heap.size, l.length, (cellsI l).toArray, rfl, hb, heap_alloc_new w _, Nat.le_refl _, hl, by simp [cellsI], by rw [List.take_of_length_le]; simp [cellsI]⟩⟩
def Three (w : World) (b : Nat) (f fg bg : Int) : Prop := w.cell? ⟨b, 0, none⟩ = some (.int .i64 f) ∧ w.cell? ⟨b, 1, none⟩ = some (.int .i64 fg) ∧ w.cell? ⟨b, 2, none⟩ = some (.int .i64 bg)
def RelP (f fg bg : Int) (w : World) (s3 s4 : Value) (wr : World) : Prop :=
  ∃ i : Nat, 1 ≤ i ∧ i ≤ 10 ∧ s4 = .int .i64 (i : Int) ∧ wr.ownsRow (w.heap.size + 1) 3 1 s3 (0 :: flagsU f i).length (cellsI (0 :: flagsU f i)) ∧
    Three wr w.heap.size f fg bg ∧ Below w.heap.size w wr ∧ w.heap.size < wr.heap.size
def Ans (L : List Int) (w : World) (e : Ending) (w' : World) : Prop :=
  ∃ a cap, e = .returned (.slice a L.length cap) ∧ (L.length ≤ cap ∧ cap ≤ 9223372036854775807) ∧ Ints w' a L ∧ Below w.heap.size w w'
theorem cellsI_at {w : World} {b off : Nat} {l : List Int} (h : Ints w (some ⟨b, off, none⟩) l) : ∀ j u, (cellsI l)[j]? = some u → w.cell? ((⟨b, off, none⟩ : Addr).add j) = some u := by
  intro j u hu
  rw [add_at]
  have hj : j < l.length := by
    rcases Nat.lt_or_ge j l.length with hlt | hge
    · exact hlt
    · rw [List.getElem?_eq_none (by simpa [cellsI] using hge)] at hu; cases hu
  rw [Col.ints_at h j hj]
  simp [cellsI, hj] at hu
  rw [← hu]
theorem cellsI_one {l : List Int} : ∀ u ∈ cellsI l, u.oneCell' = true := by
  intro u hu
  simp [cellsI] at hu
  obtain ⟨x, _, rfl⟩ := hu
  rfl
theorem three_then {B : Nat} {W w1 : World} (hb : Below B W w1) {b : Nat} (hB : b < B) {f fg bg : Int} (h : Three W b f fg bg) : Three w1 b f fg bg := by
  obtain ⟨h0, h1, h2⟩ := h
  refine ⟨?_, ?_, ?_⟩
  · rw [hb.cell (p := ⟨b, 0, none⟩) hB]; exact h0
  · rw [hb.cell (p := ⟨b, 1, none⟩) hB]; exact h1
  · rw [hb.cell (p := ⟨b, 2, none⟩) hB]; exact h2
theorem grown_below {b : Nat} {w w' : World} {row : Option Nat} (h : w.grownBy w' row) (hr : ∀ j, row = some j → b ≤ j) (hb : b ≤ w.heap.size) : Below b w w' :=
  (Below.refl _ _).grown h hb hr
set_option maxRecDepth 100000 in
set_option maxHeartbeats 4000000 in
theorem paramsC (f fg bg : Int) (w : World) : Calls Try.prog 22 #[.agg #[.int .i64 f, .int .i64 fg, .int .i64 bg]] w (Ans (paramsL f fg bg) w) := by
  obtain ⟨i0, hi, hz0, hz1, hz2⟩ := info_parts info3
  cases hB : attrB f fg bg
  · have HE := Lib.hid (show paramsL f fg bg = [0] from by rw [paramsL, hB]; rfl)
    generalize paramsL f fg bg = L at HE
    have hm := fun w => mayAttr f fg bg w
    rw [hB] at hm
    have HM := Lib.hid hm
    clear hm hB
    go_enter Try.func22, Try.ntmps22
    go_wp2_with (go_at_call 17; refine (HM.out _).mono ?_; rintro e w' ⟨rfl, rfl⟩)
    go_ret
    rw [HE.out]
    refine ⟨_, _, rfl, ⟨Nat.le_refl _, by decide⟩, ints_alloc (ints_new (by simp) rfl 3), ?_⟩
    exact (((Below.refl _ _).alloc (Nat.le_refl _) _).alloc (by simp) _).alloc (by simp only [World.size_alloc]; omega) _
  · have HC := Lib.hid (attr_cols hB)
    have HE := Lib.hid (show paramsL f fg bg = 0 :: flagsU f 10 ++ colL 38 fg ++ colL 48 bg from by rw [paramsL, hB]; rfl)
    generalize paramsL f fg bg = L at HE
    have hm := fun w => mayAttr f fg bg w
    rw [hB] at hm
    have HM := Lib.hid hm
    clear hm hB
    go_enter Try.func22, Try.ntmps22
    go_wp2_with (go_at_call 17; refine (HM.out _).mono ?_; rintro e w' ⟨rfl, rfl⟩)
    go_loopw [3, 4] (fun s3 s4 wr => RelP f fg bg w s3 s4 wr) (fun _ s4 _ => 10 - (intOf s4).toNat)
    case atStart =>
      refine ⟨1, by decide, by decide, rfl, ?_, ⟨?_, ?_, ?_⟩, ?_, ?_⟩
      · rw [flagsU_one]
        have h := (own_made (base := w.heap.size + 1) (w.alloc (.cells #[.int .i64 f, .int .i64 fg, .int .i64 bg] 23)) [0] (by simp) (by decide)).alloc (.cells #[.int .i64 f, .int .i64 fg, .int .i64 bg] 23)
        simp only [World.size_alloc] at h
        exact h
      · simp [go_sem]
      · simp [go_sem]
      · simp [go_sem]
      · exact (((Below.refl _ _).alloc (Nat.le_refl _) _).alloc (by simp) _).alloc (by simp only [World.size_alloc]; omega) _
      · simp only [World.size_alloc]; omega
    case round =>
      obtain ⟨i, hi1, hi2, rfl, hown, ⟨c0, c1, c2⟩, hb, hsz⟩ := hrel
      have hlen : (0 :: flagsU f i).length ≤ 11 := by have := flagsU_len f i; simp only [List.length_cons]; omega
      by_cases h10 : i = 10
      · subst h10
        have HC1 := HC.out.1
        have HC2 := HC.out.2
        have l1 := colL_len 38 fg
        have l2 := colL_len 48 bg
        have hsz2 : w.heap.size + 1 ≤ wr.heap.size := by omega
        go_wp2_with fail
        refine (colParams _ _ _ HC1).mono ?_
        rintro e w1 hpost
        rcases hpost with ⟨hL1, rfl, rfl⟩ | ⟨rfl, rfl⟩
        · go_wp2_with (at_builtin; refine wpList_append_own_none rfl _ _ 34 rfl (w.heap.size + 1) 3 i0 1 Try.underlying34 hi _ _ _ rfl hown rfl ?_)
          refine (colParams _ _ _ HC2).mono ?_
          rintro e w1 hpost2
          rcases hpost2 with ⟨hL2, rfl, rfl⟩ | ⟨rfl, rfl⟩
          · go_wp2_with (at_builtin; refine wpList_append_own_none rfl _ _ 34 rfl (w.heap.size + 1) 3 i0 1 Try.underlying34 hi _ _ _ rfl hown rfl ?_)
            go_ret
            have hfin : L = 0 :: flagsU f 10 := by first | exact HE.out | (rw [HE.out]; simp [*])
            obtain ⟨a, cap, rfl, hcap, hI, _⟩ := row_any hown
            rw [hfin]
            exact ⟨a, cap, rfl, hcap, hI, hb⟩
          · go_wp2_with (at_builtin; refine wpList_append_own _ rfl _ _ 34 rfl (w.heap.size + 1) 3 i0 (.int .i64 0) 1 8 Try.underlying34 hi hz0 hz1 hz2 rfl (by decide) _ _ _ rfl (World.ownsRow.alloc hown _) ⟨wr.heap.size, 0, none⟩ (colL 48 bg).length (colL 48 bg).length (cellsI (colL 48 bg)) rfl (by simp [cellsI]) (cellsI_at (ints_new rfl rfl 3)) cellsI_one (by unfold maxLen; omega) (by omega) (by simp only [World.size_alloc]; omega) ?_; intro v3 w3 hown3 hgrow3 hnil3)
            rw [cellsI_app] at hown3
            have hb3 : Below (w.heap.size + 1) wr w3 := ((Below.refl _ _).alloc (by omega) _).grown hgrow3 (by simp; omega) (fun j hj => (hown.lt j hj).1)
            go_ret
            have hfin : L = 0 :: flagsU f 10 ++ colL 48 bg := by first | exact HE.out | (rw [HE.out]; simp [*])
            obtain ⟨a, cap, rfl, hcap, hI, _⟩ := row_any hown3
            rw [hfin]
            exact ⟨a, cap, rfl, hcap, hI, (hb).trans (hb3.mono (by omega))⟩
        · go_wp2_with (at_builtin; refine wpList_append_own _ rfl _ _ 34 rfl (w.heap.size + 1) 3 i0 (.int .i64 0) 1 8 Try.underlying34 hi hz0 hz1 hz2 rfl (by decide) _ _ _ rfl (World.ownsRow.alloc hown _) ⟨wr.heap.size, 0, none⟩ (colL 38 fg).length (colL 38 fg).length (cellsI (colL 38 fg)) rfl (by simp [cellsI]) (cellsI_at (ints_new rfl rfl 3)) cellsI_one (by unfold maxLen; omega) (by omega) (by simp only [World.size_alloc]; omega) ?_; intro v2 w2 hown2 hgrow2 hnil2; rw [cellsI_app] at hown2; have hb2 : Below (w.heap.size + 1) wr w2 := ((Below.refl _ _).alloc hsz2 _).grown hgrow2 (by simp; omega) (fun j hj => (hown.lt j hj).1); have hsz3 := hb2.size; obtain ⟨d0, d1, d2⟩ := three_then hb2 (by omega) ⟨c0, c1, c2⟩)
          refine (colParams _ _ _ HC2).mono ?_
          rintro e w1 hpost2
          rcases hpost2 with ⟨hL2, rfl, rfl⟩ | ⟨rfl, rfl⟩
          · go_wp2_with (at_builtin; refine wpList_append_own_none rfl _ _ 34 rfl (w.heap.size + 1) 3 i0 1 Try.underlying34 hi _ _ _ rfl hown2 rfl ?_)
            go_ret
            have hfin : L = 0 :: flagsU f 10 ++ colL 38 fg := by first | exact HE.out | (rw [HE.out]; simp [*])
            obtain ⟨a, cap, rfl, hcap, hI, _⟩ := row_any hown2
            rw [hfin]
            exact ⟨a, cap, rfl, hcap, hI, hb.trans (hb2.mono (by omega))⟩
          · go_wp2_with (at_builtin; refine wpList_append_own _ rfl _ _ 34 rfl (w.heap.size + 1) 3 i0 (.int .i64 0) 1 8 Try.underlying34 hi hz0 hz1 hz2 rfl (by decide) _ _ _ rfl (World.ownsRow.alloc hown2 _) ⟨w2.heap.size, 0, none⟩ (colL 48 bg).length (colL 48 bg).length (cellsI (colL 48 bg)) rfl (by simp [cellsI]) (cellsI_at (ints_new rfl rfl 3)) cellsI_one (by unfold maxLen; omega) (by omega) (by simp only [World.size_alloc]; omega) ?_; intro v3 w3 hown3 hgrow3 hnil3)
            rw [cellsI_app] at hown3
            have hb3 : Below (w.heap.size + 1) w2 w3 := ((Below.refl _ _).alloc (by omega) _).grown hgrow3 (by simp; omega) (fun j hj => (hown2.lt j hj).1)
            go_ret
            have hfin : L = 0 :: flagsU f 10 ++ colL 38 fg ++ colL 48 bg := by first | exact HE.out | (rw [HE.out]; simp [*])
            obtain ⟨a, cap, rfl, hcap, hI, _⟩ := row_any hown3
            rw [hfin]
            exact ⟨a, cap, rfl, hcap, hI, (hb.trans (hb2.mono (by omega))).trans (hb3.mono (by omega))⟩
      · have hk9 : (i : Int) ≤ 9 := by omega
        cases hF : flagB f (i : Int)
        · have hS := Lib.hid (flagsU_no hF)
          have hF' : (bits .and .i64 f (setZ (i : Int)) != 0) = false := hF
          clear hF
          go_wp2
          go_quiet ((go_at_call 49; exact Calls.quiet_of_same ((setC _ _).mono fun _ _ h => ⟨h.1, h.2.symm⟩)))
          go_wp2
          refine ⟨⟨i + 1, by omega, by omega, by go_num, ?_, ⟨c0, c1, c2⟩, below_drewN hb _, hsz⟩, by simp only [intOf]; omega⟩
          rw [hS.out]; exact hown
        · have hS := Lib.hid (flagsU_yes hF)
          have hF' : (bits .and .i64 f (setZ (i : Int)) != 0) = true := hF
          clear hF
          have hbz := hb.size
          go_wp2
          go_quiet ((go_at_call 49; exact Calls.quiet_of_same ((setC _ _).mono fun _ _ h => ⟨h.1, h.2.symm⟩)))
          have hsz2 : w.heap.size + 1 ≤ wr.heap.size := by omega
          go_wp2_with (at_builtin; refine wpList_append_own _ rfl _ _ 34 rfl (w.heap.size + 1) 3 i0 (.int .i64 0) 1 8 Try.underlying34 hi hz0 hz1 hz2 rfl (by decide) _ _ _ rfl (World.ownsRow.alloc (w := wr.drewN _) hown _) ⟨wr.heap.size, 0, none⟩ 1 1 [.int .i64 (i : Int)] rfl rfl (cell_one_new _ _ _) (fun x hx => by simp at hx; subst hx; rfl) (by unfold maxLen; omega) (by omega) (by simp only [World.size_alloc, World.heap_drewN]; omega) ?_; intro v2 w2 hown2 hgrow2 hnil2)
          have hb2 : Below (w.heap.size + 1) wr w2 := ((below_drewN (Below.refl _ _) _).alloc hsz2 _).grown hgrow2 (by simp; omega) (fun j hj => (hown.lt j hj).1)
          refine ⟨⟨i + 1, by omega, by omega, by go_num, ?_, three_then hb2 (by omega) ⟨c0, c1, c2⟩, hb.trans (hb2.mono (by omega)), by have := hb2.size; omega⟩, by simp only [intOf]; omega⟩
          rw [hS.out, ← List.cons_append, List.length_append, ← cellsI_app]; exact hown2
end Go.Proofs.Ytkpneocolbmnpaa.Params
