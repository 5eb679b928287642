/- Package tabs: contracts of Prev, Set, Clear, ClearAll, List, Resize, New. -/
import Derived.Test.YtkpneocolbmnpaaTabs
import Derived.Lib.SliceRun
set_option linter.unusedVariables false
namespace Go.Proofs.Ytkpneocolbmnpaa.Tabs
open Go Go.RowKit Kit Ints TabsMath

theorem prevZ_def (l : List Bool) (col n : Int) : prevZ l col n = prevG l (clampN col (l.length - 1) - 1) (max n 1).toNat := rfl
theorem prevG_yes {l : List Bool} {m k : Nat} (hk : 0 < k) (h : l.getD k false = true) (hm : 2 ≤ m) : prevG l k m = prevG l (k - 1) (m - 1) := by
  obtain ⟨j, rfl⟩ : ∃ j, k = j + 1 := ⟨k - 1, by omega⟩
  rw [prevG, if_pos h, if_neg (by omega)]; rfl
theorem prevG_one {l : List Bool} {k : Nat} (hk : 0 < k) (h : l.getD k false = true) : prevG l k 1 = k := by
  obtain ⟨j, rfl⟩ : ∃ j, k = j + 1 := ⟨k - 1, by omega⟩
  rw [prevG, if_pos h, if_pos (by omega)]
theorem prevG_no {l : List Bool} {m k : Nat} (hk : 0 < k) (h : l.getD k false = false) : prevG l k m = prevG l (k - 1) m := by
  obtain ⟨j, rfl⟩ : ∃ j, k = j + 1 := ⟨k - 1, by omega⟩
  rw [prevG, if_neg (by rw [h]; decide)]; rfl
set_option maxRecDepth 100000 in
set_option maxHeartbeats 1000000 in
theorem prevC (p b : Nat) (l : List Bool) (col n : Int) (w : World) (h : St w p b l) (h0 : 0 < l.length) (hl : l.length ≤ 200) (hn : n ≤ 9223372036854775807) :
    Calls Try.prog 40 #[.pointer (some ⟨p, 0, none⟩), .int .i64 col, .int .i64 n] w fun e w' => e = .returned (.int .i64 (prevZ l col n)) ∧ w = w' := by
  have c0 := h.cp
  have HC := Lib.hid h.cb
  obtain ⟨R, hR⟩ : ∃ R : Nat, R = prevG l (clampN col (l.length - 1) - 1) (max n 1).toNat := ⟨_, rfl⟩
  have HR := Lib.hid hR
  rw [show prevZ l col n = (R : Int) from by rw [prevZ_def, hR]]
  clear hR
  have HK : ∃ (k0 : Int) (m0 : Nat), 1 ≤ m0 ∧ (m0 : Int) ≤ 9223372036854775807 ∧ (m0 : Int) = max n 1 ∧ -1 ≤ k0 ∧ k0 < l.length ∧ k0 = min (max col 0) ((l.length : Int) - 1) - 1 ∧ Hid (R = prevG l k0.toNat m0) := by
    refine ⟨(clampN col (l.length - 1) : Int) - 1, (max n 1).toNat, by omega, by omega, by omega, by omega, by unfold clampN; omega, by unfold clampN; omega, ?_⟩
    rw [show ((clampN col (l.length - 1) : Int) - 1).toNat = clampN col (l.length - 1) - 1 by omega]; exact HR
  obtain ⟨k0, m0, hm1, hm2, hm3, hk1, hk2, hk3, HR0⟩ := HK
  clear HR
  have HM := Lib.hid hm3
  have HK := Lib.hid hk3
  clear hm3 hk3
  go_enter Try.func40, Try.ntmps40
  go_wp2
  all_goals
    go_loop [2, 8] (fun s2 s8 => ∃ (m : Nat) (k : Int), 1 ≤ m ∧ (m : Int) ≤ 9223372036854775807 ∧ -1 ≤ k ∧ k < l.length ∧ s2 = .int .i64 (m : Int) ∧ s8 = .int .i64 k ∧ Hid (R = prevG l k.toNat m)) (fun _ s8 => (intOf s8).toNat)
    case atStart => (have e1 := HM.out; have e2 := HK.out; exact ⟨m0, k0, hm1, hm2, hk1, hk2, by (congr 1; omega), by (congr 1; omega), HR0⟩)
    case round =>
      obtain ⟨m, k, hm1, hm2, hk, hkl, rfl, rfl, hG⟩ := hrel
      by_cases hlt : 0 < k
      · obtain ⟨j, rfl⟩ := Int.eq_ofNat_of_zero_le (show 0 ≤ k by omega)
        have hc := HC.out j (by omega)
        have hj : 0 < j := by omega
        rw [Int.toNat_natCast] at hG
        have hto := Lib.hid (show ((j : Int) - 1).toNat = j - 1 by omega)
        cases hv : l.getD j false
        · rw [hv] at hc
          have hG' := Lib.hid (hG.out.trans (prevG_no hj hv))
          have hm0 : ((m : Int) == 0) = false := by simp; omega
          clear hG hv
          go_wp2
          go_round
          case rel => exact ⟨m, (j : Int) - 1, hm1, hm2, by omega, by omega, rfl, rfl, by rw [hto.out]; exact hG'⟩
          case measure => simp [intOf]; omega
        · rw [hv] at hc
          by_cases h1 : m = 1
          · subst h1
            have hG' := Lib.hid (hG.out.trans (prevG_one hj hv))
            clear hG hv
            go_wp2
            go_ret
            exact ⟨ret_int (by rw [hG'.out]), rfl⟩
          · have hG' := Lib.hid (hG.out.trans (prevG_yes hj hv (by omega)))
            have hm0 : ((m : Int) - 1 == 0) = false := by simp; omega
            clear hG hv
            go_wp2
            go_round
            case rel => exact ⟨m - 1, (j : Int) - 1, by omega, by omega, by omega, by omega, by (congr 1; omega), rfl, by rw [hto.out]; exact hG'⟩
            case measure => simp [intOf]; omega
      · have hs : k.toNat = 0 := by omega
        rw [hs] at hG
        have hG' := Lib.hid (hG.out.trans (by rw [prevG]))
        clear hG hs
        go_wp2
        go_ret
        exact ⟨ret_int (by rw [hG'.out]; rfl), rfl⟩
/-- is a number a column? -/
def inB (l : List Bool) (col : Int) : Bool := decide (0 ≤ col ∧ col < l.length)
/-- what Set and Clear leave. -/
def PutP (w : World) (p b : Nat) (l : List Bool) (col : Int) (v : Bool) (e : Ending) (w' : World) : Prop :=
  e = .returned (.bool (inB l col)) ∧ St w' p b (if inB l col then l.set col.toNat v else l) ∧ w.grownBy w' (some b)
theorem grownBy_refl (w : World) (r : Option Nat) : w.grownBy w r := ⟨rfl, rfl, rfl, Nat.le_refl _, fun _ _ _ => rfl⟩
theorem grownBy_set (w : World) (b i : Nat) (u : Value) : w.grownBy (w.setCell ⟨b, i, none⟩ u) (some b) :=
  ⟨rfl, rfl, rfl, by simp [World.setCell], fun k _ hk => Below.heap_setCell w ⟨b, i, none⟩ u k (fun e => hk (by rw [e]))⟩
theorem putAny (p b : Nat) (l : List Bool) (col : Int) (v : Bool) (w : World) (h : St w p b l) (hl : l.length ≤ 200) :
    Calls Try.prog 54 #[.pointer (some ⟨p, 0, none⟩), .int .i64 col, .bool v] w (PutP w p b l col v) := by
  by_cases hc : 0 ≤ col ∧ col < l.length
  · refine (putC p b l col v w h hl hc.1 hc.2).mono ?_
    rintro e w' ⟨rfl, rfl⟩
    have hB : inB l col = true := by simpa [inB] using hc
    refine ⟨by rw [hB], ?_, grownBy_set _ _ _ _⟩
    rw [hB, if_pos rfl]
    exact h.put _ _ (by omega)
  · refine (putNo p b l col v w h hl (by omega)).mono ?_
    rintro e w' ⟨rfl, rfl⟩
    have hB : inB l col = false := by unfold inB; exact decide_eq_false hc
    refine ⟨by rw [hB], ?_, grownBy_refl _ _⟩
    rw [hB]; exact h
set_option maxRecDepth 100000 in
theorem setC (p b : Nat) (l : List Bool) (col : Int) (w : World) (h : St w p b l) (hl : l.length ≤ 200) :
    Calls Try.prog 29 #[.pointer (some ⟨p, 0, none⟩), .int .i64 col] w (PutP w p b l col true) := by
  go_enter Try.func29, Try.ntmps29
  go_wp2_with fail
  refine (putAny p b l col true w h hl).mono ?_
  rintro e w' ⟨rfl, hp⟩
  go_wp2
  go_ret
  exact ⟨rfl, hp⟩
set_option maxRecDepth 100000 in
theorem clearC (p b : Nat) (l : List Bool) (col : Int) (w : World) (h : St w p b l) (hl : l.length ≤ 200) :
    Calls Try.prog 31 #[.pointer (some ⟨p, 0, none⟩), .int .i64 col] w (PutP w p b l col false) := by
  go_enter Try.func31, Try.ntmps31
  go_wp2_with fail
  refine (putAny p b l col false w h hl).mono ?_
  rintro e w' ⟨rfl, hp⟩
  go_wp2
  go_ret
  exact ⟨rfl, hp⟩
theorem zero4 (w : World) : (zeroValue 4).run Try.prog w = .ok (.bool false) w := by kernel_rfl
theorem wipe_row {b t n : Nat} {z : Value} : ∀ (m o : Nat) (w : World) (f : Nat → Value), w.rowIs b t n f → (w.setCells b o (List.replicate m z)).rowIs b t n (fun j => if o ≤ j ∧ j < o + m then z else f j) := by
  intro m
  induction m with
  | zero => intro o w f h; exact h.congr fun i hi => by rw [if_neg (by omega)]
  | succ m ih =>
    intro o w f h
    refine (ih (o + 1) _ _ (h.set o z)).congr fun i hi => ?_
    by_cases h1 : o + 1 ≤ i ∧ i < o + 1 + m
    · rw [if_pos h1, if_pos (by omega)]
    · rw [if_neg h1]
      by_cases h2 : i = o
      · rw [if_pos h2, if_pos (by omega)]
      · rw [if_neg h2, if_neg (by omega)]
theorem wipe_grown {b : Nat} {z : Value} : ∀ (m o : Nat) (w : World), w.grownBy (w.setCells b o (List.replicate m z)) (some b) := by
  intro m
  induction m with
  | zero => intro o w; exact grownBy_refl _ _
  | succ m ih =>
    intro o w
    have h1 := grownBy_set w b o z
    have h2 := ih (o + 1) (w.setCell ⟨b, o, none⟩ z)
    exact ⟨h2.os.trans h1.os, h2.tape.trans h1.tape, h2.output.trans h1.output, Nat.le_trans h1.size h2.size, fun k hk hne => (h2.block k (Nat.lt_of_lt_of_le hk h1.size) hne).trans (h1.block k hk hne)⟩
set_option maxRecDepth 100000 in
theorem clearAllC (p b : Nat) (l : List Bool) (w : World) (h : St w p b l) (h0 : 0 < l.length) (hl : l.length ≤ 200) :
    Calls Try.prog 32 #[.pointer (some ⟨p, 0, none⟩)] w fun e w' => e = .returned (.tuple #[]) ∧ St w' p b (List.replicate l.length false) ∧ w.grownBy w' (some b) := by
  have c0 := h.cp
  have hcl := fun ty => Lib.run_clear_slice (P := Try.prog) w 54 4 ty (.bool false) Try.underlying54 zero4 rfl rfl b 0 l.length l.length h0 (fun j hj => by rw [Nat.zero_add, h.cb j hj]; rfl) (fun j hj => by rw [Nat.zero_add]; exact h.fb j)
  have hrow := wipe_row (z := .bool false) l.length 0 w _ h.2
  have hgr := wipe_grown (b := b) (z := .bool false) l.length 0 w
  have HR := Lib.hid hrow
  have HG := Lib.hid hgr
  have HP := Lib.hid h
  generalize w.setCells b 0 (List.replicate l.length (.bool false)) = w1 at *
  clear hrow hgr h
  go_enter Try.func32, Try.ntmps32
  go_wp2
  go_end0
  refine ⟨rfl, ⟨(HG.out.block p HP.out.p_lt (fun e => HP.out.ne_ (by injection e))).trans ?_, ?_⟩, HG.out⟩
  · rw [List.length_replicate]; exact HP.out.1
  · rw [List.length_replicate]
    refine HR.out.congr fun i hi => ?_
    rw [if_pos (by omega)]
    simp [hi]
/-- what List answers. -/
def ListP (w : World) (L : List Int) (e : Ending) (w' : World) : Prop :=
  ∃ a cap, e = .returned (.slice a L.length cap) ∧ (L.length ≤ cap ∧ cap ≤ 9223372036854775807) ∧ Ints w' a L ∧ Below w.heap.size w w'
set_option maxRecDepth 100000 in
set_option maxHeartbeats 1000000 in
theorem listC (p b : Nat) (l : List Bool) (w : World) (h : St w p b l) (hl : l.length ≤ 200) :
    Calls Try.prog 36 #[.pointer (some ⟨p, 0, none⟩)] w (ListP w (stops l)) := by
  obtain ⟨i0, hi, hz0, hz1, hz2⟩ := info_parts info3
  have c0 := h.cp
  have HST := Lib.hid h
  clear h
  go_enter Try.func36, Try.ntmps36
  go_wp2
  go_loopw [3, 11] (fun s3 s11 wr => ∃ k : Nat, k ≤ l.length ∧ s11 = .int .i64 (k : Int) ∧ wr.ownsRow w.heap.size 3 1 s3 (stopsU l k).length (cellsI (stopsU l k)) ∧ Below w.heap.size w wr) (fun _ s11 _ => l.length - (intOf s11).toNat)
  case atStart => exact ⟨0, Nat.zero_le _, rfl, World.ownsRow_nil _ _ _ _, Below.refl _ _⟩
  case round =>
    obtain ⟨k, hk, rfl, hown, hb⟩ := hrel
    by_cases hlt : k < l.length
    · have hc := (HST.out.then_ hb (Nat.le_refl _)).cb k hlt
      have hlen := stopsU_len l k
      cases hv : l.getD k false
      · rw [hv] at hc
        have hS := Lib.hid (stopsU_no hv)
        clear hv
        go_wp2
        go_roundw
        case rel => exact ⟨k + 1, by omega, by go_num, by rw [hS.out]; exact hown, hb⟩
        case measure => simp [intOf]; omega
      · rw [hv] at hc
        have hS := Lib.hid (stopsU_yes hv)
        clear hv
        go_wp2_with (at_builtin; refine wpList_append_own _ rfl _ _ 34 rfl w.heap.size 3 i0 (.int .i64 0) 1 8 Try.underlying34 hi hz0 hz1 hz2 rfl (by decide) _ _ _ rfl (World.ownsRow.alloc hown _) ⟨wr.heap.size, 0, none⟩ 1 1 [.int .i64 (k : Int)] rfl rfl (cell_one_new _ _ _) (fun x hx => by simp at hx; subst hx; rfl) (by unfold maxLen; omega) (by omega) (by simp only [World.size_alloc]; have := hb.size; omega) ?_; intro v2 w2 hown2 hgrow2 hnil2)
        have hb2 : Below w.heap.size wr w2 := ((Below.refl _ _).alloc hb.size _).grown hgrow2 (by have := hb.size; simp; omega) (fun j hj => (hown.lt j hj).1)
        go_roundw
        case rel =>
          refine ⟨k + 1, by omega, by go_num, ?_, hb.trans hb2⟩
          rw [hS.out, List.length_append, ← cellsI_app]; exact hown2
        case measure => simp [intOf]; omega
    · obtain rfl : k = l.length := by omega
      obtain ⟨a, cap, rfl, hcap, hI, _⟩ := row_any hown
      go_wp2
      go_ret
      exact ⟨a, cap, rfl, hcap, hI, hb⟩
/-- has: is a number among them? -/
theorem hasEmpty (a : Option Addr) (cap : Nat) (n : Int) (w : World) : Calls Try.prog 42 #[.slice a 0 cap, .int .i64 n] w fun e w' => e = .returned (.bool false) ∧ w = w' := by
  go_enter Try.func42, Try.ntmps42
  go_wp2
  refine wp_loop_rounds 1 ?_
  rw [rounds_succ]
  go_wp2
  go_ret
  exact ⟨rfl, rfl⟩
set_option maxRecDepth 100000 in
theorem hasRow (b off cap : Nat) (L : List Int) (n : Int) (w : World) (hn : L.length ≤ 1000000) (h : Ints w (some ⟨b, off, none⟩) L) (h0 : 0 < L.length) :
    Calls Try.prog 42 #[.slice (some ⟨b, off, none⟩) L.length cap, .int .i64 n] w fun e w' => e = .returned (.bool (L.any (· == n))) ∧ w = w' := by
  have HI := Lib.hid h
  clear h
  generalize hR : L.any (· == n) = R
  have HR := Lib.hid hR
  clear hR
  go_enter Try.func42, Try.ntmps42
  go_wp2
  go_loop [5] (fun s5 => ∃ k : Nat, k ≤ L.length ∧ s5 = .int .i64 (k : Int) ∧ Hid (R = (L.drop k).any (· == n))) (fun s5 => L.length - (intOf s5).toNat)
  case atStart => exact ⟨0, Nat.zero_le _, rfl, Lib.hid (by rw [List.drop_zero]; exact HR.out.symm)⟩
  case round =>
    obtain ⟨k, hk, rfl, hT⟩ := hrel
    by_cases hlt : k < L.length
    · have hc := Ytkpneocolbmnpaa.Ints.ints_at HI.out k hlt
      have ha := Lib.hid (show (L.drop k).any (· == n) = ((L[k] == n) || (L.drop (k + 1)).any (· == n)) by rw [List.drop_eq_getElem_cons hlt]; rfl)
      generalize L[k] = c at hc ha
      cases hcn : (c == n)
      · have hT' := Lib.hid (show R = (L.drop (k + 1)).any (· == n) by rw [hT.out, ha.out, hcn]; rfl)
        clear hT ha
        go_wp2
        go_round
        case rel => exact ⟨k + 1, by omega, by go_num, hT'⟩
        case measure => simp [intOf]; omega
      · have hT' := Lib.hid (show true = R by rw [hT.out, ha.out, hcn]; rfl)
        clear hT ha
        go_wp2
        go_ret
        exact ⟨ret_bool hT'.out, rfl⟩
    · obtain rfl : k = L.length := by omega
      have hT' := Lib.hid (show false = R by rw [hT.out, List.drop_length]; rfl)
      clear hT
      go_wp2
      go_ret
      exact ⟨ret_bool hT'.out, rfl⟩
theorem hasC (a : Option Addr) (cap : Nat) (L : List Int) (n : Int) (w : World) (hn : L.length ≤ 1000000) (h : Ints w a L) :
    Calls Try.prog 42 #[.slice a L.length cap, .int .i64 n] w fun e w' => e = .returned (.bool (L.any (· == n))) ∧ w = w' := by
  by_cases h0 : 0 < L.length
  · rcases h with rfl | ⟨b, off, rfl, h⟩
    · simp at h0
    · exact hasRow b off cap L n w hn (.inr ⟨b, off, rfl, h⟩) h0
  · obtain rfl : L = [] := List.eq_nil_of_length_eq_zero (by omega)
    exact hasEmpty a cap n w
end Go.Proofs.Ytkpneocolbmnpaa.Tabs
