/- The Reader: Num, NewReader, Err, Left, End. -/
import Derived.Test.YtellhkcleicfbaaRdA
import Derived.Test.YtellhkcleicfbaaRdB
import Derived.Test.YtellhkcleicfbaaCopy
set_option linter.unusedVariables false
namespace Go.Proofs.Ytellhkcleicfbaa.RdC
open Go Go.RowKit Kit Crc Var Get WireFirst Ref3 Copy Rd RdA RdB

variable {w w' w2 : World} {p : Nat} {r : Rdr}
theorem getF_le : ∀ (l : List Nat) (i acc : Nat), (getF l i acc).2.2 = 0 → i < (getF l i acc).2.1 ∧ (getF l i acc).2.1 ≤ i + l.length := by
  intro l
  induction l with
  | nil => intro i acc h; simp [getF] at h
  | cons c l ih =>
    intro i acc h
    rw [getF] at h ⊢
    split at h
    · simp at h
    · rename_i h1
      rw [if_neg h1]
      split at h
      · rename_i h2
        rw [if_pos h2]
        have := ih (i + 1) _ h
        simp only [List.length_cons]; omega
      · rename_i h2
        rw [if_neg h2]
        split at h
        · simp at h
        · rename_i h3
          rw [if_neg h3]
          simp only [List.length_cons]; omega
theorem getA_ok (l : List Nat) (p : Nat) (h : (getA l p).2.2 = 0) : ∃ n y : Nat, getA l p = ((n : Int), (y : Int), 0) ∧ p < y ∧ y ≤ l.length := by
  unfold getA at h ⊢
  split at h
  · simp at h
  · rename_i h1
    rw [if_neg h1]
    simp only [Int.toNat_natCast] at h ⊢
    have h2 : (getF (l.drop p) 0 0).2.2 = 0 := by simpa using h
    have h3 := getF_le _ _ _ h2
    simp only [List.length_drop] at h3
    refine ⟨(getF (l.drop p) 0 0).1, p + (getF (l.drop p) 0 0).2.1, ?_, by omega, by omega⟩
    rw [h2]
    unfold end_
    rw [if_pos h2]
    simp
/-- what Num answers, and what becomes of the reader. -/
def numN (l : List Nat) (r : Rdr) (most : Nat) : Int × Rdr :=
  if r.err ≠ 0 then (0, r) else if (getA l r.at_).2.2 ≠ 0 then (0, { r with err := (getA l r.at_).2.2 }) else if (most : Int) < (getA l r.at_).1 then (0, { r with err := 1 }) else ((getA l r.at_).1, { r with at_ := (getA l r.at_).2.1.toNat })
set_option maxRecDepth 100000 in
theorem clo73Bad (b1 b2 b3 most : Nat) (r2 : Rdr) (x : Int) (h1 : w.cell? ⟨b1, 0, none⟩ = some (.pointer (some ⟨p, 0, none⟩))) (h2 : w.cell? ⟨b2, 0, none⟩ = some (.int .u64 (most : Int)))
    (hN : Calls Try.prog 38 #[.pointer (some ⟨p, 0, none⟩), .int .u64 (most : Int)] w (PanicQ w p r2 x)) :
    Calls Try.prog 37 #[.pointer (some ⟨b1, 0, none⟩), .pointer (some ⟨b2, 0, none⟩), .pointer (some ⟨b3, 0, none⟩)] w (PanicQ w p r2 x) := by
  have HN := Lib.hid hN
  clear hN
  go_enter Try.func37, Try.ntmps37
  go_wp2_with fail
  refine HN.out.mono ?_
  rintro e w1 ⟨rfl, h1, h2⟩
  go_wp2
  exact ⟨rfl, rfl, h1, h2⟩
def CloQ (w : World) (p q : Nat) (r : Rdr) (v : Value) (w' : World) : Prop := Rc w' p r ∧ w'.cell? ⟨q, 0, none⟩ = some v ∧ Fr2 p q w w'
set_option maxRecDepth 100000 in
theorem clo73Ok (b1 b2 b3 most : Nat) (r2 : Rdr) (n : Int) (v : Value) (h1 : w.cell? ⟨b1, 0, none⟩ = some (.pointer (some ⟨p, 0, none⟩))) (h2 : w.cell? ⟨b2, 0, none⟩ = some (.int .u64 (most : Int)))
    (h3 : w.cell? ⟨b3, 0, none⟩ = some v) (h4 : w.frozen? ⟨b3, 0, none⟩ = false) (hne : b3 ≠ p)
    (hN : Calls Try.prog 38 #[.pointer (some ⟨p, 0, none⟩), .int .u64 (most : Int)] w (NumQ w p r2 n)) :
    Calls Try.prog 37 #[.pointer (some ⟨b1, 0, none⟩), .pointer (some ⟨b2, 0, none⟩), .pointer (some ⟨b3, 0, none⟩)] w fun e w' => e = .returned (.tuple #[]) ∧ CloQ w p b3 r2 (.int .u64 n) w' := by
  have HN := Lib.hid hN
  have H3 := Lib.hid h3
  have H4 := Lib.hid h4
  clear hN h3 h4
  go_enter Try.func37, Try.ntmps37
  go_wp2_with fail
  refine HN.out.mono ?_
  rintro e w1 ⟨rfl, g1, g2⟩
  have c3 := cell_grown g2 hne H3.out
  have hlt := World.block_lt_of_cell? w _ H3.out
  have hbk := g2.block b3 hlt (fun e => hne (by injection e))
  have f3 : w1.frozen? ⟨b3, 0, none⟩ = false := (World.frozen?_of_block hbk).trans H4.out
  have hq : CloQ w p b3 r2 (.int .u64 n) (w1.setCell ⟨b3, 0, none⟩ (.int .u64 n)) := by
    refine ⟨(Below.heap_setCell w1 ⟨b3, 0, none⟩ _ p (fun e => hne e.symm)).trans g1, World.cell?_setCell_same' _ _ _ (by rw [c3]; rfl), (Fr2.of_p g2).trans Fr2.set⟩
  have HQ := Lib.hid hq
  clear hq hbk hlt g1 g2 hne
  go_wp2
  go_end0
  exact ⟨rfl, HQ.out⟩
theorem new_one (w : World) (v : Value) (T : TypeId) : (w.alloc (.cells #[v] T)).cell? ⟨w.heap.size, 0, none⟩ = some v := by simp
theorem new_fz (w : World) (v : Value) (T : TypeId) : (w.alloc (.cells #[v] T)).frozen? ⟨w.heap.size, 0, none⟩ = false := by simp
def RdQ (w : World) (p : Nat) (x : Int × Rdr) (e : Ending) (w' : World) : Prop := e = .returned (.int .u64 x.1) ∧ Rc w' p x.2 ∧ w.grownBy w' (some p)
theorem k73 (caps : Array Value) : ∀ w, (callFunc 37 caps).run Try.prog w = .ok (.enter 37 caps) w := fun w => by kernel_rfl
set_option maxRecDepth 100000 in
theorem numC (most : Nat) (l : List Nat) (hp : Rc w p r) (hl : By w r l) :
    Calls Try.prog 30 #[.pointer (some ⟨p, 0, none⟩), .int .u64 (most : Int)] w (RdQ w p (numN l r most)) := by
  have hmf := hmf
  obtain ⟨W, hW⟩ : ∃ W, W = ((w.alloc (.cells #[.pointer (some ⟨p, 0, none⟩)] 66)).alloc (.cells #[.int .u64 (most : Int)] 22)).alloc (.cells #[.int .u64 0] 22) := ⟨_, rfl⟩
  have hb : Below w.heap.size w W := by rw [hW]; exact (((Below.refl w.heap.size w).alloc (Nat.le_refl _) _).alloc (by simp) _).alloc (by simp; omega) _
  have d1 : W.cell? ⟨w.heap.size, 0, none⟩ = some (.pointer (some ⟨p, 0, none⟩)) := by rw [hW]; exact past_alloc (past_alloc (show (w.alloc (.cells #[.pointer (some ⟨p, 0, none⟩)] 66)).cell? ⟨w.heap.size, 0, none⟩ = _ by simp))
  have d2 : W.cell? ⟨w.heap.size + 1, 0, none⟩ = some (.int .u64 (most : Int)) := by rw [hW]; exact past_alloc (show ((w.alloc (.cells #[.pointer (some ⟨p, 0, none⟩)] 66)).alloc (.cells #[.int .u64 (most : Int)] 22)).cell? ⟨w.heap.size + 1, 0, none⟩ = _ by simp)
  have d3 : W.cell? ⟨w.heap.size + 1 + 1, 0, none⟩ = some (.int .u64 0) := by rw [hW, ← show ((w.alloc (.cells #[.pointer (some ⟨p, 0, none⟩)] 66)).alloc (.cells #[.int .u64 (most : Int)] 22)).heap.size = w.heap.size + 1 + 1 by simp]; exact new_one _ _ _
  have d4 : W.frozen? ⟨w.heap.size + 1 + 1, 0, none⟩ = false := by rw [hW, ← show ((w.alloc (.cells #[.pointer (some ⟨p, 0, none⟩)] 66)).alloc (.cells #[.int .u64 (most : Int)] 22)).heap.size = w.heap.size + 1 + 1 by simp]; exact new_fz _ _ _
  have d5 : w.heap.size + 1 + 1 < W.heap.size := by rw [hW]; simp
  have hpl := hp.lt
  have hp1 := hp.then_ hb
  have hl1 := hl.then_ hb
  have HB := Lib.hid hb
  have D3 := Lib.hid d3
  have hX : numN l r most = if r.err ≠ 0 then (0, r) else if (getA l r.at_).2.2 ≠ 0 then (0, { r with err := (getA l r.at_).2.2 }) else if (most : Int) < (getA l r.at_).1 then (0, { r with err := 1 }) else ((getA l r.at_).1, { r with at_ := (getA l r.at_).2.1.toNat }) := rfl
  generalize numN l r most = X at hX ⊢
  by_cases he : r.err = 0
  · rw [if_neg (by simpa using he)] at hX
    have hend : ((getA l r.at_).2.2 ≠ 0 ∧ Hid (∀ V, Below W.heap.size W V → Calls Try.prog 37 #[.pointer (some ⟨w.heap.size, 0, none⟩), .pointer (some ⟨w.heap.size + 1, 0, none⟩), .pointer (some ⟨w.heap.size + 1 + 1, 0, none⟩)] V (PanicQ V p r (getA l r.at_).2.2))) ∨
        ((getA l r.at_).2.2 = 0 ∧ (most : Int) < (getA l r.at_).1 ∧ Hid (∀ V, Below W.heap.size W V → Calls Try.prog 37 #[.pointer (some ⟨w.heap.size, 0, none⟩), .pointer (some ⟨w.heap.size + 1, 0, none⟩), .pointer (some ⟨w.heap.size + 1 + 1, 0, none⟩)] V (PanicQ V p { r with at_ := (getA l r.at_).2.1.toNat } 1))) ∨
        ((getA l r.at_).2.2 = 0 ∧ ¬ (most : Int) < (getA l r.at_).1 ∧ Hid (∀ V, Below W.heap.size W V → Calls Try.prog 37 #[.pointer (some ⟨w.heap.size, 0, none⟩), .pointer (some ⟨w.heap.size + 1, 0, none⟩), .pointer (some ⟨w.heap.size + 1 + 1, 0, none⟩)] V fun e V' => e = .returned (.tuple #[]) ∧ CloQ V p (w.heap.size + 1 + 1) { r with at_ := (getA l r.at_).2.1.toNat } (.int .u64 (getA l r.at_).1) V')) := by
      by_cases h1 : (getA l r.at_).2.2 = 0
      · right
        obtain ⟨n, y, hg, _, _⟩ := getA_ok l r.at_ h1
        rw [hg]
        simp only [Int.toNat_natCast]
        by_cases h2 : most < n
        · left
          refine ⟨by trivial, by omega, Lib.hid fun V hV => ?_⟩
          exact clo73Bad _ _ _ most _ _ (cell_then hV (Nat.le_refl _) d1) (cell_then hV (Nat.le_refl _) d2) (numBig most l (hp1.then_ hV) (hl1.then_ hV) n y hg h2)
        · right
          refine ⟨by trivial, by omega, Lib.hid fun V hV => ?_⟩
          exact clo73Ok _ _ _ most _ _ _ (cell_then hV (Nat.le_refl _) d1) (cell_then hV (Nat.le_refl _) d2) (cell_then hV (Nat.le_refl _) d3) ((hV.frozen (p := ⟨w.heap.size + 1 + 1, 0, none⟩) d5).trans d4) (by omega) (numOk most l (hp1.then_ hV) (hl1.then_ hV) n y hg (by omega))
      · left
        refine ⟨h1, Lib.hid fun V hV => ?_⟩
        exact clo73Bad _ _ _ most _ _ (cell_then hV (Nat.le_refl _) d1) (cell_then hV (Nat.le_refl _) d2) (numBad most l (hp1.then_ hV) (hl1.then_ hV) (getA l r.at_).2.2 (getA l r.at_).1 (getA l r.at_).2.1 rfl h1)
    have HP1 := Lib.hid hp1
    have HE := Lib.hid he
    have HN := Lib.hid hpl
    subst hW
    rcases hend with ⟨h1, HC⟩ | ⟨h1, h2, HC⟩ | ⟨h1, h2, HC⟩
    · rw [if_pos h1] at hX
      have HXX := Lib.hid hX
      clear h1 hb d1 d2 d3 d4 d5 hp hl hp1 hl1 he hX hpl
      go_enter Try.func30, Try.ntmps30
      go_wp2_with fail
      refine (readBad 37 _ (k73 _) HP1.out HE.out r _ (fun V hV => (HC.out V hV).mono fun _ _ h => h)).mono ?_
      rintro e w1 ⟨rfl, h3, h4⟩
      have c3 := cell_grown h4 (by have := HN.out; omega) D3.out
      have HG := Lib.hid (grown_trans (grown_below HB.out (some p)) h4)
      have H3 := Lib.hid h3
      clear h3 h4
      go_wp2
      go_ret
      exact ⟨by rw [HXX.out]; rfl, by rw [HXX.out]; exact H3.out, HG.out⟩
    · rw [if_neg (by simpa using h1), if_pos h2] at hX
      have HXX := Lib.hid hX
      clear h1 h2 hb d1 d2 d3 d4 d5 hp hl hp1 hl1 he hX hpl
      go_enter Try.func30, Try.ntmps30
      go_wp2_with fail
      refine (readBad 37 _ (k73 _) HP1.out HE.out _ _ (fun V hV => (HC.out V hV).mono fun _ _ h => h)).mono ?_
      rintro e w1 ⟨rfl, h3, h4⟩
      have c3 := cell_grown h4 (by have := HN.out; omega) D3.out
      have HG := Lib.hid (grown_trans (grown_below HB.out (some p)) h4)
      have H3 := Lib.hid h3
      clear h3 h4
      go_wp2
      go_ret
      exact ⟨by rw [HXX.out]; rfl, by rw [HXX.out]; exact H3.out, HG.out⟩
    · rw [if_neg (by simpa using h1), if_neg h2] at hX
      have HXX := Lib.hid hX
      clear h1 h2 hb d1 d2 d3 d4 d5 hp hl hp1 hl1 he hX hpl
      go_enter Try.func30, Try.ntmps30
      go_wp2_with fail
      refine (readOk 37 _ (k73 _) HP1.out HE.out _ (fun V hV => HC.out V hV)).mono ?_
      rintro e w1 ⟨rfl, V, hV, h3, c3, h4⟩
      have HG := Lib.hid (Fr2.new (below_then HB.out hV HB.out.size) h4 (by omega))
      have H3 := Lib.hid h3
      clear h3 h4 hV
      go_wp2
      go_ret
      exact ⟨by rw [HXX.out]; rfl, by rw [HXX.out]; exact H3.out, HG.out⟩
  · rw [if_pos he] at hX
    have HXX := Lib.hid hX
    have HP1 := Lib.hid hp1
    have HE := Lib.hid he
    subst hW
    clear hb d1 d2 d3 d4 d5 hp hl hp1 hl1 he hX hpl
    go_enter Try.func30, Try.ntmps30
    go_wp2_with fail
    refine (readDone 37 _ HP1.out HE.out).mono ?_
    rintro e w1 ⟨rfl, h4⟩
    have c3 := cell_then h4 (Nat.le_refl _) D3.out
    have HG := Lib.hid (grown_below (below_then HB.out h4 HB.out.size) (some p))
    have H3 := Lib.hid (HP1.out.then_ h4)
    clear h4
    go_wp2
    go_ret
    exact ⟨by rw [HXX.out]; rfl, by rw [HXX.out]; exact H3.out, HG.out⟩
theorem errC (h : Rc w p r) : Calls Try.prog 33 #[.pointer (some ⟨p, 0, none⟩)] w fun e w' => e = .returned (.int .i64 r.err) ∧ w = w' := by
  have c2 := h.c2
  clear h
  go_enter Try.func33, Try.ntmps33
  go_wp2
  go_ret
  exact ⟨rfl, rfl⟩
theorem below_drewN' (w : World) (n : Nat) : Below w.heap.size w (w.drewN n) := below_drewN (Below.refl _ _) n
def LeftQ (w : World) (r : Rdr) (e : Ending) (w' : World) : Prop := e = .returned (.int .i64 ((r.len : Int) - (r.at_ : Int))) ∧ ∃ n, w.drewN n = w'
theorem leftC (h : Rc w p r) (h1 : r.at_ ≤ r.len) (h2 : r.len ≤ 9223372036854775807) : Calls Try.prog 32 #[.pointer (some ⟨p, 0, none⟩)] w (LeftQ w r) := by
  have c0 := h.c0
  have c1 := h.c1
  have hw : IntKind.i64.wrap ((r.len : Int) - (r.at_ : Int)) = (r.len : Int) - (r.at_ : Int) := IntWalk.i64_in _ (by omega)
  clear h
  go_enter Try.func32, Try.ntmps32
  go_wp2
  go_quiet (fail)
  go_wp2
  go_ret
  exact ⟨rfl, _, rfl⟩
def endN (r : Rdr) : Int := if r.err = 0 ∧ r.at_ < r.len then 4 else r.err
def EndQ (w : World) (r : Rdr) (e : Ending) (w' : World) : Prop := e = .returned (.int .i64 (endN r)) ∧ Below w.heap.size w w'
/-- a new reader. -/
def NewQ (l : List Nat) (w : World) (e : Ending) (w' : World) : Prop := ∃ p r, w.heap.size ≤ p ∧ e = .returned (.pointer (some ⟨p, 0, none⟩)) ∧ Rc w' p r ∧ r.at_ = 0 ∧ r.err = 0 ∧ By w' r l ∧ Below w.heap.size w w'
theorem new_done {l : List Nat} {a : Option Addr} {cap : Nat} {w3 : World} (hm : l.length ≤ 9223372036854775000) (h8 : ∀ c ∈ l, c < 256) (hs : Sl w3 a l) (hcap : l.length ≤ cap) (hb : Below w.heap.size w w3) :
    NewQ l w (.returned (.pointer (some ⟨w3.heap.size, 0, none⟩))) (w3.alloc (.cells #[.slice a l.length cap, .int .i64 0, .int .i64 0] 73)) := by
  refine ⟨w3.heap.size, ⟨a, l.length, cap, 0, 0⟩, hb.size, rfl, ?_, rfl, rfl, ⟨rfl, sl_alloc hs, hcap, hm, h8⟩, hb.alloc hb.size _⟩
  exact heap_alloc_new w3 _
set_option maxRecDepth 100000 in
theorem newRow (b off cap : Nat) (l : List Nat) (w : World) (hm : l.length ≤ 1000000) (h8 : ∀ c ∈ l, c < 256) (hc : Cells w b off l) :
    Calls Try.prog 29 #[.slice (some ⟨b, off, none⟩) l.length cap] w (NewQ l w) := by
  obtain ⟨i0, hi, hz0, hz1, hz2⟩ := info_parts info5
  have hown : w.ownsRow w.heap.size 5 1 (.slice none 0 0) 0 [] := World.ownsRow_nil _ _ _ _
  have hcs := cellsOf_at hc
  have hlen : (cellsOf l).length = l.length * 1 := by simp [cellsOf]
  have HD := Lib.hid (fun a cap w3 h1 h2 h3 => @new_done w l a cap w3 (by omega) h8 h1 h2 h3)
  clear h8
  go_enter Try.func29, Try.ntmps29
  go_wp2_with (at_builtin; refine wpList_append_own _ rfl _ _ 23 rfl w.heap.size 5 i0 (.int .u8 0) 1 1 Try.underlying23 hi hz0 hz1 hz2 rfl (by decide) _ _ _ rfl hown ⟨b, off, none⟩ l.length cap (cellsOf l) rfl hlen hcs cellsOf_one (by unfold maxLen; omega) (by omega) (by simp) ?_; intro v' w3 hown' hgrow3 hnil3; obtain ⟨a2, cap2, rfl, hc2, hs2, _⟩ := row_sl (l := l) (by simpa using hown'); clear hown' hnil3; have HS2 := Lib.hid hs2; clear hs2)
  go_ret
  exact HD.out _ _ w3 HS2.out hc2 ((Below.refl _ _).grown hgrow3 (Nat.le_refl _) (fun j hj => by cases hj))
set_option maxRecDepth 100000 in
theorem newEmpty (x : Addr) (cap : Nat) (w : World) : Calls Try.prog 29 #[.slice (some x) 0 cap] w (NewQ [] w) := by
  obtain ⟨i0, hi, hz0, hz1, hz2⟩ := info_parts info5
  have hown : w.ownsRow w.heap.size 5 1 (.slice none 0 0) 0 [] := World.ownsRow_nil _ _ _ _
  have HD := Lib.hid (fun a cap w3 h1 h2 h3 => @new_done w [] a cap w3 (by simp) (by simp) h1 h2 h3)
  go_enter Try.func29, Try.ntmps29
  go_wp2_with (at_builtin; refine wpList_append_own _ rfl _ _ 23 rfl w.heap.size 5 i0 (.int .u8 0) 1 1 Try.underlying23 hi hz0 hz1 hz2 rfl (by decide) _ _ _ rfl hown x 0 cap [] rfl rfl (fun j u hu => by simp at hu) (fun u hu => by simp at hu) (by unfold maxLen; omega) (by omega) (by simp) ?_; intro v' w3 hown' hgrow3 hnil3; obtain ⟨a2, cap2, rfl, hc2, hs2, _⟩ := row_sl (l := []) (by rw [cellsOf_nil]; simpa using hown'); clear hown' hnil3; have HS2 := Lib.hid hs2; clear hs2)
  go_ret
  exact HD.out _ _ w3 HS2.out hc2 ((Below.refl _ _).grown hgrow3 (Nat.le_refl _) (fun j hj => by cases hj))
set_option maxRecDepth 100000 in
theorem newNil (w : World) : Calls Try.prog 29 #[.slice none 0 0] w (NewQ [] w) := by
  obtain ⟨i0, hi, hz0, hz1, hz2⟩ := info_parts info5
  have hown : w.ownsRow w.heap.size 5 1 (.slice none 0 0) 0 [] := World.ownsRow_nil _ _ _ _
  have HD := Lib.hid (fun a cap w3 h1 h2 h3 => @new_done w [] a cap w3 (by simp) (by simp) h1 h2 h3)
  go_enter Try.func29, Try.ntmps29
  go_wp2_with (at_builtin; refine wpList_append_own_none rfl _ _ 23 rfl w.heap.size 5 i0 1 Try.underlying23 hi _ _ _ rfl hown rfl ?_)
  go_ret
  exact HD.out none 0 w (.inl rfl) (Nat.le_refl _) (Below.refl _ _)
theorem newC (a : Option Addr) (cap : Nat) (l : List Nat) (w : World) (hm : l.length ≤ 1000000) (h8 : ∀ c ∈ l, c < 256) (hs : Sl w a l) (h0 : a = none → cap = 0) : Calls Try.prog 29 #[.slice a l.length cap] w (NewQ l w) := by
  cases a with
  | none =>
    obtain rfl := h0 rfl
    rcases hs with rfl | ⟨b, off, h, _⟩
    · exact newNil w
    · cases h
  | some x =>
    rcases hs with rfl | ⟨b, off, h, hc⟩
    · exact newEmpty x cap w
    · cases h; exact newRow b off cap l w hm h8 hc
end Go.Proofs.Ytellhkcleicfbaa.RdC
