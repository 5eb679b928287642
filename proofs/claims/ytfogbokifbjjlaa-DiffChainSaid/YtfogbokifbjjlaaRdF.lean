/- The Reader: Text. -/
import Derived.Test.YtfogbokifbjjlaaRdE
set_option linter.unusedVariables false
namespace Go.Proofs.Ytfogbokifbjjlaa.RdF
open Go Go.RowKit Kit Crc Var Get Bytes WireFirst Ref3 Copy Rd RdA RdB RdC RdD RdE

variable {w w' w2 : World} {p : Nat} {r : Rdr}
def TextQ (w : World) (p : Nat) (r : Rdr) (s : ByteArray) (e : Ending) (w' : World) : Prop := e = .returned (.string s) ∧ Rc w' p r ∧ w.grownBy w' (some p)
theorem By.moved {l : List Nat} {y : Nat} {x : Int} (h : By w r l) : By w { r with at_ := y, err := x } l := ⟨h.len, h.sl, h.cap, h.small, h.byte⟩
theorem By.grown {r0 : Rdr} {l : List Nat} (hp : Rc w p r0) (h : By w r l) (hg : w.grownBy w' (some p)) : By w' r l := by
  refine ⟨h.len, ?_, h.cap, h.small, h.byte⟩
  rcases h.sl with h0 | ⟨b, off, ha, hc⟩
  · exact .inl h0
  · by_cases hl : l.length = 0
    · exact .inl (List.eq_nil_of_length_eq_zero hl)
    · right
      have hne : b ≠ p := by
        rintro rfl
        have h1 := hc 0 (by omega)
        have h' : w.heap[b]? = _ := hp
        simp [World.cell?, h'] at h1
        match off, h1 with
        | 0, h1 => simp at h1
        | 1, h1 => simp at h1
        | 2, h1 => simp at h1
        | n + 3, h1 => simp at h1
      exact ⟨b, off, ha, fun i hi => cell_grown hg hne (hc i hi)⟩
set_option maxRecDepth 100000 in
theorem textBad (most : Int) (l : List Nat) (hp : Rc w p r) (hl : By w r l) (x : Int) (n y : Int) (hg : getA l (r.at_ : Int) = (n, y, x)) (hx : x ≠ 0) :
    Calls Try.prog 99 #[.pointer (some ⟨p, 0, none⟩), .int .i64 most] w (PanicQ w p r x) := by
  have HN := Lib.hid (nextBad l hp hl x n y hg hx)
  clear hp hl hg hx
  go_enter Try.func99, Try.ntmps99
  go_wp2_with fail
  refine HN.out.mono ?_
  rintro e w1 ⟨rfl, h1, h2⟩
  go_wp2
  exact ⟨rfl, rfl, h1, h2⟩
set_option maxRecDepth 100000 in
theorem textNeg (most : Int) (l : List Nat) (hp : Rc w p r) (hl : By w r l) (n y : Nat) (hg : getA l (r.at_ : Int) = ((n : Int), (y : Int), 0)) (hm : most < 0) :
    Calls Try.prog 99 #[.pointer (some ⟨p, 0, none⟩), .int .i64 most] w (PanicQ w p { r with at_ := y } 1) := by
  have HN := Lib.hid (nextOk l hp hl n y hg)
  have b1 : decide (most < 0) = true := decide_eq_true hm
  clear hp hl hg hm
  go_enter Try.func99, Try.ntmps99
  go_wp2_with fail
  refine HN.out.mono ?_
  rintro e w1 ⟨rfl, h1, h2⟩
  go_wp2
  exact ⟨rfl, rfl, h1, h2⟩
set_option maxRecDepth 100000 in
theorem textBig (most : Nat) (hm63 : most < 9223372036854775808) (l : List Nat) (hp : Rc w p r) (hl : By w r l) (n y : Nat) (hg : getA l (r.at_ : Int) = ((n : Int), (y : Int), 0)) (hm : most < n) :
    Calls Try.prog 99 #[.pointer (some ⟨p, 0, none⟩), .int .i64 (most : Int)] w (PanicQ w p { r with at_ := y } 1) := by
  have HN := Lib.hid (nextOk l hp hl n y hg)
  have b0 : decide ((most : Int) < 0) = false := decide_eq_false (by omega)
  have b1 : decide ((most : Int) < (n : Int)) = true := decide_eq_true (by omega)
  have b2 : decide (most < n) = true := decide_eq_true hm
  have s1 : IntKind.u64.wrap (most : Int) = (most : Int) := by rw [IntKind.wrap_u64]; omega
  clear hp hl hg hm hm63
  go_enter Try.func99, Try.ntmps99
  go_wp2_with fail
  refine HN.out.mono ?_
  rintro e w1 ⟨rfl, h1, h2⟩
  go_wp2
  exact ⟨rfl, rfl, h1, h2⟩
set_option maxRecDepth 100000 in
theorem textLong (most : Nat) (hm63 : most < 9223372036854775808) (l : List Nat) (hp : Rc w p r) (hl : By w r l) (n y : Nat) (hg : getA l (r.at_ : Int) = ((n : Int), (y : Int), 0)) (hy : y ≤ l.length) (hm : n ≤ most) (hlong : l.length < y + n) :
    Calls Try.prog 99 #[.pointer (some ⟨p, 0, none⟩), .int .i64 (most : Int)] w (PanicQ w p { r with at_ := y } 3) := by
  have HN := Lib.hid (nextOk l hp hl n y hg)
  have b0 : decide ((most : Int) < 0) = false := decide_eq_false (by omega)
  have b1 : decide ((most : Int) < (n : Int)) = false := decide_eq_false (by omega)
  have b2 : decide (most < n) = false := decide_eq_false (by omega)
  have s1 : IntKind.u64.wrap (most : Int) = (most : Int) := by rw [IntKind.wrap_u64]; omega
  have s2 : IntKind.i64.wrap (n : Int) = (n : Int) := IntWalk.i64_in _ (by omega)
  have hlen := hl.len
  have hsm := hl.small
  have HR := Lib.hid (fun W (h : Rc W p { r with at_ := y }) => rawLong (r := { r with at_ := y }) n h (by show y ≤ r.len; omega) (by show r.len ≤ _; omega) (by show r.len < y + n; omega))
  clear hp hl hg hm hm63 hy hlong hlen hsm
  go_enter Try.func99, Try.ntmps99
  go_wp2_with fail
  refine HN.out.mono ?_
  rintro e w1 ⟨rfl, h1, h2⟩
  have HRR := Lib.hid (HR.out _ h1)
  clear h1
  go_wp2_with fail
  refine HRR.out.mono ?_
  rintro e w2 ⟨rfl, h3, h4⟩
  go_wp2
  exact ⟨rfl, rfl, h3, grown_trans h2 h4⟩
set_option maxRecDepth 100000 in
theorem textOk (most : Nat) (hm63 : most < 9223372036854775808) (l : List Nat) (hp : Rc w p r) (hl : By w r l) (hs : l.length ≤ 1000000) (n y : Nat) (hg : getA l (r.at_ : Int) = ((n : Int), (y : Int), 0)) (hm : n ≤ most) (hfit : y + n ≤ l.length) :
    Calls Try.prog 99 #[.pointer (some ⟨p, 0, none⟩), .int .i64 (most : Int)] w (TextQ w p { r with at_ := y + n } (strL ((l.drop y).take n))) := by
  have HN := Lib.hid (nextOk l hp hl n y hg)
  have b0 : decide ((most : Int) < 0) = false := decide_eq_false (by omega)
  have b1 : decide ((most : Int) < (n : Int)) = false := decide_eq_false (by omega)
  have b2 : decide (most < n) = false := decide_eq_false (by omega)
  have s1 : IntKind.u64.wrap (most : Int) = (most : Int) := by rw [IntKind.wrap_u64]; omega
  have s2 : IntKind.i64.wrap (n : Int) = (n : Int) := IntWalk.i64_in _ (by omega)
  have HR := Lib.hid (fun W (hg : w.grownBy W (some p)) (h : Rc W p { r with at_ := y }) => rawOk (r := { r with at_ := y }) n l h (By.grown hp ⟨hl.len, hl.sl, hl.cap, hl.small, hl.byte⟩ hg) hfit hs)
  simp only at HR
  have hmm : ((l.drop y).take n).length = n := by rw [List.length_take, List.length_drop]; omega
  generalize (l.drop y).take n = m at *
  have HMM := Lib.hid hmm
  clear hp hl hg hm hm63 hfit hmm
  go_enter Try.func99, Try.ntmps99
  go_wp2_with fail
  refine HN.out.mono ?_
  rintro e w1 ⟨rfl, h1, h2⟩
  have HRR := Lib.hid (HR.out _ h2 h1)
  have H2 := Lib.hid h2
  clear h1 h2
  go_wp2_with fail
  refine HRR.out.mono ?_
  rintro e w2 ⟨a, cap, rfl, h3, h4, h5, h6, h7⟩
  have hcv := conv_sl a cap m w2 h4
  have HG := Lib.hid (grown_trans H2.out h7)
  clear h3 h4 h5 h7
  go_wp2
  go_ret
  exact ⟨rfl, h6, HG.out⟩
set_option maxRecDepth 100000 in
theorem clo77Bad (b1 b2 b3 : Nat) (n : Int) (r2 : Rdr) (x : Int) (h1 : w.cell? ⟨b1, 0, none⟩ = some (.pointer (some ⟨p, 0, none⟩))) (h2 : w.cell? ⟨b2, 0, none⟩ = some (.int .i64 n))
    (hN : Calls Try.prog 99 #[.pointer (some ⟨p, 0, none⟩), .int .i64 n] w (PanicQ w p r2 x)) :
    Calls Try.prog 98 #[.pointer (some ⟨b1, 0, none⟩), .pointer (some ⟨b2, 0, none⟩), .pointer (some ⟨b3, 0, none⟩)] w (PanicQ w p r2 x) := by
  have HN := Lib.hid hN
  clear hN
  go_enter Try.func98, Try.ntmps98
  go_wp2_with fail
  refine HN.out.mono ?_
  rintro e w1 ⟨rfl, h1, h2⟩
  go_wp2
  exact ⟨rfl, rfl, h1, h2⟩
set_option maxRecDepth 100000 in
theorem clo77Ok (b1 b2 b3 : Nat) (most : Int) (r2 : Rdr) (n : ByteArray) (v : Value) (h1 : w.cell? ⟨b1, 0, none⟩ = some (.pointer (some ⟨p, 0, none⟩))) (h2 : w.cell? ⟨b2, 0, none⟩ = some (.int .i64 most))
    (h3 : w.cell? ⟨b3, 0, none⟩ = some v) (h4 : w.frozen? ⟨b3, 0, none⟩ = false) (hne : b3 ≠ p)
    (hN : Calls Try.prog 99 #[.pointer (some ⟨p, 0, none⟩), .int .i64 most] w (TextQ w p r2 n)) :
    Calls Try.prog 98 #[.pointer (some ⟨b1, 0, none⟩), .pointer (some ⟨b2, 0, none⟩), .pointer (some ⟨b3, 0, none⟩)] w fun e w' => e = .returned (.tuple #[]) ∧ CloQ w p b3 r2 (.string n) w' := by
  have HN := Lib.hid hN
  have H3 := Lib.hid h3
  have H4 := Lib.hid h4
  clear hN h3 h4
  go_enter Try.func98, Try.ntmps98
  go_wp2_with fail
  refine HN.out.mono ?_
  rintro e w1 ⟨rfl, g1, g2⟩
  have c3 := cell_grown g2 hne H3.out
  have hlt := World.block_lt_of_cell? w _ H3.out
  have hbk := g2.block b3 hlt (fun e => hne (by injection e))
  have f3 : w1.frozen? ⟨b3, 0, none⟩ = false := (World.frozen?_of_block hbk).trans H4.out
  have hq : CloQ w p b3 r2 (.string n) (w1.setCell ⟨b3, 0, none⟩ (.string n)) := by
    refine ⟨(Below.heap_setCell w1 ⟨b3, 0, none⟩ _ p (fun e => hne e.symm)).trans g1, World.cell?_setCell_same' _ _ _ (by rw [c3]; rfl), (Fr2.of_p g2).trans Fr2.set⟩
  have HQ := Lib.hid hq
  clear hq hbk hlt g1 g2 hne
  go_wp2
  go_end0
  exact ⟨rfl, HQ.out⟩
theorem k77 (caps : Array Value) : ∀ w, (callFunc 98 caps).run Try.prog w = .ok (.enter 98 caps) w := fun w => by kernel_rfl
/-- what Text answers, and what becomes of the reader. -/
def textN (l : List Nat) (r : Rdr) (most : Int) : ByteArray × Rdr :=
  if r.err ≠ 0 then (strL [], r) else if (getA l r.at_).2.2 ≠ 0 then (strL [], { r with err := (getA l r.at_).2.2 }) else if most < (getA l r.at_).1 then (strL [], { r with err := 1 })
  else if (l.length : Int) < (getA l r.at_).2.1 + (getA l r.at_).1 then (strL [], { r with err := 3 })
  else (strL ((l.drop (getA l r.at_).2.1.toNat).take (getA l r.at_).1.toNat), { r with at_ := (getA l r.at_).2.1.toNat + (getA l r.at_).1.toNat })
set_option maxRecDepth 100000 in
theorem textC (most : Int) (l : List Nat) (hp : Rc w p r) (hl : By w r l) (hle : r.at_ ≤ l.length) (hs : l.length ≤ 1000000) (hm63 : most < 9223372036854775808) :
    Calls Try.prog 74 #[.pointer (some ⟨p, 0, none⟩), .int .i64 most] w (TextQ w p (textN l r most).2 (textN l r most).1) := by
  have hmf := hmf
  obtain ⟨W, hW⟩ : ∃ W, W = ((w.alloc (.cells #[.pointer (some ⟨p, 0, none⟩)] 35)).alloc (.cells #[.int .i64 most] 3)).alloc (.cells #[.string ⟨#[]⟩] 9) := ⟨_, rfl⟩
  have hb : Below w.heap.size w W := by rw [hW]; exact (((Below.refl w.heap.size w).alloc (Nat.le_refl _) _).alloc (by simp) _).alloc (by simp; omega) _
  have d1 : W.cell? ⟨w.heap.size, 0, none⟩ = some (.pointer (some ⟨p, 0, none⟩)) := by rw [hW]; exact past_alloc (past_alloc (show (w.alloc (.cells #[.pointer (some ⟨p, 0, none⟩)] 35)).cell? ⟨w.heap.size, 0, none⟩ = _ by simp))
  have d2 : W.cell? ⟨w.heap.size + 1, 0, none⟩ = some (.int .i64 most) := by rw [hW]; exact past_alloc (show ((w.alloc (.cells #[.pointer (some ⟨p, 0, none⟩)] 35)).alloc (.cells #[.int .i64 most] 3)).cell? ⟨w.heap.size + 1, 0, none⟩ = _ by simp)
  have d3 : W.cell? ⟨w.heap.size + 1 + 1, 0, none⟩ = some (.string ⟨#[]⟩) := by rw [hW, ← show ((w.alloc (.cells #[.pointer (some ⟨p, 0, none⟩)] 35)).alloc (.cells #[.int .i64 most] 3)).heap.size = w.heap.size + 1 + 1 by simp]; exact new_one _ _ _
  have d4 : W.frozen? ⟨w.heap.size + 1 + 1, 0, none⟩ = false := by rw [hW, ← show ((w.alloc (.cells #[.pointer (some ⟨p, 0, none⟩)] 35)).alloc (.cells #[.int .i64 most] 3)).heap.size = w.heap.size + 1 + 1 by simp]; exact new_fz _ _ _
  have d5 : w.heap.size + 1 + 1 < W.heap.size := by rw [hW]; simp
  have hpl := hp.lt
  have hp1 := hp.then_ hb
  have hl1 := hl.then_ hb
  have HB := Lib.hid hb
  have D3 := Lib.hid d3
  have hX : textN l r most = if r.err ≠ 0 then (strL [], r) else if (getA l r.at_).2.2 ≠ 0 then (strL [], { r with err := (getA l r.at_).2.2 }) else if most < (getA l r.at_).1 then (strL [], { r with err := 1 })
      else if (l.length : Int) < (getA l r.at_).2.1 + (getA l r.at_).1 then (strL [], { r with err := 3 })
      else (strL ((l.drop (getA l r.at_).2.1.toNat).take (getA l r.at_).1.toNat), { r with at_ := (getA l r.at_).2.1.toNat + (getA l r.at_).1.toNat }) := rfl
  generalize textN l r most = X at hX ⊢
  by_cases he : r.err = 0
  · rw [if_neg (by simpa using he)] at hX
    have hend : ((getA l r.at_).2.2 ≠ 0 ∧ Hid (∀ V, Below W.heap.size W V → Calls Try.prog 98 #[.pointer (some ⟨w.heap.size, 0, none⟩), .pointer (some ⟨w.heap.size + 1, 0, none⟩), .pointer (some ⟨w.heap.size + 1 + 1, 0, none⟩)] V (PanicQ V p r (getA l r.at_).2.2))) ∨
        ((getA l r.at_).2.2 = 0 ∧ most < (getA l r.at_).1 ∧ Hid (∀ V, Below W.heap.size W V → Calls Try.prog 98 #[.pointer (some ⟨w.heap.size, 0, none⟩), .pointer (some ⟨w.heap.size + 1, 0, none⟩), .pointer (some ⟨w.heap.size + 1 + 1, 0, none⟩)] V (PanicQ V p { r with at_ := (getA l r.at_).2.1.toNat } 1))) ∨
        ((getA l r.at_).2.2 = 0 ∧ ¬ most < (getA l r.at_).1 ∧ (l.length : Int) < (getA l r.at_).2.1 + (getA l r.at_).1 ∧ Hid (∀ V, Below W.heap.size W V → Calls Try.prog 98 #[.pointer (some ⟨w.heap.size, 0, none⟩), .pointer (some ⟨w.heap.size + 1, 0, none⟩), .pointer (some ⟨w.heap.size + 1 + 1, 0, none⟩)] V (PanicQ V p { r with at_ := (getA l r.at_).2.1.toNat } 3))) ∨
        ((getA l r.at_).2.2 = 0 ∧ ¬ most < (getA l r.at_).1 ∧ ¬ (l.length : Int) < (getA l r.at_).2.1 + (getA l r.at_).1 ∧ Hid (∀ V, Below W.heap.size W V → Calls Try.prog 98 #[.pointer (some ⟨w.heap.size, 0, none⟩), .pointer (some ⟨w.heap.size + 1, 0, none⟩), .pointer (some ⟨w.heap.size + 1 + 1, 0, none⟩)] V fun e V' => e = .returned (.tuple #[]) ∧ CloQ V p (w.heap.size + 1 + 1) { r with at_ := (getA l r.at_).2.1.toNat + (getA l r.at_).1.toNat } (.string (strL ((l.drop (getA l r.at_).2.1.toNat).take (getA l r.at_).1.toNat))) V')) := by
      by_cases h1 : (getA l r.at_).2.2 = 0
      · right
        obtain ⟨n, y, hg, _, hyl⟩ := getA_ok l r.at_ h1
        rw [hg]
        simp only [Int.toNat_natCast]
        by_cases h2 : most < n
        · left
          refine ⟨by trivial, h2, Lib.hid fun V hV => ?_⟩
          by_cases h3 : most < 0
          · exact clo77Bad _ _ _ most _ _ (cell_then hV (Nat.le_refl _) d1) (cell_then hV (Nat.le_refl _) d2) (textNeg most l (hp1.then_ hV) (hl1.then_ hV) n y hg h3)
          · obtain ⟨m, rfl⟩ := Int.eq_ofNat_of_zero_le (a := most) (by omega)
            exact clo77Bad _ _ _ _ _ _ (cell_then hV (Nat.le_refl _) d1) (cell_then hV (Nat.le_refl _) d2) (textBig m (by omega) l (hp1.then_ hV) (hl1.then_ hV) n y hg (by omega))
        · right
          obtain ⟨m, rfl⟩ := Int.eq_ofNat_of_zero_le (a := most) (by omega)
          by_cases h3 : (l.length : Int) < (y : Int) + (n : Int)
          · left
            refine ⟨by trivial, h2, h3, Lib.hid fun V hV => ?_⟩
            exact clo77Bad _ _ _ _ _ _ (cell_then hV (Nat.le_refl _) d1) (cell_then hV (Nat.le_refl _) d2) (textLong m (by omega) l (hp1.then_ hV) (hl1.then_ hV) n y hg hyl (by omega) (by omega))
          · right
            refine ⟨by trivial, h2, h3, Lib.hid fun V hV => ?_⟩
            exact clo77Ok _ _ _ _ _ _ _ (cell_then hV (Nat.le_refl _) d1) (cell_then hV (Nat.le_refl _) d2) (cell_then hV (Nat.le_refl _) d3) ((hV.frozen (p := ⟨w.heap.size + 1 + 1, 0, none⟩) d5).trans d4) (by omega) (textOk m (by omega) l (hp1.then_ hV) (hl1.then_ hV) hs n y hg (by omega) (by omega))
      · left
        refine ⟨h1, Lib.hid fun V hV => ?_⟩
        exact clo77Bad _ _ _ most _ _ (cell_then hV (Nat.le_refl _) d1) (cell_then hV (Nat.le_refl _) d2) (textBad most l (hp1.then_ hV) (hl1.then_ hV) (getA l r.at_).2.2 (getA l r.at_).1 (getA l r.at_).2.1 rfl h1)
    have HP1 := Lib.hid hp1
    have HE := Lib.hid he
    have HN := Lib.hid hpl
    subst hW
    rcases hend with ⟨h1, HC⟩ | ⟨h1, h2, HC⟩ | ⟨h1, h2, h9, HC⟩ | ⟨h1, h2, h9, HC⟩
    · rw [if_pos h1] at hX
      have HXX := Lib.hid hX
      clear h1 hb d1 d2 d3 d4 d5 hp hl hp1 hl1 he hX hpl hle hs hm63
      go_enter Try.func74, Try.ntmps74
      go_wp2_with fail
      refine (readBad 98 _ (k77 _) HP1.out HE.out r _ (fun V hV => (HC.out V hV).mono fun _ _ h => h)).mono ?_
      rintro e w1 ⟨rfl, h3, h4⟩
      have c3 := cell_grown h4 (by have := HN.out; omega) D3.out
      have HG := Lib.hid (grown_trans (grown_below HB.out (some p)) h4)
      have H3 := Lib.hid h3
      clear h3 h4
      go_wp2
      go_ret
      exact ⟨by rw [HXX.out]; rfl, by rw [HXX.out]; exact H3.out, HG.out⟩
    · rw [if_neg (by simpa using h1), if_pos h2] at hX
      have HXX := Lib.hid hX
      clear h1 h2 hb d1 d2 d3 d4 d5 hp hl hp1 hl1 he hX hpl hle hs hm63
      go_enter Try.func74, Try.ntmps74
      go_wp2_with fail
      refine (readBad 98 _ (k77 _) HP1.out HE.out _ _ (fun V hV => (HC.out V hV).mono fun _ _ h => h)).mono ?_
      rintro e w1 ⟨rfl, h3, h4⟩
      have c3 := cell_grown h4 (by have := HN.out; omega) D3.out
      have HG := Lib.hid (grown_trans (grown_below HB.out (some p)) h4)
      have H3 := Lib.hid h3
      clear h3 h4
      go_wp2
      go_ret
      exact ⟨by rw [HXX.out]; rfl, by rw [HXX.out]; exact H3.out, HG.out⟩
    · rw [if_neg (by simpa using h1), if_neg h2, if_pos h9] at hX
      have HXX := Lib.hid hX
      clear h1 h2 h9 hb d1 d2 d3 d4 d5 hp hl hp1 hl1 he hX hpl hle hs hm63
      go_enter Try.func74, Try.ntmps74
      go_wp2_with fail
      refine (readBad 98 _ (k77 _) HP1.out HE.out _ _ (fun V hV => (HC.out V hV).mono fun _ _ h => h)).mono ?_
      rintro e w1 ⟨rfl, h3, h4⟩
      have c3 := cell_grown h4 (by have := HN.out; omega) D3.out
      have HG := Lib.hid (grown_trans (grown_below HB.out (some p)) h4)
      have H3 := Lib.hid h3
      clear h3 h4
      go_wp2
      go_ret
      exact ⟨by rw [HXX.out]; rfl, by rw [HXX.out]; exact H3.out, HG.out⟩
    · rw [if_neg (by simpa using h1), if_neg h2, if_neg h9] at hX
      generalize strL ((l.drop (getA l r.at_).2.1.toNat).take (getA l r.at_).1.toNat) = S at *
      have HXX := Lib.hid hX
      clear h1 h2 h9 hb d1 d2 d3 d4 d5 hp hl hp1 hl1 he hX hpl hle hs hm63
      go_enter Try.func74, Try.ntmps74
      go_wp2_with fail
      refine (readOk 98 _ (k77 _) HP1.out HE.out _ (fun V hV => HC.out V hV)).mono ?_
      rintro e w1 ⟨rfl, V, hV, h3, c3, h4⟩
      have HG := Lib.hid (Fr2.new (below_then HB.out hV HB.out.size) h4 (by omega))
      have H3 := Lib.hid h3
      clear h3 h4 hV
      go_wp2
      go_ret
      exact ⟨by rw [HXX.out]; rfl, by rw [HXX.out]; exact H3.out, HG.out⟩
  · rw [if_pos he] at hX
    have HXX := Lib.hid hX
    have HP1 := Lib.hid hp1
    have HE := Lib.hid he
    subst hW
    clear hb d1 d2 d3 d4 d5 hp hl hp1 hl1 he hX hpl hle hs hm63
    go_enter Try.func74, Try.ntmps74
    go_wp2_with fail
    refine (readDone 98 _ HP1.out HE.out).mono ?_
    rintro e w1 ⟨rfl, h4⟩
    have c3 := cell_then h4 (Nat.le_refl _) D3.out
    have HG := Lib.hid (grown_below (below_then HB.out h4 HB.out.size) (some p))
    have H3 := Lib.hid (HP1.out.then_ h4)
    clear h4
    go_wp2
    go_ret
    exact ⟨by rw [HXX.out]; rfl, by rw [HXX.out]; exact H3.out, HG.out⟩
end Go.Proofs.Ytfogbokifbjjlaa.RdF
