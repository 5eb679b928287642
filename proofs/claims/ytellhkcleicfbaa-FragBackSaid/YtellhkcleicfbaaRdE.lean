/- The Reader: Raw, its closure and all. -/
import Derived.Test.YtellhkcleicfbaaRdD
set_option linter.unusedVariables false
namespace Go.Proofs.Ytellhkcleicfbaa.RdE
open Go Go.RowKit Kit Crc Var Get WireFirst Ref3 Copy Rd RdA RdB RdC RdD

variable {w w' w2 : World} {p : Nat} {r : Rdr}
theorem rawOk (n : Nat) (l : List Nat) (hp : Rc w p r) (hl : By w r l) (h1 : r.at_ + n ≤ l.length) (hs : l.length ≤ 1000000) :
    Calls Try.prog 40 #[.pointer (some ⟨p, 0, none⟩), .int .i64 (n : Int)] w (RawQ w p { r with at_ := r.at_ + n } ((l.drop r.at_).take n)) := by
  by_cases hn : n = 0
  · subst hn
    rw [List.take_zero]
    show Calls Try.prog 40 #[.pointer (some ⟨p, 0, none⟩), .int .i64 0] w (RawQ w p r [])
    cases ha : r.a with
    | none => exact rawZ1 l hp hl (by omega) ha hs
    | some x =>
      by_cases h2 : r.cap = r.at_
      · exact rawZ2 x l hp hl (by omega) ha h2 hs
      · exact rawZ3 x l hp hl (by omega) ha h2 hs
  · rcases hl.sl with h0 | ⟨b, off, ha, hc⟩
    · rw [h0] at h1; simp at h1; omega
    · exact rawSome b off n l hp hl h1 (by omega) ha hc hs
/-- what Raw answers, and what becomes of the reader. -/
def rawN (l : List Nat) (r : Rdr) (n : Int) : List Nat × Rdr :=
  if r.err ≠ 0 then ([], r) else if n < 0 then ([], { r with err := 1 }) else if (l.length : Int) < (r.at_ : Int) + n then ([], { r with err := 3 }) else ((l.drop r.at_).take n.toNat, { r with at_ := r.at_ + n.toNat })
set_option maxRecDepth 100000 in
theorem clo75Bad (b1 b2 b3 : Nat) (n : Int) (r2 : Rdr) (x : Int) (h1 : w.cell? ⟨b1, 0, none⟩ = some (.pointer (some ⟨p, 0, none⟩))) (h2 : w.cell? ⟨b2, 0, none⟩ = some (.int .i64 n))
    (hN : Calls Try.prog 40 #[.pointer (some ⟨p, 0, none⟩), .int .i64 n] w (PanicQ w p r2 x)) :
    Calls Try.prog 39 #[.pointer (some ⟨b1, 0, none⟩), .pointer (some ⟨b2, 0, none⟩), .pointer (some ⟨b3, 0, none⟩)] w (PanicQ w p r2 x) := by
  have HN := Lib.hid hN
  clear hN
  go_enter Try.func39, Try.ntmps39
  go_wp2_with fail
  refine HN.out.mono ?_
  rintro e w1 ⟨rfl, h1, h2⟩
  go_wp2
  exact ⟨rfl, rfl, h1, h2⟩
def Clo75 (w : World) (p q : Nat) (r : Rdr) (m : List Nat) (w' : World) : Prop := ∃ a cap, CloQ w p q r (.slice a m.length cap) w' ∧ m.length ≤ cap ∧ Sl w' a m ∧ (∀ x, a = some x → w.heap.size ≤ x.block ∧ x.block ≠ p) ∧ (a = none → cap = 0)
set_option maxRecDepth 100000 in
theorem clo75Ok (b1 b2 b3 : Nat) (n : Int) (r2 : Rdr) (m : List Nat) (v : Value) (h1 : w.cell? ⟨b1, 0, none⟩ = some (.pointer (some ⟨p, 0, none⟩))) (h2 : w.cell? ⟨b2, 0, none⟩ = some (.int .i64 n))
    (h3 : w.cell? ⟨b3, 0, none⟩ = some v) (h4 : w.frozen? ⟨b3, 0, none⟩ = false) (hne : b3 ≠ p)
    (hN : Calls Try.prog 40 #[.pointer (some ⟨p, 0, none⟩), .int .i64 n] w (RawQ w p r2 m)) :
    Calls Try.prog 39 #[.pointer (some ⟨b1, 0, none⟩), .pointer (some ⟨b2, 0, none⟩), .pointer (some ⟨b3, 0, none⟩)] w fun e w' => e = .returned (.tuple #[]) ∧ Clo75 w p b3 r2 m w' := by
  have HN := Lib.hid hN
  have H3 := Lib.hid h3
  have H4 := Lib.hid h4
  clear hN h3 h4
  go_enter Try.func39, Try.ntmps39
  go_wp2_with fail
  refine HN.out.mono ?_
  rintro e w1 ⟨a, cap, rfl, g0, g1, g2, g3, g4, g5⟩
  have c3 := cell_grown g4 hne H3.out
  have hlt := World.block_lt_of_cell? w _ H3.out
  have hbk := g4.block b3 hlt (fun e => hne (by injection e))
  have f3 : w1.frozen? ⟨b3, 0, none⟩ = false := (World.frozen?_of_block hbk).trans H4.out
  have hq : Clo75 w p b3 r2 m (w1.setCell ⟨b3, 0, none⟩ (.slice a m.length cap)) := by
    refine ⟨a, cap, ⟨(Below.heap_setCell w1 ⟨b3, 0, none⟩ _ p (fun e => hne e.symm)).trans g3, World.cell?_setCell_same' _ _ _ (by rw [c3]; rfl), (Fr2.of_p g4).trans Fr2.set⟩, g0, ?_, g2, g5⟩
    rcases g1 with h | ⟨b, off, h, hc⟩
    · exact .inl h
    · have hb := (g2 _ h).1
      refine .inr ⟨b, off, h, fun i hi => past_set (hc i hi) (by show b ≠ b3; simp only at hb hlt; omega)⟩
  have HQ := Lib.hid hq
  clear hq hbk hlt g0 g1 g2 g3 g4 g5 hne
  go_wp2
  go_end0
  exact ⟨rfl, HQ.out⟩
theorem k75 (caps : Array Value) : ∀ w, (callFunc 39 caps).run Try.prog w = .ok (.enter 39 caps) w := fun w => by kernel_rfl
set_option maxRecDepth 100000 in
theorem rawC (n : Int) (l : List Nat) (hp : Rc w p r) (hl : By w r l) (hle : r.at_ ≤ l.length) (hs : l.length ≤ 1000000) :
    Calls Try.prog 31 #[.pointer (some ⟨p, 0, none⟩), .int .i64 n] w (RawQ w p (rawN l r n).2 (rawN l r n).1) := by
  have hmf := hmf
  obtain ⟨W, hW⟩ : ∃ W, W = ((w.alloc (.cells #[.pointer (some ⟨p, 0, none⟩)] 66)).alloc (.cells #[.int .i64 n] 3)).alloc (.cells #[.slice none 0 0] 23) := ⟨_, rfl⟩
  have hb : Below w.heap.size w W := by rw [hW]; exact (((Below.refl w.heap.size w).alloc (Nat.le_refl _) _).alloc (by simp) _).alloc (by simp; omega) _
  have d1 : W.cell? ⟨w.heap.size, 0, none⟩ = some (.pointer (some ⟨p, 0, none⟩)) := by rw [hW]; exact past_alloc (past_alloc (show (w.alloc (.cells #[.pointer (some ⟨p, 0, none⟩)] 66)).cell? ⟨w.heap.size, 0, none⟩ = _ by simp))
  have d2 : W.cell? ⟨w.heap.size + 1, 0, none⟩ = some (.int .i64 n) := by rw [hW]; exact past_alloc (show ((w.alloc (.cells #[.pointer (some ⟨p, 0, none⟩)] 66)).alloc (.cells #[.int .i64 n] 3)).cell? ⟨w.heap.size + 1, 0, none⟩ = _ by simp)
  have d3 : W.cell? ⟨w.heap.size + 1 + 1, 0, none⟩ = some (.slice none 0 0) := by rw [hW, ← show ((w.alloc (.cells #[.pointer (some ⟨p, 0, none⟩)] 66)).alloc (.cells #[.int .i64 n] 3)).heap.size = w.heap.size + 1 + 1 by simp]; exact new_one _ _ _
  have d4 : W.frozen? ⟨w.heap.size + 1 + 1, 0, none⟩ = false := by rw [hW, ← show ((w.alloc (.cells #[.pointer (some ⟨p, 0, none⟩)] 66)).alloc (.cells #[.int .i64 n] 3)).heap.size = w.heap.size + 1 + 1 by simp]; exact new_fz _ _ _
  have d5 : w.heap.size + 1 + 1 < W.heap.size := by rw [hW]; simp
  have hpl := hp.lt
  have hp1 := hp.then_ hb
  have hl1 := hl.then_ hb
  have HB := Lib.hid hb
  have D3 := Lib.hid d3
  have hX : rawN l r n = if r.err ≠ 0 then ([], r) else if n < 0 then ([], { r with err := 1 }) else if (l.length : Int) < (r.at_ : Int) + n then ([], { r with err := 3 }) else ((l.drop r.at_).take n.toNat, { r with at_ := r.at_ + n.toNat }) := rfl
  have hlen := hl.len
  generalize rawN l r n = X at hX ⊢
  by_cases he : r.err = 0
  · rw [if_neg (by simpa using he)] at hX
    have hend : (n < 0 ∧ Hid (∀ V, Below W.heap.size W V → Calls Try.prog 39 #[.pointer (some ⟨w.heap.size, 0, none⟩), .pointer (some ⟨w.heap.size + 1, 0, none⟩), .pointer (some ⟨w.heap.size + 1 + 1, 0, none⟩)] V (PanicQ V p r 1))) ∨
        (¬ n < 0 ∧ (l.length : Int) < (r.at_ : Int) + n ∧ Hid (∀ V, Below W.heap.size W V → Calls Try.prog 39 #[.pointer (some ⟨w.heap.size, 0, none⟩), .pointer (some ⟨w.heap.size + 1, 0, none⟩), .pointer (some ⟨w.heap.size + 1 + 1, 0, none⟩)] V (PanicQ V p r 3))) ∨
        (¬ n < 0 ∧ ¬ (l.length : Int) < (r.at_ : Int) + n ∧ Hid (∀ V, Below W.heap.size W V → Calls Try.prog 39 #[.pointer (some ⟨w.heap.size, 0, none⟩), .pointer (some ⟨w.heap.size + 1, 0, none⟩), .pointer (some ⟨w.heap.size + 1 + 1, 0, none⟩)] V fun e V' => e = .returned (.tuple #[]) ∧ Clo75 V p (w.heap.size + 1 + 1) { r with at_ := r.at_ + n.toNat } ((l.drop r.at_).take n.toNat) V')) := by
      by_cases h1 : n < 0
      · left
        refine ⟨h1, Lib.hid fun V hV => ?_⟩
        exact clo75Bad _ _ _ n _ _ (cell_then hV (Nat.le_refl _) d1) (cell_then hV (Nat.le_refl _) d2) (rawNeg n h1 (hp1.then_ hV))
      · right
        obtain ⟨k, rfl⟩ := Int.eq_ofNat_of_zero_le (a := n) (by omega)
        by_cases h2 : (l.length : Int) < (r.at_ : Int) + (k : Int)
        · left
          refine ⟨h1, h2, Lib.hid fun V hV => ?_⟩
          exact clo75Bad _ _ _ _ _ _ (cell_then hV (Nat.le_refl _) d1) (cell_then hV (Nat.le_refl _) d2) (rawLong k (hp1.then_ hV) (by omega) (by omega) (by omega))
        · right
          refine ⟨h1, h2, Lib.hid fun V hV => ?_⟩
          exact clo75Ok _ _ _ _ _ _ _ (cell_then hV (Nat.le_refl _) d1) (cell_then hV (Nat.le_refl _) d2) (cell_then hV (Nat.le_refl _) d3) ((hV.frozen (p := ⟨w.heap.size + 1 + 1, 0, none⟩) d5).trans d4) (by omega) (rawOk k l (hp1.then_ hV) (hl1.then_ hV) (by omega) hs)
    have HP1 := Lib.hid hp1
    have HE := Lib.hid he
    have HN := Lib.hid hpl
    subst hW
    rcases hend with ⟨h1, HC⟩ | ⟨h1, h2, HC⟩ | ⟨h1, h2, HC⟩
    · rw [if_pos h1] at hX
      have HXX := Lib.hid hX
      clear h1 hb d1 d2 d3 d4 d5 hp hl hp1 hl1 he hX hpl hle hs hlen
      go_enter Try.func31, Try.ntmps31
      go_wp2_with fail
      refine (readBad 39 _ (k75 _) HP1.out HE.out r _ (fun V hV => (HC.out V hV).mono fun _ _ h => h)).mono ?_
      rintro e w1 ⟨rfl, h3, h4⟩
      have c3 := cell_grown h4 (by have := HN.out; omega) D3.out
      have HG := Lib.hid (grown_trans (grown_below HB.out (some p)) h4)
      have H3 := Lib.hid h3
      clear h3 h4
      go_wp2
      go_ret
      exact ⟨none, 0, by rw [HXX.out]; rfl, by rw [HXX.out]; exact Nat.zero_le _, by rw [HXX.out]; exact .inl rfl, (fun x hx => by cases hx), by rw [HXX.out]; exact H3.out, HG.out, (fun _ => rfl)⟩
    · rw [if_neg h1, if_pos h2] at hX
      have HXX := Lib.hid hX
      clear h1 h2 hb d1 d2 d3 d4 d5 hp hl hp1 hl1 he hX hpl hle hs hlen
      go_enter Try.func31, Try.ntmps31
      go_wp2_with fail
      refine (readBad 39 _ (k75 _) HP1.out HE.out _ _ (fun V hV => (HC.out V hV).mono fun _ _ h => h)).mono ?_
      rintro e w1 ⟨rfl, h3, h4⟩
      have c3 := cell_grown h4 (by have := HN.out; omega) D3.out
      have HG := Lib.hid (grown_trans (grown_below HB.out (some p)) h4)
      have H3 := Lib.hid h3
      clear h3 h4
      go_wp2
      go_ret
      exact ⟨none, 0, by rw [HXX.out]; rfl, by rw [HXX.out]; exact Nat.zero_le _, by rw [HXX.out]; exact .inl rfl, (fun x hx => by cases hx), by rw [HXX.out]; exact H3.out, HG.out, (fun _ => rfl)⟩
    · rw [if_neg h1, if_neg h2] at hX
      generalize (l.drop r.at_).take n.toNat = m at *
      have HXX := Lib.hid hX
      clear h1 h2 hb d1 d2 d3 d4 d5 hp hl hp1 hl1 he hX hpl hle hs hlen
      go_enter Try.func31, Try.ntmps31
      go_wp2_with fail
      refine (readOk 39 _ (k75 _) HP1.out HE.out _ (fun V hV => HC.out V hV)).mono ?_
      rintro e w1 ⟨rfl, V, hV, a, cap, ⟨h3, c3, h4⟩, h5, h6, h7, h8⟩
      have H8 := Lib.hid h8
      have HG := Lib.hid (Fr2.new (below_then HB.out hV HB.out.size) h4 (by omega))
      have H3 := Lib.hid h3
      have H5 := Lib.hid h5
      have H6 := Lib.hid h6
      have H7 := Lib.hid (fun x hx => And.intro (Nat.le_trans (Nat.le_trans HB.out.size hV.size) (h7 x hx).1) (h7 x hx).2)
      clear h3 h4 h5 h6 h7 h8 hV
      go_wp2
      go_ret
      exact ⟨a, cap, by rw [HXX.out]; rfl, by rw [HXX.out]; exact H5.out, by rw [HXX.out]; exact H6.out, H7.out, by rw [HXX.out]; exact H3.out, HG.out, H8.out⟩
  · rw [if_pos he] at hX
    have HXX := Lib.hid hX
    have HP1 := Lib.hid hp1
    have HE := Lib.hid he
    subst hW
    clear hb d1 d2 d3 d4 d5 hp hl hp1 hl1 he hX hpl hle hs hlen
    go_enter Try.func31, Try.ntmps31
    go_wp2_with fail
    refine (readDone 39 _ HP1.out HE.out).mono ?_
    rintro e w1 ⟨rfl, h4⟩
    have c3 := cell_then h4 (Nat.le_refl _) D3.out
    have HG := Lib.hid (grown_below (below_then HB.out h4 HB.out.size) (some p))
    have H3 := Lib.hid (HP1.out.then_ h4)
    clear h4
    go_wp2
    go_ret
    exact ⟨none, 0, by rw [HXX.out]; rfl, by rw [HXX.out]; exact Nat.zero_le _, by rw [HXX.out]; exact .inl rfl, (fun x hx => by cases hx), by rw [HXX.out]; exact H3.out, HG.out, (fun _ => rfl)⟩
end Go.Proofs.Ytellhkcleicfbaa.RdE
