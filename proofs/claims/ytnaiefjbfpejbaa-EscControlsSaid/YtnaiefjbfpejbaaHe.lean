/- A control that is written: every argument. -/
import Derived.Test.YtnaiefjbfpejbaaHda
import Derived.Test.YtnaiefjbfpejbaaHdb
import Derived.Test.YtnaiefjbfpejbaaHdc
import Derived.Test.YtnaiefjbfpejbaaHdd
set_option linter.unusedVariables false
namespace Go.Proofs.Ytnaiefjbfpejbaa.He
open Go Go.RowKit Kit Ep Eb Fa Fb Fc Ha Hb Hc

set_option maxRecDepth 100000 in
theorem bad1 (a : Option Addr) (n cap : Nat) (pv it fi : Int) (w : World) (h : 16 < n) : Calls Try.prog 5 #[.slice a n cap, .int .i32 pv, .int .i32 it, .int .i32 fi] w (Fd.OutP w) := by
  have d0 : decide ((16 : Int) < (n : Int)) = true := decide_eq_true (by omega)
  clear h
  have HBW := Lib.hid (Below.refl w.heap.size w)
  go_enter Try.func5, Try.ntmps5
  go_wp2_with (first
    | (go_at_call 7; (with_reducible refine (first8 w).mono ?_); rintro e w1 ⟨rfl, bq⟩; have HB1 := Lib.hid (below_then HBW.out bq HBW.out.size); clear bq)
    | (go_at_call 7; (with_reducible refine (first8 w1).mono ?_); rintro e w2 ⟨rfl, bq⟩; have HB2 := Lib.hid (below_then HB1.out bq HB1.out.size); clear bq))
  go_ret
  exact ⟨rfl, HB2.out⟩
set_option maxRecDepth 100000 in
theorem bad2 (a : Option Addr) (n cap : Nat) (pv it fi : Int) (w : World) (h0 : n ≤ 16) (h : fi < 64) : Calls Try.prog 5 #[.slice a n cap, .int .i32 pv, .int .i32 it, .int .i32 fi] w (Fd.OutP w) := by
  have d0 : decide ((16 : Int) < (n : Int)) = false := decide_eq_false (by omega)
  clear h0
  have HBW := Lib.hid (Below.refl w.heap.size w)
  go_enter Try.func5, Try.ntmps5
  go_wp2_with (first
    | (go_at_call 7; (with_reducible refine (first8 w).mono ?_); rintro e w1 ⟨rfl, bq⟩; have HB1 := Lib.hid (below_then HBW.out bq HBW.out.size); clear bq)
    | (go_at_call 7; (with_reducible refine (first8 w1).mono ?_); rintro e w2 ⟨rfl, bq⟩; have HB2 := Lib.hid (below_then HB1.out bq HB1.out.size); clear bq))
  go_ret
  exact ⟨rfl, HB2.out⟩
set_option maxRecDepth 100000 in
theorem bad3 (a : Option Addr) (n cap : Nat) (pv it fi : Int) (w : World) (h0 : n ≤ 16) (h1 : 64 ≤ fi) (h : 126 < fi) : Calls Try.prog 5 #[.slice a n cap, .int .i32 pv, .int .i32 it, .int .i32 fi] w (Fd.OutP w) := by
  have d0 : decide ((16 : Int) < (n : Int)) = false := decide_eq_false (by omega)
  clear h0
  have HBW := Lib.hid (Below.refl w.heap.size w)
  go_enter Try.func5, Try.ntmps5
  go_wp2_with (first
    | (go_at_call 7; (with_reducible refine (first8 w).mono ?_); rintro e w1 ⟨rfl, bq⟩; have HB1 := Lib.hid (below_then HBW.out bq HBW.out.size); clear bq)
    | (go_at_call 7; (with_reducible refine (first8 w1).mono ?_); rintro e w2 ⟨rfl, bq⟩; have HB2 := Lib.hid (below_then HB1.out bq HB1.out.size); clear bq))
  go_ret
  exact ⟨rfl, HB2.out⟩
set_option maxRecDepth 100000 in
theorem bad4 (a : Option Addr) (n cap : Nat) (pv it fi : Int) (w : World) (h0 : n ≤ 16) (h1 : 64 ≤ fi) (h2 : fi ≤ 126) (hz : ¬ pv = 0) (h : pv < 60) : Calls Try.prog 5 #[.slice a n cap, .int .i32 pv, .int .i32 it, .int .i32 fi] w (Fd.OutP w) := by
  have d0 : decide ((16 : Int) < (n : Int)) = false := decide_eq_false (by omega)
  have ypv0 : (pv == 0) = false := by rw [beq_eq_false_iff_ne]; omega
  have ypv1 : (pv != 0) = true := by rw [bne, ypv0]; rfl
  clear h0 hz
  have HBW := Lib.hid (Below.refl w.heap.size w)
  go_enter Try.func5, Try.ntmps5
  go_wp2_with (first
    | (go_at_call 7; (with_reducible refine (first8 w).mono ?_); rintro e w1 ⟨rfl, bq⟩; have HB1 := Lib.hid (below_then HBW.out bq HBW.out.size); clear bq)
    | (go_at_call 7; (with_reducible refine (first8 w1).mono ?_); rintro e w2 ⟨rfl, bq⟩; have HB2 := Lib.hid (below_then HB1.out bq HB1.out.size); clear bq))
  go_ret
  exact ⟨rfl, HB2.out⟩
set_option maxRecDepth 100000 in
theorem bad5 (a : Option Addr) (n cap : Nat) (pv it fi : Int) (w : World) (h0 : n ≤ 16) (h1 : 64 ≤ fi) (h2 : fi ≤ 126) (hz : ¬ pv = 0) (h3 : 60 ≤ pv) (h : 63 < pv) : Calls Try.prog 5 #[.slice a n cap, .int .i32 pv, .int .i32 it, .int .i32 fi] w (Fd.OutP w) := by
  have d0 : decide ((16 : Int) < (n : Int)) = false := decide_eq_false (by omega)
  have ypv0 : (pv == 0) = false := by rw [beq_eq_false_iff_ne]; omega
  have ypv1 : (pv != 0) = true := by rw [bne, ypv0]; rfl
  clear h0 hz
  have HBW := Lib.hid (Below.refl w.heap.size w)
  go_enter Try.func5, Try.ntmps5
  go_wp2_with (first
    | (go_at_call 7; (with_reducible refine (first8 w).mono ?_); rintro e w1 ⟨rfl, bq⟩; have HB1 := Lib.hid (below_then HBW.out bq HBW.out.size); clear bq)
    | (go_at_call 7; (with_reducible refine (first8 w1).mono ?_); rintro e w2 ⟨rfl, bq⟩; have HB2 := Lib.hid (below_then HB1.out bq HB1.out.size); clear bq))
  go_ret
  exact ⟨rfl, HB2.out⟩
set_option maxRecDepth 100000 in
theorem bad60 (a : Option Addr) (n cap : Nat) (pv it fi : Int) (w : World) (h0 : n ≤ 16) (h1 : 64 ≤ fi) (h2 : fi ≤ 126) (hp : pv = 0) (hz : ¬ it = 0) (h : it < 32) : Calls Try.prog 5 #[.slice a n cap, .int .i32 pv, .int .i32 it, .int .i32 fi] w (Fd.OutP w) := by
  have d0 : decide ((16 : Int) < (n : Int)) = false := decide_eq_false (by omega)
  subst hp
  have yit0 : (it == 0) = false := by rw [beq_eq_false_iff_ne]; omega
  have yit1 : (it != 0) = true := by rw [bne, yit0]; rfl
  clear h0 hz
  have HBW := Lib.hid (Below.refl w.heap.size w)
  go_enter Try.func5, Try.ntmps5
  go_wp2_with (first
    | (go_at_call 7; (with_reducible refine (first8 w).mono ?_); rintro e w1 ⟨rfl, bq⟩; have HB1 := Lib.hid (below_then HBW.out bq HBW.out.size); clear bq)
    | (go_at_call 7; (with_reducible refine (first8 w1).mono ?_); rintro e w2 ⟨rfl, bq⟩; have HB2 := Lib.hid (below_then HB1.out bq HB1.out.size); clear bq))
  go_ret
  exact ⟨rfl, HB2.out⟩
set_option maxRecDepth 100000 in
theorem bad70 (a : Option Addr) (n cap : Nat) (pv it fi : Int) (w : World) (h0 : n ≤ 16) (h1 : 64 ≤ fi) (h2 : fi ≤ 126) (hp : pv = 0) (hz : ¬ it = 0) (h5 : 32 ≤ it) (h : 47 < it) : Calls Try.prog 5 #[.slice a n cap, .int .i32 pv, .int .i32 it, .int .i32 fi] w (Fd.OutP w) := by
  have d0 : decide ((16 : Int) < (n : Int)) = false := decide_eq_false (by omega)
  subst hp
  have yit0 : (it == 0) = false := by rw [beq_eq_false_iff_ne]; omega
  have yit1 : (it != 0) = true := by rw [bne, yit0]; rfl
  clear h0 hz
  have HBW := Lib.hid (Below.refl w.heap.size w)
  go_enter Try.func5, Try.ntmps5
  go_wp2_with (first
    | (go_at_call 7; (with_reducible refine (first8 w).mono ?_); rintro e w1 ⟨rfl, bq⟩; have HB1 := Lib.hid (below_then HBW.out bq HBW.out.size); clear bq)
    | (go_at_call 7; (with_reducible refine (first8 w1).mono ?_); rintro e w2 ⟨rfl, bq⟩; have HB2 := Lib.hid (below_then HB1.out bq HB1.out.size); clear bq))
  go_ret
  exact ⟨rfl, HB2.out⟩
set_option maxRecDepth 100000 in
theorem bad61 (a : Option Addr) (n cap : Nat) (pv it fi : Int) (w : World) (h0 : n ≤ 16) (h1 : 64 ≤ fi) (h2 : fi ≤ 126) (hp : ¬ pv = 0) (h3 : 60 ≤ pv) (h4 : pv ≤ 63) (hz : ¬ it = 0) (h : it < 32) : Calls Try.prog 5 #[.slice a n cap, .int .i32 pv, .int .i32 it, .int .i32 fi] w (Fd.OutP w) := by
  have d0 : decide ((16 : Int) < (n : Int)) = false := decide_eq_false (by omega)
  have ypv0 : (pv == 0) = false := by rw [beq_eq_false_iff_ne]; omega
  have ypv1 : (pv != 0) = true := by rw [bne, ypv0]; rfl
  have yit0 : (it == 0) = false := by rw [beq_eq_false_iff_ne]; omega
  have yit1 : (it != 0) = true := by rw [bne, yit0]; rfl
  clear h0 hz hp
  have HBW := Lib.hid (Below.refl w.heap.size w)
  go_enter Try.func5, Try.ntmps5
  go_wp2_with (first
    | (go_at_call 7; (with_reducible refine (first8 w).mono ?_); rintro e w1 ⟨rfl, bq⟩; have HB1 := Lib.hid (below_then HBW.out bq HBW.out.size); clear bq)
    | (go_at_call 7; (with_reducible refine (first8 w1).mono ?_); rintro e w2 ⟨rfl, bq⟩; have HB2 := Lib.hid (below_then HB1.out bq HB1.out.size); clear bq))
  go_ret
  exact ⟨rfl, HB2.out⟩
set_option maxRecDepth 100000 in
theorem bad71 (a : Option Addr) (n cap : Nat) (pv it fi : Int) (w : World) (h0 : n ≤ 16) (h1 : 64 ≤ fi) (h2 : fi ≤ 126) (hp : ¬ pv = 0) (h3 : 60 ≤ pv) (h4 : pv ≤ 63) (hz : ¬ it = 0) (h5 : 32 ≤ it) (h : 47 < it) : Calls Try.prog 5 #[.slice a n cap, .int .i32 pv, .int .i32 it, .int .i32 fi] w (Fd.OutP w) := by
  have d0 : decide ((16 : Int) < (n : Int)) = false := decide_eq_false (by omega)
  have ypv0 : (pv == 0) = false := by rw [beq_eq_false_iff_ne]; omega
  have ypv1 : (pv != 0) = true := by rw [bne, ypv0]; rfl
  have yit0 : (it == 0) = false := by rw [beq_eq_false_iff_ne]; omega
  have yit1 : (it != 0) = true := by rw [bne, yit0]; rfl
  clear h0 hz hp
  have HBW := Lib.hid (Below.refl w.heap.size w)
  go_enter Try.func5, Try.ntmps5
  go_wp2_with (first
    | (go_at_call 7; (with_reducible refine (first8 w).mono ?_); rintro e w1 ⟨rfl, bq⟩; have HB1 := Lib.hid (below_then HBW.out bq HBW.out.size); clear bq)
    | (go_at_call 7; (with_reducible refine (first8 w1).mono ?_); rintro e w2 ⟨rfl, bq⟩; have HB2 := Lib.hid (below_then HB1.out bq HB1.out.size); clear bq))
  go_ret
  exact ⟨rfl, HB2.out⟩
theorem row_lr {w : World} {a : Option Addr} {len cap : Nat} {zs : List Int} (h : IsRow .i64 w a len cap zs) : ∃ l : List Int, l.length = len ∧ Ints.Ints w a l ∧ ∀ x ∈ l, x < 9223372036854775808 := by
  rcases h with ⟨rfl, rfl, rfl, rfl⟩ | ⟨⟨b, o, sp⟩, rfl, hlc, hm, hz, hcell, hwf⟩
  · exact ⟨[], rfl, .inl rfl, fun x hx => by cases hx⟩
  · unfold maxLen at hm
    by_cases h1 : 1 ≤ len
    · have g0 := hcell 0 (by omega)
      have hspot : sp = none := by simpa [Addr.add] using World.cell?_spot g0
      subst hspot
      refine ⟨zs.take len, by simp; omega, .inr ⟨b, o, rfl, fun i hi => ?_⟩, fun x hx => ?_⟩
      · simp only [List.length_take] at hi
        have g := hcell i (by omega)
        rw [Ints.add_at] at g
        rw [g]
        simp [List.getD_eq_getElem?_getD, show i < zs.length by omega]
      · have hw := hwf x (List.mem_of_mem_take hx)
        simp [Lit.wf] at hw
        omega
    · obtain rfl : len = 0 := by omega
      exact ⟨[], rfl, .inl rfl, fun x hx => by cases hx⟩
/-- a control that is written: every argument. -/
theorem walk (a : Option Addr) (n cap : Nat) (zs : List Int) (pv it fi : Int) (W : World) (h : IsRow .i64 W a n cap zs) (_w1 : (Lit.int .i32 pv).wf = true) (_w2 : (Lit.int .i32 it).wf = true) (_w3 : (Lit.int .i32 fi).wf = true) :
    Calls Try.prog 5 #[.slice a n cap, .int .i32 pv, .int .i32 it, .int .i32 fi] W fun e W' => e = .returned (.bool true) ∧ Below W.heap.size W W' := by
  obtain ⟨l, rfl, hL, hR⟩ := row_lr h
  by_cases h0 : l.length ≤ 16
  case neg => exact bad1 a _ cap pv it fi W (by omega)
  by_cases h1 : fi < 64
  · exact bad2 a _ cap pv it fi W h0 h1
  by_cases h2 : 126 < fi
  · exact bad3 a _ cap pv it fi W h0 (by omega) h2
  have h1 : 64 ≤ fi := by omega
  have h2 : fi ≤ 126 := by omega
  by_cases hp : pv = 0
  · by_cases hi : it = 0
    · exact Hda.main a cap l pv it fi W h0 hp hi h1 h2 hL hR
    · by_cases h5 : it < 32
      · exact bad60 a _ cap pv it fi W h0 h1 h2 hp hi h5
      · by_cases h6 : 47 < it
        · exact bad70 a _ cap pv it fi W h0 h1 h2 hp hi (by omega) h6
        · exact Hdb.main a cap l pv it fi W h0 hp ⟨by omega, by omega⟩ h1 h2 hL hR
  · by_cases h3 : pv < 60
    · exact bad4 a _ cap pv it fi W h0 h1 h2 hp h3
    · by_cases h4 : 63 < pv
      · exact bad5 a _ cap pv it fi W h0 h1 h2 hp (by omega) h4
      · have h3 : 60 ≤ pv := by omega
        have h4 : pv ≤ 63 := by omega
        by_cases hi : it = 0
        · exact Hdc.main a cap l pv it fi W h0 ⟨h3, h4⟩ hi h1 h2 hL hR
        · by_cases h5 : it < 32
          · exact bad61 a _ cap pv it fi W h0 h1 h2 hp h3 h4 hi h5
          · by_cases h6 : 47 < it
            · exact bad71 a _ cap pv it fi W h0 h1 h2 hp h3 h4 hi (by omega) h6
            · exact Hdd.main a cap l pv it fi W h0 ⟨h3, h4⟩ ⟨by omega, by omega⟩ h1 h2 hL hR

end Go.Proofs.Ytnaiefjbfpejbaa.He
