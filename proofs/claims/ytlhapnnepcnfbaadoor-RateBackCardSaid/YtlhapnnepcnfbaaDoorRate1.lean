/- Contracts of Seconds and Ticks, the code's and the document's, over this seat's translation. -/
import Derived.Test.YtlhapnnepcnfbaaDoorRate0
import Derived.Test.YtlhapnnepcnfbaaDoorFlt
namespace Go.Proofs.YtlhapnnepcnfbaaDoor.Rate1
open Go Go.RowKit Kit Nums Rate0 Flt

theorem ret_float {a b : Nat} (h : a = b) : Ending.returned (.float .f64 a) = .returned (.float .f64 b) := by rw [h]
/-- seconds: the quotient. -/
def secV (n : Int) : Nat := (floatBits .quo .f64 (floatOfInt .f64 n) thousand).getD 0
theorem sec_run (n : Int) (h : In64 n) (w : World) : (binOp .quo 23 (.float .f64 (floatOfInt .f64 n)) (.float .f64 4652007308841189376)).run Tryd.prog w = .ok (.float .f64 (secV n)) w := by
  obtain ⟨h1, _, h3⟩ := ofInt_facts n h.1
  obtain ⟨r, hr, _⟩ := div_some _ h3 h1
  rw [secV, hr]
  exact run_float_arith (P := Tryd.prog) w .quo 23 .f64 _ _ r hr
theorem sec_in (n : Int) (h : In64 n) : In64 (secV n) := by
  obtain ⟨h1, _, h3⟩ := ofInt_facts n h.1
  obtain ⟨r, hr, _, _, h4⟩ := div_some _ h3 h1
  rw [secV, hr]; exact h4
theorem secondsC (n : Int) (w : World) (h : In64 n) : Calls Tryd.prog 33 #[.int .u64 n] w fun e w' => e = .returned (.float .f64 (secV n)) ∧ w = w' := by
  have hr := sec_run n h
  go_enter Tryd.func33, Tryd.ntmps33
  go_wp2
  go_ret
  exact ⟨rfl, rfl⟩
theorem rSeconds (n : Int) (w : World) (h : In64 n) : Calls Tryd.prog 34 #[.int .u64 n] w fun e w' => e = .returned (.float .f64 (secV n)) ∧ w = w' := by
  have hr := sec_run n h
  go_enter Tryd.func34, Tryd.ntmps34
  go_wp2
  go_ret
  exact ⟨rfl, rfl⟩
/-- ticks: the product, whether it is too great, and the whole number. -/
def mulV (b : Nat) : Nat := (floatBits .mul .f64 b thousand).getD 0
def gtB (b : Nat) : Bool := Ieee.double.order (mulV b) exact53 == some .gt
def tickN (b : Nat) : Int := if errU b = 0 then if gtB b then 0 else (floatToIntVal .f64 (mulV b) .u64).getD 0 else 0
def tickE (b : Nat) : Int := if errU b = 0 then if gtB b then 1 else 0 else errU b
theorem errU_zero {b : Nat} (h : errU b = 0) : nanB b = false ∧ negB b = false := by
  unfold errU at h
  cases h1 : nanB b <;> cases h2 : negB b <;> simp_all
theorem mul_run (b : Nat) (h : In64 b) (he : errU b = 0) (w : World) : (binOp .mul 23 (.float .f64 b) (.float .f64 4652007308841189376)).run Tryd.prog w = .ok (.float .f64 (mulV b)) w := by
  obtain ⟨r, hr, _⟩ := mul_some _ h (errU_zero he).1
  rw [mulV, hr]
  exact run_float_arith (P := Tryd.prog) w .mul 23 .f64 _ _ r hr
theorem conv_run (b : Nat) (h : In64 b) (he : errU b = 0) (hg : gtB b = false) (w : World) : (convert 23 22 (.float .f64 (mulV b))).run Tryd.prog w = .ok (.int .u64 (tickN b)) w := by
  obtain ⟨hn, hs⟩ := errU_zero he
  obtain ⟨r, hr, r1, r2, r3⟩ := mul_some _ h hn
  have e : mulV b = r := by rw [mulV, hr]; rfl
  obtain ⟨n, hn'⟩ := toInt_some (mulV b) (by rw [e]; exact r3) (by rw [e]; exact r1) (by rw [e, r2]; exact hs) hg
  rw [tickN, if_pos he, if_neg (by simp [hg]), hn']
  exact run_convert_float_int (P := Tryd.prog) w 23 22 .f64 .u64 _ n (by kernel_rfl) Tryd.underlying22 hn'
theorem two (a b : Int) (k l : IntKind) {c d : Int} (h : a = c) (g : b = d) : Ending.returned (.tuple #[.int k a, .int l b]) = .returned (.tuple #[.int k c, .int l d]) := by rw [h, g]
set_option maxRecDepth 100000 in
theorem ticksC (b : Nat) (w : World) (h : In64 b) : Calls Tryd.prog 31 #[.float .f64 b] w fun e w' => e = .returned (.tuple #[.int .u64 (tickN b), .int .i64 (tickE b)]) ∧ w = w' := by
  by_cases he : errU b = 0
  · have hm := mul_run b h he
    cases hg : gtB b
    · have hc := conv_run b h he hg
      have hgt : (FloatKind.f64.format.order (mulV b) 4845873199050653696 == some .gt) = false := hg
      have E := Lib.hid he
      have G := Lib.hid hg
      have cu : ∀ w, Calls Tryd.prog 58 #[.float .f64 b] w fun e w' => e = .returned (.int .i64 0) ∧ w = w' := fun w => by rw [← he]; exact unsigned b w h
      have CU := Lib.hid cu
      clear he hg cu
      go_enter Tryd.func31, Tryd.ntmps31
      go_wp2_with (go_at_call 58; refine (CU.out _).mono ?_; rintro e w' ⟨rfl, rfl⟩)
      go_ret2
      exact ⟨two _ _ _ _ rfl (by rw [tickE, if_pos E.out, if_neg (by simp [G.out])]), rfl⟩
    · have hgt : (FloatKind.f64.format.order (mulV b) 4845873199050653696 == some .gt) = true := hg
      have E := Lib.hid he
      have G := Lib.hid hg
      have cu : ∀ w, Calls Tryd.prog 58 #[.float .f64 b] w fun e w' => e = .returned (.int .i64 0) ∧ w = w' := fun w => by rw [← he]; exact unsigned b w h
      have CU := Lib.hid cu
      clear he hg cu
      go_enter Tryd.func31, Tryd.ntmps31
      go_wp2_with (go_at_call 58; refine (CU.out _).mono ?_; rintro e w' ⟨rfl, rfl⟩)
      go_ret2
      exact ⟨two _ _ _ _ (by rw [tickN, if_pos E.out, if_pos G.out]) (by rw [tickE, if_pos E.out, if_pos G.out]), rfl⟩
  · have hne : (errU b != 0) = true := by simpa using he
    have E := Lib.hid he
    clear he
    go_enter Tryd.func31, Tryd.ntmps31
    go_wp2_with (go_at_call 58; refine (unsigned _ _ h).mono ?_; rintro e w' ⟨rfl, rfl⟩)
    go_ret2
    exact ⟨two _ _ _ _ (by rw [tickN, if_neg E.out]) (by rw [tickE, if_neg E.out]), rfl⟩
set_option maxRecDepth 100000 in
theorem rTicks (b : Nat) (w : World) (h : In64 b) : Calls Tryd.prog 32 #[.float .f64 b] w fun e w' => e = .returned (.tuple #[.int .u64 (tickN b), .int .i64 (tickE b)]) ∧ w = w' := by
  have r := run60
  have hd := Lib.hid (neg_div h)
  cases hn : nanB b
  · have cn : ∀ w, Calls Tryd.prog 64 #[.int .u64 b] w fun e w' => e = .returned (.bool false) ∧ w = w' := fun w => by rw [← hn]; exact rIsNaN b w h
    cases hs : negB b
    · have he : errU b = 0 := by simp [errU, hn, hs]
      have hdiv : ((b : Int) / 9223372036854775808 == 1) = false := by rw [hd.out, hs]
      have hm := mul_run b h he
      cases hg : gtB b
      · have hc := conv_run b h he hg
        have hgt : (FloatKind.f64.format.order (mulV b) 4845873199050653696 == some .gt) = false := hg
        have E := Lib.hid he
        have G := Lib.hid hg
        have CN := Lib.hid cn
        clear he hg cn hn hs
        go_enter Tryd.func32, Tryd.ntmps32
        go_wp2_with (go_at_call 64; refine (CN.out _).mono ?_; rintro e w' ⟨rfl, rfl⟩)
        go_ret2
        exact ⟨two _ _ _ _ rfl (by rw [tickE, if_pos E.out, if_neg (by simp [G.out])]), rfl⟩
      · have hgt : (FloatKind.f64.format.order (mulV b) 4845873199050653696 == some .gt) = true := hg
        have E := Lib.hid he
        have G := Lib.hid hg
        have CN := Lib.hid cn
        clear he hg cn hn hs
        go_enter Tryd.func32, Tryd.ntmps32
        go_wp2_with (go_at_call 64; refine (CN.out _).mono ?_; rintro e w' ⟨rfl, rfl⟩)
        go_ret2
        exact ⟨two _ _ _ _ (by rw [tickN, if_pos E.out, if_pos G.out]) (by rw [tickE, if_pos E.out, if_pos G.out]), rfl⟩
    · have he : errU b = 11 := by simp [errU, hn, hs]
      have hdiv : ((b : Int) / 9223372036854775808 == 1) = true := by rw [hd.out, hs]
      have E := Lib.hid he
      have CN := Lib.hid cn
      clear he cn hn hs
      go_enter Tryd.func32, Tryd.ntmps32
      go_wp2_with (go_at_call 64; refine (CN.out _).mono ?_; rintro e w' ⟨rfl, rfl⟩)
      go_ret2
      exact ⟨two _ _ _ _ (by rw [tickN, if_neg (by rw [E.out]; decide)]) (by rw [tickE, if_neg (by rw [E.out]; decide), E.out]), rfl⟩
  · have he : errU b = 10 := by simp [errU, hn]
    have cn : ∀ w, Calls Tryd.prog 64 #[.int .u64 b] w fun e w' => e = .returned (.bool true) ∧ w = w' := fun w => by rw [← hn]; exact rIsNaN b w h
    have E := Lib.hid he
    have CN := Lib.hid cn
    clear he cn hn
    go_enter Tryd.func32, Tryd.ntmps32
    go_wp2_with (go_at_call 64; refine (CN.out _).mono ?_; rintro e w' ⟨rfl, rfl⟩)
    go_ret2
    exact ⟨two _ _ _ _ (by rw [tickN, if_neg (by rw [E.out]; decide)]) (by rw [tickE, if_neg (by rw [E.out]; decide), E.out]), rfl⟩
end Go.Proofs.YtlhapnnepcnfbaaDoor.Rate1
