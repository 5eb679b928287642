/- Package grid: slide. -/
import Derived.Test.YtfdjmlncdbpkgaaCp
set_option linter.unusedVariables false
namespace Go.Proofs.Ytfdjmlncdbpkgaa.Sl
open Go Go.RowKit Kit Gm Gv Fl Me Cp

theorem RowP.of {b : Nat} {L : List Ce} {w : World} {e : Ending} {w' : World} (h : RowP b L w e w') : e = .returned (.tuple #[]) ∧ RB w' b L ∧ Kp b b w w' := h
theorem up_split (A M Z : List Ce) (k : Nat) : A ++ M ++ Z = A ++ M.take (M.length - k) ++ (M.drop (M.length - k) ++ Z) := by
  simp [← List.append_assoc]
  rw [List.append_assoc A, List.take_append_drop]
theorem up_src (A M Z : List Ce) (k : Nat) : A ++ M ++ Z = (A ++ M.take k) ++ M.drop k ++ Z := by
  simp
theorem RB.drew {w : World} {b : Nat} {L : List Ce} (h : RB w b L) : RB w.drew b L := h
theorem Kp.drew {p b : Nat} {w w1 : World} (h : Kp p b w w1) : Kp p b w w1.drew := ⟨h.os, h.tape, h.output, h.size, h.block⟩
theorem n_sub {n k : Nat} (h : k ≤ n) : n - (n - k) = k := by omega
set_option maxRecDepth 100000 in
/-- slide to the front. -/
theorem slideUp (b : Nat) (A M Z : List Ce) (n cap k : Nat) (c : Ce) (w : World) (h : RB w b (A ++ M ++ Z)) (hM : n = M.length) (hn : n ≤ 1000000) (hk : k ≤ n) (hc : n ≤ cap) (hcap : cap ≤ 9223372036854775000) (h1 : k < cap) (h2 : ¬ cap = n - k) :
    Calls Try.prog 48 #[.slice (some ⟨b, A.length * 5, none⟩) n cap, .int .i64 (k : Int), cvA c] w (RowP b (A ++ M.drop k ++ List.replicate k c ++ Z) w) := by
  have hlt := h.lt
  have HR0 := Lib.hid (h.alloc (cvO c 37))
  have HK0 := Lib.hid (Kp.of (p := b) (b := b) ((Below.refl w.heap.size w).alloc (Nat.le_refl _) (cvO c 37)))
  have HB0 := Lib.hid (heap_last w #[.int .i32 c.r, .int .i64 c.fl, .int .i64 c.fg, .int .i64 c.bg, .int .i64 c.wd] 37)
  have HN := Lib.hid (show w.heap.size ≠ b by omega)
  have HS := Lib.hid (up_split A M Z k)
  have HX := Lib.hid (show (M.drop k).length = (M.take (M.length - k)).length by simp)
  have HX2 := Lib.hid (show (M.drop k).length = Nat.min (n - k) n by rw [List.length_drop, ← hM]; exact (Nat.min_eq_left (by omega)).symm)
  have HM := Lib.hid hM
  have HD := Lib.hid (show k = (M.drop (M.length - k)).length by rw [List.length_drop, ← hM]; omega)
  have HA := Lib.hid (show 0 < k → some (⟨b, A.length * 5 + (n - k) * 5, none⟩ : Addr) = some ⟨b, (A ++ M.drop k).length * 5, none⟩ from fun _ => by rw [List.length_append, List.length_drop, ← hM, Nat.add_mul])
  have HKn := Lib.hid (show k ≤ 1000000 by omega)
  have HNS := Lib.hid (n_sub hk)
  have e1 : ¬ cap = k := by omega
  generalize hL : A ++ M.drop k ++ List.replicate k c ++ Z = L'
  have HL := Lib.hid hL
  clear h hlt hM hL
  go_enter Try.func48, Try.ntmps48
  have HR1 := Lib.hid (show RB (w.alloc (cvO c 37)) b (A ++ M.take (M.length - k) ++ (M.drop (M.length - k) ++ Z)) by rw [← HS.out]; exact HR0.out)
  have HP := Lib.hid (fun (_ : 0 < (M.drop k).length) => (⟨rfl, ⟨b, A.length * 5 + k * 5, none⟩, rfl, part_src (b := b) (A := A ++ M.take k) (X := M.drop k) (Z := Z) (by rw [← up_src]; exact HR0.out) _ (by have := HM.out; rw [List.length_append, List.length_take]; omega)⟩ : (some (⟨b, A.length * 5, none⟩ : Addr) = some ⟨b, A.length * 5, none⟩ ∧ ∃ ad, some (⟨b, A.length * 5 + k * 5, none⟩ : Addr) = some ad ∧ ∀ j v, (flat (M.drop k))[j]? = some v → (w.alloc (cvO c 37)).cell? (ad.add j) = some v)))
  go_wp2_with (with_reducible refine wpList_copy_cells rfl (.tmp 8) (.tmp 11) rfl _ _ _ _ _ _ rfl rfl b A _ _ _ HR1.out HX.out HX2.out HP.out ?_; intro w2 hr2 hk2)
  have HB2 := Lib.hid ((hk2.row HB0.out HN.out HN.out))
  have HR2 := Lib.hid (show RB w2 b ((A ++ M.drop k) ++ M.drop (M.length - k) ++ Z) by have := hr2; simpa using this)
  have HK2 := Lib.hid (HK0.out.trans hk2 (.inl rfl))
  clear hr2 hk2
  obtain ⟨c0, c1, c2, c3, c4⟩ := five HB2.out
  have i1 : IntKind.i64.wrap ((n : Int) - (k : Int)) = ((n - k : Nat) : Int) := by rw [show (n : Int) - (k : Int) = ((n - k : Nat) : Int) by omega]; exact IntWalk.i64_in _ (by omega)
  have i2 : n - k ≤ n := Nat.sub_le _ _
  have i3 : n - (n - k) = k := HNS.out
  go_still_tail 7, (by kernel_rfl)
  go_wp2_with (go_at_call 47; (with_reducible refine (fillK b (A ++ M.drop k) (M.drop (M.length - k)) Z _ k _ c _ (RB.drew HR2.out) HD.out HA.out HKn.out).mono ?_); rintro e w3 ⟨rfl, hr3, hk3⟩)
  go_end0
  exact ⟨rfl, HL.out ▸ hr3, (Kp.drew HK2.out).trans hk3 (.inl rfl)⟩
set_option maxRecDepth 100000 in
/-- all goes out at the front. -/
theorem slideUp2 (b : Nat) (A M Z : List Ce) (n : Nat) (c : Ce) (w : World) (h : RB w b (A ++ M ++ Z)) (hM : n = M.length) (hn : n ≤ 1000000) (h0 : 0 < n) :
    Calls Try.prog 48 #[.slice (some ⟨b, A.length * 5, none⟩) n n, .int .i64 (n : Int), cvA c] w (RowP b (A ++ List.replicate n c ++ Z) w) := by
  have hlt := h.lt
  have HR0 := Lib.hid (h.alloc (cvO c 37))
  have HK0 := Lib.hid (Kp.of (p := b) (b := b) ((Below.refl w.heap.size w).alloc (Nat.le_refl _) (cvO c 37)))
  have HB0 := Lib.hid (heap_last w #[.int .i32 c.r, .int .i64 c.fl, .int .i64 c.fg, .int .i64 c.bg, .int .i64 c.wd] 37)
  have HN := Lib.hid (show w.heap.size ≠ b by omega)
  have HX := Lib.hid (show ([] : List Ce).length = ([] : List Ce).length from rfl)
  have HX2 := Lib.hid (show ([] : List Ce).length = Nat.min 0 n by simp)
  have HM := Lib.hid hM
  have HKn := Lib.hid hn
  generalize hL : A ++ List.replicate n c ++ Z = L'
  have HL := Lib.hid hL
  clear h hlt hM hL
  go_enter Try.func48, Try.ntmps48
  have HR1 := Lib.hid (show RB (w.alloc (cvO c 37)) b (A ++ [] ++ (M ++ Z)) by have := HR0.out; simpa using this)
  have HP := Lib.hid (fun (h : 0 < ([] : List Ce).length) => (absurd h (by decide) : (some (⟨b, A.length * 5, none⟩ : Addr) = some ⟨b, A.length * 5, none⟩ ∧ ∃ ad, some (⟨b, A.length * 5, none⟩ : Addr) = some ad ∧ ∀ j v, (flat [])[j]? = some v → (w.alloc (cvO c 37)).cell? (ad.add j) = some v)))
  go_wp2_with (with_reducible refine wpList_copy_cells rfl (.tmp 8) (.tmp 11) rfl _ _ _ _ _ _ rfl rfl b A _ _ _ HR1.out HX.out HX2.out HP.out ?_; intro w2 hr2 hk2)
  have HB2 := Lib.hid ((hk2.row HB0.out HN.out HN.out))
  have HR2 := Lib.hid (show RB w2 b (A ++ M ++ Z) by have := hr2; simpa using this)
  have HK2 := Lib.hid (HK0.out.trans hk2 (.inl rfl))
  clear hr2 hk2
  obtain ⟨c0, c1, c2, c3, c4⟩ := five HB2.out
  have i0 : ¬ n = 0 := by omega
  have i1 : IntKind.i64.wrap 0 = 0 := by decide
  have i2 : IntKind.i64.wrap ((n : Int) - (n : Int)) = 0 := by rw [Int.sub_self]; decide
  go_still_tail 7, (by kernel_rfl)
  go_wp2_with (go_at_call 47; (with_reducible refine (fillK b A M Z _ n _ c _ (RB.drew HR2.out) HM.out (fun _ => rfl) HKn.out).mono ?_); rintro e w3 ⟨rfl, hr3, hk3⟩)
  go_end0
  exact ⟨rfl, HL.out ▸ hr3, (Kp.drew HK2.out).trans hk3 (.inl rfl)⟩
set_option maxRecDepth 100000 in
/-- nothing goes. -/
theorem slideUp3 (b : Nat) (A M Z : List Ce) (n : Nat) (c : Ce) (w : World) (h : RB w b (A ++ M ++ Z)) (hM : n = M.length) (hn : n ≤ 1000000) (h0 : 0 < n) :
    Calls Try.prog 48 #[.slice (some ⟨b, A.length * 5, none⟩) n n, .int .i64 0, cvA c] w (RowP b (A ++ M ++ Z) w) := by
  have hlt := h.lt
  have HR0 := Lib.hid (h.alloc (cvO c 37))
  have HK0 := Lib.hid (Kp.of (p := b) (b := b) ((Below.refl w.heap.size w).alloc (Nat.le_refl _) (cvO c 37)))
  have HB0 := Lib.hid (heap_last w #[.int .i32 c.r, .int .i64 c.fl, .int .i64 c.fg, .int .i64 c.bg, .int .i64 c.wd] 37)
  have HN := Lib.hid (show w.heap.size ≠ b by omega)
  have HX := Lib.hid (show M.length = M.length from rfl)
  have HX2 := Lib.hid (show M.length = Nat.min n n by rw [← hM]; exact (Nat.min_self _).symm)
  have HM := Lib.hid hM
  have HD := Lib.hid (show 0 = ([] : List Ce).length from rfl)
  have HA := Lib.hid (show 0 < 0 → some (⟨b, A.length * 5, none⟩ : Addr) = some ⟨b, (A ++ M).length * 5, none⟩ from fun h => absurd h (by decide))
  have HKn := Lib.hid (show 0 ≤ 1000000 by omega)
  generalize hL : A ++ M ++ Z = L'
  have HL := Lib.hid hL
  rw [hL] at HR0
  clear h hlt hM hL
  go_enter Try.func48, Try.ntmps48
  have HR1 := Lib.hid (show RB (w.alloc (cvO c 37)) b (A ++ M ++ Z) by rw [HL.out]; exact HR0.out)
  have HP := Lib.hid (fun (_ : 0 < M.length) => (⟨rfl, ⟨b, A.length * 5, none⟩, rfl, part_src (b := b) (A := A) (X := M) (Z := Z) HR1.out _ rfl⟩ : (some (⟨b, A.length * 5, none⟩ : Addr) = some ⟨b, A.length * 5, none⟩ ∧ ∃ ad, some (⟨b, A.length * 5, none⟩ : Addr) = some ad ∧ ∀ j v, (flat M)[j]? = some v → (w.alloc (cvO c 37)).cell? (ad.add j) = some v)))
  have i0 : ¬ n = 0 := by omega
  go_wp2_with (with_reducible refine wpList_copy_cells rfl (.tmp 8) (.tmp 11) rfl _ _ _ _ _ _ rfl rfl b A _ _ _ HR1.out HX.out HX2.out HP.out ?_; intro w2 hr2 hk2)
  have HB2 := Lib.hid ((hk2.row HB0.out HN.out HN.out))
  have HR2 := Lib.hid (show RB w2 b ((A ++ M) ++ [] ++ Z) by have := hr2; simpa using this)
  have HK2 := Lib.hid (HK0.out.trans hk2 (.inl rfl))
  clear hr2 hk2
  obtain ⟨c0, c1, c2, c3, c4⟩ := five HB2.out
  have i1 : IntKind.i64.wrap (n : Int) = (n : Int) := IntWalk.i64_in _ (by omega)
  have i2 : IntKind.i64.wrap ((n : Int) - 0) = (n : Int) := by rw [Int.sub_zero]; exact i1
  go_still_tail 7, (by kernel_rfl)
  go_wp2_with (go_at_call 47; (with_reducible refine (fillK b (A ++ M) [] Z _ 0 _ c _ (RB.drew HR2.out) HD.out HA.out HKn.out).mono ?_); rintro e w3 ⟨rfl, hr3, hk3⟩)
  go_end0
  exact ⟨rfl, by rw [← HL.out]; simpa using hr3, (Kp.drew HK2.out).trans hk3 (.inl rfl)⟩
theorem down_split (A M Z : List Ce) (k : Nat) : A ++ M ++ Z = (A ++ M.take k) ++ M.drop k ++ Z := by simp
theorem down_src (A M Z : List Ce) (k : Nat) : A ++ M ++ Z = A ++ M.take (M.length - k) ++ (M.drop (M.length - k) ++ Z) := up_split A M Z k
set_option maxRecDepth 100000 in
/-- slide to the end. -/
theorem slideDown (b : Nat) (A M Z : List Ce) (n cap k : Nat) (c : Ce) (w : World) (h : RB w b (A ++ M ++ Z)) (hM : n = M.length) (hn : n ≤ 1000000) (hk : k ≤ n) (hk0 : 0 < k) (hc : n ≤ cap) (hcap : cap ≤ 9223372036854775000) (h1 : k < cap) (z : Int) (hz : z = -(k : Int)) :
    Calls Try.prog 48 #[.slice (some ⟨b, A.length * 5, none⟩) n cap, .int .i64 z, cvA c] w (RowP b (A ++ List.replicate k c ++ M.take (M.length - k) ++ Z) w) := by
  have hlt := h.lt
  have HR0 := Lib.hid (h.alloc (cvO c 37))
  have HK0 := Lib.hid (Kp.of (p := b) (b := b) ((Below.refl w.heap.size w).alloc (Nat.le_refl _) (cvO c 37)))
  have HB0 := Lib.hid (heap_last w #[.int .i32 c.r, .int .i64 c.fl, .int .i64 c.fg, .int .i64 c.bg, .int .i64 c.wd] 37)
  have HN := Lib.hid (show w.heap.size ≠ b by omega)
  have HX := Lib.hid (show (M.take (M.length - k)).length = (M.drop k).length by simp)
  have HX2 := Lib.hid (show (M.take (M.length - k)).length = Nat.min n (n - k) by rw [List.length_take, ← hM, Nat.min_eq_left (Nat.sub_le _ _)]; exact (Nat.min_eq_right (Nat.sub_le _ _)).symm)
  have HM := Lib.hid hM
  have HD := Lib.hid (show k = (M.take k).length by rw [List.length_take, ← hM]; exact (Nat.min_eq_left hk).symm)
  have HKn := Lib.hid (show k ≤ 1000000 by omega)
  have e1 : ¬ cap = k := by omega
  have e2 : k ≤ cap := by omega
  have z0 : z < 0 := by omega
  have z1 : IntKind.i64.wrap (-z) = (k : Int) := by rw [show -z = (k : Int) by omega]; exact IntWalk.i64_in _ (by omega)
  generalize hL : A ++ List.replicate k c ++ M.take (M.length - k) ++ Z = L'
  have HL := Lib.hid hL
  clear h hlt hM hL hz
  go_enter Try.func48, Try.ntmps48
  have HR1 := Lib.hid (show RB (w.alloc (cvO c 37)) b ((A ++ M.take k) ++ M.drop k ++ Z) by rw [← down_split]; exact HR0.out)
  have HP := Lib.hid (fun (_ : 0 < (M.take (M.length - k)).length) => (⟨by have := HD.out; rw [List.length_append, ← this, Nat.add_mul], ⟨b, A.length * 5, none⟩, rfl, part_src (b := b) (A := A) (X := M.take (M.length - k)) (Z := (M.drop (M.length - k) ++ Z)) (by rw [← down_src]; exact HR0.out) _ rfl⟩ : (some (⟨b, A.length * 5 + k * 5, none⟩ : Addr) = some ⟨b, (A ++ M.take k).length * 5, none⟩ ∧ ∃ ad, some (⟨b, A.length * 5, none⟩ : Addr) = some ad ∧ ∀ j v, (flat (M.take (M.length - k)))[j]? = some v → (w.alloc (cvO c 37)).cell? (ad.add j) = some v)))
  go_wp2_with (with_reducible refine wpList_copy_cells rfl (.tmp 24) (.tmp 25) rfl _ _ _ _ _ _ rfl rfl b (A ++ M.take k) _ _ _ HR1.out HX.out HX2.out HP.out ?_; intro w2 hr2 hk2)
  have HB2 := Lib.hid ((hk2.row HB0.out HN.out HN.out))
  have HR2 := Lib.hid (show RB w2 b (A ++ M.take k ++ (M.take (M.length - k) ++ Z)) by have := hr2; simpa using this)
  have HK2 := Lib.hid (HK0.out.trans hk2 (.inl rfl))
  clear hr2 hk2
  obtain ⟨c0, c1, c2, c3, c4⟩ := five HB2.out
  go_still_tail 5, (by kernel_rfl)
  go_wp2_with (go_at_call 47; (with_reducible refine (fillK b A (M.take k) (M.take (M.length - k) ++ Z) _ k _ c _ (RB.drew HR2.out) HD.out (fun _ => rfl) HKn.out).mono ?_); rintro e w3 ⟨rfl, hr3, hk3⟩)
  go_end0
  exact ⟨rfl, by rw [← HL.out]; simpa using hr3, (Kp.drew HK2.out).trans hk3 (.inl rfl)⟩
set_option maxRecDepth 100000 in
/-- all goes out at the end. -/
theorem slideDown2 (b : Nat) (A M Z : List Ce) (n : Nat) (c : Ce) (w : World) (h : RB w b (A ++ M ++ Z)) (hM : n = M.length) (hn : n ≤ 1000000) (h0 : 0 < n) (z : Int) (hz : z = -(n : Int)) :
    Calls Try.prog 48 #[.slice (some ⟨b, A.length * 5, none⟩) n n, .int .i64 z, cvA c] w (RowP b (A ++ List.replicate n c ++ Z) w) := by
  have hlt := h.lt
  have HR0 := Lib.hid (h.alloc (cvO c 37))
  have HK0 := Lib.hid (Kp.of (p := b) (b := b) ((Below.refl w.heap.size w).alloc (Nat.le_refl _) (cvO c 37)))
  have HB0 := Lib.hid (heap_last w #[.int .i32 c.r, .int .i64 c.fl, .int .i64 c.fg, .int .i64 c.bg, .int .i64 c.wd] 37)
  have HN := Lib.hid (show w.heap.size ≠ b by omega)
  have HX := Lib.hid (show ([] : List Ce).length = ([] : List Ce).length from rfl)
  have HX2 := Lib.hid (show ([] : List Ce).length = Nat.min n 0 by simp)
  have HM := Lib.hid hM
  have HKn := Lib.hid hn
  have z0 : z < 0 := by omega
  have z1 : IntKind.i64.wrap (-z) = (n : Int) := by rw [show -z = (n : Int) by omega]; exact IntWalk.i64_in _ (by omega)
  generalize hL : A ++ List.replicate n c ++ Z = L'
  have HL := Lib.hid hL
  clear h hlt hM hL hz
  go_enter Try.func48, Try.ntmps48
  have HR1 := Lib.hid (show RB (w.alloc (cvO c 37)) b (A ++ [] ++ (M ++ Z)) by have := HR0.out; simpa using this)
  have HP := Lib.hid (fun (h : 0 < ([] : List Ce).length) => (absurd h (by decide) : (some (⟨b, A.length * 5, none⟩ : Addr) = some ⟨b, A.length * 5, none⟩ ∧ ∃ ad, some (⟨b, A.length * 5, none⟩ : Addr) = some ad ∧ ∀ j v, (flat [])[j]? = some v → (w.alloc (cvO c 37)).cell? (ad.add j) = some v)))
  go_wp2_with (with_reducible refine wpList_copy_cells rfl (.tmp 24) (.tmp 25) rfl _ _ _ _ _ _ rfl rfl b A _ _ _ HR1.out HX.out HX2.out HP.out ?_; intro w2 hr2 hk2)
  have HB2 := Lib.hid ((hk2.row HB0.out HN.out HN.out))
  have HR2 := Lib.hid (show RB w2 b (A ++ M ++ Z) by have := hr2; simpa using this)
  have HK2 := Lib.hid (HK0.out.trans hk2 (.inl rfl))
  clear hr2 hk2
  obtain ⟨c0, c1, c2, c3, c4⟩ := five HB2.out
  go_still_tail 5, (by kernel_rfl)
  go_wp2_with (go_at_call 47; (with_reducible refine (fillK b A M Z _ n _ c _ (RB.drew HR2.out) HM.out (fun _ => rfl) HKn.out).mono ?_); rintro e w3 ⟨rfl, hr3, hk3⟩)
  go_end0
  exact ⟨rfl, HL.out ▸ hr3, (Kp.drew HK2.out).trans hk3 (.inl rfl)⟩
/-- what slide leaves. -/
def slideL (M : List Ce) (z : Int) (c : Ce) : List Ce := if 0 ≤ z then M.drop z.toNat ++ List.replicate z.toNat c else List.replicate (-z).toNat c ++ M.take (M.length - (-z).toNat)
theorem slideL_len (M : List Ce) (z : Int) (c : Ce) (h : -(M.length : Int) ≤ z) (h2 : z ≤ M.length) : (slideL M z c).length = M.length := by
  unfold slideL
  split
  · rw [List.length_append, List.length_drop, List.length_replicate]; omega
  · rw [List.length_append, List.length_take, List.length_replicate]; omega
/-- slide, by whatever number. -/
theorem slideC (b : Nat) (A M Z : List Ce) (n cap : Nat) (z : Int) (c : Ce) (w : World) (h : RB w b (A ++ M ++ Z)) (hM : n = M.length) (hn : n ≤ 1000000) (h0 : 0 < n) (hc : n ≤ cap) (hcap : cap ≤ 9223372036854775000) (hz1 : -(n : Int) ≤ z) (hz2 : z ≤ n) :
    Calls Try.prog 48 #[.slice (some ⟨b, A.length * 5, none⟩) n cap, .int .i64 z, cvA c] w (RowP b (A ++ slideL M z c ++ Z) w) := by
  by_cases hz : 0 ≤ z
  · obtain ⟨k, rfl⟩ := Int.eq_ofNat_of_zero_le hz
    have e : A ++ slideL M (k : Int) c ++ Z = A ++ M.drop k ++ List.replicate k c ++ Z := by
      unfold slideL; rw [if_pos hz]; simp
    rw [e]
    by_cases h1 : k < cap
    · by_cases h2 : cap = n - k
      · obtain rfl : k = 0 := by omega
        obtain rfl : cap = n := by omega
        have := slideUp3 b A M Z cap c w h hM hn h0
        simpa using this
      · exact slideUp b A M Z n cap k c w h hM hn (by omega) hc hcap h1 h2
    · obtain rfl : k = n := by omega
      obtain rfl : cap = k := by omega
      have := slideUp2 b A M Z cap c w h hM hn h0
      rw [List.drop_of_length_le (by omega)]
      simpa using this
  · obtain ⟨k, hk⟩ : ∃ k : Nat, z = -(k : Int) := ⟨(-z).toNat, by omega⟩
    have e : A ++ slideL M z c ++ Z = A ++ List.replicate k c ++ M.take (M.length - k) ++ Z := by
      unfold slideL; rw [if_neg hz, hk, show (- -(k : Int)).toNat = k by omega]; simp
    rw [e]
    by_cases h1 : k < cap
    · exact slideDown b A M Z n cap k c w h hM hn (by omega) (by omega) hc hcap h1 z hk
    · obtain rfl : k = n := by omega
      obtain rfl : cap = k := by omega
      have := slideDown2 b A M Z cap c w h hM hn h0 z hk
      rw [show M.length - cap = 0 by omega]
      simpa using this
end Go.Proofs.Ytfdjmlncdbpkgaa.Sl
