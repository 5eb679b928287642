/- Decks: contracts of Speed, Rate, New; the examples of chapter 23. -/
import Derived.Test.YthihkbnkbajglaaGreatDoorDk3
set_option linter.unusedVariables false
namespace Go.Proofs.YthihkbnkbajglaaGreatDoor.Dk4
open Go Go.RowKit Kit Nums Rate0 Scale Scale2 CkMath CkC CkD CkE CkN OfA OfB Dk Dk2 Dk3

def speedE (now b : Nat) : Int := if (ofN b).2.2 ≠ 0 then (ofN b).2.2 else if now ≤ mx then 0 else 1
def speedD (d : Dck) (now b : Nat) : Dck := if (ofN b).2.2 ≠ 0 then d else if now ≤ mx then { d with c := turn d.c now (ofN b).1 (ofN b).2.1 } else d
variable {w : World} {p q : Nat} {d : Dck}
theorem mayLe {n d : Nat} (h : mayN n d = true) : 0 < d ∧ d ≤ 1048576 ∧ n ≤ 1024 * d := by
  obtain ⟨k, h1, h2, h3, _⟩ := may_pow h
  have h4 : 2 ^ k ≤ 2 ^ 20 := Nat.pow_le_pow_right (by decide) h1
  have h5 : 0 < 2 ^ k := Nat.two_pow_pos k
  omega
theorem speedD_dkk (h : Dkk d) {now b : Nat} : Dkk (speedD d now b) := by
  unfold speedD
  split
  · exact h
  · rename_i h1
    split
    · rename_i h2
      exact ⟨turn_ckk h.c (by rw [mx_eq] at h2; omega) (of_may (by omega)), h.place, h.mode⟩
    · exact h
theorem Dl.drew_ (h : Dl w p q d) : Dl w.drew p q d := h.then_ (Below.refl _ _).drew
theorem new_cells {w : World} {a b : Int} {T : TypeId} : (w.alloc (.cells #[.int .u64 a, .int .u64 b] T)).cell? ⟨w.heap.size, 0, none⟩ = some (.int .u64 a) ∧ (w.alloc (.cells #[.int .u64 a, .int .u64 b] T)).cell? ⟨w.heap.size, 1, none⟩ = some (.int .u64 b) :=
  ⟨by rw [World.cell?_alloc_new]; rfl, by rw [World.cell?_alloc_new]; rfl⟩
set_option maxRecDepth 100000 in
set_option maxHeartbeats 2000000 in
theorem speedB (now b : Nat) (h : Dl w p q d) (hk : Dkk d) (hb : In64 b) (hn : now < 18446744073709551616) (hT : TabZ w) :
    Calls Tryz.prog 29 #[.pointer (some ⟨p, 0, none⟩), .int .u64 (now : Int), .float .f64 b] w (ErP w p q (speedE now b) (speedD d now b)) := by
  have HO := Lib.hid (ofC b w hb hT)
  unfold OfP at HO
  have HM := Lib.hid (fun h => of_may (b := b) h)
  have HX0 := Lib.hid (show speedE now b = if (ofN b).2.2 ≠ 0 then (ofN b).2.2 else if now ≤ mx then 0 else 1 from rfl)
  have HR0 := Lib.hid (show speedD d now b = if (ofN b).2.2 ≠ 0 then d else if now ≤ mx then { d with c := turn d.c now (ofN b).1 (ofN b).2.1 } else d from rfl)
  generalize speedE now b = X at *
  generalize speedD d now b = R at *
  generalize ofN b = O at *
  have H := Lib.hid h
  by_cases he : O.2.2 = 0
  · have hne : (O.2.2 != 0) = false := by rw [he]; rfl
    have hmay := HM.out he
    obtain ⟨l1, l2, l3⟩ := mayLe hmay
    have HT : Hid (∀ w2, Dl w2 p q d → Calls Tryz.prog 59 #[.pointer (some ⟨q, 0, none⟩), .int .u64 (now : Int), .agg #[.int .u64 (O.1 : Int), .int .u64 (O.2.1 : Int)]] w2 fun e w3 => e = .returned (.int .i64 X) ∧ Dl w3 p q R ∧ Fr2 p q w2 w3 ∧ (∀ k o v, k ≠ q → w2.cell? ⟨k, o, none⟩ = some v → w3.cell? ⟨k, o, none⟩ = some v)) := Lib.hid (fun w2 h2 => by
      refine (turnC q d.c now O.1 O.2.1 w2 h2.2 hk.c hn (by omega) (by omega)).mono ?_
      rintro e w3 (⟨h3, _, rfl, hc, hg⟩ | ⟨hno, rfl, hb3⟩)
      · refine ⟨by rw [HX0.out, if_neg (by simp [he]), if_pos h3], ?_, Fr2.of_q hg, fun k o v hne hv => hg.cell hv (fun e => hne (by injection e))⟩
        rw [HR0.out, if_neg (by simp [he]), if_pos h3]
        exact h2.clock hg hc
      · have hno' : ¬ now ≤ mx := fun h => hno ⟨h, hmay⟩
        refine ⟨by rw [HX0.out, if_neg (by simp [he]), if_neg hno'], ?_, Fr2.of_below hb3, fun k o v _ hv => cell_then hb3 (Nat.le_refl _) hv⟩
        rw [HR0.out, if_neg (by simp [he]), if_neg hno']
        exact h2.then_ hb3)
    clear hk hb hn hT he hmay l1 l2 l3 h HM HX0 HR0
    go_enter Tryz.func29, Tryz.ntmps29
    go_wp2_with fail
    refine HO.out.mono ?_
    rintro e w1 ⟨rfl, hb1⟩
    obtain ⟨b0, b1⟩ := new_cells (w := w1) (a := O.1) (b := O.2.1) (T := 51)
    have hD2 := H.out.then_ (hb1.alloc hb1.size (.cells #[.int .u64 (O.1 : Int), .int .u64 (O.2.1 : Int)] 51))
    have HD2 := hD2
    have k2 := hD2.c2
    have HF2 := Lib.hid (Fr2.of_below (p := p) (q := q) (hb1.alloc hb1.size (.cells #[.int .u64 (O.1 : Int), .int .u64 (O.2.1 : Int)] 51)))
    have hq1 : w1.heap.size ≠ q := by have h1 := H.out.2.lt; have h2 := hb1.size; omega
    generalize hw2 : w1.alloc (.cells #[.int .u64 (O.1 : Int), .int .u64 (O.2.1 : Int)] 51) = w2 at *
    have HT2 : Hid (∀ w2, Dl w2 p q d → w2.cell? ⟨w1.heap.size, 0, none⟩ = some (.int .u64 (O.1 : Int)) → w2.cell? ⟨w1.heap.size, 1, none⟩ = some (.int .u64 (O.2.1 : Int)) → Calls Tryz.prog 59 #[.pointer (some ⟨q, 0, none⟩), .int .u64 (now : Int), .agg #[.int .u64 (O.1 : Int), .int .u64 (O.2.1 : Int)]] w2 fun e w3 => e = .returned (.int .i64 X) ∧ Dl w3 p q R ∧ Fr2 p q w2 w3 ∧ w3.cell? ⟨w1.heap.size, 0, none⟩ = some (.int .u64 (O.1 : Int)) ∧ w3.cell? ⟨w1.heap.size, 1, none⟩ = some (.int .u64 (O.2.1 : Int))) := Lib.hid (fun w2 h2 g0 g1 => (HT.out w2 h2).mono fun e w3 ⟨e1, e2, e3, e4⟩ => ⟨e1, e2, e3, e4 _ _ _ hq1 g0, e4 _ _ _ hq1 g1⟩)
    clear HT hb1
    go_wp2_with fail
    refine wp_region_held_drew (S := (fun W => W.cell? ⟨p, 2, none⟩ = some (.pointer (some ⟨q, 0, none⟩)) ∧ W.cell? ⟨w1.heap.size, 0, none⟩ = some (.int .u64 (O.1 : Int)) ∧ W.cell? ⟨w1.heap.size, 1, none⟩ = some (.int .u64 (O.2.1 : Int)))) (by kernel_rfl) ?_ (fun hHeld => ?_)
    · ((try dsimp only); exact ⟨past_drew k2, past_drew b0, past_drew b1⟩)
    refine wpAnyH_take (i := 0) (oi := { dst := some 17, op := Op.move (Operand.tmp 0), type := 25, pos := _, after := #[], guard := none }) (v := ?_) rfl (by kernel_rfl) (by kernel_rfl) (by kernel_rfl) (fun _ _ _ h => h) (Or.inl ⟨by rfl, ?_⟩) (by assumption) ?_
    rotate_left
    · ((intro w hSw); (try dsimp only at hSw); go_simp; (try with_reducible rfl))
    try simp only [Act.put, List.setIfInBounds_toArray, List.set_cons_zero, List.set_cons_succ]
    refine wpAnyH_take (i := 1) (oi := { dst := some 18, op := Op.nilCheck (Operand.tmp 17), type := 0, pos := _, after := #[{ on := 0, ground := Ground.data }], guard := none }) (v := ?_) rfl (by kernel_rfl) (by kernel_rfl) (by kernel_rfl) (fun _ _ _ h => h) (Or.inl ⟨by rfl, ?_⟩) (by assumption) ?_
    rotate_left
    · ((intro w hSw); (try dsimp only at hSw); go_simp; (try with_reducible rfl))
    try simp only [Act.put, List.setIfInBounds_toArray, List.set_cons_zero, List.set_cons_succ]
    refine wpAnyH_take (i := 2) (oi := { dst := some 19, op := Op.fieldAddr 67 (Operand.tmp 18) 2, type := 0, pos := _, after := #[{ on := 1, ground := Ground.data }], guard := none }) (v := ?_) rfl (by kernel_rfl) (by kernel_rfl) (by kernel_rfl) (fun _ _ _ h => h) (Or.inl ⟨by rfl, ?_⟩) (by assumption) ?_
    rotate_left
    · ((intro w hSw); (try dsimp only at hSw); go_simp; (try with_reducible rfl))
    try simp only [Act.put, List.setIfInBounds_toArray, List.set_cons_zero, List.set_cons_succ]
    refine wpAnyH_take (i := 3) (oi := { dst := some 20, op := Op.load 63 (Operand.tmp 19), type := 63, pos := _, after := #[{ on := 2, ground := Ground.data }], guard := none }) (v := ?_) rfl (by kernel_rfl) (by kernel_rfl) (by kernel_rfl) (fun _ _ _ h => h) (Or.inl ⟨by rfl, ?_⟩) (by assumption) ?_
    rotate_left
    · ((intro w hSw); (try dsimp only at hSw); go_simp; (try with_reducible rfl))
    try simp only [Act.put, List.setIfInBounds_toArray, List.set_cons_zero, List.set_cons_succ]
    refine wpAnyH_take (i := 4) (oi := { dst := some 21, op := Op.move (Operand.tmp 1), type := 23, pos := _, after := #[], guard := none }) (v := ?_) rfl (by kernel_rfl) (by kernel_rfl) (by kernel_rfl) (fun _ _ _ h => h) (Or.inl ⟨by rfl, ?_⟩) (by assumption) ?_
    rotate_left
    · ((intro w hSw); (try dsimp only at hSw); go_simp; (try with_reducible rfl))
    try simp only [Act.put, List.setIfInBounds_toArray, List.set_cons_zero, List.set_cons_succ]
    refine wpAnyH_take (i := 5) (oi := { dst := some 22, op := Op.load 51 (Operand.tmp 7), type := 51, pos := _, after := #[], guard := none }) (v := ?_) rfl (by kernel_rfl) (by kernel_rfl) (by kernel_rfl) (fun _ _ _ h => h) (Or.inl ⟨by rfl, ?_⟩) (by assumption) ?_
    rotate_left
    · ((intro w hSw); (try dsimp only at hSw); go_simp; (try with_reducible rfl))
    try simp only [Act.put, List.setIfInBounds_toArray, List.set_cons_zero, List.set_cons_succ]
    refine wpAnyH_ready (rs := [6]) (by kernel_rfl) (by simp) ?_
    refine (AllReadyH.cons (o := { dst := some 23, op := Op.call { callee := Callee.value (Operand.func 59), args := #[Operand.tmp 20, Operand.tmp 21, Operand.tmp 22], argTypes := #[63, 23, 51] }, type := 29, pos := _, after := #[{ on := 3, ground := Ground.data }, { on := 4, ground := Ground.data }, { on := 5, ground := Ground.data }], guard := none }) rfl (fun K hK => ?_) AllReadyH.nil)
    go_simp
    (refine (HT2.out _ (Dl.drew_ hD2) (past_drew b0) (past_drew b1)).mono ?_; rintro e w3 ⟨rfl, h3, hf3, g0, g1⟩)
    go_wp2_with fail
    refine hK.out _ _ ?_ (fun hHeld => ?_)
    · ((try dsimp only); exact ⟨h3.c2, g0, g1⟩)
    clear hK K
    try simp only [Act.put, List.setIfInBounds_toArray, List.set_cons_zero, List.set_cons_succ]
    refine wpAnyH_take (i := 7) (oi := { dst := some 6, op := Op.assign (Operand.tmp 23), type := 29, pos := _, after := #[{ on := 6, ground := Ground.data }, { on := 6, ground := Ground.chain }, { on := 0, ground := Ground.phase }, { on := 1, ground := Ground.phase }, { on := 2, ground := Ground.phase }, { on := 3, ground := Ground.phase }, { on := 4, ground := Ground.phase }, { on := 5, ground := Ground.phase }, { on := 6, ground := Ground.phase }], guard := none }) (v := ?_) rfl (by kernel_rfl) (by kernel_rfl) (by kernel_rfl) (fun _ _ _ h => h) (Or.inl ⟨by rfl, ?_⟩) (by assumption) ?_
    rotate_left
    · ((intro w hSw); (try dsimp only at hSw); go_simp; (try with_reducible rfl))
    try simp only [Act.put, List.setIfInBounds_toArray, List.set_cons_zero, List.set_cons_succ]
    refine wpAnyH_done (by kernel_rfl) ?_ _
    go_wp2
    go_ret
    exact ⟨rfl, h3, HF2.out.trans ((Fr2.of_below (Below.refl _ _).drew).trans hf3)⟩
  · have hne : (O.2.2 != 0) = true := by simpa using he
    have HX := Lib.hid (HX0.out.trans (if_pos he))
    have HR := Lib.hid (HR0.out.trans (if_pos he))
    clear hk hb hn hT he h HM HX0 HR0
    go_enter Tryz.func29, Tryz.ntmps29
    go_wp2_with fail
    refine HO.out.mono ?_
    rintro e w1 ⟨rfl, hb1⟩
    have hD2 := H.out.then_ (hb1.alloc hb1.size (.cells #[.int .u64 (O.1 : Int), .int .u64 (O.2.1 : Int)] 51))
    have HF2 := Lib.hid (Fr2.of_below (p := p) (q := q) (hb1.alloc hb1.size (.cells #[.int .u64 (O.1 : Int), .int .u64 (O.2.1 : Int)] 51)))
    generalize hw2 : w1.alloc (.cells #[.int .u64 (O.1 : Int), .int .u64 (O.2.1 : Int)] 51) = w2 at *
    go_wp2
    go_ret
    exact ⟨by rw [HX.out]; rfl, by rw [HR.out]; exact hD2, HF2.out⟩
def d0 : Dck := ⟨0, 0, ⟨0, 0, 0, 1, 1⟩⟩
theorem d0_ok : Dkk d0 := ⟨new_ckk (by decide) (by decide) (by decide), by decide, by decide⟩
/-- what New answers. -/
def NewDP (w : World) (e : Ending) (w' : World) : Prop := ∃ p q, w.heap.size ≤ p ∧ w.heap.size ≤ q ∧ e = .returned (.pointer (some ⟨p, 0, none⟩)) ∧ Dl w' p q d0 ∧ Below w.heap.size w w'
set_option maxRecDepth 100000 in
theorem newD (w : World) : Calls Tryz.prog 7 #[] w (NewDP w) := by
  have HN := Lib.hid (newC 0 0 1 1 w (by decide) (by decide))
  go_enter Tryz.func7, Tryz.ntmps7
  go_wp2_with fail
  refine HN.out.mono ?_
  rintro e w1 (⟨_, _, _, ⟨q, hq, rfl, hc⟩, hb⟩ | ⟨hno, _, _⟩)
  · have hp := heap_alloc_new w1 (.cells #[.int .i64 0, .int .u64 0, .pointer (some ⟨q, 0, none⟩)] 67)
    have hD : Dl (w1.alloc (.cells #[.int .i64 0, .int .u64 0, .pointer (some ⟨q, 0, none⟩)] 67)) w1.heap.size q d0 := ⟨hp, hc.alloc _⟩
    have HD := Lib.hid hD
    have hbb := hb.alloc hb.size (.cells #[.int .i64 0, .int .u64 0, .pointer (some ⟨q, 0, none⟩)] 67)
    clear hp hD hc
    go_wp2
    go_ret
    exact ⟨w1.heap.size, q, hb.size, hq, rfl, HD.out, hbb⟩
  · exact absurd ⟨by decide, by decide, by decide⟩ hno
set_option maxRecDepth 100000 in
theorem rateC (h : Dl w p q d) : Calls Tryz.prog 20 #[.pointer (some ⟨p, 0, none⟩)] w fun e w' => e = .returned (.agg #[.int .u64 (d.c.num : Int), .int .u64 (d.c.den : Int)]) ∧ Below w.heap.size w w' := by
  have h1 := h.then_ ((Below.refl _ _).alloc (Nat.le_refl _) (.cells #[.int .u64 0, .int .u64 0] 51))
  have c2 := h1.c2
  have HS := Lib.hid (speedC q d.c _ h1.2)
  clear h h1
  go_enter Tryz.func20, Tryz.ntmps20
  go_wp2_with fail
  refine HS.out.mono ?_
  rintro e w1 ⟨rfl, hb⟩
  have q0 : w1.cell? ⟨w.heap.size, 0, none⟩ = some (.int .u64 0) := cell_then hb (Nat.le_refl _) (by simp)
  have q1 : w1.cell? ⟨w.heap.size, 1, none⟩ = some (.int .u64 0) := cell_then hb (Nat.le_refl _) (by simp)
  have f0 : w1.frozen? ⟨w.heap.size, 0, none⟩ = false := by rw [hb.frozen (p := ⟨w.heap.size, 0, none⟩) (by simp)]; simp
  have f1 : w1.frozen? ⟨w.heap.size, 1, none⟩ = false := by rw [hb.frozen (p := ⟨w.heap.size, 1, none⟩) (by simp)]; simp
  go_wp2
  refine bodyPost_ret (v := .agg #[.int .u64 (d.c.num : Int), .int .u64 (d.c.den : Int)]) (by simp [results, Tryz.results20, go_sem, q0, q1]) rfl ⟨rfl, ?_⟩
  refine ((?_ : Below w.heap.size w w1).setCell (by simp) _).setCell (by simp) _
  exact below_then ((Below.refl _ _).alloc (Nat.le_refl _) _) hb (by simp)
def d1 : Dck := ⟨1, 9, ⟨5, 9, 0, 1, 1⟩⟩
theorem pause1 : pauseD d0 5 0 9 = d1 ∧ pauseE 5 0 9 = 0 := ⟨rfl, rfl⟩
theorem play1 : playBD d0 5 0 9 = d0 ∧ playE d0 5 0 9 = 13 := ⟨rfl, rfl⟩
theorem seek1 : seekD d1 5 2 9 1 = d1 ∧ seekE 5 2 9 1 = 12 := ⟨rfl, rfl⟩
theorem speed1 : speedD d1 5 9221120237041090560 = d1 ∧ speedE 5 9221120237041090560 = 10 := by
  have h : (ofN 9221120237041090560).2.2 = 10 := by decide
  constructor
  · unfold speedD; rw [if_pos (by rw [h]; decide)]
  · unfold speedE; rw [if_pos (by rw [h]; decide), h]
theorem d1_ok : Dkk d1 := by rw [← pause1.1]; exact pauseD_dkk d0_ok
end Go.Proofs.YthihkbnkbajglaaGreatDoor.Dk4
