/- WireFronts: the walk of the law. -/
import Derived.Test.YtlhapnnepcnfbabDoorFronts
set_option linter.unusedVariables false
namespace Go.Proofs.YtlhapnnepcnfbabDoor.FrontsW
open Go Go.RowKit Kit Crc Var Get Bytes WireFirst Copy Fronts

theorem one_at (W : World) (x : Value) (t : TypeId) (n : Nat) (hn : n = W.heap.size) : ∀ j u, [x][j]? = some u → (W.alloc (.cells #[x] t)).cell? ((⟨n, 0, none⟩ : Addr).add j) = some u := by
  subst hn; exact cell_one_new W x t
theorem long_cells (p : List Nat) (x : Nat) : (cellsOf (p ++ [x])).set p.length (.int .u8 ((x : Int) + 128)) ++ [.int .u8 0] = cellsOf (p ++ [x + 128] ++ [0]) := by
  simp [cellsOf]
def OutP (w : World) (e : Ending) (w' : World) : Prop := e = .returned (.bool true) ∧ Below w.heap.size w w'
set_option maxRecDepth 100000 in
theorem out (a : Option Addr) (len cap : Nat) (a2 : Option Addr) (len2 cap2 : Nat) (n : Int) (w : World) (hT : TabC w) (h : 500 < len ∨ 500 < len2) (hm : len ≤ 9223372036854775807) (hm2 : len2 ≤ 9223372036854775807) : Calls Tryd.prog 3 #[.slice a len cap, .slice a2 len2 cap2, .int .u64 n] w (OutP w) := by
  rcases h with h | h
  all_goals
    go_enter Tryd.func3, Tryd.ntmps3
    go_wp2_with fail
    refine (first _ hT).mono ?_
    rintro e w1 ⟨rfl, hb1⟩
    have hT1 := tab_then hb1 (Nat.le_refl _) hT
    go_wp2_with fail
  all_goals
    refine (first _ hT1).mono ?_
    rintro e w2 ⟨rfl, hb2⟩
    go_wp2
    go_ret
    exact ⟨rfl, grow_left hb1 hb2⟩
set_option maxRecDepth 100000 in
set_option maxHeartbeats 8000000 in
theorem main (a : Option Addr) (la : List Nat) (cap : Nat) (a2 : Option Addr) (lb : List Nat) (cap2 : Nat) (n : Nat) (w : World) (hT : TabC w) (hla : la.length ≤ 500) (hlb : lb.length ≤ 500) (hn : n < 18446744073709551616)
    (ha : ∀ c ∈ la, c < 256) (hb : ∀ c ∈ lb, c < 256) (hs : Sl w a la) (hs2 : Sl w a2 lb) (h0 : a = none → cap = 0) (h02 : a2 = none → cap2 = 0) (hc2 : lb.length ≤ cap2) :
    Calls Tryd.prog 3 #[.slice a la.length cap, .slice a2 lb.length cap2, .int .u64 n] w (OutP w) := by
  obtain ⟨j0, hj, hy0, hy1, hy2⟩ := info_parts info5
  obtain ⟨p, x, hpx, hx, hlong⟩ := varL_split n n (Nat.le_refl _)
  have hlg := hlong 0 0 (by omega) (by simpa using hn)
  have hten := varL_ten hn
  have HF := Lib.hid (getA_front la lb n hn)
  have HBY : Hid (∀ c ∈ la ++ varL n ++ lb, c < 256) := Lib.hid (fun c hc => by
    rcases List.mem_append.1 hc with h | h
    · rcases List.mem_append.1 h with h | h
      · exact ha c h
      · exact varL_bytes n c h
    · exact hb c h)
  have HBL : Hid (∀ c ∈ p ++ [x + 128] ++ [0], c < 256) := Lib.hid (fun c hc => by
    have hv : ∀ c ∈ p, c < 256 := fun c hc => varL_bytes n c (by rw [hpx]; simp [hc])
    simp at hc
    rcases hc with h | rfl | rfl
    · exact hv c h
    · omega
    · omega)
  have HN := Lib.hid hn
  have HG := Lib.hid (getA_long (p ++ [x + 128] ++ [0]) (by rw [List.append_assoc]; exact hlg))
  have HC := Lib.hid (fun W h => copyC a cap la W (by omega) h h0)
  have HS := Lib.hid hs
  have HS2 := Lib.hid hs2
  have hp9 : p.length ≤ 9 := by rw [hpx] at hten; simp at hten; omega
  have HX := Lib.hid hx
  have hor : bits .or .u8 (x : Int) 128 = (x : Int) + 128 := by
    have h := or128 (m := x)
    rw [show ((x : Int) % 256) = (x : Int) from by omega, show x % 128 = x from by omega] at h
    rw [h]; push_cast; rfl
  clear hn hlong hlg hten ha hb hs hs2 h0 hx
  go_enter Tryd.func3, Tryd.ntmps3
  go_wp2_with fail
  refine (first _ hT).mono ?_
  rintro e w1 ⟨rfl, hb1⟩
  have hT1 := tab_then hb1 (Nat.le_refl _) hT
  have hsa1 := sl_then hb1 (Nat.le_refl _) HS.out
  have hsb1 := sl_then hb1 (Nat.le_refl _) HS2.out
  go_wp2_with fail
  refine (varC n _ HN.out).mono ?_
  rintro e w2 ⟨v2, rfl, own2, hb2⟩
  rw [hpx] at own2 HF HBY
  obtain ⟨a7, c7, rfl, hc7, sl7, _⟩ := row_sl own2
  have hT2 := tab_then hb2 (Nat.le_refl _) hT1
  have hsa2 := sl_then hb2 (Nat.le_refl _) hsa1
  have hsb2 := sl_then hb2 (Nat.le_refl _) hsb1
  have hB2 := grow_left hb1 hb2
  have hlv : (p ++ [x]).length = p.length + 1 := by simp
  have HLV := Lib.hid hlv
  obtain ⟨b7, o7, rfl, cl7⟩ : ∃ b off, a7 = some ⟨b, off, none⟩ ∧ Cells w2 b off (p ++ [x]) := by
    rcases sl7 with h | h
    · simp at h
    · exact h
  clear own2 hb1 hb2 hT1 hsa1 hsb1 hpx sl7 hT
  rw [hlv] at hc7 ⊢
  clear hlv
  go_upto_region 6 with fail
  go_cut [8] from 35 to 40 (fun s8 wx => wx.ownsRow w2.heap.size 5 1 s8 (la ++ (p ++ [x]) ++ lb).length (cellsOf (la ++ (p ++ [x]) ++ lb)) ∧ Below w2.heap.size w2 wx)
  case first =>
    have hlen7 : (cellsOf (p ++ [x])).length = (p.length + 1) * 1 := by simp [cellsOf]
    cases a2 with
    | none =>
      obtain rfl : cap2 = 0 := h02 rfl
      have HNL : Hid (lb = []) := Lib.hid (List.eq_nil_of_length_eq_zero (by omega))
      have HV := Lib.hid (show Value.slice none lb.length 0 = Value.slice none 0 0 by rw [HNL.out]; rfl)
      go_wp2_with fail
      refine (HC.out _ hsa2).mono ?_
      rintro e w3 ⟨v3, rfl, ho3, hb3⟩
      have hs3 := hb3.size
      have hcs := cellsOf_at (cells_then hb3 (Nat.le_refl _) cl7)
      go_wp2_with (first | (at_builtin; refine wpList_append_own _ rfl _ _ 22 rfl w2.heap.size 5 j0 (.int .u8 0) 1 1 Tryd.underlying22 hj hy0 hy1 hy2 rfl (by decide) _ _ _ rfl ho3 ⟨b7, o7, none⟩ (p.length + 1) c7 (cellsOf (p ++ [x])) rfl hlen7 hcs cellsOf_one (by unfold maxLen; omega) (by omega) (by omega) ?_; intro v4 w4 hown4 hgrow4 hnil4) | (at_builtin; refine wpList_append_own_none rfl _ _ 22 rfl w2.heap.size 5 j0 1 Tryd.underlying22 hj _ _ _ rfl hown4 HV.out ?_))
      go_meet
      have hb4 : Below w2.heap.size w2 w4 := hb3.grown hgrow4 hb3.size (fun j hj => (ho3.lt j hj).1)
      refine ⟨?_, hb4⟩
      rw [HNL.out, List.append_nil, List.length_append, ← cellsOf_app, HLV.out]
      exact hown4
    | some y =>
      have hlenb : (cellsOf lb).length = lb.length * 1 := by simp [cellsOf]
      go_wp2_with fail
      refine (HC.out _ hsa2).mono ?_
      rintro e w3 ⟨v3, rfl, ho3, hb3⟩
      have hs3 := hb3.size
      have hcs := cellsOf_at (cells_then hb3 (Nat.le_refl _) cl7)
      go_wp2_with (first | (at_builtin; refine wpList_append_own _ rfl _ _ 22 rfl w2.heap.size 5 j0 (.int .u8 0) 1 1 Tryd.underlying22 hj hy0 hy1 hy2 rfl (by decide) _ _ _ rfl ho3 ⟨b7, o7, none⟩ (p.length + 1) c7 (cellsOf (p ++ [x])) rfl hlen7 hcs cellsOf_one (by unfold maxLen; omega) (by omega) (by omega) ?_; intro v4 w4 hown4 hgrow4 hnil4) | (at_builtin; refine wpList_append_own _ rfl _ _ 22 rfl w2.heap.size 5 j0 (.int .u8 0) 1 1 Tryd.underlying22 hj hy0 hy1 hy2 rfl (by decide) _ _ _ rfl hown4 y lb.length cap2 (cellsOf lb) rfl hlenb (sl_cells (sl_then (hb3.grown hgrow4 hb3.size (fun j hj => (ho3.lt j hj).1)) (Nat.le_refl _) hsb2)) cellsOf_one (by unfold maxLen; omega) (by have := (hb3.grown hgrow4 hb3.size (fun j hj => (ho3.lt j hj).1)).size; omega) (by have := (hb3.grown hgrow4 hb3.size (fun j hj => (ho3.lt j hj).1)).size; omega) ?_; intro v5 w5 hown5 hgrow5 hnil5))
      go_meet
      have hb4 : Below w2.heap.size w2 w4 := hb3.grown hgrow4 hb3.size (fun j hj => (ho3.lt j hj).1)
      refine ⟨?_, hb4.grown hgrow5 hb4.size (fun j hj => (hown4.lt j hj).1)⟩
      rw [List.length_append, List.length_append, ← cellsOf_app, ← cellsOf_app, HLV.out]
      exact hown5
  case rest =>
    obtain ⟨ho8, hb8⟩ := hcut
    obtain ⟨a8, c8, rfl, _, sl8, _⟩ := row_sl ho8
    have hT8 := tab_then hb8 (Nat.le_refl _) hT2
    have cl8 := cells_then hb8 (Nat.le_refl _) cl7
    have hB8 := grow_left hB2 hb8
    have hll : (la ++ (p ++ [x]) ++ lb).length = la.length + (p.length + 1) + lb.length := by simp; omega
    rw [hll] at ho8 ⊢
    have hG0 := getG a8 c8 (la ++ (p ++ [x]) ++ lb) (la.length : Nat) wc HBY.out (by omega) sl8
    unfold GetP at hG0
    rw [HF.out, hll, HLV.out] at hG0
    have HG0 := Lib.hid hG0
    have HSL8 := Lib.hid sl8
    have HLL := Lib.hid hll
    clear hG0 sl8 hll ho8 hb8 hT2 hB2 hsa2 hsb2 HC HF
    go_wp2_with fail
    refine HG0.out.mono ?_
    rintro e w9 ⟨rfl, rfl⟩
    go_wp2_with fail
    have hCP := copyRow b7 o7 c7 (p ++ [x]) wc (by simp; omega) cl8
    rw [HLV.out] at hCP
    refine hCP.mono ?_
    rintro e w9 ⟨v9, rfl, ho9, hb9⟩
    rw [HLV.out] at ho9
    rcases ho9.2 with ⟨_, h0⟩ | ⟨g9, c9, cur9, rfl, hg9, hh9, hnc9, _, _, _⟩
    · omega
    have hT9 := tab_then hb9 (Nat.le_refl _) hT8
    have hB9 := grow_left hB8 hb9
    have hsl9 := sl_then hb9 (Nat.le_refl _) HSL8.out
    have hc9 : w9.cell? ⟨g9, p.length, none⟩ = some (.int .u8 ((x : Nat) : Int)) := by
      have := ho9.cells (g := g9) rfl p.length (.int .u8 ((x : Nat) : Int)) (by simp [cellsOf])
      have hadd : (⟨g9, 0, none⟩ : Addr).add p.length = ⟨g9, p.length, none⟩ := by unfold Addr.add; split <;> simp_all
      rw [hadd] at this; exact this
    have hf9 : w9.frozen? ⟨g9, p.length, none⟩ = false := by simp [World.frozen?, hh9]
    have ho10 := own_set (k := p.length) (u := .int .u8 ((x : Int) + 128)) ho9
    have hsz9 := hb9.size
    have hge : wc.heap.size ≤ g9 := hg9
    have HB10 : Hid (Below w.heap.size w (w9.setCell ⟨g9, p.length, none⟩ (.int .u8 ((x : Int) + 128)))) := Lib.hid (hB9.setCell (p := ⟨g9, p.length, none⟩) (Nat.le_trans hB8.size hge) _)
    have HO10 := Lib.hid ho10
    have HB11 : Hid (Below wc.heap.size wc (w9.setCell ⟨g9, p.length, none⟩ (.int .u8 ((x : Int) + 128)))) := Lib.hid (hb9.setCell (p := ⟨g9, p.length, none⟩) hge _)
    have HT8 := Lib.hid hT8
    have HB8 := Lib.hid hB8
    clear ho9 ho10 hh9 hb9 hCP hT8 cl8
    go_wp2_with (at_builtin; go_loud (refine wpList_append_own _ rfl _ _ 22 rfl wc.heap.size 5 j0 (.int .u8 0) 1 1 Tryd.underlying22 hj hy0 hy1 hy2 rfl (by decide) _ _ _ rfl (World.ownsRow.alloc HO10.out _) ⟨w9.heap.size, 0, none⟩ 1 1 [.int .u8 0] rfl rfl (one_at _ _ _ _ (by first | rfl | simp)) (fun x hx => by simp at hx; subst hx; rfl) (by unfold maxLen; omega) (by first | omega | (simp [World.setCell]; omega)) (by first | omega | (simp [World.setCell]; omega)) ?_); intro v12 w12 hown12 hgrow12 hnil12)
    have hb12 : Below wc.heap.size (w9.setCell ⟨g9, p.length, none⟩ (.int .u8 ((x : Int) + 128))) w12 := ((Below.refl _ _).alloc (by simp [World.setCell]; omega) _).grown hgrow12 (by simp [World.setCell]; omega) (fun j hj => (HO10.out.lt j hj).1)
    have hbc := HB11.out.trans hb12
    have hB12 := grow_left HB8.out hbc
    have hT12 := tab_then hbc (Nat.le_refl _) HT8.out
    have hln : (p ++ [x + 128] ++ [0]).length = p.length + 1 + 1 := by simp
    have hown13 : w12.ownsRow wc.heap.size 5 1 v12 (p ++ [x + 128] ++ [0]).length (cellsOf (p ++ [x + 128] ++ [0])) := by rw [hln, ← long_cells]; exact hown12
    obtain ⟨a12, c12, rfl, _, sl12, _⟩ := row_sl hown13
    have hGL := getG a12 c12 (p ++ [x + 128] ++ [0]) 0 w12 HBL.out (by rw [hln]; omega) sl12
    unfold GetP at hGL
    rw [HG.out] at hGL
    have HGL := Lib.hid hGL
    clear hGL sl12 hown13 hown12 hgrow12 hnil12 hb12 hbc hln hc9 hf9 hsl9 hT9 hB9
    refine HGL.out.mono ?_
    rintro e w13 ⟨rfl, rfl⟩
    go_wp2_with fail
    refine (outG a8 _ c8 (-1) w12 (by omega) (.inl (by omega))).mono ?_
    rintro e w13 ⟨rfl, rfl⟩
    go_wp2_with fail
    refine (outG a8 _ c8 _ w12 (by omega) (.inr (by omega))).mono ?_
    rintro e w13 ⟨rfl, rfl⟩
    go_wp2_with fail
    refine (first _ hT12).mono ?_
    rintro e w13 ⟨rfl, hb13⟩
    go_wp2
    go_ret
    exact ⟨rfl, grow_left hB12 hb13⟩
theorem in64 {n : Int} (h : (Lit.int .u64 n).wf = true) : 0 ≤ n ∧ n < 18446744073709551616 := by
  simp only [Lit.wf, Bool.and_eq_true, decide_eq_true_eq] at h
  have h1 : IntKind.u64.min = 0 := by decide
  have h2 : IntKind.u64.max = 18446744073709551615 := by decide
  omega
theorem row_any {w : World} {a : Option Addr} {len cap : Nat} {zs : List Int} (h : IsRow .u8 w a len cap zs) : ∃ l : List Nat, l.length = len ∧ (∀ c ∈ l, c < 256) ∧ Sl w a l ∧ (a = none → cap = 0) ∧ len ≤ cap := by
  have hc : (a = none → cap = 0) ∧ len ≤ cap := by
    rcases h with ⟨rfl, rfl, rfl, _⟩ | ⟨x, rfl, hl, _⟩
    · exact ⟨fun _ => rfl, Nat.le_refl _⟩
    · exact ⟨(fun e => by cases e), hl⟩
  by_cases h1 : 1 ≤ len
  · obtain ⟨b, o, l, rfl, hl, hb, hcs⟩ := ArgB.row_cells h h1
    exact ⟨l, hl, hb, .inr ⟨b, o, rfl, hcs⟩, hc.1, hc.2⟩
  · exact ⟨[], by simp; omega, by simp, .inl rfl, hc.1, hc.2⟩
theorem walk (a : Option Addr) (len cap : Nat) (zs : List Int) (a2 : Option Addr) (len2 cap2 : Nat) (zs2 : List Int) (n : Int) (W : World) (w0 : IsRow .u8 W a len cap zs) (w1 : IsRow .u8 W a2 len2 cap2 zs2) (w2 : (Lit.int .u64 n).wf = true)
    (hL : Lib.TabIs Tryd.prog W "tickertape/wire.crcSteps" .u32 [0, 498536548, 997073096, 651767980, 1994146192, 1802195444, 1303535960, 1342533948, 3988292384, 4027552580, 3604390888, 3412177804, 2607071920, 2262029012, 2685067896, 3183342108]) :
    Calls Tryd.prog 3 #[.slice a len cap, .slice a2 len2 cap2, .int .u64 n] W fun e w' => e = .returned (.bool true) ∧ Below W.heap.size W w' := by
  have hT := ArgB.tab hL (by kernel_rfl)
  obtain ⟨n0, n1⟩ := in64 w2
  obtain ⟨n, rfl⟩ := Int.eq_ofNat_of_zero_le n0
  obtain ⟨la, rfl, ha, hs, h0, hc⟩ := row_any w0
  obtain ⟨lb, rfl, hb, hs2, h02, hc2⟩ := row_any w1
  by_cases h : 500 < la.length ∨ 500 < lb.length
  · exact out a _ cap a2 _ cap2 n W hT h (ArgB.row_len w0) (ArgB.row_len w1)
  · exact main a la cap a2 lb cap2 n W hT (by omega) (by omega) (by omega) ha hb hs hs2 h0 h02 hc2
end Go.Proofs.YtlhapnnepcnfbabDoor.FrontsW
