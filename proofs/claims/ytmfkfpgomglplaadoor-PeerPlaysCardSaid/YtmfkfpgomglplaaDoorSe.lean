/- pkt.Seal. -/
import Derived.Test.YtmfkfpgomglplaaDoorMf
import Derived.Test.YtmfkfpgomglplaaDoorPk
set_option linter.unusedVariables false
namespace Go.Proofs.YtmfkfpgomglplaaDoor.Se
open Go Go.RowKit Kit Mb Sha Ap Mc1 Sc Mx Sb Pd Su Pa Hm Mm Tg Mf Pk


def frontL (D V n i : Nat) : List Nat := [D, V] ++ (be8 n).take i
theorem frontL_len (D V n i : Nat) : (frontL D V n i).length ≤ 10 := by
  have : (be8 n).length = 8 := be8_len _
  simp [frontL]; omega
theorem frontL_next (D V n i : Nat) (hi : i < 8) (hn : n < 18446744073709551616) : frontL D V n i ++ [n / 2 ^ (56 - 8 * i) % 256] = frontL D V n (i + 1) := by
  unfold frontL; rw [be8_at n i hi hn, List.append_assoc]
def pktL (D V n : Nat) (l : List Nat) : List Nat := frontL D V n 8 ++ l
theorem frontL_lt (D V n i : Nat) (hD : D < 256) (hV : V < 256) : ∀ c ∈ frontL D V n i, c < 256 := by
  intro c hc
  simp only [frontL, List.mem_append, List.mem_cons, List.not_mem_nil, or_false] at hc
  rcases hc with (rfl | rfl) | h
  · exact hD
  · exact hV
  · exact be8_lt _ c (List.mem_of_mem_take h)
def sealL (key : List Nat) (D V n : Nat) (l : List Nat) : List Nat := pktL D V n l ++ tagL key (pktL D V n l)
def SeP (key : List Nat) (D V n : Nat) (l : List Nat) (w : World) (e : Ending) (w' : World) : Prop := ∃ v, e = .returned (.tuple #[v, .int .i64 0]) ∧ Rb w' w.heap.size v (sealL key D V n l) ∧ Below w.heap.size w w'
theorem seP_mk {key : List Nat} {D V n : Nat} {l : List Nat} {w w' : World} {v : Value} (h : Rb w' w.heap.size v (sealL key D V n l)) (hb : Below w.heap.size w w') : SeP key D V n l w (.returned (.tuple #[v, .int .i64 0])) w' := ⟨v, rfl, h, hb⟩
theorem may_yes (D V n : Nat) (l : List Nat) (h1 : 1 ≤ D) (h2 : D ≤ 2) (h3 : V < 8) (h4 : 1 ≤ n) (h5 : n ≤ 4611686018427387904) (h6 : l.length ≤ 1200) : mayB (D : Int) (V : Int) n l.length = true := by
  simp [mayB]; omega
set_option maxRecDepth 100000 in
theorem sealNo (d v : Int) (n : Nat) (a : Option Addr) (cap : Nat) (l : List Nat) (ka : Option Addr) (kc kn : Nat) (w : World) (hm : mayB d v n l.length = false) :
    Calls Tryd.prog 24 #[.slice ka kn kc, .agg #[.int .i64 d, .int .i64 v, .int .u64 (n : Int), .slice a l.length cap]] w fun e w' => e = .returned (.tuple #[.slice none 0 0, .int .i64 1]) ∧ Below w.heap.size w w' := by
  have K := fun w1 => mayC d v n a cap l w1
  rw [hm] at K
  clear hm
  go_enter Tryd.func24, Tryd.ntmps24
  go_wp2_with (go_at_call 30; refine (K _).mono ?_; rintro e w1 ⟨rfl, hb⟩)
  go_ret2
  exact ⟨rfl, below_then ((Below.refl _ w).alloc (Nat.le_refl _) _) hb (by simp)⟩
theorem tag1 (ka : Option Addr) (kc : Nat) (key : List Nat) (ba : Option Addr) (bc : Nat) (B : List Nat) (w : World) (ks : Sl w ka key) (k0 : ka = none → kc = 0) (kcap : key.length ≤ kc) (kl : ∀ c ∈ key, c < 256) (klen : key.length ≤ 800000)
    (bs : Sl w ba B) (b0 : ba = none → bc = 0) (bcap : B.length ≤ bc) (bl : ∀ c ∈ B, c < 256) (blen : B.length ≤ 800000) (hT : TabR w) (hB : TabB w) :
    Calls Tryd.prog 20 #[.slice ka key.length kc, .slice (some ⟨w.heap.size, 0, none⟩) 1 1] (w.alloc (.cells #[.slice ba B.length bc] 22)) (TgP key B (w.alloc (.cells #[.slice ba B.length bc] 22))) := by
  have h := tagC ka kc key (some ⟨w.heap.size, 0, none⟩) 1 [⟨ba, bc, B⟩] (w.alloc (.cells #[.slice ba B.length bc] 22)) (sl_alloc ks _) k0 kcap kl klen
    ⟨.inr ⟨_, 0, rfl, fun i hi => by
      obtain rfl : i = 0 := by simp at hi; omega
      rw [Nat.zero_add, cell_of_row _ w.heap.size 0 _ 22 (0, 0) (heap_alloc_last w _)]; rfl⟩, fun p hp => by
      rw [List.mem_singleton.1 hp]; exact ⟨sl_alloc bs _, b0, bcap, bl⟩⟩ (by simp) (by simpa [catP] using blen)
    (tabR_then ((Below.refl _ w).alloc (Nat.le_refl _) _) hT) (tabB_then ((Below.refl _ w).alloc (Nat.le_refl _) _) hB)
  rw [show catP [⟨ba, bc, B⟩] = B by simp [catP]] at h
  exact h
set_option maxRecDepth 100000 in
set_option maxHeartbeats 2000000 in
theorem sealC (D V n : Nat) (a : Option Addr) (cap : Nat) (l : List Nat) (ka : Option Addr) (kc : Nat) (key : List Nat) (w : World)
    (h1 : 1 ≤ D) (h2 : D ≤ 2) (h3 : V < 8) (h4 : 1 ≤ n) (h5 : n ≤ 4611686018427387904) (h6 : l.length ≤ 1200)
    (hs : Sl w a l) (h0 : a = none → cap = 0) (hcap : l.length ≤ cap) (hl : ∀ c ∈ l, c < 256)
    (ks : Sl w ka key) (k0 : ka = none → kc = 0) (kcap : key.length ≤ kc) (kl : ∀ c ∈ key, c < 256) (klen : key.length ≤ 800000) (hT : TabR w) (hB : TabB w) :
    Calls Tryd.prog 24 #[.slice ka key.length kc, .agg #[.int .i64 (D : Int), .int .i64 (V : Int), .int .u64 (n : Int), .slice a l.length cap]] w (SeP key D V n l w) := by
  have K := fun w1 => mayC (D : Int) (V : Int) n a cap l w1
  rw [may_yes D V n l h1 h2 h3 h4 h5 h6] at K
  have HN := Lib.hid (And.intro h1 (And.intro h2 (And.intro h3 (And.intro h4 (And.intro h5 h6)))))
  have HS := Lib.hid hs
  have HNO := Lib.hid h0
  have HCP := Lib.hid hcap
  have HX := Lib.hid hl
  have KS := Lib.hid ks
  have KNO := Lib.hid k0
  have KCP := Lib.hid kcap
  have KX := Lib.hid kl
  have KN := Lib.hid klen
  have HT := Lib.hid hT
  have HB := Lib.hid hB
  have eD : (D : Int) % 256 = (D : Int) := by omega
  have eV : (V : Int) % 256 = (V : Int) := by omega
  clear h1 h2 h3 h4 h5 h6 hs h0 hcap hl ks k0 kcap kl klen hT hB
  go_enter Tryd.func24, Tryd.ntmps24
  go_wp2_with (go_at_call 30; refine (K _).mono ?_; rintro e w1 ⟨rfl, hb1⟩; have c0 := cell_then hb1 (Nat.le_refl _) (show (w.alloc (.cells #[.int .i64 (D : Int), .int .i64 (V : Int), .int .u64 (n : Int), .slice a l.length cap] 35)).cell? ⟨w.heap.size, 0, none⟩ = some (.int .i64 (D : Int)) by rw [cell_of_row _ w.heap.size 0 _ 35 (0, 0) (heap_alloc_last w _)]; rfl); have c1 := cell_then hb1 (Nat.le_refl _) (show (w.alloc (.cells #[.int .i64 (D : Int), .int .i64 (V : Int), .int .u64 (n : Int), .slice a l.length cap] 35)).cell? ⟨w.heap.size, 1, none⟩ = some (.int .i64 (V : Int)) by rw [cell_of_row _ w.heap.size 1 _ 35 (0, 0) (heap_alloc_last w _)]; rfl); have c2 := cell_then hb1 (Nat.le_refl _) (show (w.alloc (.cells #[.int .i64 (D : Int), .int .i64 (V : Int), .int .u64 (n : Int), .slice a l.length cap] 35)).cell? ⟨w.heap.size, 2, none⟩ = some (.int .u64 (n : Int)) by rw [cell_of_row _ w.heap.size 2 _ 35 (0, 0) (heap_alloc_last w _)]; rfl); have c3 := cell_then hb1 (Nat.le_refl _) (show (w.alloc (.cells #[.int .i64 (D : Int), .int .i64 (V : Int), .int .u64 (n : Int), .slice a l.length cap] 35)).cell? ⟨w.heap.size, 3, none⟩ = some (.slice a l.length cap) by rw [cell_of_row _ w.heap.size 3 _ 35 (0, 0) (heap_alloc_last w _)]; rfl); have C2 := Lib.hid c2; have C3 := Lib.hid c3; have HB1 := Lib.hid (below_then ((Below.refl _ w).alloc (Nat.le_refl _) (.cells #[.int .i64 (D : Int), .int .i64 (V : Int), .int .u64 (n : Int), .slice a l.length cap] 35)) hb1 (by simp)); clear hb1)
  clear c0 c1 c2 c3 eD eV K
  have HR0 := Lib.hid (show Rb (w1.alloc (.cells #[.int .u8 (D : Int), .int .u8 (V : Int)] 5)) w1.heap.size (.slice (some ⟨w1.heap.size, 0, none⟩) 2 2) (frontL D V n 0) from Bb.own (l := [D, V]) (heap_alloc_last w1 _) (Nat.le_refl _) (by simp))
  go_loopw [6, 7] (fun s6 s7 wr => ∃ i : Nat, i ≤ 8 ∧ s7 = .int .i64 (56 - 8 * (i : Int)) ∧ Rb wr w1.heap.size s6 (frontL D V n i) ∧ Below w1.heap.size w1 wr) (fun _ s7 _ => (64 + intOf s7).toNat)
  case atStart => exact ⟨0, by omega, rfl, HR0.out, (Below.refl _ _).alloc (Nat.le_refl _) _⟩
  case round =>
    clear HR0
    obtain ⟨i, hi, rfl, hR, hB⟩ := hrel
    have HR := Lib.hid hR
    have HBB := Lib.hid hB
    have FX := Lib.hid (fun hi => frontL_next D V n i hi (by have := HN.out; omega))
    have FL := Lib.hid (frontL_len D V n i)
    have c2 := cell_then hB (Nat.le_refl _) C2.out
    have c3 := cell_then hB (Nat.le_refl _) C3.out
    have C3w := Lib.hid c3
    clear hR hB c3
    by_cases hlt : i < 8
    · have FY := Lib.hid (FX.out hlt)
      clear FX C3w
      have hc : i = 0 ∨ i = 1 ∨ i = 2 ∨ i = 3 ∨ i = 4 ∨ i = 5 ∨ i = 6 ∨ i = 7 := by omega
      generalize hfi : frontL D V n i = X at *
      have HFI := Lib.hid hfi
      clear hfi hlt
      rcases hc with rfl | rfl | rfl | rfl | rfl | rfl | rfl | rfl
      · obtain ⟨C, hC⟩ : ∃ C, C = n / 2 ^ (56 - 8 * 0) % 256 := ⟨_, rfl⟩
        have FZ := FY.out
        rw [← hC] at FZ
        have FZ := Lib.hid FZ
        have cC : (n : Int) / 72057594037927936 % 256 = (C : Int) := by rw [hC]; omega
        clear hC FY
        go_wp2_with (at_builtin; (refine app_sl rfl _ _ rfl w1.heap.size _ X rfl (rb_alloc HR.out _) _ 1 1 [C] rfl rfl (fun h => by cases h) (sl_new wr [C] _) (by simp; have := FL.out; omega) (by simp; have := HBB.out.size; omega) ?_; intro v2 w2 o2 b2; have q2 := b2 _ _ (Nat.le_refl _) (HBB.out.alloc HBB.out.size _)))
        have O2 := Lib.hid o2
        have Q3 := Lib.hid q2
        clear o2 b2 q2
        go_wp2
        go_roundw
        case rel => exact ⟨1, by omega, by go_num, by rw [← FZ.out]; exact O2.out, Q3.out⟩
        case measure => simp [intOf]
      · obtain ⟨C, hC⟩ : ∃ C, C = n / 2 ^ (56 - 8 * 1) % 256 := ⟨_, rfl⟩
        have FZ := FY.out
        rw [← hC] at FZ
        have FZ := Lib.hid FZ
        have cC : (n : Int) / 281474976710656 % 256 = (C : Int) := by rw [hC]; omega
        clear hC FY
        go_wp2_with (at_builtin; (refine app_sl rfl _ _ rfl w1.heap.size _ X rfl (rb_alloc HR.out _) _ 1 1 [C] rfl rfl (fun h => by cases h) (sl_new wr [C] _) (by simp; have := FL.out; omega) (by simp; have := HBB.out.size; omega) ?_; intro v2 w2 o2 b2; have q2 := b2 _ _ (Nat.le_refl _) (HBB.out.alloc HBB.out.size _)))
        have O2 := Lib.hid o2
        have Q3 := Lib.hid q2
        clear o2 b2 q2
        go_wp2
        go_roundw
        case rel => exact ⟨2, by omega, by go_num, by rw [← FZ.out]; exact O2.out, Q3.out⟩
        case measure => simp [intOf]
      · obtain ⟨C, hC⟩ : ∃ C, C = n / 2 ^ (56 - 8 * 2) % 256 := ⟨_, rfl⟩
        have FZ := FY.out
        rw [← hC] at FZ
        have FZ := Lib.hid FZ
        have cC : (n : Int) / 1099511627776 % 256 = (C : Int) := by rw [hC]; omega
        clear hC FY
        go_wp2_with (at_builtin; (refine app_sl rfl _ _ rfl w1.heap.size _ X rfl (rb_alloc HR.out _) _ 1 1 [C] rfl rfl (fun h => by cases h) (sl_new wr [C] _) (by simp; have := FL.out; omega) (by simp; have := HBB.out.size; omega) ?_; intro v2 w2 o2 b2; have q2 := b2 _ _ (Nat.le_refl _) (HBB.out.alloc HBB.out.size _)))
        have O2 := Lib.hid o2
        have Q3 := Lib.hid q2
        clear o2 b2 q2
        go_wp2
        go_roundw
        case rel => exact ⟨3, by omega, by go_num, by rw [← FZ.out]; exact O2.out, Q3.out⟩
        case measure => simp [intOf]
      · obtain ⟨C, hC⟩ : ∃ C, C = n / 2 ^ (56 - 8 * 3) % 256 := ⟨_, rfl⟩
        have FZ := FY.out
        rw [← hC] at FZ
        have FZ := Lib.hid FZ
        have cC : (n : Int) / 4294967296 % 256 = (C : Int) := by rw [hC]; omega
        clear hC FY
        go_wp2_with (at_builtin; (refine app_sl rfl _ _ rfl w1.heap.size _ X rfl (rb_alloc HR.out _) _ 1 1 [C] rfl rfl (fun h => by cases h) (sl_new wr [C] _) (by simp; have := FL.out; omega) (by simp; have := HBB.out.size; omega) ?_; intro v2 w2 o2 b2; have q2 := b2 _ _ (Nat.le_refl _) (HBB.out.alloc HBB.out.size _)))
        have O2 := Lib.hid o2
        have Q3 := Lib.hid q2
        clear o2 b2 q2
        go_wp2
        go_roundw
        case rel => exact ⟨4, by omega, by go_num, by rw [← FZ.out]; exact O2.out, Q3.out⟩
        case measure => simp [intOf]
      · obtain ⟨C, hC⟩ : ∃ C, C = n / 2 ^ (56 - 8 * 4) % 256 := ⟨_, rfl⟩
        have FZ := FY.out
        rw [← hC] at FZ
        have FZ := Lib.hid FZ
        have cC : (n : Int) / 16777216 % 256 = (C : Int) := by rw [hC]; omega
        clear hC FY
        go_wp2_with (at_builtin; (refine app_sl rfl _ _ rfl w1.heap.size _ X rfl (rb_alloc HR.out _) _ 1 1 [C] rfl rfl (fun h => by cases h) (sl_new wr [C] _) (by simp; have := FL.out; omega) (by simp; have := HBB.out.size; omega) ?_; intro v2 w2 o2 b2; have q2 := b2 _ _ (Nat.le_refl _) (HBB.out.alloc HBB.out.size _)))
        have O2 := Lib.hid o2
        have Q3 := Lib.hid q2
        clear o2 b2 q2
        go_wp2
        go_roundw
        case rel => exact ⟨5, by omega, by go_num, by rw [← FZ.out]; exact O2.out, Q3.out⟩
        case measure => simp [intOf]
      · obtain ⟨C, hC⟩ : ∃ C, C = n / 2 ^ (56 - 8 * 5) % 256 := ⟨_, rfl⟩
        have FZ := FY.out
        rw [← hC] at FZ
        have FZ := Lib.hid FZ
        have cC : (n : Int) / 65536 % 256 = (C : Int) := by rw [hC]; omega
        clear hC FY
        go_wp2_with (at_builtin; (refine app_sl rfl _ _ rfl w1.heap.size _ X rfl (rb_alloc HR.out _) _ 1 1 [C] rfl rfl (fun h => by cases h) (sl_new wr [C] _) (by simp; have := FL.out; omega) (by simp; have := HBB.out.size; omega) ?_; intro v2 w2 o2 b2; have q2 := b2 _ _ (Nat.le_refl _) (HBB.out.alloc HBB.out.size _)))
        have O2 := Lib.hid o2
        have Q3 := Lib.hid q2
        clear o2 b2 q2
        go_wp2
        go_roundw
        case rel => exact ⟨6, by omega, by go_num, by rw [← FZ.out]; exact O2.out, Q3.out⟩
        case measure => simp [intOf]
      · obtain ⟨C, hC⟩ : ∃ C, C = n / 2 ^ (56 - 8 * 6) % 256 := ⟨_, rfl⟩
        have FZ := FY.out
        rw [← hC] at FZ
        have FZ := Lib.hid FZ
        have cC : (n : Int) / 256 % 256 = (C : Int) := by rw [hC]; omega
        clear hC FY
        go_wp2_with (at_builtin; (refine app_sl rfl _ _ rfl w1.heap.size _ X rfl (rb_alloc HR.out _) _ 1 1 [C] rfl rfl (fun h => by cases h) (sl_new wr [C] _) (by simp; have := FL.out; omega) (by simp; have := HBB.out.size; omega) ?_; intro v2 w2 o2 b2; have q2 := b2 _ _ (Nat.le_refl _) (HBB.out.alloc HBB.out.size _)))
        have O2 := Lib.hid o2
        have Q3 := Lib.hid q2
        clear o2 b2 q2
        go_wp2
        go_roundw
        case rel => exact ⟨7, by omega, by go_num, by rw [← FZ.out]; exact O2.out, Q3.out⟩
        case measure => simp [intOf]
      · obtain ⟨C, hC⟩ : ∃ C, C = n / 2 ^ (56 - 8 * 7) % 256 := ⟨_, rfl⟩
        have FZ := FY.out
        rw [← hC] at FZ
        have FZ := Lib.hid FZ
        have cC : (n : Int) % 256 = (C : Int) := by rw [hC]; omega
        clear hC FY
        go_wp2_with (at_builtin; (refine app_sl rfl _ _ rfl w1.heap.size _ X rfl (rb_alloc HR.out _) _ 1 1 [C] rfl rfl (fun h => by cases h) (sl_new wr [C] _) (by simp; have := FL.out; omega) (by simp; have := HBB.out.size; omega) ?_; intro v2 w2 o2 b2; have q2 := b2 _ _ (Nat.le_refl _) (HBB.out.alloc HBB.out.size _)))
        have O2 := Lib.hid o2
        have Q3 := Lib.hid q2
        clear o2 b2 q2
        go_wp2
        go_roundw
        case rel => exact ⟨8, by omega, by go_num, by rw [← FZ.out]; exact O2.out, Q3.out⟩
        case measure => simp [intOf]
    · obtain rfl : i = 8 := by omega
      obtain ⟨F, hF⟩ : ∃ F, F = frontL D V n 8 := ⟨_, rfl⟩
      obtain ⟨B, hBd⟩ : ∃ B, B = F ++ l := ⟨_, rfl⟩
      obtain ⟨T, hTg⟩ : ∃ T, T = tagL key B := ⟨_, rfl⟩
      rw [← hF] at HR FL
      have HBD := Lib.hid hBd
      have HTG := Lib.hid hTg
      have HTL := Lib.hid (show T.length = 16 by rw [hTg]; exact tagL_len _ _)
      have HSE := Lib.hid (show B ++ T = sealL key D V n l by unfold sealL pktL; rw [hTg, hBd, hF])
      have HFL := Lib.hid (show F.length + l.length ≤ 1000000 by have := FL.out; have := HN.out; omega)
      have HBL := Lib.hid (show B.length ≤ 800000 by rw [hBd, List.length_append]; have := FL.out; have := HN.out; omega)
      have HBX := Lib.hid (show ∀ c ∈ B, c < 256 by
        rw [hBd, hF]; intro c hc
        rcases List.mem_append.1 hc with h | h
        · exact frontL_lt D V n 8 (by have := HN.out; omega) (by have := HN.out; omega) c h
        · exact HX.out c h)
      have HSW := Lib.hid (show Sl wr a l from sl_then (below_then HB1.out HBB.out HB1.out.size) (Nat.le_refl _) HS.out)
      have HWW := Lib.hid (show Below w.heap.size w wr from below_then HB1.out HBB.out HB1.out.size)
      obtain ⟨fa, fc, rfl, hfc, hfs, hf0, hfx⟩ := rb_sl HR.out
      clear hfc hfs hf0 hfx hF hBd hTg FX c2
      have c3 := C3w.out
      go_wp2_with (first
        | (at_builtin; refine app_sl rfl _ _ rfl w1.heap.size _ F rfl HR.out a l.length cap l rfl rfl HNO.out HSW.out HFL.out HBB.out.size ?_; intro v2 w2 o2 b2; have q2 := b2 _ _ (Nat.le_refl _) HBB.out; have p2 := b2 _ _ HB1.out.size HWW.out; rw [← HBD.out] at o2; obtain ⟨ba, bc, rfl, hbc, hbs, hb0, hbx⟩ := rb_sl o2; have HO2 := Lib.hid o2; have HBS := Lib.hid hbs; have HBC := Lib.hid hbc; have HB0 := Lib.hid hb0; have HQ2 := Lib.hid q2; have HP2 := Lib.hid p2; have KSW := Lib.hid (show Sl w2 ka key from sl_then p2 (Nat.le_refl _) KS.out); clear o2 b2 q2 p2 hbs hbc hb0 hbx)
        | (go_at_call 20; (with_reducible refine (tag1 ka kc key ba bc B w2 KSW.out KNO.out KCP.out KX.out KN.out HBS.out HB0.out HBC.out HBX.out HBL.out (tabR_then HP2.out HT.out) (tabB_then HP2.out HB.out)).mono ?_); rintro e w3 ⟨v3, rfl, o3, b3⟩; rw [← HTG.out] at o3; obtain ⟨ta, tc, rfl, htc, hts, ht0, htx⟩ := rb_sl o3; have HTS := Lib.hid hts; have HT0 := Lib.hid ht0; have HO3 := Lib.hid (show Rb w3 w1.heap.size (.slice ba B.length bc) B from rb_then (rb_alloc HO2.out _) b3 (Nat.le_refl _)); have HQ3 := Lib.hid (below_then (HP2.out.alloc HP2.out.size (.cells #[.slice ba B.length bc] 22)) b3 (by have := HP2.out.size; simp; omega)); have HSZ := Lib.hid (show w1.heap.size ≤ w3.heap.size by have := HQ2.out.size; have := b3.size; simp at this; omega); have HBT := Lib.hid (show B.length + T.length ≤ 1000000 by have := HBL.out; have := HTL.out; omega); clear o3 b3 hts ht0 htc htx)
        | (at_builtin; refine app_sl rfl _ _ rfl w1.heap.size _ B rfl HO3.out ta T.length tc T rfl rfl HT0.out HTS.out HBT.out HSZ.out ?_; intro v4 w4 o4 b4; have q4 := b4 _ _ HB1.out.size HQ3.out))
      have O4 := Lib.hid (rb_base o4 HB1.out.size)
      have Q4 := Lib.hid q4
      clear o4 b4 q4
      go_ret2
      exact seP_mk (by rw [← HSE.out]; exact O4.out) Q4.out

end Go.Proofs.YtmfkfpgomglplaaDoor.Se
