/- WireSums: the main way: the sums. -/
import Derived.Test.YtlhapnnepcnfbaaDoorCrcLin
import Derived.Test.YtlhapnnepcnfbaaDoorWireFirst
import Derived.Test.YtlhapnnepcnfbaaDoorCopy
import Derived.Deep.OwnRows
import Derived.Deep.RegionHeld3
import Derived.Outline
namespace Go.Proofs.YtlhapnnepcnfbaaDoor.SumsIn
open Go Go.RowKit Kit Crc Var CrcLin WireFirst Copy

/-- what the loop keeps: the row that is filled. -/
def LoopR (n g : Nat) (all : List Nat) (w2 : World) (s : Value) (wr : World) : Prop :=
  ∃ k : Nat, k ≤ n ∧ s = .int .i64 k ∧ wr.rowIs g 5 n (fun j => .int .u8 (if j < k then ((all.getD j 0 : Nat) : Int) else 0)) ∧ Below g w2 wr
theorem crc_lt {l : List Nat} (hl : ∀ c ∈ l, c < 256) : crc l < 4294967296 := Nat.xor_lt_two_pow (n := 32) (by decide) (run_lt hl (by decide))
theorem xor8 {a b : Nat} (ha : a < 256) (hb : b < 256) : bits .xor .u8 (a : Int) (b : Int) = ((a ^^^ b : Nat) : Int) := u8_xor_nat a b ha hb
set_option maxRecDepth 100000 in
set_option maxHeartbeats 2000000 in
theorem walkIn (ba oa ca bb ob cb bc oc cc : Nat) (la lb lc : List Nat) (n : Nat) (p : Nat) (x : Nat) (w : World) (hT : TabC w)
    (hn : la.length = n) (hnb : lb.length = n) (hnc : lc.length = n) (h1 : 1 ≤ n) (h2 : n ≤ 2000) (hp : (p : Int) ≤ 9223372036854775807) (hx : x < 256) (hx0 : x ≠ 0)
    (ha : ∀ c ∈ la, c < 256) (hb : ∀ c ∈ lb, c < 256) (hc : ∀ c ∈ lc, c < 256) (Ca : Cells w ba oa la) (Cb : Cells w bb ob lb) (Cc : Cells w bc oc lc) :
    Calls Tryd.prog 14 #[.slice (some ⟨ba, oa, none⟩) n ca, .slice (some ⟨bb, ob, none⟩) n cb, .slice (some ⟨bc, oc, none⟩) n cc, .int .i64 p, .int .u8 x] w fun e w' => e = .returned (.bool true) ∧ Below w.heap.size w w' := by
  have hxx : ((x : Int) == 0) = false := by simp; omega
  have hmk := fun W => run_make_row' (P := Tryd.prog) 54 5 (.int .u8 0) 1 Tryd.underlying54 info5 rfl .i64 .i64 n (by omega) (by omega) W
  have HN := Lib.hid hn
  have HNB := Lib.hid hnb
  have HNC := Lib.hid hnc
  clear hn hnb hnc
  go_enter Tryd.func14, Tryd.ntmps14
  go_wp2_with fail
  refine (first _ hT).mono ?_
  rintro e w1 ⟨rfl, hb1⟩
  have hT1 := tab_then hb1 (Nat.le_refl _) hT
  have Ca1 := cells_then hb1 (Nat.le_refl _) Ca
  have Cb1 := cells_then hb1 (Nat.le_refl _) Cb
  have Cc1 := cells_then hb1 (Nat.le_refl _) Cc
  go_wp2_with fail
  go_loopw [12] (fun s wr => LoopR n w1.heap.size (xor3 la lb lc) w1 s wr) (fun s _ => n - (intOf s).toNat)
  case atStart =>
    exact ⟨0, Nat.zero_le _, rfl, (World.rowIs_made w1 (.int .u8 0) n 5).congr (fun j _ => by simp), (Below.refl _ _).alloc (Nat.le_refl _) _⟩
  case round =>
    obtain ⟨k, hk, rfl, hrow, hbr⟩ := hrel
    by_cases hlt : k < n
    · have ka : k < la.length := by rw [HN.out]; exact hlt
      have kb : k < lb.length := by rw [HNB.out]; exact hlt
      have kc : k < lc.length := by rw [HNC.out]; exact hlt
      have xa := cells_then hbr (Nat.le_refl _) Ca1 k ka
      have xb := cells_then hbr (Nat.le_refl _) Cb1 k kb
      have xc := cells_then hbr (Nat.le_refl _) Cc1 k kc
      have xg := hrow.cell hlt
      rw [if_neg (by omega)] at xg
      have fg := hrow.frozen k
      have va := ha la[k] (List.getElem_mem _)
      have vb := hb lb[k] (List.getElem_mem _)
      have vc := hc lc[k] (List.getElem_mem _)
      have X3 := Lib.hid (xor3_at la lb lc (by rw [HN.out, HNB.out]) (by rw [HN.out, HNC.out]) k ka)
      generalize hA : la[k] = A at xa va X3
      generalize hB : lb[k] = B at xb vb X3
      generalize hC : lc[k] = C at xc vc X3
      have e1 := xor8 va vb
      have e2 := xor8 (a := A ^^^ B) (b := C) (Nat.xor_lt_two_pow (n := 8) va vb) vc
      clear hA hB hC va vb vc
      have nba : ba ≠ w1.heap.size := by have := World.block_lt_of_cell? w1 _ (Ca1 k ka); simp only at this; omega
      have nbb : bb ≠ w1.heap.size := by have := World.block_lt_of_cell? w1 _ (Cb1 k kb); simp only at this; omega
      have nbc : bc ≠ w1.heap.size := by have := World.block_lt_of_cell? w1 _ (Cc1 k kc); simp only at this; omega
      go_wp2_with fail
      go_region_held3 (fun W => W.cell? ⟨ba, oa + k, none⟩ = some (.int .u8 (A : Int)) ∧ W.cell? ⟨bb, ob + k, none⟩ = some (.int .u8 (B : Int)) ∧ W.cell? ⟨bc, oc + k, none⟩ = some (.int .u8 (C : Int))) (first | exact ⟨past_drew xa, past_drew xb, past_drew xc⟩ | exact ⟨past_drew (past_set xa nba), past_drew (past_set xb nbb), past_drew (past_set xc nbc)⟩) (fail)
      go_wp2
      refine ⟨⟨k + 1, by omega, by go_num, (hrow.set k _).drew.congr fun j hj => ?_, (hbr.setCell (Nat.le_refl _) _).drew⟩, by simp only [intOf]; omega⟩
      have hl : (xor3 la lb lc).length = n := by rw [xor3_len la lb lc (by rw [HN.out, HNB.out]) (by rw [HN.out, HNC.out]), HN.out]
      by_cases hjk : j = k
      · subst hjk
        rw [if_pos rfl, if_pos (by omega), List.getD_eq_getElem?_getD, List.getElem?_eq_getElem (by omega), X3.out]; rfl
      · rw [if_neg hjk]
        by_cases hlt' : j < k
        · rw [if_pos hlt', if_pos (by omega)]
        · rw [if_neg hlt', if_neg (by omega)]
    · obtain rfl : k = n := by omega
      have Ca2 := cells_then hbr (Nat.le_refl _) Ca1
      have cp := copyRow ba oa ca la wr (by rw [HN.out]; omega) Ca2
      rw [HN.out] at cp
      have CP := Lib.hid cp
      clear cp
      have hl : (xor3 la lb lc).length = k := by rw [xor3_len la lb lc (by rw [HN.out, HNB.out]) (by rw [HN.out, HNC.out]), HN.out]
      have Call : Cells wr w1.heap.size 0 (xor3 la lb lc) := by
        intro j hj
        have := hrow.cell (i := j) (by omega)
        rw [if_pos (by omega), List.getD_eq_getElem?_getD, List.getElem?_eq_getElem hj] at this
        rw [Nat.zero_add]; exact this
      have HL := Lib.hid hl
      clear hl
      go_wp2_with fail
      refine CP.out.mono ?_
      rintro e w3 ⟨v, rfl, hown, hb3⟩
      rcases hown.2 with ⟨_, h0⟩ | ⟨g2, cap2, cur, rfl, hg2, hblk, hnc2, _, _, _⟩
      · exfalso; rw [HN.out] at h0; omega
      have hcells := hown.cells (g := g2) rfl
      obtain ⟨q, hq⟩ : ∃ q : Nat, q = p % k := ⟨_, rfl⟩
      have hqk : q < k := by rw [hq]; exact Nat.mod_lt _ (by omega)
      have hqi : (p : Int).tmod (k : Int) = (q : Int) := by rw [hq, Int.tmod_eq_emod_of_nonneg (by omega)]; omega
      have Ct : Cells w3 g2 0 la := by
        intro j hj
        have := hcells j (.int .u8 ((la[j] : Nat) : Int)) (by simp [cellsOf, hj])
        have hadd : (⟨g2, 0, none⟩ : Addr).add j = ⟨g2, j, none⟩ := by unfold Addr.add; split <;> simp_all
        rw [hadd] at this
        rw [Nat.zero_add]; exact this
      have hfr : ∀ j, w3.frozen? ⟨g2, j, none⟩ = false := fun j => by simp [World.frozen?, hblk]
      have hqa : q < la.length := by rw [HN.out]; exact hqk
      have xq := Ct q hqa
      rw [Nat.zero_add] at xq
      have fq := hfr q
      have vq := ha la[q] (List.getElem_mem _)
      have ex := xor8 vq hx
      have hne := Lib.hid (show la[q] ^^^ x ≠ la[q] from by
        intro h
        have := congrArg (la[q] ^^^ ·) h
        simp only [← Nat.xor_assoc, Nat.xor_self, Nat.zero_xor] at this
        exact hx0 this)
      rw [HN.out]
      clear hq
      have hk0 : ((k : Int) == 0) = false := by simp; omega
      have hk1 : (1 : Int) ≤ (k : Int) := by omega
      have hk2 : ¬ (k : Int) = 0 := by omega
      have hk3 : ((k : Int) = 0) = False := by simp; omega
      have xq' : w3.cell? ⟨g2, q, none⟩ = some (.int .u8 (la[q] : Int)) := xq
      have hp0 : (0 : Int) ≤ (p : Int) := by omega
      have hq0 : (0 : Int) ≤ (q : Int) := by omega
      have hqk' : (q : Int) < (k : Int) := by omega
      go_wp2_with fail
      have xq2 : w3.drew.cell? ⟨g2, q, none⟩ = some (.int .u8 (la[q] : Int)) := past_drew xq'
      have fq2 : w3.drew.frozen? ⟨g2, q, none⟩ = false := by simpa [go_sem] using fq
      clear hmk hrow CP Ca Cb Cc Ca1 hcells hown
      go_region
      have hblk4 : wr.heap.size ≤ g2 := hg2
      have hb4 : Below wr.heap.size wr (w3.setCell ⟨g2, q, none⟩ (.int .u8 ((la[q] ^^^ x : Nat) : Int))).drew := (hb3.setCell hg2 _).drew
      have Cn : Cells (w3.setCell ⟨g2, q, none⟩ (.int .u8 ((la[q] ^^^ x : Nat) : Int))).drew g2 0 (la.set q (la[q] ^^^ x)) := by
        intro j hj
        rw [List.length_set] at hj
        refine past_drew ?_
        rw [List.getElem_set]
        by_cases hjq : q = j
        · subst hjq
          rw [if_pos rfl, Nat.zero_add]
          exact World.cell?_setCell_same _ _ _ xq'
        · rw [if_neg hjq, World.cell?_setCell_other _ _ _ _ (by intro h; simp only [Addr.mk.injEq] at h; omega)]
          exact Ct j hj
      generalize hW4 : (w3.setCell ⟨g2, q, none⟩ (.int .u8 ((la[q] ^^^ x : Nat) : Int))).drew = w4 at hb4 Cn
      have hT4 := tab_then hb4 (Nat.le_refl _) (tab_then hbr (Nat.le_refl _) hT1)
      go_wp2_with fail
      refine (first _ hT4).mono ?_
      rintro e w5 ⟨rfl, hb5⟩
      have hT5 := tab_then hb5 (Nat.le_refl _) hT4
      have Cn5 := cells_then hb5 (Nat.le_refl _) Cn
      have Ca5 := cells_then hb5 (Nat.le_refl _) (cells_then hb4 (Nat.le_refl _) Ca2)
      have Cb5 := cells_then hb5 (Nat.le_refl _) (cells_then hb4 (Nat.le_refl _) (cells_then hbr (Nat.le_refl _) Cb1))
      have Cc5 := cells_then hb5 (Nat.le_refl _) (cells_then hb4 (Nat.le_refl _) (cells_then hbr (Nat.le_refl _) Cc1))
      have Call5 := cells_then hb5 (Nat.le_refl _) (cells_then hb4 (Nat.le_refl _) Call)
      have lx : ∀ c ∈ xor3 la lb lc, c < 256 := by
        intro c hcm
        obtain ⟨j, hj, rfl⟩ := List.getElem_of_mem hcm
        have hj' : j < la.length := by rw [HL.out] at hj; rw [HN.out]; exact hj
        rw [xor3_at la lb lc (by rw [HN.out, HNB.out]) (by rw [HN.out, HNC.out]) j hj']
        exact Nat.xor_lt_two_pow (n := 8) (Nat.xor_lt_two_pow (n := 8) (ha _ (List.getElem_mem _)) (hb _ (List.getElem_mem _))) (hc _ (List.getElem_mem _))
      have lt : ∀ c ∈ la.set q (la[q] ^^^ x), c < 256 := by
        intro c hcm
        rcases List.mem_or_eq_of_mem_set hcm with h | h
        · exact ha _ h
        · subst h; exact Nat.xor_lt_two_pow (n := 8) vq hx
      have hset := crc_set ha hqa (Nat.xor_lt_two_pow (n := 8) vq hx) hne.out
      have hxor := crc_xor3 la lb lc (by rw [HN.out, HNB.out]) (by rw [HN.out, HNC.out])
      have K0 := fun c => crcRow w1.heap.size 0 c (xor3 la lb lc) w5 lx (by rw [HL.out]; omega) Call5 hT5
      have K1 := fun c => crcRow ba oa c la w5 ha (by rw [HN.out]; omega) Ca5 hT5
      have K2 := fun c => crcRow bb ob c lb w5 hb (by rw [HNB.out]; omega) Cb5 hT5
      have K3 := fun c => crcRow bc oc c lc w5 hc (by rw [HNC.out]; omega) Cc5 hT5
      have K4 := fun c => crcRow g2 0 c (la.set q (la[q] ^^^ x)) w5 lt (by rw [List.length_set, HN.out]; omega) Cn5 hT5
      rw [HL.out, hxor] at K0
      rw [HN.out] at K1
      rw [HNB.out] at K2
      rw [HNC.out] at K3
      rw [List.length_set, HN.out] at K4
      have la1 := crc_lt ha
      have lb1 := crc_lt hb
      have lc1 := crc_lt hc
      have e3 := xorU la1 lb1
      have e4 := xorU (a := crc la ^^^ crc lb) (b := crc lc) (Nat.xor_lt_two_pow (n := 32) la1 lb1) lc1
      have hbe : Below w.heap.size w w5 := grow_left (grow_left hb1 hbr) (grow_left hb4 hb5)
      generalize crc (la.set q (la[q] ^^^ x)) = D at K4 hset
      generalize crc la = A at *
      generalize crc lb = B at *
      generalize crc lc = C at *
      have hset' : ((D : Int) == (A : Int)) = false := by simp; exact fun h => hset (by exact_mod_cast h)
      clear Cn Cn5 Ct ex vq xq xq' xq2 fq fq2 hne
      go_wp2_with fail
      refine (K0 _).mono ?_
      rintro e w6 ⟨rfl, rfl⟩
      go_wp2_with fail
      refine (K1 _).mono ?_
      rintro e w6 ⟨rfl, rfl⟩
      go_wp2_with fail
      refine (K2 _).mono ?_
      rintro e w6 ⟨rfl, rfl⟩
      go_wp2_with fail
      refine (K3 _).mono ?_
      rintro e w6 ⟨rfl, rfl⟩
      go_wp2_with fail
      refine (K4 _).mono ?_
      rintro e w6 ⟨rfl, rfl⟩
      go_wp2_with fail
      refine (K1 _).mono ?_
      rintro e w6 ⟨rfl, rfl⟩
      go_wp2_with fail
      go_ret
      exact ⟨by simp; exact fun h => hset (by exact_mod_cast h), hbe⟩
end Go.Proofs.YtlhapnnepcnfbaaDoor.SumsIn
