/- Screens: a row's line. -/
import Derived.Test.YtjfeejoplchmpaaDoorSj
import Derived.Lib.SlicesS
set_option linter.unusedVariables false
namespace Go.Proofs.YtjfeejoplchmpaaDoor.Sk
open Go Go.RowKit Kit Gm Gv Sa Sb Sd Sf Sg Sh Si Sj

set_option maxRecDepth 100000 in
theorem trimC (l : List Nat) (w : World) (hl : ∀ c ∈ l, c < 256) (hm : l.length ≤ 1000000) : Calls Tryd.prog 24 #[.string (asc l), .string ⟨#[32]⟩] w fun e w' => e = .returned (.string (asc (trimL l))) ∧ w = w' := by
  have H28 := Lib.hid (trimB l w hl hm)
  by_cases h : l = []
  · subst h
    have HE := Lib.hid (show asc [] = asc (trimL []) from rfl)
    clear hl hm
    have e0 : asc [] = ⟨#[]⟩ := rfl
    go_enter Tryd.func24, Tryd.ntmps24
    rw [e0]
    go_wp2
    go_ret
    exact ⟨by rw [← HE.out]; rfl, rfl⟩
  · have hne : (asc l).toList ≠ [] := fun e => by
      have : (asc l).data.toList = [] := by rw [← ByteArray.toList_eq]; exact e
      simp [asc] at this
      exact h this
    have hn0 : (⟨#[]⟩ : ByteArray).toList = [] := by rw [ByteArray.toList_eq]
    have hb : ((asc l).toList == (⟨#[]⟩ : ByteArray).toList) = false := by rw [hn0, beq_eq_false_iff_ne]; exact hne
    have hb2 : ((asc l).toList == []) = false := by rw [beq_eq_false_iff_ne]; exact hne
    have hb3 : (asc l).toList.isEmpty = false := by rw [List.isEmpty_eq_false_iff]; exact hne
    clear hl hm h hne
    generalize asc l = S at *
    go_enter Tryd.func24, Tryd.ntmps24
    go_wp2_with (go_at_call 28; refine Hid.out ?_)
    refine Lib.hid ?_
    refine H28.out.mono ?_; rintro e w' ⟨rfl, rfl⟩
    go_wp2
    go_ret
    exact ⟨rfl, rfl⟩
/-- a row of signs of one's own. -/
def Rr (w : World) (B : Nat) (v : Value) (ns : List Int) : Prop := w.ownsRow B 21 1 v ns.length (ns.map (Value.int .i32))
theorem Rr.nil (w : World) (B : Nat) : Rr w B (.slice none 0 0) [] := World.ownsRow_nil w B 21 1
theorem Rr.below {w w1 : World} {B : Nat} {v : Value} {O : List Int} (h : Rr w B v O) (hb : Below w.heap.size w w1) : Rr w1 B v O :=
  World.ownsRow.kept (row := none) h ⟨hb.os, hb.tape, hb.output, hb.size, fun k hk _ => hb.block k hk⟩ (by cases e : v.ownBlock <;> simp)
theorem info21 : (Tryd.prog.info? 21).map (fun i => (i.zero, i.size, i.bytes)) = some (some (.int .i32 0), 1, 4) := by kernel_rfl
theorem wpList_append_rn {w : World} {ops : Array Oper} {rest : List Oper} {o : Oper} {a : Act} {Q : Exit → Act → World → Prop} (hg : o.guard = none) (s x : Operand)
    (ho : o.op = .call { callee := .builtin .append, args := #[s, x], argTypes := #[34, 34] }) (B : Nat) (v : Value) (O : List Int) (hs : a.eval s = v) (h : Rr w B v O)
    (g cap : Nat) (c : Int) (hx : a.eval x = .slice (some ⟨g, 0, none⟩) 1 cap) (hc : w.cell? ⟨g, 0, none⟩ = some (.int .i32 c)) (hl : O.length ≤ 1000000) (hB : B ≤ w.heap.size)
    (hK : ∀ v' w', Rr w' B v' (O ++ [c]) → Below B w w' → wpList Tryd.prog ops Q rest (a.put o.dst v') w') : wpList Tryd.prog ops Q (o :: rest) a w := by
  obtain ⟨i0, hi, hz, hs5, hby⟩ := info_parts info21
  refine wpList_append_own w hg s x 34 ho B 21 i0 _ 1 4 Tryd.underlying34 hi hz hs5 hby rfl (by decide) v O.length (O.map (Value.int .i32)) hs h ⟨g, 0, none⟩ 1 cap [.int .i32 c] hx rfl ?_ (by intro u hu; simp at hu; subst hu; rfl) (by simp only [maxLen]; omega) (by omega) hB ?_
  · intro j u hu
    have hadd : (⟨g, 0, none⟩ : Addr).add j = ⟨g, j, none⟩ := by unfold Addr.add; split <;> simp_all
    rw [hadd]
    cases j with
    | zero => simp at hu; subst hu; exact hc
    | succ j => simp at hu
  · intro v' w' h1 h2 _
    refine hK v' w' ?_ ⟨h2.os, h2.tape, h2.output, h2.size, fun k hk => h2.block k (Nat.lt_of_lt_of_le hk hB) fun e => ?_⟩
    · unfold Rr; rw [List.length_append, List.map_append]; exact h1
    · have := (World.ownsRow.lt h k e.symm).1; omega
theorem fold_asc (l : List Nat) (hl : ∀ c ∈ l, c < 128) : ∀ m : List Nat, (l.map (fun n : Nat => (n : Int))).foldl (fun r n => r ++ Utf8.encode n) (asc m) = asc (m ++ l) := by
  induction l with
  | nil => intro m; simp
  | cons c l ih =>
    intro m
    have hc := hl c (by simp)
    have he : Utf8.encode (c : Int) = ⟨#[UInt8.ofNat c]⟩ := by
      have hv : Utf8.valid (c : Int) = true := by simp [Utf8.valid]; omega
      simp [Utf8.encode, hv, hc]
    rw [List.map_cons, List.foldl_cons, he]
    have e : asc m ++ ⟨#[UInt8.ofNat c]⟩ = asc (m ++ [c]) := by
      apply ByteArray.ext
      simp [asc, ByteArray.data_append]
    rw [e, ih (fun x hx => hl x (by simp [hx])), List.append_assoc, List.singleton_append]
theorem runes_asc (l : List Nat) (hl : ∀ c ∈ l, c < 128) : runesBytes (l.map (fun n : Nat => (n : Int))) = asc l := by
  have h := fold_asc l hl []
  rw [show asc [] = ByteArray.empty from rfl, List.nil_append] at h
  exact h
theorem conv_rn (w : World) (B : Nat) (v : Value) (l : List Nat) (hl : ∀ c ∈ l, c < 128) (h : Rr w B v (l.map (fun n : Nat => (n : Int)))) : (convert 34 9 v).run Tryd.prog w = .ok (.string (asc l)) w := by
  rcases h.2 with ⟨rfl, e⟩ | ⟨g, cap, cur, rfl, hb, hg, hc, _⟩
  · have : l = [] := by have := List.eq_nil_of_length_eq_zero e; simpa using this
    subst this
    exact run_convert_runes_nil w 34 9 21 0 0 Tryd.underlying34 Tryd.underlying21 Tryd.underlying9
  · have e := run_convert_runes (P := Tryd.prog) w 34 9 21 ⟨g, 0, none⟩ (l.map (fun n : Nat => (n : Int))).length cap (l.map (fun n : Nat => (n : Int))) (Nat.le_refl _) Tryd.underlying34 Tryd.underlying21 Tryd.underlying9 (fun j hj => by
      have := World.ownsRow.cells h (g := g) rfl j (.int .i32 ((l.map (fun n : Nat => (n : Int))).getD j 0)) (by rw [List.getElem?_map, List.getD_eq_getElem?_getD, List.getElem?_eq_getElem hj]; rfl)
      exact this)
    rw [e, List.take_length, runes_asc l hl]
theorem one_cell (w : World) (r : Int) : (w.alloc (.cells #[.int .i32 r] 21)).cell? ⟨w.heap.size, 0, none⟩ = some (.int .i32 r) := by
  have h : (w.alloc (.cells #[.int .i32 r] 21)).heap[w.heap.size]? = _ := heap_alloc_last w _
  unfold World.cell?
  simp only [h]
  rfl
theorem take_next {L : List Ce} {j : Nat} {c : Ce} (h : L[j]? = some c) : L.take (j + 1) = L.take j ++ [c] := by
  rw [List.take_add_one, h]; rfl
set_option maxRecDepth 100000 in
set_option maxHeartbeats 4000000 in
/-- screen.line, of narrow plain cells. -/
theorem lineN (b off n cap : Nat) (L : List Ce) (rs : List Nat) (w : World) (hn : n = L.length) (hm : n ≤ 1000000) (hs : Sc w b off L) (hN : ∀ c ∈ L, c.wd = 0) (hr : L.map Ce.r = rs.map (fun n : Nat => (n : Int))) (hrs : ∀ c ∈ rs, c < 128) :
    Calls Tryd.prog 20 #[.slice (some ⟨b, off, none⟩) n cap] w fun e w' => e = .returned (.string (asc (trimL rs))) ∧ Below w.heap.size w w' := by
  have hlen : rs.length = n := by have := congrArg List.length hr; simpa [hn] using this.symm
  have HS := Lib.hid hs
  have HN := Lib.hid hn
  have HM := Lib.hid hm
  have HNW := Lib.hid hN
  have HT := Lib.hid (fun w1 => trimC rs w1 (fun c hc => Nat.lt_trans (hrs c hc) (by decide)) (by omega))
  have HCV := Lib.hid (fun w1 v (h : Rr w1 w.heap.size v (L.map Ce.r)) => conv_rn w1 w.heap.size v rs hrs (by rw [← hr]; exact h))
  clear hs hn hm hN hr hrs hlen
  go_enter Tryd.func20, Tryd.ntmps20
  go_wp2
  go_loopw [3, 8] (fun s3 s8 wr => ∃ k : Nat, k ≤ n ∧ s8 = .int .i64 k ∧ Hid (Rr wr w.heap.size s3 ((L.take k).map Ce.r)) ∧ Hid (Below w.heap.size w wr)) (fun _ s8 _ => n - (intOf s8).toNat)
  case atStart => exact ⟨0, Nat.zero_le _, rfl, Lib.hid (Rr.nil _ _), Lib.hid (Below.refl _ _)⟩
  case round =>
    obtain ⟨k, hk, rfl, HR, HB⟩ := hrel
    by_cases hlt : k < n
    · have HKk := Lib.hid (show k + 1 ≤ n ∧ n - (k + 1) < n - k by omega)
      have hkI : (k : Int) < (n : Int) := by omega
      have hw1 : IntKind.i64.wrap ((k : Int) + 1) = (k : Int) + 1 := IntWalk.i64_in _ (by have := HM.out; omega)
      have hkL : k < L.length := by rw [← HN.out]; exact hlt
      obtain ⟨x0, x1, x2, x3, x4⟩ := (HS.out.then_ HB.out (Nat.le_refl _)).at_ k _ (List.getElem?_eq_getElem hkL)
      have hnw := HNW.out _ (List.getElem_mem hkL)
      have HNX := Lib.hid (show (L.take (k + 1)).map Ce.r = (L.take k).map Ce.r ++ [(L[k]).r] by rw [take_next (List.getElem?_eq_getElem hkL), List.map_append]; rfl)
      have HLk := Lib.hid (show ((L.take k).map Ce.r).length ≤ 1000000 by rw [List.length_map, List.length_take]; have := HM.out; omega)
      generalize L[k] = c at *
      obtain ⟨cr, cfl, cfg, cbg, cwd⟩ := c
      obtain rfl : cwd = 0 := hnw
      dsimp only at x0 x1 x2 x3 x4 HNX
      have hbl := below_one wr (cO zeroC)
      have hfr : (wr.alloc (cO zeroC)).heap[wr.heap.size]? = some (cO zeroC) := heap_alloc_last wr _
      dsimp only [cO, zeroC] at hbl hfr
      generalize hwz : wr.alloc (.cells #[.int .i32 0, .int .i64 0, .int .i64 0, .int .i64 0, .int .i64 0] 32) = wz at *
      have HFR := Lib.hid hfr
      have HBZ := Lib.hid hbl
      have x0 := cell_then hbl (Nat.le_refl _) x0
      have x1 := cell_then hbl (Nat.le_refl _) x1
      have x2 := cell_then hbl (Nat.le_refl _) x2
      have x3 := cell_then hbl (Nat.le_refl _) x3
      have x4 := cell_then hbl (Nat.le_refl _) x4
      clear hbl hfr hk hkL
      go_wp2_with (first
        | ((with_reducible refine wpList_store_c1 rfl _ _ rfl wr.heap.size ⟨cr, cfl, cfg, cbg, 0⟩ _ rfl rfl HFR.out rfl ?_); intro wa ha ba ka za; obtain ⟨y0, y1, y2, y3, y4⟩ := five ha; (dsimp only at y0 y1 y2 y3 y4); have hba := ba _ _ (Nat.le_refl _) HBZ.out; have HBA := Lib.hid (HB.out.trans (hba.mono HB.out.size)); have HRA := Lib.hid (HR.out.below hba); have hal : Below wa.heap.size wa (wa.alloc (.cells #[.int .i32 cr] 21)) := below_one wa _; have HR2 := Lib.hid (HRA.out.below hal); have HB2 := Lib.hid (below_then HBA.out hal HBA.out.size); have HC2 := Lib.hid (show (wa.alloc (.cells #[.int .i32 cr] 21)).cell? ⟨wa.heap.size, 0, none⟩ = some (.int .i32 cr) from one_cell wa cr); clear ha ba ka za hba hal)
        | (at_builtin; (refine wpList_append_rn rfl _ _ rfl w.heap.size _ ((L.take k).map Ce.r) rfl HR2.out wa.heap.size 1 cr rfl HC2.out HLk.out HB2.out.size ?_); intro v5 w5 o5 b5; have HR5 := Lib.hid (show Rr w5 w.heap.size v5 ((L.take (k + 1)).map Ce.r) by rw [HNX.out]; exact o5); have HB5 := Lib.hid (HB2.out.trans b5); clear o5 b5))
      first
        | exact ⟨⟨k + 1, HKk.out.1, by go_num, HR5, HB5⟩, by simp only [intOf]; exact HKk.out.2⟩
        | (go_roundw
           · exact ⟨k + 1, HKk.out.1, by go_num, HR5, HB5⟩
           · simp only [intOf]; exact HKk.out.2)
    · obtain rfl : k = n := by omega
      have hcv := HCV.out wr u3 (by have := HR.out; rwa [List.take_of_length_le (by rw [← HN.out]; exact Nat.le_refl _)] at this)
      clear hk hlt
      generalize asc rs = S at *
      go_wp2_with (go_at_call 24; refine (HT.out _).mono ?_; rintro e w' ⟨rfl, rfl⟩)
      go_ret
      exact ⟨rfl, HB.out⟩
end Go.Proofs.YtjfeejoplchmpaaDoor.Sk
