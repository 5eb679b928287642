/- screen.Copy; cells copied into a row in a longer block; diff.need. -/
import Derived.Test.YtfogbokifbjjlaaDd
import Derived.Test.YtfogbokifbjjlaaMf
set_option linter.unusedVariables false
namespace Go.Proofs.Ytfogbokifbjjlaa.Df
open Go Go.RowKit Kit Gm Gv Sa Sb Sd Rd

/-- a copy of a list of cells: its block is one's own. -/
def ClQ (w : World) (n : Nat) (L : List Ce) (e : Ending) (w' : World) : Prop := ∃ g c, e = .returned (.slice (some ⟨g, 0, none⟩) n c) ∧ w.heap.size ≤ g ∧ n ≤ c ∧ c ≤ 9223372036854775807 ∧ w'.ownsRow w.heap.size 52 5 (.slice (some ⟨g, 0, none⟩) n c) n (flat L) ∧ Below w.heap.size w w'
set_option maxRecDepth 100000 in
/-- slices.Clone, of cells. -/
theorem cloneC (b off n cap : Nat) (L : List Ce) (w : World) (hn : n = L.length) (h0 : 0 < n) (hm : n ≤ 1000000) (h : Sc w b off L) :
    Calls Try.prog 68 #[.slice (some ⟨b, off, none⟩) n cap] w (ClQ w n L) := by
  have HS := Lib.hid (sc_flat (h.then_ (below_one w (.cells #[] 52)) (Nat.le_refl _)))
  have HR := Lib.hid (show (w.alloc (.cells #[] 52)).ownsRow w.heap.size 52 5 (.slice (some ⟨w.heap.size, 0, none⟩) 0 0) 0 [] from World.ownsRow_made w #[] 0 (Nat.le_refl _) (by simp) rfl)
  have HB := Lib.hid (below_one w (.cells #[] 52))
  have HN := Lib.hid hn
  have HM := Lib.hid hm
  have H0 := Lib.hid h0
  have ke := fun (w1 : World) => Lib.run_eql_slice_nil (P := Try.prog) w1 22 52 (some ⟨b, off, none⟩) n cap 0 0 Try.underlying22
  have HI := Lib.hid (info_parts info52)
  clear h hn hm h0
  go_enter Try.func68, Try.ntmps68
  go_wp2_with (at_builtin; obtain ⟨i0, hi, hz, hs, hb⟩ := HI.out; have hl5 : (flat L).length = n * 5 := (by rw [flat_len, HN.out]); have hM := HM.out; refine wpList_append_own _ rfl _ _ 22 rfl w.heap.size 52 i0 _ 5 40 Try.underlying22 hi hz hs hb rfl (by decide) _ 0 _ rfl HR.out ⟨b, off, none⟩ n cap (flat L) rfl hl5 HS.out (flat_one L) (by unfold maxLen; omega) (by omega) HB.out.size ?_; intro v' w2 h2 h3 _; rw [Nat.zero_add, List.nil_append] at h2; have HO := Lib.hid h2; have HG := Lib.hid (HB.out.grown h3 HB.out.size (fun j hj => (HR.out.lt j hj).1)); clear h2 h3 hl5 hM)
  go_ret
  have ho := HO.out
  rcases HO.out.2 with ⟨_, h0⟩ | ⟨g, c, cur, rfl, hb, hg, hnc, hmx, hcs, htake⟩
  · exact absurd h0 (Nat.ne_of_gt H0.out)
  · exact ⟨g, c, rfl, hb, hnc, by unfold maxLen at hmx; exact hmx, ho, HG.out⟩
def CpQ (w : World) (s : Scr) (n : Nat) (L : List Ce) (e : Ending) (w' : World) : Prop := ∃ g c, e = .returned (svA s (some ⟨g, 0, none⟩) n c) ∧ w.heap.size ≤ g ∧ n ≤ c ∧ Rw w' g L ∧ Below w.heap.size w w'
set_option maxRecDepth 100000 in
set_option maxHeartbeats 2000000 in
/-- screen.Copy. -/
theorem copyC (s : Scr) (b off n cap : Nat) (L : List Ce) (w : World) (hn : n = L.length) (h0 : 0 < n) (hm : n ≤ 1000000) (h : Sc w b off L) :
    Calls Try.prog 38 #[svA s (some ⟨b, off, none⟩) n cap] w (CpQ w s n L) := by
  obtain ⟨R, C, row, col, hid, ti⟩ := s
  obtain ⟨hA, hZ⟩ := two_heap w (svO ⟨R, C, row, col, hid, ti⟩ (some ⟨b, off, none⟩) n cap) (svO ⟨0, 0, 0, 0, false, ⟨#[]⟩⟩ none 0 0)
  have hb := below_two w (svO ⟨R, C, row, col, hid, ti⟩ (some ⟨b, off, none⟩) n cap) (svO ⟨0, 0, 0, 0, false, ⟨#[]⟩⟩ none 0 0)
  have hsz : ((w.alloc (svO ⟨R, C, row, col, hid, ti⟩ (some ⟨b, off, none⟩) n cap)).alloc (svO ⟨0, 0, 0, 0, false, ⟨#[]⟩⟩ none 0 0)).heap.size = w.heap.size + 2 := by simp
  dsimp only [svO] at hA hZ hb hsz
  generalize hw2 : (w.alloc (.cells #[.int .i64 R, .int .i64 C, .slice (some ⟨b, off, none⟩) n cap, .int .i64 row, .int .i64 col, .bool hid, .string ti] 24)).alloc (.cells #[.int .i64 0, .int .i64 0, .slice none 0 0, .int .i64 0, .int .i64 0, .bool false, .string ⟨#[]⟩] 24) = w2 at *
  obtain ⟨c0, c1, c2, c3, c4, c5, c6⟩ := seven (s := ⟨R, C, row, col, hid, ti⟩) hA
  dsimp only at c0 c1 c2 c3 c4 c5 c6
  have HC := Lib.hid (cloneC b off n cap L w2 hn h0 hm (h.then_ hb (Nat.le_refl _)))
  have HA := Lib.hid hA
  have HZ := Lib.hid hZ
  have HB := Lib.hid hb
  have HN := Lib.hid hn
  have H0 := Lib.hid h0
  have HSZ := Lib.hid hsz
  clear h hn h0 hm hA hZ hb hsz
  go_enter Try.func38, Try.ntmps38
  go_wp2_with (first
    | (go_at_call 68; (with_reducible refine HC.out.mono ?_); rintro e w3 ⟨g, c, rfl, hg, hnc, _, hown, b3⟩; have HA3 := Lib.hid ((b3.block _ (Array.getElem?_eq_some_iff.1 HA.out).1).trans HA.out); have HZ3 := Lib.hid ((b3.block _ (Array.getElem?_eq_some_iff.1 HZ.out).1).trans HZ.out); have HB3 := Lib.hid (below_then HB.out b3 HB.out.size); have HR3 := Lib.hid (own_rw HN.out H0.out hown); have HG := Lib.hid hg; have HNC := Lib.hid hnc; clear hg hnc hown b3)
    | ((with_reducible refine wpList_store_cells rfl _ _ rfl w.heap.size ⟨R, C, row, col, hid, ti⟩ (some ⟨b, off, none⟩) n cap (some ⟨g, 0, none⟩) n c rfl rfl HA3.out ?_); intro w4 h4 b4 k4 z4; have HB4 := Lib.hid (b4 _ _ (Nat.le_refl _) HB3.out); have HZ4 := Lib.hid ((k4 _ (Nat.succ_ne_self _)).trans HZ3.out); have HR4 := Lib.hid (HR3.out.kept k4 (by have := HG.out; have := HSZ.out; omega)); obtain ⟨d0, d1, d2, d3, d4, d5, d6⟩ := seven (s := ⟨R, C, row, col, hid, ti⟩) h4; (dsimp only at d0 d1 d2 d3 d4 d5 d6); clear h4 b4 k4 z4)
    | ((with_reducible refine wpList_store_sc rfl _ _ rfl (w.heap.size + 1) ⟨R, C, row, col, hid, ti⟩ (some ⟨g, 0, none⟩) n c _ rfl rfl HZ4.out rfl ?_); intro w5 h5 b5 k5 z5; have HB5 := Lib.hid (b5 _ _ (Nat.le_succ _) HB4.out); have HR5 := Lib.hid (HR4.out.kept k5 (by have := HG.out; have := HSZ.out; omega)); obtain ⟨f0, f1, f2, f3, f4, f5, f6⟩ := seven (s := ⟨R, C, row, col, hid, ti⟩) h5; (dsimp only at f0 f1 f2 f3 f4 f5 f6); clear h5 b5 k5 z5))
  refine bodyPost_ret (v := .agg #[.int .i64 R, .int .i64 C, .slice (some ⟨g, 0, none⟩) n c, .int .i64 row, .int .i64 col, .bool hid, .string ti]) (by simp [results, Try.results38, go_sem, f0, f1, f2, f3, f4, f5, f6]) rfl ?_
  exact ⟨g, c, rfl, by have := HG.out; have := HSZ.out; omega, HNC.out, HR5.out, HB5.out⟩
theorem flat_mid (A M X Z : List Ce) (hX : X.length = M.length) : (flat (A ++ M ++ Z)).take (A.length * 5) ++ flat X ++ (flat (A ++ M ++ Z)).drop (A.length * 5 + (flat X).length) = flat (A ++ X ++ Z) := by
  rw [flat_app, flat_app, flat_app, flat_app]
  have h1 : (flat A).length = A.length * 5 := flat_len A
  have h2 : (flat M).length = M.length * 5 := flat_len M
  have h3 : (flat X).length = M.length * 5 := by rw [flat_len, hX]
  rw [List.append_assoc, List.append_assoc, List.take_append_of_le_length (by omega), List.take_of_length_le (by omega), List.drop_append, List.drop_eq_nil_of_le (by omega), h3, show A.length * 5 + M.length * 5 - (flat A).length = (flat M).length by omega, List.drop_append_of_le_length (Nat.le_refl _)]
  simp
theorem run_copy_rw {w : World} {b : Nat} {cur : Array Value} {A M Z : List Ce} (hc : w.heap[b]? = some (.cells cur 52 (0, 0))) (ht : cur.toList.take ((A ++ M ++ Z).length * 5) = flat (A ++ M ++ Z)) (X : List Ce) (hX : X.length = M.length) (ty : TypeId) (n1 c1 n2 c2 : Nat) (a2 : Addr) (hn : X.length = Nat.min n2 n1)
    (hsrc : ∀ j v, (flat X)[j]? = some v → w.cell? (a2.add j) = some v) :
    ∃ us : Array Value, us.toList.take ((A ++ X ++ Z).length * 5) = flat (A ++ X ++ Z) ∧ (Builtin.copy_ #[22, 22] ty #[.slice (some ⟨b, A.length * 5, none⟩) n1 c1, .slice (some a2) n2 c2]).run Try.prog w = .ok (goInt X.length) (w.setRow b us) := by
  have hl := run_loadCells_list (P := Try.prog) w a2 (flat X) hsrc
  have hlen : (flat (A ++ M ++ Z)).length ≤ cur.toList.length := by rw [← ht, List.length_take]; exact Nat.min_le_right _ _
  have hsz : cur.size = cur.toList.length := by simp
  have hfl : (flat (A ++ M ++ Z)).length = A.length * 5 + M.length * 5 + Z.length * 5 := by rw [flat_len]; simp only [List.length_append]; omega
  have hst := run_storeCells_at Try.prog b (A.length * 5) 52 (flat X) 0 cur w hc (by rw [flat_len, hX]; omega) (flat_one X)
  have hcur : cur.toList = flat (A ++ M ++ Z) ++ cur.toList.drop ((A ++ M ++ Z).length * 5) := by rw [← ht, List.take_append_drop]
  refine ⟨(cur.toList.take (A.length * 5 + 0) ++ flat X ++ cur.toList.drop (A.length * 5 + 0 + (flat X).length)).toArray, ?_, ?_⟩
  rotate_left
  · have hi : (Try.prog.info? 52).map (·.size) = some 5 := by kernel_rfl
    rw [flat_len] at hl
    cases hq : Try.prog.info? 52 with
    | none => simp [hq] at hi
    | some i =>
      have hs : i.size = 5 := by simpa [hq] using hi
      simp [Builtin.copy_, run_underlying Try.underlying22, Builtin.lenOf, Builtin.firstCells, sizeOf, typeInfo, hq, hs, ← hn, hl, hst]
  · generalize cur.toList.drop ((A ++ M ++ Z).length * 5) = R at hcur
    rw [List.toList_toArray, hcur, Nat.add_zero]
    have h3 : (flat X).length = M.length * 5 := by rw [flat_len, hX]
    have e1 : (flat (A ++ M ++ Z) ++ R).take (A.length * 5) = (flat (A ++ M ++ Z)).take (A.length * 5) := List.take_append_of_le_length (by omega)
    have e2 : (flat (A ++ M ++ Z) ++ R).drop (A.length * 5 + (flat X).length) = (flat (A ++ M ++ Z)).drop (A.length * 5 + (flat X).length) ++ R := List.drop_append_of_le_length (by omega)
    rw [e1, e2, ← List.append_assoc, flat_mid A M X Z hX]
    have h4 : (A ++ X ++ Z).length * 5 = (flat (A ++ X ++ Z)).length := (flat_len _).symm
    rw [h4, List.take_left]
/-- cells are copied into a row. -/
theorem wpList_copy_rw {w : World} {ops : Array Oper} {rest : List Oper} {o : Oper} {a : Act} {Q : Exit → Act → World → Prop} (hgd : o.guard = none) (d s : Operand)
    (ho : o.op = .call { callee := .builtin .copy, args := #[d, s], argTypes := #[22, 22] })
    (n1 c1 n2 c2 b b2 j : Nat) (A M Z X : List Ce) (hj : j = A.length) (hd : a.eval d = .slice (some ⟨b, j * 5, none⟩) n1 c1) (hs : a.eval s = .slice (some ⟨b2, 0, none⟩) n2 c2)
    (h : Rw w b (A ++ M ++ Z)) (hX : X.length = M.length) (hn : X.length = Nat.min n2 n1) (hsrc : Sc w b2 0 X)
    (hK : ∀ w', Rw w' b (A ++ X ++ Z) → (∀ j, j ≠ b → w'.heap[j]? = w.heap[j]?) → (∀ B W, B ≤ b → Below B W w → Below B W w') → w.heap.size ≤ w'.heap.size → wpList Try.prog ops Q rest (a.put o.dst (goInt X.length)) w') : wpList Try.prog ops Q (o :: rest) a w := by
  subst hj
  refine wpList_plain hgd fun K hk => ?_
  obtain ⟨cur, hc, ht⟩ := h
  obtain ⟨us, hu, hrun⟩ := run_copy_rw hc ht X hX o.type n1 c1 n2 c2 ⟨b2, 0, none⟩ hn (sc_flat hsrc)
  unfold Oper.wp
  simp [execOp, ho, resolve, invoke, builtin, hd, hs, hrun, Result.andThen]
  refine hk _ _ (hK _ ?_ (fun j hj => setRow_other w b j _ hj) (fun B W hB hb => ⟨hb.os, hb.tape, hb.output, by simpa using hb.size, fun j hj => (setRow_other w b j _ (by omega)).trans (hb.block j hj)⟩) (by simp))
  exact ⟨us, setRow_heap w b _ _ 52 _ hc, by simpa using hu⟩
theorem wpList_copy_rw0 {w : World} {ops : Array Oper} {rest : List Oper} {o : Oper} {a : Act} {Q : Exit → Act → World → Prop} (hgd : o.guard = none) (d s : Operand)
    (ho : o.op = .call { callee := .builtin .copy, args := #[d, s], argTypes := #[22, 22] })
    (n1 c1 n2 c2 b b2 : Nat) (M Z X : List Ce) (hd : a.eval d = .slice (some ⟨b, 0, none⟩) n1 c1) (hs : a.eval s = .slice (some ⟨b2, 0, none⟩) n2 c2)
    (h : Rw w b (M ++ Z)) (hX : X.length = M.length) (hn : X.length = Nat.min n2 n1) (hsrc : Sc w b2 0 X)
    (hK : ∀ w', Rw w' b (X ++ Z) → (∀ j, j ≠ b → w'.heap[j]? = w.heap[j]?) → (∀ B W, B ≤ b → Below B W w → Below B W w') → w.heap.size ≤ w'.heap.size → wpList Try.prog ops Q rest (a.put o.dst (goInt X.length)) w') : wpList Try.prog ops Q (o :: rest) a w :=
  wpList_copy_rw hgd d s ho n1 c1 n2 c2 b b2 0 [] M Z X rfl hd hs h hX hn hsrc hK
/-- what a reading of diff gives up with. -/
def dfault : Value := .iface 90 (.agg #[])
theorem dneed_t (w : World) : Calls Try.prog 90 #[.bool true] w fun e w' => e = .returned (.tuple #[]) ∧ w = w' := by
  go_enter Try.func90, Try.ntmps90
  go_wp2
  go_end0
  exact ⟨rfl, rfl⟩
theorem dneed_f (w : World) : Calls Try.prog 90 #[.bool false] w fun e w' => e = .panicked [{ v := dfault, recovered := false }] ∧ w = w' := by
  go_enter Try.func90, Try.ntmps90
  go_wp2
  exact ⟨rfl, rfl, rfl⟩
end Go.Proofs.Ytfogbokifbjjlaa.Df
/- What diff reads: stretches (diff.readStretches). -/
set_option linter.unusedVariables false
namespace Go.Proofs.Ytfogbokifbjjlaa.Dg
open Go Go.RowKit Kit Gm Gv Crc Var Get Bytes WireFirst Ref3 Copy Ap Sa Sb Sd Rd RdA RdF La Lb Ma Mb Oe Na Nb Tk Pb Da Db Df
open RdC (numC leftC numN errC)
open RdB (Fr2)

def sg (l : List Nat) (L : List Ce) (r : Rdr) (P : List Ce) : Int × Rdr := numN l r (L.length - P.length)
def sj (l : List Nat) (L : List Ce) (r : Rdr) (P : List Ce) : Nat := P.length + (sg l L r P).1.toNat
def su (l : List Nat) (L : List Ce) (r : Rdr) (P : List Ce) : Int × Rdr := numN l (sg l L r P).2 (L.length - sj l L r P)
def sx (l : List Nat) (L : List Ce) (r : Rdr) (P : List Ce) : Option (Rdr × List Ce) := if (su l L r P).2.err = 0 then runsF l (su l L r P).1.toNat ((su l L r P).1.toNat + 1) (su l L r P).2 [] else none
def okG (l : List Nat) (L : List Ce) (r : Rdr) (P : List Ce) : Prop := (sg l L r P).2.err = 0 ∧ (0 < (sg l L r P).1 ∨ P.length = 0)
instance (l : List Nat) (L : List Ce) (r : Rdr) (P : List Ce) : Decidable (okG l L r P) := by unfold okG; infer_instance
def okX (l : List Nat) (L : List Ce) (r : Rdr) (P X : List Ce) : Prop := 0 < (su l L r P).1 ∧ cnt false ((L.drop (sj l L r P)).take (su l L r P).1.toNat) X = (su l L r P).1.toNat
instance (l : List Nat) (L : List Ce) (r : Rdr) (P X : List Ce) : Decidable (okX l L r P X) := by unfold okX; infer_instance
/-- stretches over L: P is what stands of it so far. -/
def stF (l : List Nat) (L : List Ce) : Nat → Rdr → List Ce → Option (List Ce)
  | 0, _, _ => none
  | f + 1, r, P => if l.length ≤ r.at_ then some (P ++ L.drop P.length) else
      if okG l L r P then
        match sx l L r P with
        | some (r3, X) => if okX l L r P X then stF l L f r3 (P ++ (L.drop P.length).take (sg l L r P).1.toNat ++ X) else none
        | none => none
      else none
variable {l : List Nat} {L : List Ce} {f : Nat} {r : Rdr} {P : List Ce}
theorem st_end (h : l.length ≤ r.at_) : stF l L (f + 1) r P = some (P ++ L.drop P.length) := by rw [stF, if_pos h]
theorem st_noG (h : ¬ l.length ≤ r.at_) (h2 : ¬ okG l L r P) : stF l L (f + 1) r P = none := by rw [stF, if_neg h, if_neg h2]
theorem st_noX (h : ¬ l.length ≤ r.at_) (h2 : okG l L r P) (h3 : sx l L r P = none) : stF l L (f + 1) r P = none := by rw [stF, if_neg h, if_pos h2, h3]
theorem st_badX (h : ¬ l.length ≤ r.at_) (h2 : okG l L r P) {r3 : Rdr} {X : List Ce} (h3 : sx l L r P = some (r3, X)) (h4 : ¬ okX l L r P X) : stF l L (f + 1) r P = none := by rw [stF, if_neg h, if_pos h2, h3]; exact if_neg h4
theorem st_step (h : ¬ l.length ≤ r.at_) (h2 : okG l L r P) {r3 : Rdr} {X : List Ce} (h3 : sx l L r P = some (r3, X)) (h4 : okX l L r P X) : stF l L (f + 1) r P = stF l L f r3 (P ++ (L.drop P.length).take (sg l L r P).1.toNat ++ X) := by rw [stF, if_neg h, if_pos h2, h3]; exact if_pos h4
theorem num_up (l : List Nat) (r : Rdr) (m : Nat) : r.at_ ≤ (numN l r m).2.at_ := by
  unfold numN
  split
  · exact Nat.le_refl _
  · split
    · exact Nat.le_refl _
    · split
      · exact Nat.le_refl _
      · rename_i h2 _
        obtain ⟨n, y, e, h, _⟩ := RdC.getA_ok l r.at_ (by simpa using h2)
        rw [e]; simp; omega
theorem rw_grown {w w' : World} {p g : Nat} {L : List Ce} (h : Rw w g L) (hg : w.grownBy w' (some p)) (hne : g ≠ p) : Rw w' g L := by
  obtain ⟨cur, h1, h2⟩ := h
  exact ⟨cur, (hg.block g (Array.getElem?_eq_some_iff.1 h1).1 (fun e => hne (by injection e))).trans h1, h2⟩
theorem sc_fr {w w' : World} {p g b off : Nat} {L : List Ce} (h : Sc w b off L) (hf : Fr2 p g w w') (h1 : b ≠ p) (h2 : b ≠ g) : Sc w' b off L := by
  intro j hj i hi
  have e := h j hj i hi
  have hl : i < (cv L[j]).length := hi
  rw [List.getElem?_eq_getElem hl] at e ⊢
  have hb := World.block_lt_of_cell? w _ e
  rw [World.cell?_of_block (hf.block b hb h1 h2)]; exact e
theorem fr_drew {w w1 : World} {p g : Nat} (h : Fr2 p g w w1) (k : Nat) : Fr2 p g w (w1.drewN k) := ⟨h.os, h.tape, h.output, h.size, h.block⟩
theorem fr_put {w w1 w2 : World} {p g : Nat} (h : Fr2 p g w w1) (hk : ∀ j, j ≠ g → w2.heap[j]? = w1.heap[j]?) (hb : Below 0 w1 w2) (hz : w1.heap.size ≤ w2.heap.size) : Fr2 p g w w2 :=
  ⟨hb.os.trans h.os, hb.tape.trans h.tape, hb.output.trans h.output, Nat.le_trans h.size hz, fun k h1 h2 h3 => (hk k h3).trans (h.block k h1 h2 h3)⟩
/-- what readStretches answers. -/
def StQ (l : List Nat) (L : List Ce) (X : Option (List Ce)) (p g : Nat) (w : World) (e : Ending) (w' : World) : Prop :=
  (∃ B, X = some B ∧ B.length = L.length ∧ e = .returned (.tuple #[]) ∧ Rw w' g B ∧ (∃ r', Rc w' p r') ∧ Fr2 p g w w') ∨
  (X = none ∧ e = .panicked [{ v := dfault, recovered := false }] ∧ (∃ r', Rc w' p r') ∧ Fr2 p g w w')
theorem rds_yes {r r' : Rdr} {X : List Ce} {c p : Nat} {w w' : World} {e : Ending} (h : Od.RdQ l r (c : Int) p w e w') (hc : c ≤ 12000) (hx : (if r.err = 0 then runsF l c (c + 1) r [] else none) = some (r', X)) :
    X.length = c ∧ ∃ g, e = .returned (.tuple #[.slice (some ⟨g, 0, none⟩) c c, .bool true]) ∧ w.heap.size ≤ g ∧ RB w' g X ∧ Rc w' p r' ∧ w.grownBy w' (some p) := by
  split at hx
  · rename_i he
    obtain ⟨g, h1⟩ := rd_yes h hc he hx
    refine ⟨?_, g, h1⟩
    rcases h with ⟨m, r2, L2, g2, k1, k2, k3, k4, k5, k6, k7, k8, k9, k10⟩ | ⟨k1, _⟩
    · obtain rfl : m = c := by omega
      rw [hx] at k4; injection k4 with k4; injection k4 with k4 k4'; subst k4 k4'
      exact k10
    · rw [k1 c rfl hc he] at hx; cases hx
  · cases hx
theorem rds_no {r : Rdr} {c p : Nat} {w w' : World} {e : Ending} (h : Od.RdQ l r (c : Int) p w e w') (hx : (if r.err = 0 then runsF l c (c + 1) r [] else none) = none) :
    e = .returned (.tuple #[.slice none 0 0, .bool false]) ∧ (∃ r', Rc w' p r') ∧ w.grownBy w' (some p) := by
  refine rd_no h ?_
  rintro ⟨r', X, h1, h2⟩
  rw [if_pos h1, h2] at hx; cases hx
theorem wraps (n k G V m j q t : Nat) (h : m = n - k ∧ j = k + G ∧ q = n - j ∧ t = j + V ∧ t ≤ n ∧ k ≤ n ∧ n ≤ 12000) :
    IntKind.i64.wrap ((n : Int) - (k : Int)) = (m : Int) ∧ wrap64 ((n : Int) - (k : Int)) = (m : Int) ∧ IntKind.u64.wrap (m : Int) = (m : Int) ∧ IntKind.i64.wrap (G : Int) = (G : Int) ∧ wrap64 (G : Int) = (G : Int) ∧ IntKind.i64.wrap ((k : Int) + (G : Int)) = (j : Int) ∧
    IntKind.i64.wrap ((n : Int) - (j : Int)) = (q : Int) ∧ wrap64 ((n : Int) - (j : Int)) = (q : Int) ∧ IntKind.u64.wrap (q : Int) = (q : Int) ∧ IntKind.i64.wrap (V : Int) = (V : Int) ∧ wrap64 (V : Int) = (V : Int) ∧ IntKind.i64.wrap ((j : Int) + (V : Int)) = (t : Int) := by
  refine ⟨?_, ?_, ?_, ?_, ?_, ?_, ?_, ?_, ?_, ?_, ?_, ?_⟩
  · rw [IntWalk.i64_in _ (by omega)]; omega
  · rw [IntWalk.wrap64_in _ (by omega)]; omega
  · rw [IntKind.wrap_u64]; omega
  · exact IntWalk.i64_in _ (by omega)
  · exact IntWalk.wrap64_in _ (by omega)
  · rw [IntWalk.i64_in _ (by omega)]; omega
  · rw [IntWalk.i64_in _ (by omega)]; omega
  · rw [IntWalk.wrap64_in _ (by omega)]; omega
  · rw [IntKind.wrap_u64]; omega
  · exact IntWalk.i64_in _ (by omega)
  · exact IntWalk.wrap64_in _ (by omega)
  · rw [IntWalk.i64_in _ (by omega)]; omega
theorem len_of {l : List Nat} (hl : ∀ c ∈ l, c < 256) {r r' : Rdr} {X : List Ce} {c : Nat} (hx : (if r.err = 0 then runsF l c (c + 1) r [] else none) = some (r', X)) : X.length = c := by
  split at hx
  · rename_i h6
    obtain ⟨T, _, e2, _⟩ := runs_back hl _ _ _ _ _ _ hx (Nat.zero_le _) (by simp) h6
    exact e2
  · cases hx
theorem next_rdr {l : List Nat} (hl : ∀ c ∈ l, c < 256) {r r2 r3 : Rdr} {X : List Ce} {V f m0 : Nat} (hx : (if r2.err = 0 then runsF l V (V + 1) r2 [] else none) = some (r3, X)) (hX : X.length = V) (hv : 0 < V) (hs : SameR r r2) (h2 : r2.at_ ≤ l.length) (h3 : l.length - r2.at_ ≤ m0) (hf : m0 ≤ f) : r3.at_ ≤ l.length ∧ l.length - r3.at_ < f ∧ SameR r r3 := by
  split at hx
  · rename_i h6
    obtain ⟨T, e1, e2, e3, e4, e5, e6, _⟩ := runs_back hl _ _ _ _ _ _ hx (Nat.zero_le _) (by simp) h6
    rw [List.nil_append] at e1
    subst e1
    have hne : X ≠ [] := by intro e; rw [e] at hX; simp at hX; omega
    have h7 := e6 hne
    have h8 : 1 ≤ (cellsB X).length := by
      match X, hne with
      | c :: t, _ =>
        rw [Lb.cellsB_cons]
        have := Fr.varL_pos (runL (c :: t))
        simp only [List.length_append]; omega
    subst e4
    exact ⟨h7, by show l.length - (r2.at_ + (cellsB X).length) < f; omega, hs⟩
  · cases hx
set_option maxRecDepth 100000 in
set_option maxHeartbeats 16000000 in
/-- diff.readStretches. -/
theorem stretchesC (p g b1 o1 n c1 c2 : Nat) (r : Rdr) (l : List Nat) (L : List Ce) (w : World) (f0 : Nat) (hf0 : l.length - r.at_ < f0) (hn : n = L.length) (hm : n ≤ 12000) (hc1 : n ≤ c1) (hc2 : n ≤ c2) (hpos : 1 ≤ n)
    (hp : Rc w p r) (hle : r.at_ ≤ l.length) (h1 : Sc w b1 o1 L) (hg : Rw w g L) (d1 : b1 ≠ p) (d2 : b1 ≠ g) (d3 : g ≠ p) (hlen : r.len = l.length ∧ l.length ≤ 1000000)
    (hby : ∀ w' r', Fr2 p g w w' → SameR r r' → By w' r' l) :
    Calls Try.prog 91 #[.pointer (some ⟨p, 0, none⟩), .slice (some ⟨b1, o1, none⟩) n c1, .slice (some ⟨g, 0, none⟩) n c2] w (StQ l L (stF l L f0 r []) p g w) := by
  have HYES := Lib.hid (fun (B : List Ce) (r' : Rdr) (w' : World) (h0 : stF l L f0 r [] = some B) (h1 : B.length = L.length) (h2 : Rw w' g B) (h3 : Rc w' p r') (h4 : Fr2 p g w w') => (show StQ l L (stF l L f0 r []) p g w (.returned (.tuple #[])) w' from .inl ⟨B, h0, h1, rfl, h2, ⟨r', h3⟩, h4⟩))
  have HNO := Lib.hid (fun (r' : Rdr) (w' : World) (h0 : stF l L f0 r [] = none) (h3 : Rc w' p r') (h4 : Fr2 p g w w') => (show StQ l L (stF l L f0 r []) p g w (.panicked [{ v := dfault, recovered := false }]) w' from .inr ⟨h0, rfl, ⟨r', h3⟩, h4⟩))
  obtain ⟨T, hT⟩ : ∃ T, T = stF l L f0 r [] := ⟨_, rfl⟩
  rw [← hT] at HYES HNO ⊢
  have HT := Lib.hid hT.symm
  have HP0 := Lib.hid hp
  have HRW0 := Lib.hid (show Rw w g ([] ++ L.drop ([] : List Ce).length) by rw [List.nil_append, List.length_nil, List.drop_zero]; exact hg)
  have HS := Lib.hid (fun w' (hf : Fr2 p g w w') => sc_fr h1 hf d1 d2)
  have HBY := Lib.hid hby
  have HN := Lib.hid hn
  have HM := Lib.hid hm
  have HLEN := Lib.hid hlen
  have D3 := Lib.hid d3
  have HF0 := Lib.hid (show Fr2 p g w w from ⟨rfl, rfl, rfl, Nat.le_refl _, fun _ _ _ _ => rfl⟩)
  have HLE0 := Lib.hid hle
  have HFU0 := Lib.hid hf0
  have HC1 := Lib.hid hc1
  have HC2 := Lib.hid hc2
  clear hp hle h1 hg d1 d2 hby hn hm hlen hT hf0
  go_enter Try.func91, Try.ntmps91
  go_wp2
  go_loopw [6] (fun s6 wr => ∃ (f : Nat) (r1 : Rdr) (P : List Ce), P.length ≤ n ∧ s6 = .int .i64 (P.length : Nat) ∧ Hid (stF l L f r1 P = T) ∧ Hid (l.length - r1.at_ < f) ∧ Hid (r1.at_ ≤ l.length) ∧ Hid (SameR r r1) ∧ Hid (Rc wr p r1) ∧ Hid (Rw wr g (P ++ L.drop P.length)) ∧ Hid (Fr2 p g w wr)) (fun s6 _ => n - (intOf s6).toNat)
  case atStart => exact ⟨f0, r, [], Nat.zero_le _, rfl, HT, HFU0, HLE0, Lib.hid ⟨rfl, rfl, rfl⟩, HP0, HRW0, HF0⟩
  case round =>
    obtain ⟨f, r1, P, hk, rfl, HTf, HFU, HLE, HSM, HPr, HRW, HFR⟩ := hrel
    obtain ⟨f, rfl⟩ : ∃ f', f = f' + 1 := ⟨f - 1, by have := HFU.out; omega⟩
    obtain ⟨k, hkk⟩ : ∃ k, k = P.length := ⟨_, rfl⟩
    have HKK := Lib.hid hkk
    have hq1 := HBY.out wr r1 HFR.out HSM.out
    have HR1 := Lib.hid (show r1.at_ ≤ r1.len ∧ r1.len ≤ 9223372036854775807 ∧ (r1.len : Int) - (r1.at_ : Int) = ((l.length - r1.at_ : Nat) : Int) by have := hq1.len; have := HLE.out; have := HLEN.out; omega)
    by_cases hend : l.length ≤ r1.at_
    · have HZ := Lib.hid (show l.length - r1.at_ = 0 by omega)
      rw [HZ.out] at HR1
      have HE := Lib.hid (show T = some (P ++ L.drop P.length) by rw [← HTf.out, st_end hend])
      have HEL := Lib.hid (show (P ++ L.drop P.length).length = L.length by rw [List.length_append, List.length_drop]; have := HN.out; omega)
      clear hend hk hkk hq1
      go_wp2_with (go_at_call 26; (with_reducible refine (Mf.leftR (m := 0) HPr.out HR1.out.1 HR1.out.2.1 HR1.out.2.2).mono ?_); rintro e w1 ⟨rfl, kk, hkk⟩; have HP1 := Lib.hid (show Rc w1 p r1 by rw [← hkk]; exact HPr.out); have HW1 := Lib.hid (show Rw w1 g (P ++ L.drop P.length) by rw [← hkk]; exact HRW.out); have HF1 := Lib.hid (show Fr2 p g w w1 by rw [← hkk]; exact fr_drew HFR.out kk); clear hkk)
      go_end0
      exact HYES.out _ _ _ HE.out HEL.out HW1.out HP1.out HF1.out
    · obtain ⟨m0, hm0⟩ : ∃ m0, m0 = l.length - r1.at_ := ⟨_, rfl⟩
      have HM0 := Lib.hid (show 0 < m0 by omega)
      rw [← hm0] at HR1
      have i0 : (0 : Int) < (m0 : Int) := by omega
      obtain ⟨m, hLm⟩ : ∃ m, L.length - P.length = m := ⟨_, rfl⟩
      obtain ⟨G, hG, hG2⟩ := num_in l r1 (L.length - P.length)
      have hsg : (sg l L r1 P).1 = (G : Int) := hG
      obtain ⟨j, hj⟩ : ∃ j, j = k + G := ⟨_, rfl⟩
      have hsj : sj l L r1 P = j := by unfold sj; rw [hsg, Int.toNat_natCast, ← hkk, hj]
      obtain ⟨q, hLq⟩ : ∃ q, L.length - j = q := ⟨_, rfl⟩
      obtain ⟨V, hV, hV2⟩ := num_in l (sg l L r1 P).2 (L.length - j)
      have hsu : (su l L r1 P).1 = (V : Int) := by unfold su; rw [hsj]; exact hV
      obtain ⟨t, ht⟩ : ∃ t, t = j + V := ⟨_, rfl⟩
      have HAR := Lib.hid (show m = n - k ∧ j = k + G ∧ q = n - j ∧ t = j + V ∧ t ≤ n ∧ k ≤ n ∧ n ≤ 12000 by have := HN.out; have := HM.out; omega)
      have hs1 : SameR r (sg l L r1 P).2 := same_on HSM.out (num_a l r1 _)
      have hs2 : SameR r (su l L r1 P).2 := same_on hs1 (num_a l _ _)
      have hl1 : (sg l L r1 P).2.at_ ≤ l.length := num_le l r1 _ HLE.out
      have hl2 : (su l L r1 P).2.at_ ≤ l.length := num_le l _ _ hl1
      have hu1 : r1.at_ ≤ (sg l L r1 P).2.at_ := num_up l r1 _
      have hu2 : (sg l L r1 P).2.at_ ≤ (su l L r1 P).2.at_ := num_up l _ _
      have HNUM1 := Lib.hid (fun w1 (h1 : Rc w1 p r1) (hf : Fr2 p g w w1) => (show Calls Try.prog 73 #[.pointer (some ⟨p, 0, none⟩), .int .u64 (m : Int)] w1 (fun e w' => e = .returned (.int .u64 (G : Int)) ∧ Rc w' p (sg l L r1 P).2 ∧ w1.grownBy w' (some p)) from by
        have h := numC (L.length - P.length) l h1 (HBY.out w1 r1 hf HSM.out)
        rw [← hG]
        unfold sg
        rw [hLm] at h ⊢
        exact h))
      have HNUM2 := Lib.hid (fun w1 (h1 : Rc w1 p (sg l L r1 P).2) (hf : Fr2 p g w w1) => (show Calls Try.prog 73 #[.pointer (some ⟨p, 0, none⟩), .int .u64 (q : Int)] w1 (fun e w' => e = .returned (.int .u64 (V : Int)) ∧ Rc w' p (su l L r1 P).2 ∧ w1.grownBy w' (some p)) from by
        have h := numC (L.length - j) l h1 (HBY.out w1 _ hf hs1)
        rw [← hV]
        unfold su
        rw [hsj]
        rw [hLq] at h ⊢
        exact h))
      have HERR := Lib.hid (fun w1 (h1 : Rc w1 p (sg l L r1 P).2) => errC h1)
      have HRD := Lib.hid (fun w1 (h1 : Rc w1 p (su l L r1 P).2) (hf : Fr2 p g w w1) => Od.readAny p (su l L r1 P).2 l (V : Int) w1 h1 (HBY.out w1 _ hf hs2))
      have hsx : sx l L r1 P = if (su l L r1 P).2.err = 0 then runsF l V (V + 1) (su l L r1 P).2 [] else none := by unfold sx; rw [hsu, Int.toNat_natCast]
      have HOKG := Lib.hid (show okG l L r1 P = ((sg l L r1 P).2.err = 0 ∧ (0 < (G : Int) ∨ P.length = 0)) by unfold okG; rw [hsg])
      have HNG := Lib.hid (fun (h : ¬ okG l L r1 P) => (show T = none by rw [← HTf.out, st_noG hend h]))
      have HNX := Lib.hid (fun (h : okG l L r1 P) (h3 : sx l L r1 P = none) => (show T = none by rw [← HTf.out, st_noX hend h h3]))
      have HBX := Lib.hid (fun (h : okG l L r1 P) r3 X (h3 : sx l L r1 P = some (r3, X)) (h4 : ¬ (0 < (V : Int) ∧ cnt false ((L.drop j).take V) X = V)) => (show T = none by
        rw [← HTf.out, st_badX hend h h3 (by unfold okX; rw [hsu, hsj, Int.toNat_natCast]; exact h4)]))
      have HST := Lib.hid (fun (h : okG l L r1 P) r3 X (h3 : sx l L r1 P = some (r3, X)) (h4 : 0 < (V : Int) ∧ cnt false ((L.drop j).take V) X = V) => (show stF l L f r3 (P ++ (L.drop P.length).take G ++ X) = T by
        rw [← HTf.out, st_step hend h h3 (by unfold okX; rw [hsu, hsj, Int.toNat_natCast]; exact h4), hsg, Int.toNat_natCast]))
      have HWR := Lib.hid (wraps n k G V m j q t HAR.out)
      have HDJ := Lib.hid (show (L.drop j).length = q by rw [List.length_drop, hLq])
      have HSU := Lib.hid (show l.length - (su l L r1 P).2.at_ ≤ m0 by omega)
      have HL2 := Lib.hid hl2
      have HSAME := Lib.hid hs2
      have HB8 := Lib.hid hq1.byte
      have HMF := Lib.hid (show m0 ≤ f by have := HFU.out; omega)
      rw [← hkk]
      have HCNT := Lib.hid (fun (gx : Nat) (X : List Ce) w1 (hX : X.length = V) (hr : RB w1 gx X) (hf : Fr2 p g w w1) => countC false (some ⟨b1, o1 + j * 5, none⟩) (some ⟨gx, 0, none⟩) V V (c1 - j) V ((L.drop j).take V) X w1 ⟨by rw [List.length_take, HDJ.out]; have := HAR.out; omega, by have := HC1.out; have := HAR.out; omega, .inr ⟨b1, _, rfl, sca_take (sc_drop (HS.out w1 hf)) (by rw [HDJ.out]; have := HAR.out; omega)⟩⟩ ⟨hX.symm, Nat.le_refl _, .inr ⟨gx, 0, rfl, Oe.rb_sc hr⟩⟩ (Nat.le_refl _) (by have := HAR.out; omega))
      have HSL := Lib.hid (show ∀ X : List Ce, X.length = V → (P ++ L.drop P.length) = (P ++ (L.drop P.length).take G) ++ ((L.drop j).take V) ++ L.drop t ∧ (P ++ (L.drop P.length).take G ++ X).length = t by
        intro X hX
        have hd : (L.drop P.length).drop G = L.drop j := by rw [List.drop_drop, ← hkk, hj]
        have hd2 : (L.drop j).drop V = L.drop t := by rw [List.drop_drop, ht]
        refine ⟨?_, ?_⟩
        · conv => lhs; rw [← List.take_append_drop G (L.drop P.length), hd, ← List.take_append_drop V (L.drop j), hd2]
          simp only [List.append_assoc]
        · simp only [List.length_append, List.length_take, List.length_drop]; have := HN.out; have := HAR.out; omega)
      have HPG := Lib.hid (show (P ++ (L.drop P.length).take G).length = j by simp only [List.length_append, List.length_take, List.length_drop]; have := HN.out; have := HAR.out; omega)
      have HVL := Lib.hid (show ((L.drop j).take V).length = V by rw [List.length_take, HDJ.out]; have := HAR.out; omega)
      generalize (sg l L r1 P).2 = R1 at *
      generalize (su l L r1 P).2 = R2 at *
      clear hsg hsj hsu hs1 hs2 hl1 hl2 hu1 hu2 hend hG hG2 hV hV2 hm0 hq1 hkk hLm hLq hj ht
      by_cases herr : R1.err = 0
      · have HERR2 := herr
        rw [herr] at HERR
        by_cases hg : 0 < G
        · have hok : R1.err = 0 ∧ (0 < (G : Int) ∨ P.length = 0) := ⟨herr, .inl (by omega)⟩
          have i1 : (0 : Int) < (G : Int) := by omega
          clear herr HERR2
          have HOK := Lib.hid (show okG l L r1 P by rw [HOKG.out]; exact hok)
          cases hx : sx l L r1 P with
          | none =>
            have HF := Lib.hid (HNX.out HOK.out hx)
            have HRDN := Lib.hid (fun w1 h1 hf => (HRD.out w1 h1 hf).mono fun e w' hq => rds_no hq (by rw [← hsx, hx]))
            clear hx hok
            obtain ⟨e1, e2, e3, e4, e5, e6, e7, e8, e9, e10, e11, e12⟩ := HWR.out
            go_wp2_with (first
              | (go_at_call 26; (with_reducible refine (Mf.leftR (m := m0) HPr.out HR1.out.1 HR1.out.2.1 HR1.out.2.2).mono ?_); rintro e w1 ⟨rfl, kk, hkw⟩; have HP1 := Lib.hid (show Rc w1 p r1 by rw [← hkw]; exact HPr.out); have HW1 := Lib.hid (show Rw w1 g (P ++ L.drop P.length) by rw [← hkw]; exact HRW.out); have HF1 := Lib.hid (show Fr2 p g w w1 by rw [← hkw]; exact fr_drew HFR.out kk); clear hkw)
              | (go_at_call 73; (with_reducible refine (HNUM1.out _ HP1.out HF1.out).mono ?_); rintro e w2 ⟨rfl, hp, hg⟩; have HP2 := Lib.hid hp; have HW2 := Lib.hid (rw_grown HW1.out hg D3.out); have HF2 := Lib.hid (HF1.out.trans (Fr2.of_p hg)); clear hp hg)
              | (go_at_call 52; (with_reducible refine (HERR.out _ HP2.out).mono ?_); rintro e w' ⟨rfl, rfl⟩)
              | (go_at_call 90; (with_reducible refine (dneed_t _).mono ?_); rintro e w' ⟨rfl, rfl⟩)
              | (go_at_call 73; (with_reducible refine (HNUM2.out _ HP2.out HF2.out).mono ?_); rintro e w3 ⟨rfl, hp, hg⟩; have HP3 := Lib.hid hp; have HW3 := Lib.hid (rw_grown HW2.out hg D3.out); have HF3 := Lib.hid (HF2.out.trans (Fr2.of_p hg)); clear hp hg)
              | (go_at_call 23; (with_reducible refine (HRDN.out _ HP3.out HF3.out).mono ?_); rintro e w4 ⟨rfl, ⟨r4, hp⟩, hg⟩; have HP4 := Lib.hid hp; have HF4 := Lib.hid (HF3.out.trans (Fr2.of_p hg)); clear hp hg)
              | (go_at_call 90; (with_reducible refine (dneed_f _).mono ?_); rintro e w' ⟨rfl, rfl⟩))
            go_wp2
            exact ⟨rfl, HNO.out _ _ HF.out HP4.out HF4.out⟩
          | some y =>
            obtain ⟨r3, X⟩ := y
            have HRDY0 := fun w1 h1 hf => (HRD.out w1 h1 hf).mono fun e w' hq => rds_yes hq (by have := HAR.out; omega) (hsx.symm.trans hx)
            have HRDY1 : X.length = V ∧ True := ⟨len_of HB8.out (hsx.symm.trans hx), trivial⟩
            have HXL := Lib.hid HRDY1.1
            have HRDY := Lib.hid (fun w1 h1 hf => (HRDY0 w1 h1 hf).mono fun e w' hq => hq.2)
            have HXV := Lib.hid (show X.length = ((L.drop j).take V).length by rw [HVL.out]; exact HXL.out)
            clear HRDY0 HRDY1
            by_cases hv : 0 < V
            · by_cases hc : cnt false ((L.drop j).take V) X = V
              · have HT2 := Lib.hid (HST.out HOK.out r3 X hx ⟨by omega, hc⟩)
                have HBK := Lib.hid (show r3.at_ ≤ l.length ∧ l.length - r3.at_ < f ∧ SameR r r3 from next_rdr HB8.out (hsx.symm.trans hx) HXL.out hv HSAME.out HL2.out HSU.out HMF.out)
                have HCX := Lib.hid (show ∀ gx w1, RB w1 gx X → Fr2 p g w w1 → Calls Try.prog 88 #[.slice (some ⟨b1, o1 + j * 5, none⟩) V (c1 - j), .slice (some ⟨gx, 0, none⟩) V V, .bool false] w1 (fun e w' => e = .returned (.int .i64 (V : Int)) ∧ ∃ k, w1.drewN k = w') from fun gx w1 hr hf => by
                  have h := HCNT.out gx X w1 HXL.out hr hf
                  rw [hc] at h; exact h)
                have HMIN := Lib.hid (show X.length = Nat.min V (n - j) by rw [HXL.out]; exact (Nat.min_eq_left (by have := HAR.out; omega)).symm)
                have HKM := Lib.hid (show t ≤ n ∧ n - t < n - k by have := HAR.out; omega)
                have g1 : (0 : Int) < (V : Int) := by omega
                have g2 : j ≤ n := by have := HAR.out; omega
                have g3 : j ≤ c2 := by have := HC2.out; have := HAR.out; omega
                have g4 : ¬ c2 = j := by have := HC2.out; have := HAR.out; omega
                have g5 : (j : Int) ≤ (t : Int) := by have := HAR.out; omega
                have g6 : (t : Int) ≤ (c1 : Int) := by have := HC1.out; have := HAR.out; omega
                have g7 : t ≤ c1 := by have := HC1.out; have := HAR.out; omega
                have g8 : ¬ c1 = j := by have := HC1.out; have := HAR.out; omega
                have g9 : t - j = V := by have := HAR.out; omega
                clear hx hok hc
                obtain ⟨e1, e2, e3, e4, e5, e6, e7, e8, e9, e10, e11, e12⟩ := HWR.out
                go_wp2_with (first
                  | (go_at_call 26; (with_reducible refine (Mf.leftR (m := m0) HPr.out HR1.out.1 HR1.out.2.1 HR1.out.2.2).mono ?_); rintro e w1 ⟨rfl, kk, hkw⟩; have HP1 := Lib.hid (show Rc w1 p r1 by rw [← hkw]; exact HPr.out); have HW1 := Lib.hid (show Rw w1 g (P ++ L.drop P.length) by rw [← hkw]; exact HRW.out); have HF1 := Lib.hid (show Fr2 p g w w1 by rw [← hkw]; exact fr_drew HFR.out kk); clear hkw)
                  | (go_at_call 73; (with_reducible refine (HNUM1.out _ HP1.out HF1.out).mono ?_); rintro e w2 ⟨rfl, hp, hg⟩; have HP2 := Lib.hid hp; have HW2 := Lib.hid (rw_grown HW1.out hg D3.out); have HF2 := Lib.hid (HF1.out.trans (Fr2.of_p hg)); clear hp hg)
                  | (go_at_call 52; (with_reducible refine (HERR.out _ HP2.out).mono ?_); rintro e w' ⟨rfl, rfl⟩)
                  | (go_at_call 90; (with_reducible refine (dneed_t _).mono ?_); rintro e w' ⟨rfl, rfl⟩)
                  | (go_at_call 73; (with_reducible refine (HNUM2.out _ HP2.out HF2.out).mono ?_); rintro e w3 ⟨rfl, hp, hg⟩; have HP3 := Lib.hid hp; have HW3 := Lib.hid (rw_grown HW2.out hg D3.out); have HF3 := Lib.hid (HF2.out.trans (Fr2.of_p hg)); clear hp hg)
                  | (go_at_call 23; (with_reducible refine (HRDY.out _ HP3.out HF3.out).mono ?_); rintro e w4 ⟨gx, rfl, hgs, hr, hp, hg⟩; have HP4 := Lib.hid hp; have HW4 := Lib.hid (rw_grown HW3.out hg D3.out); have HF4 := Lib.hid (HF3.out.trans (Fr2.of_p hg)); have HX4 := Lib.hid hr; have HCN := Lib.hid (HCX.out gx w4 hr HF4.out); clear hp hg hgs hr)
                  | (go_at_call 88; (with_reducible refine HCN.out.mono ?_); rintro e w5 ⟨rfl, kk, hkw⟩; have HP5 := Lib.hid (show Rc w5 p r3 by rw [← hkw]; exact HP4.out); have HW5 := Lib.hid (show Rw w5 g ((P ++ (L.drop P.length).take G) ++ ((L.drop j).take V) ++ L.drop t) by rw [← hkw, ← (HSL.out X HXL.out).1]; exact HW4.out); have HF5 := Lib.hid (show Fr2 p g w w5 by rw [← hkw]; exact fr_drew HF4.out kk); have HX5 := Lib.hid (show RB w5 gx X by rw [← hkw]; exact HX4.out); clear hkw)
                  | (go_at_call 90; (with_reducible refine (dneed_t _).mono ?_); rintro e w' ⟨rfl, rfl⟩)
                  | ((with_reducible refine wpList_copy_rw rfl _ _ rfl _ _ _ _ g gx j (P ++ (L.drop P.length).take G) ((L.drop j).take V) (L.drop t) X HPG.out.symm rfl rfl HW5.out HXV.out ?_ (Oe.rb_sc HX5.out) ?_); (focus (exact HMIN.out)); intro w6 hw hk6 hb6 hz6; have HW6 := Lib.hid hw; have HP6 := Lib.hid (show Rc w6 p r3 from (hk6 p (Ne.symm D3.out)).trans HP5.out); have HF6 := Lib.hid (fr_put HF5.out hk6 (hb6 0 w5 (Nat.zero_le _) (Below.refl _ _)) hz6); clear hw hk6 hb6 hz6))
                first
                  | exact ⟨⟨f, r3, P ++ (L.drop P.length).take G ++ X, by rw [(HSL.out X HXL.out).2]; exact HKM.out.1, by rw [(HSL.out X HXL.out).2], HT2, Lib.hid HBK.out.2.1, Lib.hid HBK.out.1, Lib.hid HBK.out.2.2, HP6, Lib.hid (by rw [(HSL.out X HXL.out).2]; exact HW6.out), HF6⟩, by simp only [intOf]; exact HKM.out.2⟩
                  | (go_roundw
                     · exact ⟨f, r3, P ++ (L.drop P.length).take G ++ X, by rw [(HSL.out X HXL.out).2]; exact HKM.out.1, by rw [(HSL.out X HXL.out).2], HT2, Lib.hid HBK.out.2.1, Lib.hid HBK.out.1, Lib.hid HBK.out.2.2, HP6, Lib.hid (by rw [(HSL.out X HXL.out).2]; exact HW6.out), HF6⟩
                     · simp only [intOf]; exact HKM.out.2)
              · have HF := Lib.hid (HBX.out HOK.out r3 X hx (fun h => hc h.2))
                have g1 : (0 : Int) < (V : Int) := by omega
                have g5 : (j : Int) ≤ (t : Int) := by have := HAR.out; omega
                have g6 : (t : Int) ≤ (c1 : Int) := by have := HC1.out; have := HAR.out; omega
                have g7 : t ≤ c1 := by have := HC1.out; have := HAR.out; omega
                have g8 : ¬ c1 = j := by have := HC1.out; have := HAR.out; omega
                have g9 : t - j = V := by have := HAR.out; omega
                have g10 : ((cnt false ((L.drop j).take V) X : Int) == (V : Int)) = false := by rw [beq_eq_false_iff_ne]; omega
                clear hx hok hc
                obtain ⟨e1, e2, e3, e4, e5, e6, e7, e8, e9, e10, e11, e12⟩ := HWR.out
                go_wp2_with (first
                  | (go_at_call 26; (with_reducible refine (Mf.leftR (m := m0) HPr.out HR1.out.1 HR1.out.2.1 HR1.out.2.2).mono ?_); rintro e w1 ⟨rfl, kk, hkw⟩; have HP1 := Lib.hid (show Rc w1 p r1 by rw [← hkw]; exact HPr.out); have HW1 := Lib.hid (show Rw w1 g (P ++ L.drop P.length) by rw [← hkw]; exact HRW.out); have HF1 := Lib.hid (show Fr2 p g w w1 by rw [← hkw]; exact fr_drew HFR.out kk); clear hkw)
                  | (go_at_call 73; (with_reducible refine (HNUM1.out _ HP1.out HF1.out).mono ?_); rintro e w2 ⟨rfl, hp, hg⟩; have HP2 := Lib.hid hp; have HW2 := Lib.hid (rw_grown HW1.out hg D3.out); have HF2 := Lib.hid (HF1.out.trans (Fr2.of_p hg)); clear hp hg)
                  | (go_at_call 52; (with_reducible refine (HERR.out _ HP2.out).mono ?_); rintro e w' ⟨rfl, rfl⟩)
                  | (go_at_call 90; (with_reducible refine (dneed_t _).mono ?_); rintro e w' ⟨rfl, rfl⟩)
                  | (go_at_call 73; (with_reducible refine (HNUM2.out _ HP2.out HF2.out).mono ?_); rintro e w3 ⟨rfl, hp, hg⟩; have HP3 := Lib.hid hp; have HW3 := Lib.hid (rw_grown HW2.out hg D3.out); have HF3 := Lib.hid (HF2.out.trans (Fr2.of_p hg)); clear hp hg)
                  | (go_at_call 23; (with_reducible refine (HRDY.out _ HP3.out HF3.out).mono ?_); rintro e w4 ⟨gx, rfl, hgs, hr, hp, hg⟩; have HP4 := Lib.hid hp; have HW4 := Lib.hid (rw_grown HW3.out hg D3.out); have HF4 := Lib.hid (HF3.out.trans (Fr2.of_p hg)); have HX4 := Lib.hid hr; have HCN := Lib.hid (HCNT.out gx X w4 HXL.out hr HF4.out); clear hp hg hgs hr)
                  | (go_at_call 88; (with_reducible refine HCN.out.mono ?_); rintro e w5 ⟨rfl, kk, hkw⟩; have HP5 := Lib.hid (show Rc w5 p r3 by rw [← hkw]; exact HP4.out); have HW5 := Lib.hid (show Rw w5 g ((P ++ (L.drop P.length).take G) ++ ((L.drop j).take V) ++ L.drop t) by rw [← hkw, ← (HSL.out X HXL.out).1]; exact HW4.out); have HF5 := Lib.hid (show Fr2 p g w w5 by rw [← hkw]; exact fr_drew HF4.out kk); have HX5 := Lib.hid (show RB w5 gx X by rw [← hkw]; exact HX4.out); clear hkw)
                  | (go_at_call 90; (with_reducible refine (dneed_f _).mono ?_); rintro e w' ⟨rfl, rfl⟩))
                go_wp2
                exact ⟨rfl, HNO.out _ _ HF.out HP5.out HF5.out⟩
            · have HF := Lib.hid (HBX.out HOK.out r3 X hx (fun h => hv (by omega)))
              have g1 : ¬ (0 : Int) < (V : Int) := by omega
              clear hx hok
              obtain ⟨e1, e2, e3, e4, e5, e6, e7, e8, e9, e10, e11, e12⟩ := HWR.out
              go_wp2_with (first
                | (go_at_call 26; (with_reducible refine (Mf.leftR (m := m0) HPr.out HR1.out.1 HR1.out.2.1 HR1.out.2.2).mono ?_); rintro e w1 ⟨rfl, kk, hkw⟩; have HP1 := Lib.hid (show Rc w1 p r1 by rw [← hkw]; exact HPr.out); have HW1 := Lib.hid (show Rw w1 g (P ++ L.drop P.length) by rw [← hkw]; exact HRW.out); have HF1 := Lib.hid (show Fr2 p g w w1 by rw [← hkw]; exact fr_drew HFR.out kk); clear hkw)
                | (go_at_call 73; (with_reducible refine (HNUM1.out _ HP1.out HF1.out).mono ?_); rintro e w2 ⟨rfl, hp, hg⟩; have HP2 := Lib.hid hp; have HW2 := Lib.hid (rw_grown HW1.out hg D3.out); have HF2 := Lib.hid (HF1.out.trans (Fr2.of_p hg)); clear hp hg)
                | (go_at_call 52; (with_reducible refine (HERR.out _ HP2.out).mono ?_); rintro e w' ⟨rfl, rfl⟩)
                | (go_at_call 90; (with_reducible refine (dneed_t _).mono ?_); rintro e w' ⟨rfl, rfl⟩)
                | (go_at_call 73; (with_reducible refine (HNUM2.out _ HP2.out HF2.out).mono ?_); rintro e w3 ⟨rfl, hp, hg⟩; have HP3 := Lib.hid hp; have HW3 := Lib.hid (rw_grown HW2.out hg D3.out); have HF3 := Lib.hid (HF2.out.trans (Fr2.of_p hg)); clear hp hg)
                | (go_at_call 23; (with_reducible refine (HRDY.out _ HP3.out HF3.out).mono ?_); rintro e w4 ⟨gx, rfl, hgs, hr, hp, hg⟩; have HP4 := Lib.hid hp; have HW4 := Lib.hid (rw_grown HW3.out hg D3.out); have HF4 := Lib.hid (HF3.out.trans (Fr2.of_p hg)); have HX4 := Lib.hid hr; have HCN := Lib.hid (HCNT.out gx X w4 HXL.out hr HF4.out); clear hp hg hgs hr)
                | (go_at_call 90; (with_reducible refine (dneed_f _).mono ?_); rintro e w' ⟨rfl, rfl⟩))
              go_wp2
              exact ⟨rfl, HNO.out _ _ HF.out HP4.out HF4.out⟩
        · have i1 : decide ((0 : Int) < (G : Int)) = false := decide_eq_false (by omega)
          have i3 : decide (0 < G) = false := decide_eq_false hg
          by_cases hk0 : k = 0
          · have hok : R1.err = 0 ∧ (0 < (G : Int) ∨ P.length = 0) := ⟨herr, .inr (by have := HKK.out; omega)⟩
            have HOK := Lib.hid (show okG l L r1 P by rw [HOKG.out]; exact hok)
            obtain ⟨a1, a2, a3, a4, a5, a6, a7⟩ := HAR.out
            have z1 : 0 = k := by omega
            have z2 : 0 = G := by omega
            have z3 : n = m := by omega
            have z4 : 0 = j := by omega
            have z5 : n = q := by omega
            have z6 : V = t := by omega
            have hP : P = [] := List.eq_nil_of_length_eq_zero (by have := HKK.out; omega)
            subst hP
            subst z1 z2 z3 z4 z5 z6
            have HN1 := Lib.hid (show ∀ w1, Rc w1 p r1 → Fr2 p g w w1 → Calls Try.prog 73 #[.pointer (some ⟨p, 0, none⟩), .int .u64 (n : Int)] w1 (fun e w' => e = .returned (.int .u64 0) ∧ Rc w' p R1 ∧ w1.grownBy w' (some p)) from HNUM1.out)
            have HWW := Lib.hid (show IntKind.i64.wrap (n : Int) = (n : Int) ∧ wrap64 (n : Int) = (n : Int) ∧ IntKind.u64.wrap (n : Int) = (n : Int) ∧ IntKind.i64.wrap (V : Int) = (V : Int) ∧ wrap64 (V : Int) = (V : Int) from ⟨IntWalk.i64_in _ (by omega), IntWalk.wrap64_in _ (by omega), by rw [IntKind.wrap_u64]; omega, IntWalk.i64_in _ (by omega), IntWalk.wrap64_in _ (by omega)⟩)
            have HVN := Lib.hid a5
            have H12 := Lib.hid a7
            simp only [Nat.zero_mul, Nat.add_zero, Nat.sub_zero, List.drop_zero, List.length_nil, List.take_zero, List.nil_append] at HCNT HSL HVL HBX HST HRW
            clear herr HERR2 hg i1 i3 a1 a2 a3 a4 a5 a6 a7 HNUM1
            cases hx : sx l L r1 [] with
            | none =>
              have HF := Lib.hid (HNX.out HOK.out hx)
              have HRDN := Lib.hid (fun w1 h1 hf => (HRD.out w1 h1 hf).mono fun e w' hq => rds_no hq (by rw [← hsx, hx]))
              clear hx hok
              obtain ⟨e1, e2, e3, e4, e5⟩ := HWW.out
              go_wp2_with (first
                | (go_at_call 26; (with_reducible refine (Mf.leftR (m := m0) HPr.out HR1.out.1 HR1.out.2.1 HR1.out.2.2).mono ?_); rintro e w1 ⟨rfl, kk, hkw⟩; have HP1 := Lib.hid (show Rc w1 p r1 by rw [← hkw]; exact HPr.out); have HW1 := Lib.hid (show Rw w1 g L by rw [← hkw]; exact HRW.out); have HF1 := Lib.hid (show Fr2 p g w w1 by rw [← hkw]; exact fr_drew HFR.out kk); clear hkw)
                | (go_at_call 73; (with_reducible refine (HN1.out _ HP1.out HF1.out).mono ?_); rintro e w2 ⟨rfl, hp, hg⟩; have HP2 := Lib.hid hp; have HW2 := Lib.hid (rw_grown HW1.out hg D3.out); have HF2 := Lib.hid (HF1.out.trans (Fr2.of_p hg)); clear hp hg)
                | (go_at_call 52; (with_reducible refine (HERR.out _ HP2.out).mono ?_); rintro e w' ⟨rfl, rfl⟩)
                | (go_at_call 90; (with_reducible refine (dneed_t _).mono ?_); rintro e w' ⟨rfl, rfl⟩)
                | (go_at_call 73; (with_reducible refine (HNUM2.out _ HP2.out HF2.out).mono ?_); rintro e w3 ⟨rfl, hp, hg⟩; have HP3 := Lib.hid hp; have HW3 := Lib.hid (rw_grown HW2.out hg D3.out); have HF3 := Lib.hid (HF2.out.trans (Fr2.of_p hg)); clear hp hg)
                | (go_at_call 23; (with_reducible refine (HRDN.out _ HP3.out HF3.out).mono ?_); rintro e w4 ⟨rfl, ⟨r4, hp⟩, hg⟩; have HP4 := Lib.hid hp; have HF4 := Lib.hid (HF3.out.trans (Fr2.of_p hg)); clear hp hg)
                | (go_at_call 90; (with_reducible refine (dneed_f _).mono ?_); rintro e w' ⟨rfl, rfl⟩))
              go_wp2
              exact ⟨rfl, HNO.out _ _ HF.out HP4.out HF4.out⟩
            | some y =>
              obtain ⟨r3, X⟩ := y
              have HRDY0 := fun w1 h1 hf => (HRD.out w1 h1 hf).mono fun e w' hq => rds_yes hq (by have := HVN.out; have := H12.out; omega) (hsx.symm.trans hx)
              have HXL := Lib.hid (len_of HB8.out (hsx.symm.trans hx))
              have HRDY := Lib.hid (fun w1 h1 hf => (HRDY0 w1 h1 hf).mono fun e w' hq => hq.2)
              have HXV := Lib.hid (show X.length = (L.take V).length by rw [HVL.out]; exact HXL.out)
              clear HRDY0
              by_cases hv : 0 < V
              · have g1 : (0 : Int) < (V : Int) := by omega
                have g6 : (V : Int) ≤ (c1 : Int) := by have := HC1.out; have := HVN.out; omega
                have g7 : V ≤ c1 := by have := HC1.out; have := HVN.out; omega
                have g8 : ¬ c1 = 0 := by omega
                have g11 : ¬ c2 = 0 := by have := HC2.out; have := HVN.out; omega
                by_cases hc : cnt false (L.take V) X = V
                · have HT2 := Lib.hid (HST.out HOK.out r3 X hx ⟨by omega, hc⟩)
                  have HBK := Lib.hid (show r3.at_ ≤ l.length ∧ l.length - r3.at_ < f ∧ SameR r r3 from next_rdr HB8.out (hsx.symm.trans hx) HXL.out hv HSAME.out HL2.out HSU.out HMF.out)
                  have HCX := Lib.hid (show ∀ gx w1, RB w1 gx X → Fr2 p g w w1 → Calls Try.prog 88 #[.slice (some ⟨b1, o1, none⟩) V c1, .slice (some ⟨gx, 0, none⟩) V V, .bool false] w1 (fun e w' => e = .returned (.int .i64 (V : Int)) ∧ ∃ k, w1.drewN k = w') from fun gx w1 hr hf => by
                    have h := HCNT.out gx X w1 HXL.out hr hf
                    rw [hc] at h; exact h)
                  have HMIN := Lib.hid (show X.length = Nat.min V n by rw [HXL.out]; exact (Nat.min_eq_left HVN.out).symm)
                  have HKM := Lib.hid (show X.length ≤ n ∧ n - X.length < n ∧ (X.length = V) by have := HXL.out; have := HVN.out; omega)
                  clear hx hok hc hv
                  obtain ⟨e1, e2, e3, e4, e5⟩ := HWW.out
                  go_wp2_with (first
                    | (go_at_call 26; (with_reducible refine (Mf.leftR (m := m0) HPr.out HR1.out.1 HR1.out.2.1 HR1.out.2.2).mono ?_); rintro e w1 ⟨rfl, kk, hkw⟩; have HP1 := Lib.hid (show Rc w1 p r1 by rw [← hkw]; exact HPr.out); have HW1 := Lib.hid (show Rw w1 g L by rw [← hkw]; exact HRW.out); have HF1 := Lib.hid (show Fr2 p g w w1 by rw [← hkw]; exact fr_drew HFR.out kk); clear hkw)
                    | (go_at_call 73; (with_reducible refine (HN1.out _ HP1.out HF1.out).mono ?_); rintro e w2 ⟨rfl, hp, hg⟩; have HP2 := Lib.hid hp; have HW2 := Lib.hid (rw_grown HW1.out hg D3.out); have HF2 := Lib.hid (HF1.out.trans (Fr2.of_p hg)); clear hp hg)
                    | (go_at_call 52; (with_reducible refine (HERR.out _ HP2.out).mono ?_); rintro e w' ⟨rfl, rfl⟩)
                    | (go_at_call 90; (with_reducible refine (dneed_t _).mono ?_); rintro e w' ⟨rfl, rfl⟩)
                    | (go_at_call 73; (with_reducible refine (HNUM2.out _ HP2.out HF2.out).mono ?_); rintro e w3 ⟨rfl, hp, hg⟩; have HP3 := Lib.hid hp; have HW3 := Lib.hid (rw_grown HW2.out hg D3.out); have HF3 := Lib.hid (HF2.out.trans (Fr2.of_p hg)); clear hp hg)
                    | (go_at_call 23; (with_reducible refine (HRDY.out _ HP3.out HF3.out).mono ?_); rintro e w4 ⟨gx, rfl, hgs, hr, hp, hg⟩; have HP4 := Lib.hid hp; have HW4 := Lib.hid (rw_grown HW3.out hg D3.out); have HF4 := Lib.hid (HF3.out.trans (Fr2.of_p hg)); have HX4 := Lib.hid hr; have HCN := Lib.hid (HCX.out gx w4 hr HF4.out); clear hp hg hgs hr e1 e2 e3)
                    | (go_at_call 88; (with_reducible refine HCN.out.mono ?_); rintro e w5 ⟨rfl, kk, hkw⟩; have HP5 := Lib.hid (show Rc w5 p r3 by rw [← hkw]; exact HP4.out); have HW5 := Lib.hid (show Rw w5 g (L.take V ++ L.drop V) by rw [← hkw, List.take_append_drop]; exact HW4.out); have HF5 := Lib.hid (show Fr2 p g w w5 by rw [← hkw]; exact fr_drew HF4.out kk); have HX5 := Lib.hid (show RB w5 gx X by rw [← hkw]; exact HX4.out); clear hkw)
                    | (go_at_call 90; (with_reducible refine (dneed_t _).mono ?_); rintro e w' ⟨rfl, rfl⟩)
                    | ((with_reducible refine wpList_copy_rw0 rfl _ _ rfl _ _ _ _ g gx (L.take V) (L.drop V) X rfl rfl HW5.out HXV.out ?_ (Oe.rb_sc HX5.out) ?_); (focus (exact HMIN.out)); intro w6 hw hk6 hb6 hz6; have HW6 := Lib.hid hw; have HP6 := Lib.hid (show Rc w6 p r3 from (hk6 p (Ne.symm D3.out)).trans HP5.out); have HF6 := Lib.hid (fr_put HF5.out hk6 (hb6 0 w5 (Nat.zero_le _) (Below.refl _ _)) hz6); clear hw hk6 hb6 hz6))
                  first
                    | exact ⟨⟨f, r3, X, HKM.out.1, by rw [HKM.out.2.2], HT2, Lib.hid HBK.out.2.1, Lib.hid HBK.out.1, Lib.hid HBK.out.2.2, HP6, Lib.hid (by rw [HKM.out.2.2]; exact HW6.out), HF6⟩, by simp only [intOf]; rw [← HKM.out.2.2]; exact HKM.out.2.1⟩
                    | (go_roundw
                       · exact ⟨f, r3, X, HKM.out.1, by rw [HKM.out.2.2], HT2, Lib.hid HBK.out.2.1, Lib.hid HBK.out.1, Lib.hid HBK.out.2.2, HP6, Lib.hid (by rw [HKM.out.2.2]; exact HW6.out), HF6⟩
                       · simp only [intOf]; rw [← HKM.out.2.2]; exact HKM.out.2.1)
                · have HF := Lib.hid (HBX.out HOK.out r3 X hx (fun h => hc h.2))
                  have g10 : ((cnt false (L.take V) X : Int) == (V : Int)) = false := by rw [beq_eq_false_iff_ne]; omega
                  clear hx hok hc hv
                  obtain ⟨e1, e2, e3, e4, e5⟩ := HWW.out
                  go_wp2_with (first
                    | (go_at_call 26; (with_reducible refine (Mf.leftR (m := m0) HPr.out HR1.out.1 HR1.out.2.1 HR1.out.2.2).mono ?_); rintro e w1 ⟨rfl, kk, hkw⟩; have HP1 := Lib.hid (show Rc w1 p r1 by rw [← hkw]; exact HPr.out); have HW1 := Lib.hid (show Rw w1 g L by rw [← hkw]; exact HRW.out); have HF1 := Lib.hid (show Fr2 p g w w1 by rw [← hkw]; exact fr_drew HFR.out kk); clear hkw)
                    | (go_at_call 73; (with_reducible refine (HN1.out _ HP1.out HF1.out).mono ?_); rintro e w2 ⟨rfl, hp, hg⟩; have HP2 := Lib.hid hp; have HW2 := Lib.hid (rw_grown HW1.out hg D3.out); have HF2 := Lib.hid (HF1.out.trans (Fr2.of_p hg)); clear hp hg)
                    | (go_at_call 52; (with_reducible refine (HERR.out _ HP2.out).mono ?_); rintro e w' ⟨rfl, rfl⟩)
                    | (go_at_call 90; (with_reducible refine (dneed_t _).mono ?_); rintro e w' ⟨rfl, rfl⟩)
                    | (go_at_call 73; (with_reducible refine (HNUM2.out _ HP2.out HF2.out).mono ?_); rintro e w3 ⟨rfl, hp, hg⟩; have HP3 := Lib.hid hp; have HW3 := Lib.hid (rw_grown HW2.out hg D3.out); have HF3 := Lib.hid (HF2.out.trans (Fr2.of_p hg)); clear hp hg)
                    | (go_at_call 23; (with_reducible refine (HRDY.out _ HP3.out HF3.out).mono ?_); rintro e w4 ⟨gx, rfl, hgs, hr, hp, hg⟩; have HP4 := Lib.hid hp; have HW4 := Lib.hid (rw_grown HW3.out hg D3.out); have HF4 := Lib.hid (HF3.out.trans (Fr2.of_p hg)); have HX4 := Lib.hid hr; have HCN := Lib.hid (HCNT.out gx X w4 HXL.out hr HF4.out); clear hp hg hgs hr e1 e2 e3)
                    | (go_at_call 88; (with_reducible refine HCN.out.mono ?_); rintro e w5 ⟨rfl, kk, hkw⟩; have HP5 := Lib.hid (show Rc w5 p r3 by rw [← hkw]; exact HP4.out); have HW5 := Lib.hid (show Rw w5 g (L.take V ++ L.drop V) by rw [← hkw, List.take_append_drop]; exact HW4.out); have HF5 := Lib.hid (show Fr2 p g w w5 by rw [← hkw]; exact fr_drew HF4.out kk); have HX5 := Lib.hid (show RB w5 gx X by rw [← hkw]; exact HX4.out); clear hkw)
                    | (go_at_call 90; (with_reducible refine (dneed_f _).mono ?_); rintro e w' ⟨rfl, rfl⟩))
                  go_wp2
                  exact ⟨rfl, HNO.out _ _ HF.out HP5.out HF5.out⟩
              · have HF := Lib.hid (HBX.out HOK.out r3 X hx (fun h => hv (by omega)))
                have g1 : ¬ (0 : Int) < (V : Int) := by omega
                clear hx hok hv
                obtain ⟨e1, e2, e3, e4, e5⟩ := HWW.out
                go_wp2_with (first
                  | (go_at_call 26; (with_reducible refine (Mf.leftR (m := m0) HPr.out HR1.out.1 HR1.out.2.1 HR1.out.2.2).mono ?_); rintro e w1 ⟨rfl, kk, hkw⟩; have HP1 := Lib.hid (show Rc w1 p r1 by rw [← hkw]; exact HPr.out); have HW1 := Lib.hid (show Rw w1 g L by rw [← hkw]; exact HRW.out); have HF1 := Lib.hid (show Fr2 p g w w1 by rw [← hkw]; exact fr_drew HFR.out kk); clear hkw)
                  | (go_at_call 73; (with_reducible refine (HN1.out _ HP1.out HF1.out).mono ?_); rintro e w2 ⟨rfl, hp, hg⟩; have HP2 := Lib.hid hp; have HW2 := Lib.hid (rw_grown HW1.out hg D3.out); have HF2 := Lib.hid (HF1.out.trans (Fr2.of_p hg)); clear hp hg)
                  | (go_at_call 52; (with_reducible refine (HERR.out _ HP2.out).mono ?_); rintro e w' ⟨rfl, rfl⟩)
                  | (go_at_call 90; (with_reducible refine (dneed_t _).mono ?_); rintro e w' ⟨rfl, rfl⟩)
                  | (go_at_call 73; (with_reducible refine (HNUM2.out _ HP2.out HF2.out).mono ?_); rintro e w3 ⟨rfl, hp, hg⟩; have HP3 := Lib.hid hp; have HW3 := Lib.hid (rw_grown HW2.out hg D3.out); have HF3 := Lib.hid (HF2.out.trans (Fr2.of_p hg)); clear hp hg)
                  | (go_at_call 23; (with_reducible refine (HRDY.out _ HP3.out HF3.out).mono ?_); rintro e w4 ⟨gx, rfl, hgs, hr, hp, hg⟩; have HP4 := Lib.hid hp; have HW4 := Lib.hid (rw_grown HW3.out hg D3.out); have HF4 := Lib.hid (HF3.out.trans (Fr2.of_p hg)); have HX4 := Lib.hid hr; have HCN := Lib.hid (HCNT.out gx X w4 HXL.out hr HF4.out); clear hp hg hgs hr e1 e2 e3)
                  | (go_at_call 90; (with_reducible refine (dneed_f _).mono ?_); rintro e w' ⟨rfl, rfl⟩))
                go_wp2
                exact ⟨rfl, HNO.out _ _ HF.out HP4.out HF4.out⟩
          · have i2 : ((k : Int) == 0) = false := by rw [beq_eq_false_iff_ne]; omega
            have HF := Lib.hid (HNG.out (by rw [HOKG.out]; rintro ⟨_, h⟩; have := HKK.out; omega))
            clear herr HERR2 hg hk0
            obtain ⟨e1, e2, e3, e4, e5, _⟩ := HWR.out
            go_wp2_with (first
              | (go_at_call 26; (with_reducible refine (Mf.leftR (m := m0) HPr.out HR1.out.1 HR1.out.2.1 HR1.out.2.2).mono ?_); rintro e w1 ⟨rfl, kk, hkw⟩; have HP1 := Lib.hid (show Rc w1 p r1 by rw [← hkw]; exact HPr.out); have HW1 := Lib.hid (show Rw w1 g (P ++ L.drop P.length) by rw [← hkw]; exact HRW.out); have HF1 := Lib.hid (show Fr2 p g w w1 by rw [← hkw]; exact fr_drew HFR.out kk); clear hkw)
              | (go_at_call 73; (with_reducible refine (HNUM1.out _ HP1.out HF1.out).mono ?_); rintro e w2 ⟨rfl, hp, hg⟩; have HP2 := Lib.hid hp; have HW2 := Lib.hid (rw_grown HW1.out hg D3.out); have HF2 := Lib.hid (HF1.out.trans (Fr2.of_p hg)); clear hp hg)
              | (go_at_call 52; (with_reducible refine (HERR.out _ HP2.out).mono ?_); rintro e w' ⟨rfl, rfl⟩)
              | (go_at_call 90; (with_reducible refine (dneed_f _).mono ?_); rintro e w' ⟨rfl, rfl⟩))
            go_wp2
            exact ⟨rfl, HNO.out _ _ HF.out HP2.out HF2.out⟩
      · have i1 : (R1.err == 0) = false := by rw [beq_eq_false_iff_ne]; exact herr
        have HF := Lib.hid (HNG.out (by rw [HOKG.out]; rintro ⟨h, _⟩; exact herr h))
        clear herr
        obtain ⟨e1, e2, e3, e4, e5, e6, e7, e8, e9, e10, e11, e12⟩ := HWR.out
        go_wp2_with (first
          | (go_at_call 26; (with_reducible refine (Mf.leftR (m := m0) HPr.out HR1.out.1 HR1.out.2.1 HR1.out.2.2).mono ?_); rintro e w1 ⟨rfl, kk, hkw⟩; have HP1 := Lib.hid (show Rc w1 p r1 by rw [← hkw]; exact HPr.out); have HW1 := Lib.hid (show Rw w1 g (P ++ L.drop P.length) by rw [← hkw]; exact HRW.out); have HF1 := Lib.hid (show Fr2 p g w w1 by rw [← hkw]; exact fr_drew HFR.out kk); clear hkw)
          | (go_at_call 73; (with_reducible refine (HNUM1.out _ HP1.out HF1.out).mono ?_); rintro e w2 ⟨rfl, hp, hg⟩; have HP2 := Lib.hid hp; have HW2 := Lib.hid (rw_grown HW1.out hg D3.out); have HF2 := Lib.hid (HF1.out.trans (Fr2.of_p hg)); clear hp hg)
          | (go_at_call 52; (with_reducible refine (HERR.out _ HP2.out).mono ?_); rintro e w' ⟨rfl, rfl⟩)
          | (go_at_call 90; (with_reducible refine (dneed_f _).mono ?_); rintro e w' ⟨rfl, rfl⟩))
        go_wp2
        exact ⟨rfl, HNO.out _ _ HF.out HP2.out HF2.out⟩
end Go.Proofs.Ytfogbokifbjjlaa.Dg
/- What diff reads: another screen (diff.another). -/
set_option linter.unusedVariables false
namespace Go.Proofs.Ytfogbokifbjjlaa.Dh
open Go Go.RowKit Kit Gm Gv Crc Var Get Bytes WireFirst Ref3 Copy Ap Sa Sb Sd Rd RdA La Lb Ld Oe Of Na Nb Tk Pb Da Db Df Dg

/-- diff's own fault, below. -/
def DP (w : World) (e : Ending) (w' : World) : Prop := e = .panicked [{ v := dfault, recovered := false }] ∧ Below w.heap.size w w'
theorem dP {w w' : World} (h : Below w.heap.size w w') : DP w (.panicked [{ v := dfault, recovered := false }]) w' := ⟨rfl, h⟩
set_option maxRecDepth 100000 in
set_option maxHeartbeats 4000000 in
theorem other_none (R C row col : Int) (hid : Bool) (ti : ByteArray) (a1 : Option Addr) (n1 c1 : Nat) (b : Option Addr) (m cb : Nat) (l : List Nat) (W : World) (hm : m = l.length) (hm3 : l.length ≤ 1000000) (h8 : ∀ c ∈ l, c < 256) (hl : Sl W b l) (hb0 : b = none → cb = 0) (hd : ¬ ∃ t M, EncS l t M) :
    Calls Try.prog 89 #[svA ⟨R, C, row, col, hid, ti⟩ a1 n1 c1, .slice b m cb] W (DP W) := by
  have hb := below_two W (svO ⟨R, C, row, col, hid, ti⟩ a1 n1 c1) sO0
  obtain ⟨hA, hZ⟩ := two_heap W (svO ⟨R, C, row, col, hid, ti⟩ a1 n1 c1) sO0
  obtain ⟨x0, x1, x2, x3, x4, x5, x6⟩ := seven hA
  dsimp only [svO] at hb hZ x0 x1 x2 x3 x4 x5 x6
  generalize hw0 : (W.alloc (.cells #[.int .i64 R, .int .i64 C, .slice a1 n1 c1, .int .i64 row, .int .i64 col, .bool hid, .string ti] 24)).alloc (.cells #[.int .i64 0, .int .i64 0, .slice none 0 0, .int .i64 0, .int .i64 0, .bool false, .string ⟨#[]⟩] 24) = w0 at *
  have HB0 := Lib.hid hb
  have HZ0 := Lib.hid hZ
  have HSZ := Lib.hid (show W.heap.size + 1 < w0.heap.size from (Array.getElem?_eq_some_iff.1 hZ).1)
  have HD := Lib.hid (fun w1 (hb : Below W.heap.size W w1) => dec_none b m cb l w1 hm hm3 h8 (sl_then hb (Nat.le_refl _) hl) hb0 hd)
  clear hb hA hZ hm hm3 h8 hl hb0 hd
  go_enter Try.func89, Try.ntmps89
  go_wp2_with (first
    | (go_at_call 19; (with_reducible refine (HD.out w0 HB0.out).mono ?_); rintro e w1 ⟨rfl, hb⟩; have HB1 := Lib.hid (below_then HB0.out hb HB0.out.size); replace x0 := cell_then hb (Nat.le_refl _) x0; replace x1 := cell_then hb (Nat.le_refl _) x1; replace x2 := cell_then hb (Nat.le_refl _) x2; replace x3 := cell_then hb (Nat.le_refl _) x3; replace x4 := cell_then hb (Nat.le_refl _) x4; replace x5 := cell_then hb (Nat.le_refl _) x5; replace x6 := cell_then hb (Nat.le_refl _) x6; have HZ1 := Lib.hid (heap_alloc_last w1 sO0); clear hb )
    | ((with_reducible refine wpList_store_sc rfl _ _ rfl w1.heap.size ⟨0, 0, 0, 0, false, ⟨#[]⟩⟩ none 0 0 _ rfl rfl HZ1.out rfl ?_); intro w2 hs hb0 hk hz; have hb := hb0 _ _ (Nat.le_refl _) (below_one w1 sO0); have HB2 := Lib.hid (below_then HB1.out hb HB1.out.size); replace x0 := cell_then hb (Nat.le_refl _) x0; replace x1 := cell_then hb (Nat.le_refl _) x1; replace x2 := cell_then hb (Nat.le_refl _) x2; replace x3 := cell_then hb (Nat.le_refl _) x3; replace x4 := cell_then hb (Nat.le_refl _) x4; replace x5 := cell_then hb (Nat.le_refl _) x5; replace x6 := cell_then hb (Nat.le_refl _) x6; clear hs hb0 hk hz hb)
    | (go_at_call 90; (with_reducible refine (dneed_f _).mono ?_); rintro e w' ⟨rfl, rfl⟩))
  go_wp2
  exact ⟨rfl, dP HB2.out⟩
theorem dec_selfG (a : Option Addr) (n cap : Nat) (l : List Nat) (w : World) (hn : n = l.length) (hm : l.length ≤ 1000000) (h8 : ∀ c ∈ l, c < 256) (hs : Sl w a l) (h0 : a = none → cap = 0) {s : Scr} {L : List Ce} (he : EncS l s L) :
    Calls Try.prog 19 #[.slice a n cap] w fun e w' => ∃ g, e = .returned (.tuple #[svA s (some ⟨g, 0, none⟩) L.length L.length, .int .i64 0]) ∧ w.heap.size ≤ g ∧ RB w' g L ∧ Below w.heap.size w w' :=
  (decC a n cap l w hn hm h8 hs h0).mono fun e w' hq => by
    rcases hq with ⟨t, M, g, h1, h2, h3, h4, h5⟩ | ⟨h1, _⟩
    · obtain ⟨rfl, rfl⟩ := encS_one h1 he
      exact ⟨g, h2, h3, h4, h5⟩
    · exact absurd ⟨s, L, he⟩ h1
set_option maxRecDepth 100000 in
set_option maxHeartbeats 4000000 in
theorem other_same (R C row col : Int) (hid : Bool) (ti : ByteArray) (a1 : Option Addr) (n1 c1 : Nat) (b : Option Addr) (m cb : Nat) (l : List Nat) (W : World) (hm : m = l.length) (hm3 : l.length ≤ 1000000) (h8 : ∀ c ∈ l, c < 256) (hl : Sl W b l) (hb0 : b = none → cb = 0) (R2 C2 row2 col2 : Int) (hid2 : Bool) (ti2 : ByteArray) (M : List Ce) (hd : EncS l ⟨R2, C2, row2, col2, hid2, ti2⟩ M) (hr : R = R2) (hc : C = C2) :
    Calls Try.prog 89 #[svA ⟨R, C, row, col, hid, ti⟩ a1 n1 c1, .slice b m cb] W (DP W) := by
  have hb := below_two W (svO ⟨R, C, row, col, hid, ti⟩ a1 n1 c1) sO0
  obtain ⟨hA, hZ⟩ := two_heap W (svO ⟨R, C, row, col, hid, ti⟩ a1 n1 c1) sO0
  obtain ⟨x0, x1, x2, x3, x4, x5, x6⟩ := seven hA
  dsimp only [svO] at hb hZ x0 x1 x2 x3 x4 x5 x6
  generalize hw0 : (W.alloc (.cells #[.int .i64 R, .int .i64 C, .slice a1 n1 c1, .int .i64 row, .int .i64 col, .bool hid, .string ti] 24)).alloc (.cells #[.int .i64 0, .int .i64 0, .slice none 0 0, .int .i64 0, .int .i64 0, .bool false, .string ⟨#[]⟩] 24) = w0 at *
  have HB0 := Lib.hid hb
  have HZ0 := Lib.hid hZ
  have HSZ := Lib.hid (show W.heap.size + 1 < w0.heap.size from (Array.getElem?_eq_some_iff.1 hZ).1)
  have HD := Lib.hid (fun w1 (hb : Below W.heap.size W w1) => dec_selfG b m cb l w1 hm hm3 h8 (sl_then hb (Nat.le_refl _) hl) hb0 hd)
  subst hr hc
  clear hb hA hZ hm hm3 h8 hl hb0 hd
  go_enter Try.func89, Try.ntmps89
  go_wp2_with (first
    | (go_at_call 19; (with_reducible refine (HD.out w0 HB0.out).mono ?_); rintro e w1 ⟨g, rfl, hgs, hr, hb⟩; have HB1 := Lib.hid (below_then HB0.out hb HB0.out.size); replace x0 := cell_then hb (Nat.le_refl _) x0; replace x1 := cell_then hb (Nat.le_refl _) x1; replace x2 := cell_then hb (Nat.le_refl _) x2; replace x3 := cell_then hb (Nat.le_refl _) x3; replace x4 := cell_then hb (Nat.le_refl _) x4; replace x5 := cell_then hb (Nat.le_refl _) x5; replace x6 := cell_then hb (Nat.le_refl _) x6; have G_1 := Lib.hid hr; have HZ1 := Lib.hid (heap_alloc_last w1 sO0); have HZZ := Lib.hid ((hb.block _ (Array.getElem?_eq_some_iff.1 HZ0.out).1).trans HZ0.out); have HGS := Lib.hid hgs; clear hb hgs hr)
    | ((with_reducible refine wpList_store_sc rfl _ _ rfl w1.heap.size ⟨R, C, row2, col2, hid2, ti2⟩ (some ⟨g, 0, none⟩) M.length M.length _ rfl rfl HZ1.out rfl ?_); intro w2 hs hb0 hk hz; have hb := hb0 _ _ (Nat.le_refl _) (below_one w1 sO0); have HB2 := Lib.hid (below_then HB1.out hb HB1.out.size); replace x0 := cell_then hb (Nat.le_refl _) x0; replace x1 := cell_then hb (Nat.le_refl _) x1; replace x2 := cell_then hb (Nat.le_refl _) x2; replace x3 := cell_then hb (Nat.le_refl _) x3; replace x4 := cell_then hb (Nat.le_refl _) x4; replace x5 := cell_then hb (Nat.le_refl _) x5; replace x6 := cell_then hb (Nat.le_refl _) x6; have G_2 := Lib.hid (rbT hb G_1.out); obtain ⟨y0, y1, y2, y3, y4, y5, y6⟩ := seven hs; (dsimp only at y0 y1 y2 y3 y4 y5 y6); have HZ3 := Lib.hid ((hb.block _ (Array.getElem?_eq_some_iff.1 HZZ.out).1).trans HZZ.out); clear hs hb0 hk hz hb)
    | (go_at_call 90; (with_reducible refine (dneed_f _).mono ?_); rintro e w' ⟨rfl, rfl⟩))
  go_wp2
  exact ⟨rfl, dP HB2.out⟩
set_option maxRecDepth 100000 in
set_option maxHeartbeats 4000000 in
theorem other_r (R C row col : Int) (hid : Bool) (ti : ByteArray) (a1 : Option Addr) (n1 c1 : Nat) (b : Option Addr) (m cb : Nat) (l : List Nat) (W : World) (hm : m = l.length) (hm3 : l.length ≤ 1000000) (h8 : ∀ c ∈ l, c < 256) (hl : Sl W b l) (hb0 : b = none → cb = 0) (R2 C2 row2 col2 : Int) (hid2 : Bool) (ti2 : ByteArray) (M : List Ce) (hd : EncS l ⟨R2, C2, row2, col2, hid2, ti2⟩ M) (hr : ¬ R = R2) :
    Calls Try.prog 89 #[svA ⟨R, C, row, col, hid, ti⟩ a1 n1 c1, .slice b m cb] W fun e w' => ∃ g, e = .returned (svA ⟨R2, C2, row2, col2, hid2, ti2⟩ (some ⟨g, 0, none⟩) M.length M.length) ∧ W.heap.size ≤ g ∧ RB w' g M ∧ Below W.heap.size W w' := by
  have hb := below_two W (svO ⟨R, C, row, col, hid, ti⟩ a1 n1 c1) sO0
  obtain ⟨hA, hZ⟩ := two_heap W (svO ⟨R, C, row, col, hid, ti⟩ a1 n1 c1) sO0
  obtain ⟨x0, x1, x2, x3, x4, x5, x6⟩ := seven hA
  dsimp only [svO] at hb hZ x0 x1 x2 x3 x4 x5 x6
  generalize hw0 : (W.alloc (.cells #[.int .i64 R, .int .i64 C, .slice a1 n1 c1, .int .i64 row, .int .i64 col, .bool hid, .string ti] 24)).alloc (.cells #[.int .i64 0, .int .i64 0, .slice none 0 0, .int .i64 0, .int .i64 0, .bool false, .string ⟨#[]⟩] 24) = w0 at *
  have HB0 := Lib.hid hb
  have HZ0 := Lib.hid hZ
  have HSZ := Lib.hid (show W.heap.size + 1 < w0.heap.size from (Array.getElem?_eq_some_iff.1 hZ).1)
  have HD := Lib.hid (fun w1 (hb : Below W.heap.size W w1) => dec_selfG b m cb l w1 hm hm3 h8 (sl_then hb (Nat.le_refl _) hl) hb0 hd)
  have d1 : (R != R2) = true := by rw [bne_iff_ne]; exact hr
  clear hb hA hZ hm hm3 h8 hl hb0 hd hr
  go_enter Try.func89, Try.ntmps89
  go_wp2_with (first
    | (go_at_call 19; (with_reducible refine (HD.out w0 HB0.out).mono ?_); rintro e w1 ⟨g, rfl, hgs, hr, hb⟩; have HB1 := Lib.hid (below_then HB0.out hb HB0.out.size); replace x0 := cell_then hb (Nat.le_refl _) x0; replace x1 := cell_then hb (Nat.le_refl _) x1; replace x2 := cell_then hb (Nat.le_refl _) x2; replace x3 := cell_then hb (Nat.le_refl _) x3; replace x4 := cell_then hb (Nat.le_refl _) x4; replace x5 := cell_then hb (Nat.le_refl _) x5; replace x6 := cell_then hb (Nat.le_refl _) x6; have G_1 := Lib.hid hr; have HZ1 := Lib.hid (heap_alloc_last w1 sO0); have HZZ := Lib.hid ((hb.block _ (Array.getElem?_eq_some_iff.1 HZ0.out).1).trans HZ0.out); have HGS := Lib.hid hgs; clear hb hgs hr)
    | ((with_reducible refine wpList_store_sc rfl _ _ rfl w1.heap.size ⟨R2, C2, row2, col2, hid2, ti2⟩ (some ⟨g, 0, none⟩) M.length M.length _ rfl rfl HZ1.out rfl ?_); intro w2 hs hb0 hk hz; have hb := hb0 _ _ (Nat.le_refl _) (below_one w1 sO0); have HB2 := Lib.hid (below_then HB1.out hb HB1.out.size); replace x0 := cell_then hb (Nat.le_refl _) x0; replace x1 := cell_then hb (Nat.le_refl _) x1; replace x2 := cell_then hb (Nat.le_refl _) x2; replace x3 := cell_then hb (Nat.le_refl _) x3; replace x4 := cell_then hb (Nat.le_refl _) x4; replace x5 := cell_then hb (Nat.le_refl _) x5; replace x6 := cell_then hb (Nat.le_refl _) x6; have G_2 := Lib.hid (rbT hb G_1.out); obtain ⟨y0, y1, y2, y3, y4, y5, y6⟩ := seven hs; (dsimp only at y0 y1 y2 y3 y4 y5 y6); have HZ3 := Lib.hid ((hb.block _ (Array.getElem?_eq_some_iff.1 HZZ.out).1).trans HZZ.out); clear hs hb0 hk hz hb)
    | (go_at_call 90; (with_reducible refine (dneed_t _).mono ?_); rintro e w' ⟨rfl, rfl⟩)
    | ((with_reducible refine wpList_store_sc rfl _ _ rfl (W.heap.size + 1) ⟨R2, C2, row2, col2, hid2, ti2⟩ (some ⟨g, 0, none⟩) M.length M.length _ rfl rfl HZ3.out rfl ?_); intro w3 hs hb hk hz; obtain ⟨z0, z1, z2, z3, z4, z5, z6⟩ := seven hs; (dsimp only at z0 z1 z2 z3 z4 z5 z6); have HB3 := Lib.hid (hb _ _ (Nat.le_succ _) HB2.out); have HR3 := Lib.hid (show RB w3 g M from (hk _ (Nat.ne_of_gt (Nat.lt_of_lt_of_le HSZ.out HGS.out))).trans G_2.out); clear hs hb hk hz))
  refine bodyPost_ret (v := svA ⟨R2, C2, row2, col2, hid2, ti2⟩ (some ⟨g, 0, none⟩) M.length M.length) (by simp [results, Try.results89, go_sem, z0, z1, z2, z3, z4, z5, z6]) rfl ?_
  exact ⟨g, rfl, Nat.le_trans HB0.out.size HGS.out, HR3.out, HB3.out⟩
set_option maxRecDepth 100000 in
set_option maxHeartbeats 4000000 in
theorem other_c (R C row col : Int) (hid : Bool) (ti : ByteArray) (a1 : Option Addr) (n1 c1 : Nat) (b : Option Addr) (m cb : Nat) (l : List Nat) (W : World) (hm : m = l.length) (hm3 : l.length ≤ 1000000) (h8 : ∀ c ∈ l, c < 256) (hl : Sl W b l) (hb0 : b = none → cb = 0) (R2 C2 row2 col2 : Int) (hid2 : Bool) (ti2 : ByteArray) (M : List Ce) (hd : EncS l ⟨R2, C2, row2, col2, hid2, ti2⟩ M) (hr : R = R2) (hc : ¬ C = C2) :
    Calls Try.prog 89 #[svA ⟨R, C, row, col, hid, ti⟩ a1 n1 c1, .slice b m cb] W fun e w' => ∃ g, e = .returned (svA ⟨R2, C2, row2, col2, hid2, ti2⟩ (some ⟨g, 0, none⟩) M.length M.length) ∧ W.heap.size ≤ g ∧ RB w' g M ∧ Below W.heap.size W w' := by
  have hb := below_two W (svO ⟨R, C, row, col, hid, ti⟩ a1 n1 c1) sO0
  obtain ⟨hA, hZ⟩ := two_heap W (svO ⟨R, C, row, col, hid, ti⟩ a1 n1 c1) sO0
  obtain ⟨x0, x1, x2, x3, x4, x5, x6⟩ := seven hA
  dsimp only [svO] at hb hZ x0 x1 x2 x3 x4 x5 x6
  generalize hw0 : (W.alloc (.cells #[.int .i64 R, .int .i64 C, .slice a1 n1 c1, .int .i64 row, .int .i64 col, .bool hid, .string ti] 24)).alloc (.cells #[.int .i64 0, .int .i64 0, .slice none 0 0, .int .i64 0, .int .i64 0, .bool false, .string ⟨#[]⟩] 24) = w0 at *
  have HB0 := Lib.hid hb
  have HZ0 := Lib.hid hZ
  have HSZ := Lib.hid (show W.heap.size + 1 < w0.heap.size from (Array.getElem?_eq_some_iff.1 hZ).1)
  have HD := Lib.hid (fun w1 (hb : Below W.heap.size W w1) => dec_selfG b m cb l w1 hm hm3 h8 (sl_then hb (Nat.le_refl _) hl) hb0 hd)
  subst hr
  have d1 : (C != C2) = true := by rw [bne_iff_ne]; exact hc
  clear hb hA hZ hm hm3 h8 hl hb0 hd hc
  go_enter Try.func89, Try.ntmps89
  go_wp2_with (first
    | (go_at_call 19; (with_reducible refine (HD.out w0 HB0.out).mono ?_); rintro e w1 ⟨g, rfl, hgs, hr, hb⟩; have HB1 := Lib.hid (below_then HB0.out hb HB0.out.size); replace x0 := cell_then hb (Nat.le_refl _) x0; replace x1 := cell_then hb (Nat.le_refl _) x1; replace x2 := cell_then hb (Nat.le_refl _) x2; replace x3 := cell_then hb (Nat.le_refl _) x3; replace x4 := cell_then hb (Nat.le_refl _) x4; replace x5 := cell_then hb (Nat.le_refl _) x5; replace x6 := cell_then hb (Nat.le_refl _) x6; have G_1 := Lib.hid hr; have HZ1 := Lib.hid (heap_alloc_last w1 sO0); have HZZ := Lib.hid ((hb.block _ (Array.getElem?_eq_some_iff.1 HZ0.out).1).trans HZ0.out); have HGS := Lib.hid hgs; clear hb hgs hr)
    | ((with_reducible refine wpList_store_sc rfl _ _ rfl w1.heap.size ⟨R, C2, row2, col2, hid2, ti2⟩ (some ⟨g, 0, none⟩) M.length M.length _ rfl rfl HZ1.out rfl ?_); intro w2 hs hb0 hk hz; have hb := hb0 _ _ (Nat.le_refl _) (below_one w1 sO0); have HB2 := Lib.hid (below_then HB1.out hb HB1.out.size); replace x0 := cell_then hb (Nat.le_refl _) x0; replace x1 := cell_then hb (Nat.le_refl _) x1; replace x2 := cell_then hb (Nat.le_refl _) x2; replace x3 := cell_then hb (Nat.le_refl _) x3; replace x4 := cell_then hb (Nat.le_refl _) x4; replace x5 := cell_then hb (Nat.le_refl _) x5; replace x6 := cell_then hb (Nat.le_refl _) x6; have G_2 := Lib.hid (rbT hb G_1.out); obtain ⟨y0, y1, y2, y3, y4, y5, y6⟩ := seven hs; (dsimp only at y0 y1 y2 y3 y4 y5 y6); have HZ3 := Lib.hid ((hb.block _ (Array.getElem?_eq_some_iff.1 HZZ.out).1).trans HZZ.out); clear hs hb0 hk hz hb)
    | (go_at_call 90; (with_reducible refine (dneed_t _).mono ?_); rintro e w' ⟨rfl, rfl⟩)
    | ((with_reducible refine wpList_store_sc rfl _ _ rfl (W.heap.size + 1) ⟨R, C2, row2, col2, hid2, ti2⟩ (some ⟨g, 0, none⟩) M.length M.length _ rfl rfl HZ3.out rfl ?_); intro w3 hs hb hk hz; obtain ⟨z0, z1, z2, z3, z4, z5, z6⟩ := seven hs; (dsimp only at z0 z1 z2 z3 z4 z5 z6); have HB3 := Lib.hid (hb _ _ (Nat.le_succ _) HB2.out); have HR3 := Lib.hid (show RB w3 g M from (hk _ (Nat.ne_of_gt (Nat.lt_of_lt_of_le HSZ.out HGS.out))).trans G_2.out); clear hs hb hk hz))
  refine bodyPost_ret (v := svA ⟨R, C2, row2, col2, hid2, ti2⟩ (some ⟨g, 0, none⟩) M.length M.length) (by simp [results, Try.results89, go_sem, z0, z1, z2, z3, z4, z5, z6]) rfl ?_
  exact ⟨g, rfl, Nat.le_trans HB0.out.size HGS.out, HR3.out, HB3.out⟩
end Go.Proofs.Ytfogbokifbjjlaa.Dh
/- What diff reads (diff.apply). -/
set_option linter.unusedVariables false
namespace Go.Proofs.Ytfogbokifbjjlaa.Di
open Go Go.RowKit Kit Gm Gv Crc Var Get Bytes WireFirst Ref3 Copy Ap Sa Sb Sd Rd RdA RdF La Lb Ld Ma Mb Oe Of Na Nb Tk Pb Da Db Df Dg Dh
open RdC (numC newC numN errC)
open RdB (Fr2)

def p0 (d : List Nat) (r : Rdr) : Int × Rdr := numN d r 1
def p1 (d : List Nat) (r : Rdr) : Int × Rdr := numN d (p0 d r).2 60
def p2 (d : List Nat) (r : Rdr) : Int × Rdr := numN d (p1 d r).2 200
def p3 (d : List Nat) (r : Rdr) : Int × Rdr := numN d (p2 d r).2 1
def p4 (d : List Nat) (r : Rdr) : ByteArray × Rdr := textN d (p3 d r).2 256
def apS (s : Scr) (d : List Nat) (r : Rdr) : Scr := ⟨s.R, s.C, (p1 d r).1, (p2 d r).1, (p3 d r).1 == 1, (p4 d r).1⟩
/-- what d makes of a screen. -/
def AppR (s : Scr) (L : List Ce) (d : List Nat) (r : Rdr) (t : Scr) (M : List Ce) : Prop :=
  ((p0 d r).1 = 1 ∧ EncS (d.drop 1) t M ∧ (s.R ≠ t.R ∨ s.C ≠ t.C)) ∨
  (¬ (p0 d r).1 = 1 ∧ (p4 d r).2.err = 0 ∧ t = apS s d r ∧ stF d L (d.length + 1) (p4 d r).2 [] = some M ∧ MayS t M)
/-- what apply answers. -/
def ApQ (s : Scr) (L : List Ce) (d : List Nat) (w : World) (e : Ending) (w' : World) : Prop :=
  (∃ (r : Rdr) (t : Scr) (M : List Ce) (g c : Nat), r.at_ = 0 ∧ r.err = 0 ∧ AppR s L d r t M ∧ e = .returned (svA t (some ⟨g, 0, none⟩) M.length c) ∧ M.length ≤ c ∧ w.heap.size ≤ g ∧ Sc w' g 0 M ∧ Below w.heap.size w w') ∨
  ((∃ r : Rdr, r.at_ = 0 ∧ r.err = 0 ∧ ¬ ∃ t M, AppR s L d r t M) ∧ DP w e w')
theorem grown_fr {w1 w w' : World} {p g : Nat} (h : w1.grownBy w (some p)) (hf : Fr2 p g w w') (hg : w1.heap.size ≤ g) : w1.grownBy w' (some p) :=
  ⟨hf.os.trans h.os, hf.tape.trans h.tape, hf.output.trans h.output, Nat.le_trans h.size hf.size, fun b hb hx => (hf.block b (Nat.lt_of_lt_of_le hb h.size) (fun e => hx (by rw [e])) (by omega)).trans (h.block b hb hx)⟩
theorem num_one {d : List Nat} (hd : ∀ c ∈ d, c < 256) {r : Rdr} (h0 : r.at_ = 0) (h : (numN d r 1).1 = 1) : ∃ x, d = 1 :: x := by
  unfold numN at h
  split at h
  · cases h
  · split at h
    · cases h
    · split at h
      · cases h
      · rename_i h2 h3
        obtain ⟨n, e1, e2, e3⟩ := getA_eat hd (by simpa using h2 : (getA d (r.at_ : Int)).2.2 = 0)
        rw [e1] at h
        dsimp only at h
        obtain rfl : n = 1 := by omega
        rw [varL_small (by omega), h0, List.drop_zero] at e2
        exact ⟨_, e2⟩
/-- a reader that came so far. -/
theorem p_same (d : List Nat) (r : Rdr) : SameR r (p0 d r).2 ∧ SameR r (p1 d r).2 ∧ SameR r (p2 d r).2 ∧ SameR r (p3 d r).2 ∧ SameR r (p4 d r).2 := by
  have h0 : SameR r (p0 d r).2 := num_a d r 1
  have h1 : SameR r (p1 d r).2 := same_on h0 (num_a d _ 60)
  have h2 : SameR r (p2 d r).2 := same_on h1 (num_a d _ 200)
  have h3 : SameR r (p3 d r).2 := same_on h2 (num_a d _ 1)
  exact ⟨h0, h1, h2, h3, same_on h3 (text_a d _ 256)⟩
theorem p_le (d : List Nat) (r : Rdr) (h : r.at_ ≤ d.length) : (p3 d r).2.at_ ≤ d.length ∧ (p4 d r).2.at_ ≤ d.length := by
  have h0 := num_le d r 1 h
  have h1 := num_le d (p0 d r).2 60 h0
  have h2 := num_le d (p1 d r).2 200 h1
  have h3 := num_le d (p2 d r).2 1 h2
  exact ⟨h3, text_le d (p3 d r).2 256 h3⟩
theorem st_len {l : List Nat} (hl : ∀ c ∈ l, c < 256) {L : List Ce} : ∀ (f : Nat) (r : Rdr) (P B : List Ce), P.length ≤ L.length → stF l L f r P = some B → B.length = L.length
  | 0, r, P, B, _, h => by simp [stF] at h
  | f + 1, r, P, B, hP, h => by
    by_cases h1 : l.length ≤ r.at_
    · rw [st_end h1] at h
      injection h with h; subst h
      rw [List.length_append, List.length_drop]; omega
    · by_cases h2 : okG l L r P
      · cases hx : sx l L r P with
        | none => rw [st_noX h1 h2 hx] at h; cases h
        | some y =>
          obtain ⟨r3, X⟩ := y
          by_cases h4 : okX l L r P X
          · rw [st_step h1 h2 hx h4] at h
            refine st_len hl f r3 _ B ?_ h
            obtain ⟨G, g1, g2⟩ := num_in l r (L.length - P.length)
            have g3 : (sg l L r P).1 = (G : Int) := g1
            have g4 : sj l L r P = P.length + G := by unfold sj; rw [g3, Int.toNat_natCast]
            obtain ⟨V, v1, v2⟩ := num_in l (sg l L r P).2 (L.length - (P.length + G))
            have v3 : (su l L r P).1 = (V : Int) := by unfold su; rw [g4]; exact v1
            unfold sx at hx
            rw [v3, Int.toNat_natCast] at hx
            have hX := len_of hl hx
            rw [g3, Int.toNat_natCast]
            simp only [List.length_append, List.length_take, List.length_drop]
            omega
          · rw [st_badX h1 h2 hx h4] at h; cases h
      · rw [st_noG h1 h2] at h; cases h
theorem st_no {l : List Nat} {L : List Ce} {X : Option (List Ce)} {p g : Nat} {w w' : World} {e : Ending} (h : StQ l L X p g w e w') (hx : X = none) : e = .panicked [{ v := dfault, recovered := false }] ∧ Fr2 p g w w' := by
  rcases h with ⟨B, h0, _⟩ | ⟨_, h1, _, h2⟩
  · rw [hx] at h0; cases h0
  · exact ⟨h1, h2⟩
theorem st_yes {l : List Nat} {L : List Ce} {X : Option (List Ce)} {p g : Nat} {w w' : World} {e : Ending} {M : List Ce} (h : StQ l L X p g w e w') (hx : X = some M) : e = .returned (.tuple #[]) ∧ Rw w' g M ∧ Fr2 p g w w' := by
  rcases h with ⟨B, h0, _, h1, h2, _, h3⟩ | ⟨h0, _⟩
  · rw [hx] at h0; injection h0 with h0; subst h0; exact ⟨h1, h2, h3⟩
  · rw [hx] at h0; cases h0
set_option maxRecDepth 100000 in
set_option maxHeartbeats 16000000 in
/-- diff.apply. -/
theorem applyC (R C row col : Int) (hid : Bool) (ti : ByteArray) (q1 o1 n1 c1 : Nat) (L : List Ce) (b : Option Addr) (m cb : Nat) (d : List Nat) (W : World) (h1 : ScA W (some ⟨q1, o1, none⟩) n1 c1 L) (m1 : MayS ⟨R, C, row, col, hid, ti⟩ L)
    (hm : m = d.length) (hm3 : d.length ≤ 1000000) (h8 : ∀ c ∈ d, c < 256) (hl : Sl W b d) (hcb : m ≤ cb) (hb0 : b = none → cb = 0) :
    Calls Try.prog 67 #[svA ⟨R, C, row, col, hid, ti⟩ (some ⟨q1, o1, none⟩) n1 c1, .slice b m cb] W (ApQ ⟨R, C, row, col, hid, ti⟩ L d W) := by
  have hb := below_two W (svO ⟨R, C, row, col, hid, ti⟩ (some ⟨q1, o1, none⟩) n1 c1) sO0
  obtain ⟨hA, hZ⟩ := two_heap W (svO ⟨R, C, row, col, hid, ti⟩ (some ⟨q1, o1, none⟩) n1 c1) sO0
  dsimp only [svO] at hb hA hZ
  generalize hw0 : (W.alloc (.cells #[.int .i64 R, .int .i64 C, .slice (some ⟨q1, o1, none⟩) n1 c1, .int .i64 row, .int .i64 col, .bool hid, .string ti] 24)).alloc (.cells #[.int .i64 0, .int .i64 0, .slice none 0 0, .int .i64 0, .int .i64 0, .bool false, .string ⟨#[]⟩] 24) = w0 at *
  have HSZ := Lib.hid (show W.heap.size + 1 < w0.heap.size from (Array.getElem?_eq_some_iff.1 hZ).1)
  have HSC := Lib.hid (fun w1 (hb : Below W.heap.size W w1) => sca_sc (h1.then_ hb (Nat.le_refl _)) m1)
  have HQ1 := Lib.hid (show q1 < W.heap.size from by
    have h := sca_sc h1 m1
    have hl0 : 0 < L.length := by have := m1.len; omega
    have h2 : W.cell? ⟨q1, o1 + 0 * 5 + 0, none⟩ = some (.int .i32 (L[0]'hl0).r) := h 0 hl0 0 (by omega)
    exact World.block_lt_of_cell? W _ h2)
  have HLN := Lib.hid h1.len
  have HCAP := Lib.hid h1.cap
  have HML := Lib.hid m1.len
  have HL := Lib.hid hl
  have HNEW := Lib.hid (newC b cb d w0 hm3 h8 (sl_then hb (Nat.le_refl _) hl) hb0)
  have HB := Lib.hid hb
  have HA := Lib.hid hA
  have HZ := Lib.hid hZ
  have HM := Lib.hid hm
  have HM3 := Lib.hid hm3
  have H8 := Lib.hid h8
  have HB0' := Lib.hid hb0
  have HCB := Lib.hid hcb
  subst hm
  clear hb hA hZ hm3 h8 hl hcb hb0 h1 m1
  go_enter Try.func67, Try.ntmps67
  go_wp2_with fail
  refine HNEW.out.mono ?_
  rintro e w1 ⟨p, r, hp, rfl, hrc, hat, herr, hby, hb⟩
  have HPW := Lib.hid (show W.heap.size ≤ p by have := HB.out.size; omega)
  have HB1 := Lib.hid (below_then HB.out hb HB.out.size)
  have HA1 := Lib.hid ((hb.block _ (Array.getElem?_eq_some_iff.1 HA.out).1).trans HA.out)
  have HZ1 := Lib.hid ((hb.block _ (Array.getElem?_eq_some_iff.1 HZ.out).1).trans HZ.out)
  have HPZ := Lib.hid (show W.heap.size ≠ p ∧ W.heap.size + 1 ≠ p by have := HSZ.out; omega)
  have HP1 := Lib.hid hrc
  have HF1 := Lib.hid (grown_refl w1 (some p))
  have HBY := Lib.hid (fun (r1 : Rdr) (h : SameR r r1) (w' : World) (hg : w1.grownBy w' (some p)) => by_same (By.grown hrc hby hg) h)
  have HAT := Lib.hid hat
  have HER := Lib.hid herr
  have HRL := Lib.hid hby.len
  have HBW := Lib.hid (fun (w' : World) (hg : w1.grownBy w' (some p)) => grown_new HB1.out (Nat.le_refl _) HPW.out hg)
  have HQP := Lib.hid (show q1 ≠ p by have := HQ1.out; have := HPW.out; omega)
  have HW1S := Lib.hid (show w0.heap.size ≤ w1.heap.size from hb.size)
  clear hp hrc hby hb HNEW
  obtain ⟨s0, s1, s2, s3, s4⟩ := p_same d r
  obtain ⟨l3, l4⟩ := p_le d r (by rw [hat]; exact Nat.zero_le _)
  obtain ⟨k0, e0, b0⟩ := num_in d r 1
  have E0 : (p0 d r).1 = (k0 : Int) := e0
  have K0 := Lib.hid (fun w' h1 hg => (show Calls Try.prog 73 #[.pointer (some ⟨p, 0, none⟩), .int .u64 1] w' (fun e w2 => e = .returned (.int .u64 (k0 : Int)) ∧ Rc w2 p (p0 d r).2 ∧ w'.grownBy w2 (some p)) from e0 ▸ numC 1 d (w := w') (p := p) (r := r) h1 (HBY.out r ⟨rfl, rfl, rfl⟩ w' hg)))
  by_cases hone : k0 = 1
  · have HONE := Lib.hid (show (p0 d r).1 = 1 by rw [E0, hone]; rfl)
    subst hone
    have K0 := Lib.hid (show ∀ w' (h1 : Rc w' p r) (hg : w1.grownBy w' (some p)), Calls Try.prog 73 #[.pointer (some ⟨p, 0, none⟩), .int .u64 1] w' (fun e w2 => e = .returned (.int .u64 1) ∧ Rc w2 p (p0 d r).2 ∧ w'.grownBy w2 (some p)) from K0.out)
    obtain ⟨x, hx⟩ := num_one H8.out hat HONE.out
    have HDX := Lib.hid (show d.drop 1 = x by rw [hx]; rfl)
    have HXL := Lib.hid (show d.length - 1 = x.length ∧ 1 ≤ d.length by rw [hx]; simp)
    have HX8 := Lib.hid (show ∀ c ∈ x, c < 256 from fun c hc => H8.out c (by rw [hx]; exact List.mem_cons_of_mem _ hc))
    have HX3 := Lib.hid (show x.length ≤ 1000000 by have := HXL.out; have := HM3.out; omega)
    obtain ⟨bb, oo, hbe, hcl⟩ : ∃ bb oo, b = some ⟨bb, oo, none⟩ ∧ Cells W bb oo d := by
      rcases HL.out with h | h
      · rw [hx] at h; cases h
      · exact h
    subst hbe
    have HCX := Lib.hid (fun w' (hb : Below W.heap.size W w') => (show Sl w' (some ⟨bb, oo + 1, none⟩) x from by
      refine sl_then hb (Nat.le_refl _) (.inr ⟨bb, oo + 1, rfl, fun i hi => ?_⟩)
      have h := hcl (i + 1) (by have := HXL.out; omega)
      have e : d[i + 1]'(by have := HXL.out; omega) = x[i] := by subst hx; rfl
      rw [e, show oo + (i + 1) = oo + 1 + i by omega] at h
      exact h))
    have HYES := Lib.hid (fun (t : Scr) (M : List Ce) (g : Nat) (w' : World) (h1 : EncS x t M) (h2 : R ≠ t.R ∨ C ≠ t.C) (h7 : W.heap.size ≤ g) (h5 : RB w' g M) (h6 : Below W.heap.size W w') => (show ApQ ⟨R, C, row, col, hid, ti⟩ L d W (.returned (svA t (some ⟨g, 0, none⟩) M.length M.length)) w' from .inl ⟨r, t, M, g, M.length, HAT.out, HER.out, .inl ⟨HONE.out, by rw [HDX.out]; exact h1, h2⟩, rfl, Nat.le_refl _, h7, Oe.rb_sc h5, h6⟩))
    have HNO := Lib.hid (fun (w' : World) (h1 : ¬ ∃ t M, EncS x t M ∧ (R ≠ t.R ∨ C ≠ t.C)) (h6 : Below W.heap.size W w') => (show ApQ ⟨R, C, row, col, hid, ti⟩ L d W (.panicked [{ v := dfault, recovered := false }]) w' from .inr ⟨⟨r, HAT.out, HER.out, by
      rintro ⟨t, M, ⟨_, a1, a2⟩ | ⟨a1, _⟩⟩
      · rw [HDX.out] at a1; exact h1 ⟨t, M, a1, a2⟩
      · exact a1 HONE.out⟩, rfl, h6⟩))
    have g1 : (1 : Int) ≤ (d.length : Int) := by have := HXL.out; omega
    have g2 : 1 ≤ d.length := HXL.out.2
    have g3 : d.length ≤ cb := HCB.out
    have g4 : 1 ≤ cb := Nat.le_trans g2 g3
    have HBE := Lib.hid (fun (b' : Option Addr) (cb' m' : Nat) w' (hm' : m' = x.length) (hs : Sl w' b' x) (h0 : b' = none → cb' = 0) (hn : ¬ ∃ t M, EncS x t M) => other_none R C row col hid ti (some ⟨q1, o1, none⟩) n1 c1 b' m' cb' x w' hm' HX3.out HX8.out hs h0 hn)
    have HBS := Lib.hid (fun (b' : Option Addr) (cb' m' : Nat) w' (hm' : m' = x.length) (hs : Sl w' b' x) (h0 : b' = none → cb' = 0) R2 C2 row2 col2 hid2 ti2 M (he : EncS x ⟨R2, C2, row2, col2, hid2, ti2⟩ M) h1 h2 => other_same R C row col hid ti (some ⟨q1, o1, none⟩) n1 c1 b' m' cb' x w' hm' HX3.out HX8.out hs h0 R2 C2 row2 col2 hid2 ti2 M he h1 h2)
    have HBD := Lib.hid (fun (b' : Option Addr) (cb' m' : Nat) w' (hm' : m' = x.length) (hs : Sl w' b' x) (h0 : b' = none → cb' = 0) R2 C2 row2 col2 hid2 ti2 M (he : EncS x ⟨R2, C2, row2, col2, hid2, ti2⟩ M) (hne : R ≠ R2 ∨ C ≠ C2) => (show Calls Try.prog 89 #[svA ⟨R, C, row, col, hid, ti⟩ (some ⟨q1, o1, none⟩) n1 c1, .slice b' m' cb'] w' (fun e w2 => ∃ g, e = .returned (svA ⟨R2, C2, row2, col2, hid2, ti2⟩ (some ⟨g, 0, none⟩) M.length M.length) ∧ w'.heap.size ≤ g ∧ RB w2 g M ∧ Below w'.heap.size w' w2) from by
      by_cases h1 : R = R2
      · have h2 : ¬ C = C2 := by
          rcases hne with h | h
          · exact absurd h1 h
          · exact h
        exact other_c R C row col hid ti (some ⟨q1, o1, none⟩) n1 c1 b' m' cb' x w' hm' HX3.out HX8.out hs h0 R2 C2 row2 col2 hid2 ti2 M he h1 h2
      · exact other_r R C row col hid ti (some ⟨q1, o1, none⟩) n1 c1 b' m' cb' x w' hm' HX3.out HX8.out hs h0 R2 C2 row2 col2 hid2 ti2 M he h1))
    obtain ⟨m, hmd⟩ : ∃ m, m = d.length := ⟨_, rfl⟩
    have HMX := Lib.hid (show m - 1 = x.length by rw [hmd]; exact HXL.out.1)
    rw [← hmd] at g1 g2 g3 ⊢
    generalize (p0 d r).2 = R0 at *
    clear hat herr s0 s1 s2 s3 s4 l3 l4 e0 b0 E0 hx hcl hmd
    rcases Classical.em (cb = 1) with hcb1 | hcb1
    · have HM0 := Lib.hid (show m - 1 = 0 ∧ 0 = x.length by have := HMX.out; omega)
      subst hcb1
      have hm1 : 1 = m := by omega
      subst hm1
      have HSLX := Lib.hid (fun w' => (show Sl w' (some ⟨bb, oo, none⟩) x from .inl (List.eq_nil_of_length_eq_zero HM0.out.2.symm)))
      clear g1 g2 g3 g4
      by_cases hd : ∃ t M, EncS x t M
      · obtain ⟨⟨R2, C2, row2, col2, hid2, ti2⟩, M, he⟩ := hd
        by_cases hsz : R = R2 ∧ C = C2
        · have HF := Lib.hid (show ¬ ∃ t M, EncS x t M ∧ (R ≠ t.R ∨ C ≠ t.C) by
            rintro ⟨t, M2, h1, h2⟩
            obtain ⟨h3, _⟩ := encS_one he h1
            subst h3
            rcases h2 with h | h
            · exact h hsz.1
            · exact h hsz.2)
          have HSE := Lib.hid hsz
          have HEE := Lib.hid he
          clear hsz he
          go_upto_region 3 with (go_at_call 73; (with_reducible refine (K0.out _ HP1.out HF1.out).mono ?_); rintro e w2 ⟨rfl, hp, hg⟩; have HP2 := Lib.hid hp; have HF2 := Lib.hid (grown_trans HF1.out hg); obtain ⟨y0, y1, y2, y3, y4, y5, y6⟩ := seven (s := ⟨R, C, row, col, hid, ti⟩) (blk HF2.out HPZ.out.1 HA1.out); (dsimp only at y0 y1 y2 y3 y4 y5 y6); clear hp hg)
          go_still_tail 3, (by kernel_rfl)
          change wpList _ _ _ _ _ w2.drew
          have HF2d := Lib.hid (show w1.grownBy w2.drew (some p) from ⟨HF2.out.os, HF2.out.tape, HF2.out.output, HF2.out.size, HF2.out.block⟩)
          generalize w2.drew = w2d at *
          go_wp2_with (first
            | (go_at_call 89; (with_reducible refine (HBS.out (some ⟨bb, oo, none⟩) 0 0 w2d HM0.out.2 (HSLX.out w2d) (fun h => by cases h) R2 C2 row2 col2 hid2 ti2 M HEE.out HSE.out.1 HSE.out.2).mono ?_); rintro e w3 ⟨rfl, hb⟩; have HF3 := Lib.hid (grown_trans HF2d.out (grown_below hb (some p))); clear hb))
          go_wp2
          exact ⟨rfl, HNO.out _ HF.out (HBW.out _ HF3.out)⟩
        · have HE := Lib.hid he
          have HNE := Lib.hid (show R ≠ R2 ∨ C ≠ C2 by
            by_cases h : R = R2
            · exact .inr (fun h2 => hsz ⟨h, h2⟩)
            · exact .inl h)
          clear hsz he
          go_upto_region 3 with (go_at_call 73; (with_reducible refine (K0.out _ HP1.out HF1.out).mono ?_); rintro e w2 ⟨rfl, hp, hg⟩; have HP2 := Lib.hid hp; have HF2 := Lib.hid (grown_trans HF1.out hg); obtain ⟨y0, y1, y2, y3, y4, y5, y6⟩ := seven (s := ⟨R, C, row, col, hid, ti⟩) (blk HF2.out HPZ.out.1 HA1.out); (dsimp only at y0 y1 y2 y3 y4 y5 y6); clear hp hg)
          go_still_tail 3, (by kernel_rfl)
          change wpList _ _ _ _ _ w2.drew
          have HF2d := Lib.hid (show w1.grownBy w2.drew (some p) from ⟨HF2.out.os, HF2.out.tape, HF2.out.output, HF2.out.size, HF2.out.block⟩)
          generalize w2.drew = w2d at *
          go_wp2_with (first
            | (go_at_call 89; (with_reducible refine (HBD.out (some ⟨bb, oo, none⟩) 0 0 w2d HM0.out.2 (HSLX.out w2d) (fun h => by cases h) R2 C2 row2 col2 hid2 ti2 M HE.out HNE.out).mono ?_); rintro e w3 ⟨g, rfl, hgs, hr, hb⟩; have HF3 := Lib.hid (grown_trans HF2d.out (grown_below hb (some p))); have HZ3 := Lib.hid (blk HF3.out HPZ.out.2 HZ1.out); have HR3 := Lib.hid hr; have HGL := Lib.hid (Nat.le_trans (HBW.out w2d HF2d.out).size hgs); have HGW := Lib.hid (show g ≠ W.heap.size + 1 from fun e => by have := HF2d.out.size; have := HW1S.out; have := HSZ.out; omega); clear hb hr hgs)
            | ((with_reducible refine wpList_store_sc rfl _ _ rfl (W.heap.size + 1) ⟨R2, C2, row2, col2, hid2, ti2⟩ (some ⟨g, 0, none⟩) M.length M.length _ rfl rfl HZ3.out rfl ?_); intro w4 hs hb hk hz; obtain ⟨z0, z1, z2, z3, z4, z5, z6⟩ := seven hs; (dsimp only at z0 z1 z2 z3 z4 z5 z6); have HB4 := Lib.hid (hb _ _ (Nat.le_succ _) (HBW.out w3 HF3.out)); have HR4 := Lib.hid (show RB w4 g M from (hk _ HGW.out).trans HR3.out); clear hs hb hk hz))
          refine bodyPost_ret (v := svA ⟨R2, C2, row2, col2, hid2, ti2⟩ (some ⟨g, 0, none⟩) M.length M.length) (by simp [results, Try.results67, go_sem, z0, z1, z2, z3, z4, z5, z6]) rfl ?_
          exact HYES.out _ _ _ _ HE.out HNE.out HGL.out HR4.out HB4.out
      · have HF := Lib.hid (show ¬ ∃ t M, EncS x t M ∧ (R ≠ t.R ∨ C ≠ t.C) from fun ⟨t, M, h1, _⟩ => hd ⟨t, M, h1⟩)
        go_upto_region 3 with (go_at_call 73; (with_reducible refine (K0.out _ HP1.out HF1.out).mono ?_); rintro e w2 ⟨rfl, hp, hg⟩; have HP2 := Lib.hid hp; have HF2 := Lib.hid (grown_trans HF1.out hg); obtain ⟨y0, y1, y2, y3, y4, y5, y6⟩ := seven (s := ⟨R, C, row, col, hid, ti⟩) (blk HF2.out HPZ.out.1 HA1.out); (dsimp only at y0 y1 y2 y3 y4 y5 y6); clear hp hg)
        go_still_tail 3, (by kernel_rfl)
        change wpList _ _ _ _ _ w2.drew
        have HF2d := Lib.hid (show w1.grownBy w2.drew (some p) from ⟨HF2.out.os, HF2.out.tape, HF2.out.output, HF2.out.size, HF2.out.block⟩)
        generalize w2.drew = w2d at *
        go_wp2_with (first
          | (go_at_call 89; (with_reducible refine (HBE.out (some ⟨bb, oo, none⟩) 0 0 w2d HM0.out.2 (HSLX.out w2d) (fun h => by cases h) hd).mono ?_); rintro e w3 ⟨rfl, hb⟩; have HF3 := Lib.hid (grown_trans HF2d.out (grown_below hb (some p))); clear hb))
        go_wp2
        exact ⟨rfl, HNO.out _ HF.out (HBW.out _ HF3.out)⟩
    · have g5 : ¬ cb = 1 := hcb1
      clear hcb1
      by_cases hd : ∃ t M, EncS x t M
      · obtain ⟨⟨R2, C2, row2, col2, hid2, ti2⟩, M, he⟩ := hd
        by_cases hsz : R = R2 ∧ C = C2
        · have HF := Lib.hid (show ¬ ∃ t M, EncS x t M ∧ (R ≠ t.R ∨ C ≠ t.C) by
            rintro ⟨t, M2, h1, h2⟩
            obtain ⟨h3, _⟩ := encS_one he h1
            subst h3
            rcases h2 with h | h
            · exact h hsz.1
            · exact h hsz.2)
          have HSE := Lib.hid hsz
          have HEE := Lib.hid he
          clear hsz he
          go_upto_region 3 with (go_at_call 73; (with_reducible refine (K0.out _ HP1.out HF1.out).mono ?_); rintro e w2 ⟨rfl, hp, hg⟩; have HP2 := Lib.hid hp; have HF2 := Lib.hid (grown_trans HF1.out hg); obtain ⟨y0, y1, y2, y3, y4, y5, y6⟩ := seven (s := ⟨R, C, row, col, hid, ti⟩) (blk HF2.out HPZ.out.1 HA1.out); (dsimp only at y0 y1 y2 y3 y4 y5 y6); clear hp hg)
          go_still_tail 3, (by kernel_rfl)
          change wpList _ _ _ _ _ w2.drew
          have HF2d := Lib.hid (show w1.grownBy w2.drew (some p) from ⟨HF2.out.os, HF2.out.tape, HF2.out.output, HF2.out.size, HF2.out.block⟩)
          generalize w2.drew = w2d at *
          go_wp2_with (first
            | (go_at_call 89; (with_reducible refine (HBS.out (some ⟨bb, oo + 1, none⟩) (cb - 1) (m - 1) w2d HMX.out (HCX.out w2d (HBW.out w2d HF2d.out)) (fun h => by cases h) R2 C2 row2 col2 hid2 ti2 M HEE.out HSE.out.1 HSE.out.2).mono ?_); rintro e w3 ⟨rfl, hb⟩; have HF3 := Lib.hid (grown_trans HF2d.out (grown_below hb (some p))); clear hb))
          go_wp2
          exact ⟨rfl, HNO.out _ HF.out (HBW.out _ HF3.out)⟩
        · have HE := Lib.hid he
          have HNE := Lib.hid (show R ≠ R2 ∨ C ≠ C2 by
            by_cases h : R = R2
            · exact .inr (fun h2 => hsz ⟨h, h2⟩)
            · exact .inl h)
          clear hsz he
          go_upto_region 3 with (go_at_call 73; (with_reducible refine (K0.out _ HP1.out HF1.out).mono ?_); rintro e w2 ⟨rfl, hp, hg⟩; have HP2 := Lib.hid hp; have HF2 := Lib.hid (grown_trans HF1.out hg); obtain ⟨y0, y1, y2, y3, y4, y5, y6⟩ := seven (s := ⟨R, C, row, col, hid, ti⟩) (blk HF2.out HPZ.out.1 HA1.out); (dsimp only at y0 y1 y2 y3 y4 y5 y6); clear hp hg)
          go_still_tail 3, (by kernel_rfl)
          change wpList _ _ _ _ _ w2.drew
          have HF2d := Lib.hid (show w1.grownBy w2.drew (some p) from ⟨HF2.out.os, HF2.out.tape, HF2.out.output, HF2.out.size, HF2.out.block⟩)
          generalize w2.drew = w2d at *
          go_wp2_with (first
            | (go_at_call 89; (with_reducible refine (HBD.out (some ⟨bb, oo + 1, none⟩) (cb - 1) (m - 1) w2d HMX.out (HCX.out w2d (HBW.out w2d HF2d.out)) (fun h => by cases h) R2 C2 row2 col2 hid2 ti2 M HE.out HNE.out).mono ?_); rintro e w3 ⟨g, rfl, hgs, hr, hb⟩; have HF3 := Lib.hid (grown_trans HF2d.out (grown_below hb (some p))); have HZ3 := Lib.hid (blk HF3.out HPZ.out.2 HZ1.out); have HR3 := Lib.hid hr; have HGL := Lib.hid (Nat.le_trans (HBW.out w2d HF2d.out).size hgs); have HGW := Lib.hid (show g ≠ W.heap.size + 1 from fun e => by have := HF2d.out.size; have := HW1S.out; have := HSZ.out; omega); clear hb hr hgs)
            | ((with_reducible refine wpList_store_sc rfl _ _ rfl (W.heap.size + 1) ⟨R2, C2, row2, col2, hid2, ti2⟩ (some ⟨g, 0, none⟩) M.length M.length _ rfl rfl HZ3.out rfl ?_); intro w4 hs hb hk hz; obtain ⟨z0, z1, z2, z3, z4, z5, z6⟩ := seven hs; (dsimp only at z0 z1 z2 z3 z4 z5 z6); have HB4 := Lib.hid (hb _ _ (Nat.le_succ _) (HBW.out w3 HF3.out)); have HR4 := Lib.hid (show RB w4 g M from (hk _ HGW.out).trans HR3.out); clear hs hb hk hz))
          refine bodyPost_ret (v := svA ⟨R2, C2, row2, col2, hid2, ti2⟩ (some ⟨g, 0, none⟩) M.length M.length) (by simp [results, Try.results67, go_sem, z0, z1, z2, z3, z4, z5, z6]) rfl ?_
          exact HYES.out _ _ _ _ HE.out HNE.out HGL.out HR4.out HB4.out
      · have HF := Lib.hid (show ¬ ∃ t M, EncS x t M ∧ (R ≠ t.R ∨ C ≠ t.C) from fun ⟨t, M, h1, _⟩ => hd ⟨t, M, h1⟩)
        go_upto_region 3 with (go_at_call 73; (with_reducible refine (K0.out _ HP1.out HF1.out).mono ?_); rintro e w2 ⟨rfl, hp, hg⟩; have HP2 := Lib.hid hp; have HF2 := Lib.hid (grown_trans HF1.out hg); obtain ⟨y0, y1, y2, y3, y4, y5, y6⟩ := seven (s := ⟨R, C, row, col, hid, ti⟩) (blk HF2.out HPZ.out.1 HA1.out); (dsimp only at y0 y1 y2 y3 y4 y5 y6); clear hp hg)
        go_still_tail 3, (by kernel_rfl)
        change wpList _ _ _ _ _ w2.drew
        have HF2d := Lib.hid (show w1.grownBy w2.drew (some p) from ⟨HF2.out.os, HF2.out.tape, HF2.out.output, HF2.out.size, HF2.out.block⟩)
        generalize w2.drew = w2d at *
        go_wp2_with (first
          | (go_at_call 89; (with_reducible refine (HBE.out (some ⟨bb, oo + 1, none⟩) (cb - 1) (m - 1) w2d HMX.out (HCX.out w2d (HBW.out w2d HF2d.out)) (fun h => by cases h) hd).mono ?_); rintro e w3 ⟨rfl, hb⟩; have HF3 := Lib.hid (grown_trans HF2d.out (grown_below hb (some p))); clear hb))
        go_wp2
        exact ⟨rfl, HNO.out _ HF.out (HBW.out _ HF3.out)⟩
  · have HONE := Lib.hid (show ¬ (p0 d r).1 = 1 by rw [E0]; omega)
    have i0 : ((k0 : Int) == 1) = false := by rw [beq_eq_false_iff_ne]; omega
    obtain ⟨j1, e1, b1⟩ := num_in d (p0 d r).2 60
    obtain ⟨j2, e2, b2⟩ := num_in d (p1 d r).2 200
    obtain ⟨j3, e3, b3⟩ := num_in d (p2 d r).2 1
    have E1 : (p1 d r).1 = (j1 : Int) := e1
    have E2 : (p2 d r).1 = (j2 : Int) := e2
    have E3 : (p3 d r).1 = (j3 : Int) := e3
    have K1 := Lib.hid (fun w' h1 hg => (show Calls Try.prog 73 #[.pointer (some ⟨p, 0, none⟩), .int .u64 60] w' (fun e w2 => e = .returned (.int .u64 (j1 : Int)) ∧ Rc w2 p (p1 d r).2 ∧ w'.grownBy w2 (some p)) from e1 ▸ numC 60 d (w := w') (p := p) (r := (p0 d r).2) h1 (HBY.out _ s0 w' hg)))
    have K2 := Lib.hid (fun w' h1 hg => (show Calls Try.prog 73 #[.pointer (some ⟨p, 0, none⟩), .int .u64 200] w' (fun e w2 => e = .returned (.int .u64 (j2 : Int)) ∧ Rc w2 p (p2 d r).2 ∧ w'.grownBy w2 (some p)) from e2 ▸ numC 200 d (w := w') (p := p) (r := (p1 d r).2) h1 (HBY.out _ s1 w' hg)))
    have K3 := Lib.hid (fun w' h1 hg => (show Calls Try.prog 73 #[.pointer (some ⟨p, 0, none⟩), .int .u64 1] w' (fun e w2 => e = .returned (.int .u64 (j3 : Int)) ∧ Rc w2 p (p3 d r).2 ∧ w'.grownBy w2 (some p)) from e3 ▸ numC 1 d (w := w') (p := p) (r := (p2 d r).2) h1 (HBY.out _ s2 w' hg)))
    have K4 := Lib.hid (fun w' h1 hg => (show Calls Try.prog 74 #[.pointer (some ⟨p, 0, none⟩), .int .i64 256] w' (fun e w2 => e = .returned (.string (p4 d r).1) ∧ Rc w2 p (p4 d r).2 ∧ w'.grownBy w2 (some p)) from textC 256 d (w := w') (p := p) (r := (p3 d r).2) h1 (HBY.out _ s3 w' hg) l3 HM3.out (by decide)))
    have HERR := Lib.hid (fun w' (h1 : Rc w' p (p4 d r).2) => errC h1)
    have HCOPY := Lib.hid (fun w' (hb : Below W.heap.size W w') => copyC ⟨R, C, row, col, hid, ti⟩ q1 o1 n1 c1 L w' HLN.out (by have := HLN.out; have := HML.out; omega) (by have := HLN.out; have := HML.out; omega) (HSC.out w' hb))
    have HST0 := fun (g c2 : Nat) w' (h1 : Rc w' p (p4 d r).2) (h2 : Sc w' q1 o1 L) (h3 : Rw w' g L) (h4 : w1.grownBy w' (some p)) (h5 : w1.heap.size ≤ g) (h6 : g ≠ p) (h7 : n1 ≤ c2) =>
      stretchesC p g q1 o1 n1 c1 c2 (p4 d r).2 d L w' (d.length + 1) (by omega) HLN.out (by have := HLN.out; have := HML.out; omega) HCAP.out h7 (by have := HLN.out; have := HML.out; omega) h1 l4 h2 h3 HQP.out (by have := HQ1.out; have := HB1.out.size; omega) h6 ⟨s4.2.1.trans HRL.out, HM3.out⟩ (fun w2 r' hf hs => HBY.out r' (same_on s4 hs) w2 (grown_fr h4 hf h5))
    have HTI := Lib.hid (show (p4 d r).1.size ≤ 256 from text_small d H8.out (p3 d r).2)
    have HSC2 : apS ⟨R, C, row, col, hid, ti⟩ d r = ⟨R, C, (j1 : Int), (j2 : Int), (j3 : Int) == 1, (p4 d r).1⟩ := by unfold apS; rw [E1, E2, E3]
    have HMAYA := Lib.hid (fun (g c2 : Nat) (M : List Ce) w' (hM : M.length = n1) (hc : n1 ≤ c2) (hs : Sc w' g 0 M) => mayC ⟨R, C, (j1 : Int), (j2 : Int), (j3 : Int) == 1, (p4 d r).1⟩ (some ⟨g, 0, none⟩) n1 c2 M w' hM.symm (by have := HLN.out; have := HML.out; omega) (Nat.le_trans HTI.out (by decide)) (.inr ⟨g, 0, rfl, hs⟩))
    have HYES := Lib.hid (fun (M : List Ce) (g c : Nat) (w' : World) (h1 : (p4 d r).2.err = 0) (h2 : stF d L (d.length + 1) (p4 d r).2 [] = some M) (h3 : MayS ⟨R, C, (j1 : Int), (j2 : Int), (j3 : Int) == 1, (p4 d r).1⟩ M) (h4 : M.length ≤ c) (h7 : W.heap.size ≤ g) (h5 : Sc w' g 0 M) (h6 : Below W.heap.size W w') => (show ApQ ⟨R, C, row, col, hid, ti⟩ L d W (.returned (svA ⟨R, C, (j1 : Int), (j2 : Int), (j3 : Int) == 1, (p4 d r).1⟩ (some ⟨g, 0, none⟩) M.length c)) w' from .inl ⟨r, _, M, g, c, HAT.out, HER.out, .inr ⟨HONE.out, h1, HSC2.symm, h2, h3⟩, rfl, h4, h7, h5, h6⟩))
    have HNO := Lib.hid (fun (w' : World) (h1 : ¬ ((p4 d r).2.err = 0 ∧ ∃ M, stF d L (d.length + 1) (p4 d r).2 [] = some M ∧ MayS ⟨R, C, (j1 : Int), (j2 : Int), (j3 : Int) == 1, (p4 d r).1⟩ M)) (h6 : Below W.heap.size W w') => (show ApQ ⟨R, C, row, col, hid, ti⟩ L d W (.panicked [{ v := dfault, recovered := false }]) w' from .inr ⟨⟨r, HAT.out, HER.out, by
      rintro ⟨t, M, ⟨a1, _⟩ | ⟨_, a2, a3, a4, a5⟩⟩
      · exact HONE.out a1
      · exact h1 ⟨a2, M, a4, by rw [← HSC2, ← a3]; exact a5⟩⟩, rfl, h6⟩))
    have HLEN := Lib.hid (fun (M : List Ce) (h : stF d L (d.length + 1) (p4 d r).2 [] = some M) => st_len H8.out (d.length + 1) (p4 d r).2 [] M (Nat.zero_le _) h)
    generalize stF d L (d.length + 1) (p4 d r).2 [] = T at *
    generalize (p0 d r).2 = R0 at *
    generalize (p1 d r).2 = R1 at *
    generalize (p2 d r).2 = R2 at *
    generalize (p3 d r).2 = R3 at *
    generalize (p4 d r).2 = R4 at *
    generalize (p4 d r).1 = t4 at *
    have HWV := Lib.hid (show IntKind.i64.wrap (j1 : Int) = (j1 : Int) ∧ wrap64 (j1 : Int) = (j1 : Int) ∧ IntKind.i64.wrap (j2 : Int) = (j2 : Int) ∧ wrap64 (j2 : Int) = (j2 : Int) from ⟨IntWalk.i64_in _ (by omega), IntWalk.wrap64_in _ (by omega), IntWalk.i64_in _ (by omega), IntWalk.wrap64_in _ (by omega)⟩)
    generalize (j1 : Int) = v1 at *
    generalize (j2 : Int) = v2 at *
    generalize (j3 : Int) = v3 at *
    clear hat herr s0 s1 s2 s3 s4 l3 l4 e0 b0 E0 e1 e2 e3 E1 E2 E3 b1 b2 b3 HSC2
    by_cases herr : R4.err = 0
    · rw [herr] at HERR
      cases hT : T with
      | none =>
        have HST := Lib.hid (fun g c2 w' h1 h2 h3 h4 h5 h6 h7 => (HST0 g c2 w' h1 h2 h3 h4 h5 h6 h7).mono fun e w2 hq => st_no hq hT)
        have HF := Lib.hid (show ¬ (R4.err = 0 ∧ ∃ M, T = some M ∧ MayS ⟨R, C, v1, v2, v3 == 1, t4⟩ M) by rintro ⟨_, M, h, _⟩; rw [hT] at h; cases h)
        obtain ⟨f1, f2, f3, f4⟩ := HWV.out
        clear HST0 hT herr hone
        go_wp2_with (first
          | (go_at_call 73; (with_reducible refine (K0.out _ HP1.out HF1.out).mono ?_); rintro e w2 ⟨rfl, hp, hg⟩; have HP2 := Lib.hid hp; have HF2 := Lib.hid (grown_trans HF1.out hg); obtain ⟨y0, y1, y2, y3, y4, y5, y6⟩ := seven (s := ⟨R, C, row, col, hid, ti⟩) (blk HF2.out HPZ.out.1 HA1.out); (dsimp only at y0 y1 y2 y3 y4 y5 y6); clear hp hg)
          | (go_at_call 38; (with_reducible refine (HCOPY.out w2 (HBW.out w2 HF2.out)).mono ?_); rintro e w3 ⟨g, c2, rfl, hgs, hc2, hr, hb⟩; have HGW := Lib.hid (show w1.heap.size ≤ g from Nat.le_trans HF2.out.size hgs); have HP3 := Lib.hid (HP2.out.then_ hb); have HF3 := Lib.hid (grown_trans HF2.out (grown_below hb (some p))); have HW3 := Lib.hid hr; have HC2 := Lib.hid hc2; have HGP := Lib.hid (show g ≠ p from fun e => by have := HP2.out.lt; omega); have HZ3 := Lib.hid (heap_alloc_last w3 sO0); clear hgs hc2 hr hb)
          | ((with_reducible refine wpList_store_sc rfl _ _ rfl w3.heap.size ⟨R, C, row, col, hid, ti⟩ (some ⟨g, 0, none⟩) n1 c2 _ rfl rfl HZ3.out rfl ?_); intro w4 hs hb0 hk hz; have hb := hb0 _ _ (Nat.le_refl _) (below_one w3 sO0); have HS4 := Lib.hid hs; have HP4 := Lib.hid (HP3.out.then_ hb); have HF4 := Lib.hid (grown_trans HF3.out (grown_below hb (some p))); have HW4 := Lib.hid (HW3.out.then_ hb (Nat.le_refl _)); have HKP := Lib.hid (show w3.heap.size ≠ p from Nat.ne_of_gt HP3.out.lt); have HGK := Lib.hid (show g ≠ w3.heap.size from Nat.ne_of_lt HW3.out.lt); have HKS := Lib.hid HF3.out.size; clear hs hb0 hk hz hb)
          | (go_at_call 73; (with_reducible refine (K1.out _ HP4.out HF4.out).mono ?_); rintro e w5 ⟨rfl, hp, hg⟩; have HP5 := Lib.hid hp; have HF5 := Lib.hid (grown_trans HF4.out hg); have HW5 := Lib.hid (rw_grown HW4.out hg HGP.out); have HS5 := Lib.hid (blk hg HKP.out HS4.out); clear hp hg)
          | (go_at_call 73; (with_reducible refine (K2.out _ HP5.out HF5.out).mono ?_); rintro e w6 ⟨rfl, hp, hg⟩; have HP6 := Lib.hid hp; have HF6 := Lib.hid (grown_trans HF5.out hg); have HW6 := Lib.hid (rw_grown HW5.out hg HGP.out); have HS6 := Lib.hid (blk hg HKP.out HS5.out); clear hp hg)
          | ((with_reducible refine wpList_store_rw rfl _ _ rfl w3.heap.size ⟨R, C, row, col, hid, ti⟩ (some ⟨g, 0, none⟩) n1 c2 v1 rfl rfl HS6.out ?_); intro w7 hs hb hk hz; have HS7 := Lib.hid hs; have HP7 := Lib.hid (show Rc w7 p R2 from (hk _ (Ne.symm HKP.out)).trans HP6.out); have HW7 := Lib.hid (HW6.out.kept hk HGK.out); have HF7 := Lib.hid (grown_store HF6.out (hb _ _ HKS.out (Below.refl _ _))); clear hs hb hk hz)
          | ((with_reducible refine wpList_store_co rfl _ _ rfl w3.heap.size ⟨R, C, v1, col, hid, ti⟩ (some ⟨g, 0, none⟩) n1 c2 v2 rfl rfl HS7.out ?_); intro w8 hs hb hk hz; have HS8 := Lib.hid hs; have HP8 := Lib.hid (show Rc w8 p R2 from (hk _ (Ne.symm HKP.out)).trans HP7.out); have HW8 := Lib.hid (HW7.out.kept hk HGK.out); have HF8 := Lib.hid (grown_store HF7.out (hb _ _ HKS.out (Below.refl _ _))); clear hs hb hk hz)
          | (go_at_call 73; (with_reducible refine (K3.out _ HP8.out HF8.out).mono ?_); rintro e w9 ⟨rfl, hp, hg⟩; have HP9 := Lib.hid hp; have HF9 := Lib.hid (grown_trans HF8.out hg); have HW9 := Lib.hid (rw_grown HW8.out hg HGP.out); have HS9 := Lib.hid (blk hg HKP.out HS8.out); clear hp hg)
          | ((with_reducible refine wpList_store_hi rfl _ _ rfl w3.heap.size ⟨R, C, v1, v2, hid, ti⟩ (some ⟨g, 0, none⟩) n1 c2 (v3 == 1) rfl rfl HS9.out ?_); intro w10 hs hb hk hz; have HS10 := Lib.hid hs; have HP10 := Lib.hid (show Rc w10 p R3 from (hk _ (Ne.symm HKP.out)).trans HP9.out); have HW10 := Lib.hid (HW9.out.kept hk HGK.out); have HF10 := Lib.hid (grown_store HF9.out (hb _ _ HKS.out (Below.refl _ _))); clear hs hb hk hz)
          | (go_at_call 74; (with_reducible refine (K4.out _ HP10.out HF10.out).mono ?_); rintro e w11 ⟨rfl, hp, hg⟩; have HP11 := Lib.hid hp; have HF11 := Lib.hid (grown_trans HF10.out hg); have HW11 := Lib.hid (rw_grown HW10.out hg HGP.out); have HS11 := Lib.hid (blk hg HKP.out HS10.out); clear hp hg)
          | ((with_reducible refine wpList_store_ti rfl _ _ rfl w3.heap.size ⟨R, C, v1, v2, v3 == 1, ti⟩ (some ⟨g, 0, none⟩) n1 c2 t4 rfl rfl HS11.out ?_); intro w12 hs hb hk hz; have HS12 := Lib.hid hs; have HP12 := Lib.hid (show Rc w12 p R4 from (hk _ (Ne.symm HKP.out)).trans HP11.out); have HW12 := Lib.hid (HW11.out.kept hk HGK.out); have HF12 := Lib.hid (grown_store HF11.out (hb _ _ HKS.out (Below.refl _ _))); clear hs hb hk hz)
          | (go_at_call 52; (with_reducible refine (HERR.out _ HP12.out).mono ?_); rintro e w' ⟨rfl, rfl⟩)
          | (go_at_call 90; (with_reducible refine (dneed_t _).mono ?_); rintro e w' ⟨rfl, rfl⟩; obtain ⟨z0, z1, z2, z3, z4, z5, z6⟩ := seven HS12.out; (dsimp only at z0 z1 z2 z3 z4 z5 z6); obtain ⟨x0, x1, x2, x3, x4, x5, x6⟩ := seven (s := ⟨R, C, row, col, hid, ti⟩) (blk HF12.out HPZ.out.1 HA1.out); (dsimp only at x0 x1 x2 x3 x4 x5 x6))
          | (go_at_call 91; (with_reducible refine (HST.out g c2 w12 HP12.out (HSC.out w12 (HBW.out w12 HF12.out)) HW12.out HF12.out HGW.out HGP.out HC2.out).mono ?_); rintro e w13 ⟨rfl, hf⟩; have HF13 := Lib.hid (grown_fr HF12.out hf HGW.out); clear hf))
        go_wp2
        exact ⟨rfl, HNO.out _ HF.out (HBW.out _ HF13.out)⟩
      | some M =>
        have HML2 := Lib.hid (show M.length = L.length from HLEN.out M hT)
        have HST := Lib.hid (fun g c2 w' h1 h2 h3 h4 h5 h6 h7 => (HST0 g c2 w' h1 h2 h3 h4 h5 h6 h7).mono fun e w2 hq => st_yes hq hT)
        by_cases hmay : MayS ⟨R, C, v1, v2, v3 == 1, t4⟩ M
        · have HMAY := Lib.hid (fun (g c2 : Nat) w' (hc : n1 ≤ c2) (hs : Sc w' g 0 M) => (HMAYA.out g c2 M w' (HML2.out.trans HLN.out.symm) hc hs).mono fun e w2 hq => may_yes hq hmay)
          have HTM := Lib.hid hT
          have HRE := Lib.hid herr
          have HMM := Lib.hid hmay
          have HNM := Lib.hid (HML2.out.trans HLN.out.symm)
          obtain ⟨f1, f2, f3, f4⟩ := HWV.out
          clear HST0 hT herr hone hmay
          go_wp2_with (first
            | (go_at_call 73; (with_reducible refine (K0.out _ HP1.out HF1.out).mono ?_); rintro e w2 ⟨rfl, hp, hg⟩; have HP2 := Lib.hid hp; have HF2 := Lib.hid (grown_trans HF1.out hg); obtain ⟨y0, y1, y2, y3, y4, y5, y6⟩ := seven (s := ⟨R, C, row, col, hid, ti⟩) (blk HF2.out HPZ.out.1 HA1.out); (dsimp only at y0 y1 y2 y3 y4 y5 y6); clear hp hg)
            | (go_at_call 38; (with_reducible refine (HCOPY.out w2 (HBW.out w2 HF2.out)).mono ?_); rintro e w3 ⟨g, c2, rfl, hgs, hc2, hr, hb⟩; have HGW := Lib.hid (show w1.heap.size ≤ g from Nat.le_trans HF2.out.size hgs); have HP3 := Lib.hid (HP2.out.then_ hb); have HF3 := Lib.hid (grown_trans HF2.out (grown_below hb (some p))); have HW3 := Lib.hid hr; have HC2 := Lib.hid hc2; have HGP := Lib.hid (show g ≠ p from fun e => by have := HP2.out.lt; omega); have HZ3 := Lib.hid (heap_alloc_last w3 sO0); clear hgs hc2 hr hb)
            | ((with_reducible refine wpList_store_sc rfl _ _ rfl w3.heap.size ⟨R, C, row, col, hid, ti⟩ (some ⟨g, 0, none⟩) n1 c2 _ rfl rfl HZ3.out rfl ?_); intro w4 hs hb0 hk hz; have hb := hb0 _ _ (Nat.le_refl _) (below_one w3 sO0); have HS4 := Lib.hid hs; have HP4 := Lib.hid (HP3.out.then_ hb); have HF4 := Lib.hid (grown_trans HF3.out (grown_below hb (some p))); have HW4 := Lib.hid (HW3.out.then_ hb (Nat.le_refl _)); have HKP := Lib.hid (show w3.heap.size ≠ p from Nat.ne_of_gt HP3.out.lt); have HGK := Lib.hid (show g ≠ w3.heap.size from Nat.ne_of_lt HW3.out.lt); have HKS := Lib.hid HF3.out.size; clear hs hb0 hk hz hb)
            | (go_at_call 73; (with_reducible refine (K1.out _ HP4.out HF4.out).mono ?_); rintro e w5 ⟨rfl, hp, hg⟩; have HP5 := Lib.hid hp; have HF5 := Lib.hid (grown_trans HF4.out hg); have HW5 := Lib.hid (rw_grown HW4.out hg HGP.out); have HS5 := Lib.hid (blk hg HKP.out HS4.out); clear hp hg)
            | (go_at_call 73; (with_reducible refine (K2.out _ HP5.out HF5.out).mono ?_); rintro e w6 ⟨rfl, hp, hg⟩; have HP6 := Lib.hid hp; have HF6 := Lib.hid (grown_trans HF5.out hg); have HW6 := Lib.hid (rw_grown HW5.out hg HGP.out); have HS6 := Lib.hid (blk hg HKP.out HS5.out); clear hp hg)
            | ((with_reducible refine wpList_store_rw rfl _ _ rfl w3.heap.size ⟨R, C, row, col, hid, ti⟩ (some ⟨g, 0, none⟩) n1 c2 v1 rfl rfl HS6.out ?_); intro w7 hs hb hk hz; have HS7 := Lib.hid hs; have HP7 := Lib.hid (show Rc w7 p R2 from (hk _ (Ne.symm HKP.out)).trans HP6.out); have HW7 := Lib.hid (HW6.out.kept hk HGK.out); have HF7 := Lib.hid (grown_store HF6.out (hb _ _ HKS.out (Below.refl _ _))); clear hs hb hk hz)
            | ((with_reducible refine wpList_store_co rfl _ _ rfl w3.heap.size ⟨R, C, v1, col, hid, ti⟩ (some ⟨g, 0, none⟩) n1 c2 v2 rfl rfl HS7.out ?_); intro w8 hs hb hk hz; have HS8 := Lib.hid hs; have HP8 := Lib.hid (show Rc w8 p R2 from (hk _ (Ne.symm HKP.out)).trans HP7.out); have HW8 := Lib.hid (HW7.out.kept hk HGK.out); have HF8 := Lib.hid (grown_store HF7.out (hb _ _ HKS.out (Below.refl _ _))); clear hs hb hk hz)
            | (go_at_call 73; (with_reducible refine (K3.out _ HP8.out HF8.out).mono ?_); rintro e w9 ⟨rfl, hp, hg⟩; have HP9 := Lib.hid hp; have HF9 := Lib.hid (grown_trans HF8.out hg); have HW9 := Lib.hid (rw_grown HW8.out hg HGP.out); have HS9 := Lib.hid (blk hg HKP.out HS8.out); clear hp hg)
            | ((with_reducible refine wpList_store_hi rfl _ _ rfl w3.heap.size ⟨R, C, v1, v2, hid, ti⟩ (some ⟨g, 0, none⟩) n1 c2 (v3 == 1) rfl rfl HS9.out ?_); intro w10 hs hb hk hz; have HS10 := Lib.hid hs; have HP10 := Lib.hid (show Rc w10 p R3 from (hk _ (Ne.symm HKP.out)).trans HP9.out); have HW10 := Lib.hid (HW9.out.kept hk HGK.out); have HF10 := Lib.hid (grown_store HF9.out (hb _ _ HKS.out (Below.refl _ _))); clear hs hb hk hz)
            | (go_at_call 74; (with_reducible refine (K4.out _ HP10.out HF10.out).mono ?_); rintro e w11 ⟨rfl, hp, hg⟩; have HP11 := Lib.hid hp; have HF11 := Lib.hid (grown_trans HF10.out hg); have HW11 := Lib.hid (rw_grown HW10.out hg HGP.out); have HS11 := Lib.hid (blk hg HKP.out HS10.out); clear hp hg)
            | ((with_reducible refine wpList_store_ti rfl _ _ rfl w3.heap.size ⟨R, C, v1, v2, v3 == 1, ti⟩ (some ⟨g, 0, none⟩) n1 c2 t4 rfl rfl HS11.out ?_); intro w12 hs hb hk hz; have HS12 := Lib.hid hs; have HP12 := Lib.hid (show Rc w12 p R4 from (hk _ (Ne.symm HKP.out)).trans HP11.out); have HW12 := Lib.hid (HW11.out.kept hk HGK.out); have HF12 := Lib.hid (grown_store HF11.out (hb _ _ HKS.out (Below.refl _ _))); clear hs hb hk hz)
            | (go_at_call 52; (with_reducible refine (HERR.out _ HP12.out).mono ?_); rintro e w' ⟨rfl, rfl⟩)
            | (go_at_call 90; (with_reducible refine (dneed_t _).mono ?_); rintro e w' ⟨rfl, rfl⟩; obtain ⟨z0, z1, z2, z3, z4, z5, z6⟩ := seven HS12.out; (dsimp only at z0 z1 z2 z3 z4 z5 z6); obtain ⟨x0, x1, x2, x3, x4, x5, x6⟩ := seven (s := ⟨R, C, row, col, hid, ti⟩) (blk HF12.out HPZ.out.1 HA1.out); (dsimp only at x0 x1 x2 x3 x4 x5 x6))
            | (go_at_call 91; (with_reducible refine (HST.out g c2 w12 HP12.out (HSC.out w12 (HBW.out w12 HF12.out)) HW12.out HF12.out HGW.out HGP.out HC2.out).mono ?_); rintro e w13 ⟨rfl, hr, hf⟩; have HF13 := Lib.hid (grown_fr HF12.out hf HGW.out); have HW13 := Lib.hid hr; have HS13 := Lib.hid ((hf.block _ (Array.getElem?_eq_some_iff.1 HS12.out).1 HKP.out (Ne.symm HGK.out)).trans HS12.out); obtain ⟨u0, u1, u2, u3, u4, u5, u6⟩ := seven HS13.out; (dsimp only at u0 u1 u2 u3 u4 u5 u6); clear hr hf x0 x1 x2 x3 x4 x5 x6 z0 z1 z2 z3 z4 z5 z6)
            | (go_at_call 28; (with_reducible refine (HMAY.out g c2 w13 HC2.out HW13.out.sc).mono ?_); rintro e w14 ⟨rfl, hb⟩; have HF14 := Lib.hid (grown_trans HF13.out (grown_below hb (some p))); have HW14 := Lib.hid (HW13.out.then_ hb (Nat.le_refl _)); have HZ14 := Lib.hid (blk HF14.out HPZ.out.2 HZ1.out); replace u0 := cell_then hb (Nat.le_refl _) u0; replace u1 := cell_then hb (Nat.le_refl _) u1; replace u2 := cell_then hb (Nat.le_refl _) u2; replace u3 := cell_then hb (Nat.le_refl _) u3; replace u4 := cell_then hb (Nat.le_refl _) u4; replace u5 := cell_then hb (Nat.le_refl _) u5; replace u6 := cell_then hb (Nat.le_refl _) u6; clear hb)
            | (go_at_call 90; (with_reducible refine (dneed_t _).mono ?_); rintro e w' ⟨rfl, rfl⟩)
            | ((with_reducible refine wpList_store_sc rfl _ _ rfl (W.heap.size + 1) ⟨R, C, v1, v2, v3 == 1, t4⟩ (some ⟨g, 0, none⟩) n1 c2 _ rfl rfl HZ14.out rfl ?_); intro w15 hs hb hk hz; obtain ⟨z0, z1, z2, z3, z4, z5, z6⟩ := seven hs; (dsimp only at z0 z1 z2 z3 z4 z5 z6); have HB15 := Lib.hid (hb _ _ (Nat.le_succ _) (HBW.out w14 HF14.out)); have HW15 := Lib.hid (HW14.out.kept hk (by have := HGW.out; have := HW1S.out; have := HSZ.out; omega)); clear hs hb hk hz))
          refine bodyPost_ret (v := svA ⟨R, C, v1, v2, v3 == 1, t4⟩ (some ⟨g, 0, none⟩) n1 c2) (by simp [results, Try.results67, go_sem, z0, z1, z2, z3, z4, z5, z6]) rfl ?_
          have := HYES.out M g c2 w15 HRE.out HTM.out HMM.out (by rw [HNM.out]; exact HC2.out) (Nat.le_trans HB1.out.size HGW.out) HW15.out.sc HB15.out
          rw [HNM.out] at this
          exact this
        · have HMAY := Lib.hid (fun (g c2 : Nat) w' (hc : n1 ≤ c2) (hs : Sc w' g 0 M) => (HMAYA.out g c2 M w' (HML2.out.trans HLN.out.symm) hc hs).mono fun e w2 hq => may_not hq hmay)
          have HF := Lib.hid (show ¬ (R4.err = 0 ∧ ∃ M, T = some M ∧ MayS ⟨R, C, v1, v2, v3 == 1, t4⟩ M) by rintro ⟨_, M', h, h2⟩; rw [hT] at h; injection h with h; subst h; exact hmay h2)
          obtain ⟨f1, f2, f3, f4⟩ := HWV.out
          clear HST0 hT herr hone hmay
          go_wp2_with (first
            | (go_at_call 73; (with_reducible refine (K0.out _ HP1.out HF1.out).mono ?_); rintro e w2 ⟨rfl, hp, hg⟩; have HP2 := Lib.hid hp; have HF2 := Lib.hid (grown_trans HF1.out hg); obtain ⟨y0, y1, y2, y3, y4, y5, y6⟩ := seven (s := ⟨R, C, row, col, hid, ti⟩) (blk HF2.out HPZ.out.1 HA1.out); (dsimp only at y0 y1 y2 y3 y4 y5 y6); clear hp hg)
            | (go_at_call 38; (with_reducible refine (HCOPY.out w2 (HBW.out w2 HF2.out)).mono ?_); rintro e w3 ⟨g, c2, rfl, hgs, hc2, hr, hb⟩; have HGW := Lib.hid (show w1.heap.size ≤ g from Nat.le_trans HF2.out.size hgs); have HP3 := Lib.hid (HP2.out.then_ hb); have HF3 := Lib.hid (grown_trans HF2.out (grown_below hb (some p))); have HW3 := Lib.hid hr; have HC2 := Lib.hid hc2; have HGP := Lib.hid (show g ≠ p from fun e => by have := HP2.out.lt; omega); have HZ3 := Lib.hid (heap_alloc_last w3 sO0); clear hgs hc2 hr hb)
            | ((with_reducible refine wpList_store_sc rfl _ _ rfl w3.heap.size ⟨R, C, row, col, hid, ti⟩ (some ⟨g, 0, none⟩) n1 c2 _ rfl rfl HZ3.out rfl ?_); intro w4 hs hb0 hk hz; have hb := hb0 _ _ (Nat.le_refl _) (below_one w3 sO0); have HS4 := Lib.hid hs; have HP4 := Lib.hid (HP3.out.then_ hb); have HF4 := Lib.hid (grown_trans HF3.out (grown_below hb (some p))); have HW4 := Lib.hid (HW3.out.then_ hb (Nat.le_refl _)); have HKP := Lib.hid (show w3.heap.size ≠ p from Nat.ne_of_gt HP3.out.lt); have HGK := Lib.hid (show g ≠ w3.heap.size from Nat.ne_of_lt HW3.out.lt); have HKS := Lib.hid HF3.out.size; clear hs hb0 hk hz hb)
            | (go_at_call 73; (with_reducible refine (K1.out _ HP4.out HF4.out).mono ?_); rintro e w5 ⟨rfl, hp, hg⟩; have HP5 := Lib.hid hp; have HF5 := Lib.hid (grown_trans HF4.out hg); have HW5 := Lib.hid (rw_grown HW4.out hg HGP.out); have HS5 := Lib.hid (blk hg HKP.out HS4.out); clear hp hg)
            | (go_at_call 73; (with_reducible refine (K2.out _ HP5.out HF5.out).mono ?_); rintro e w6 ⟨rfl, hp, hg⟩; have HP6 := Lib.hid hp; have HF6 := Lib.hid (grown_trans HF5.out hg); have HW6 := Lib.hid (rw_grown HW5.out hg HGP.out); have HS6 := Lib.hid (blk hg HKP.out HS5.out); clear hp hg)
            | ((with_reducible refine wpList_store_rw rfl _ _ rfl w3.heap.size ⟨R, C, row, col, hid, ti⟩ (some ⟨g, 0, none⟩) n1 c2 v1 rfl rfl HS6.out ?_); intro w7 hs hb hk hz; have HS7 := Lib.hid hs; have HP7 := Lib.hid (show Rc w7 p R2 from (hk _ (Ne.symm HKP.out)).trans HP6.out); have HW7 := Lib.hid (HW6.out.kept hk HGK.out); have HF7 := Lib.hid (grown_store HF6.out (hb _ _ HKS.out (Below.refl _ _))); clear hs hb hk hz)
            | ((with_reducible refine wpList_store_co rfl _ _ rfl w3.heap.size ⟨R, C, v1, col, hid, ti⟩ (some ⟨g, 0, none⟩) n1 c2 v2 rfl rfl HS7.out ?_); intro w8 hs hb hk hz; have HS8 := Lib.hid hs; have HP8 := Lib.hid (show Rc w8 p R2 from (hk _ (Ne.symm HKP.out)).trans HP7.out); have HW8 := Lib.hid (HW7.out.kept hk HGK.out); have HF8 := Lib.hid (grown_store HF7.out (hb _ _ HKS.out (Below.refl _ _))); clear hs hb hk hz)
            | (go_at_call 73; (with_reducible refine (K3.out _ HP8.out HF8.out).mono ?_); rintro e w9 ⟨rfl, hp, hg⟩; have HP9 := Lib.hid hp; have HF9 := Lib.hid (grown_trans HF8.out hg); have HW9 := Lib.hid (rw_grown HW8.out hg HGP.out); have HS9 := Lib.hid (blk hg HKP.out HS8.out); clear hp hg)
            | ((with_reducible refine wpList_store_hi rfl _ _ rfl w3.heap.size ⟨R, C, v1, v2, hid, ti⟩ (some ⟨g, 0, none⟩) n1 c2 (v3 == 1) rfl rfl HS9.out ?_); intro w10 hs hb hk hz; have HS10 := Lib.hid hs; have HP10 := Lib.hid (show Rc w10 p R3 from (hk _ (Ne.symm HKP.out)).trans HP9.out); have HW10 := Lib.hid (HW9.out.kept hk HGK.out); have HF10 := Lib.hid (grown_store HF9.out (hb _ _ HKS.out (Below.refl _ _))); clear hs hb hk hz)
            | (go_at_call 74; (with_reducible refine (K4.out _ HP10.out HF10.out).mono ?_); rintro e w11 ⟨rfl, hp, hg⟩; have HP11 := Lib.hid hp; have HF11 := Lib.hid (grown_trans HF10.out hg); have HW11 := Lib.hid (rw_grown HW10.out hg HGP.out); have HS11 := Lib.hid (blk hg HKP.out HS10.out); clear hp hg)
            | ((with_reducible refine wpList_store_ti rfl _ _ rfl w3.heap.size ⟨R, C, v1, v2, v3 == 1, ti⟩ (some ⟨g, 0, none⟩) n1 c2 t4 rfl rfl HS11.out ?_); intro w12 hs hb hk hz; have HS12 := Lib.hid hs; have HP12 := Lib.hid (show Rc w12 p R4 from (hk _ (Ne.symm HKP.out)).trans HP11.out); have HW12 := Lib.hid (HW11.out.kept hk HGK.out); have HF12 := Lib.hid (grown_store HF11.out (hb _ _ HKS.out (Below.refl _ _))); clear hs hb hk hz)
            | (go_at_call 52; (with_reducible refine (HERR.out _ HP12.out).mono ?_); rintro e w' ⟨rfl, rfl⟩)
            | (go_at_call 90; (with_reducible refine (dneed_t _).mono ?_); rintro e w' ⟨rfl, rfl⟩; obtain ⟨z0, z1, z2, z3, z4, z5, z6⟩ := seven HS12.out; (dsimp only at z0 z1 z2 z3 z4 z5 z6); obtain ⟨x0, x1, x2, x3, x4, x5, x6⟩ := seven (s := ⟨R, C, row, col, hid, ti⟩) (blk HF12.out HPZ.out.1 HA1.out); (dsimp only at x0 x1 x2 x3 x4 x5 x6))
            | (go_at_call 91; (with_reducible refine (HST.out g c2 w12 HP12.out (HSC.out w12 (HBW.out w12 HF12.out)) HW12.out HF12.out HGW.out HGP.out HC2.out).mono ?_); rintro e w13 ⟨rfl, hr, hf⟩; have HF13 := Lib.hid (grown_fr HF12.out hf HGW.out); have HW13 := Lib.hid hr; have HS13 := Lib.hid ((hf.block _ (Array.getElem?_eq_some_iff.1 HS12.out).1 HKP.out (Ne.symm HGK.out)).trans HS12.out); obtain ⟨u0, u1, u2, u3, u4, u5, u6⟩ := seven HS13.out; (dsimp only at u0 u1 u2 u3 u4 u5 u6); clear hr hf x0 x1 x2 x3 x4 x5 x6 z0 z1 z2 z3 z4 z5 z6)
            | (go_at_call 28; (with_reducible refine (HMAY.out g c2 w13 HC2.out HW13.out.sc).mono ?_); rintro e w14 ⟨rfl, hb⟩; have HF14 := Lib.hid (grown_trans HF13.out (grown_below hb (some p))); have HW14 := Lib.hid (HW13.out.then_ hb (Nat.le_refl _)); have HZ14 := Lib.hid (blk HF14.out HPZ.out.2 HZ1.out); replace u0 := cell_then hb (Nat.le_refl _) u0; replace u1 := cell_then hb (Nat.le_refl _) u1; replace u2 := cell_then hb (Nat.le_refl _) u2; replace u3 := cell_then hb (Nat.le_refl _) u3; replace u4 := cell_then hb (Nat.le_refl _) u4; replace u5 := cell_then hb (Nat.le_refl _) u5; replace u6 := cell_then hb (Nat.le_refl _) u6; clear hb)
            | (go_at_call 90; (with_reducible refine (dneed_f _).mono ?_); rintro e w' ⟨rfl, rfl⟩))
          go_wp2
          exact ⟨rfl, HNO.out _ HF.out (HBW.out _ HF14.out)⟩
    · have i1 : (R4.err == 0) = false := by rw [beq_eq_false_iff_ne]; exact herr
      have HF := Lib.hid (show ¬ (R4.err = 0 ∧ ∃ M, T = some M ∧ MayS ⟨R, C, v1, v2, v3 == 1, t4⟩ M) from fun h => herr h.1)
      obtain ⟨f1, f2, f3, f4⟩ := HWV.out
      clear HST0 herr hone
      go_wp2_with (first
        | (go_at_call 73; (with_reducible refine (K0.out _ HP1.out HF1.out).mono ?_); rintro e w2 ⟨rfl, hp, hg⟩; have HP2 := Lib.hid hp; have HF2 := Lib.hid (grown_trans HF1.out hg); obtain ⟨y0, y1, y2, y3, y4, y5, y6⟩ := seven (s := ⟨R, C, row, col, hid, ti⟩) (blk HF2.out HPZ.out.1 HA1.out); (dsimp only at y0 y1 y2 y3 y4 y5 y6); clear hp hg)
        | (go_at_call 38; (with_reducible refine (HCOPY.out w2 (HBW.out w2 HF2.out)).mono ?_); rintro e w3 ⟨g, c2, rfl, hgs, hc2, hr, hb⟩; have HGW := Lib.hid (show w1.heap.size ≤ g from Nat.le_trans HF2.out.size hgs); have HP3 := Lib.hid (HP2.out.then_ hb); have HF3 := Lib.hid (grown_trans HF2.out (grown_below hb (some p))); have HW3 := Lib.hid hr; have HC2 := Lib.hid hc2; have HGP := Lib.hid (show g ≠ p from fun e => by have := HP2.out.lt; omega); have HZ3 := Lib.hid (heap_alloc_last w3 sO0); clear hgs hc2 hr hb)
        | ((with_reducible refine wpList_store_sc rfl _ _ rfl w3.heap.size ⟨R, C, row, col, hid, ti⟩ (some ⟨g, 0, none⟩) n1 c2 _ rfl rfl HZ3.out rfl ?_); intro w4 hs hb0 hk hz; have hb := hb0 _ _ (Nat.le_refl _) (below_one w3 sO0); have HS4 := Lib.hid hs; have HP4 := Lib.hid (HP3.out.then_ hb); have HF4 := Lib.hid (grown_trans HF3.out (grown_below hb (some p))); have HW4 := Lib.hid (HW3.out.then_ hb (Nat.le_refl _)); have HKP := Lib.hid (show w3.heap.size ≠ p from Nat.ne_of_gt HP3.out.lt); have HGK := Lib.hid (show g ≠ w3.heap.size from Nat.ne_of_lt HW3.out.lt); have HKS := Lib.hid HF3.out.size; clear hs hb0 hk hz hb)
        | (go_at_call 73; (with_reducible refine (K1.out _ HP4.out HF4.out).mono ?_); rintro e w5 ⟨rfl, hp, hg⟩; have HP5 := Lib.hid hp; have HF5 := Lib.hid (grown_trans HF4.out hg); have HW5 := Lib.hid (rw_grown HW4.out hg HGP.out); have HS5 := Lib.hid (blk hg HKP.out HS4.out); clear hp hg)
        | (go_at_call 73; (with_reducible refine (K2.out _ HP5.out HF5.out).mono ?_); rintro e w6 ⟨rfl, hp, hg⟩; have HP6 := Lib.hid hp; have HF6 := Lib.hid (grown_trans HF5.out hg); have HW6 := Lib.hid (rw_grown HW5.out hg HGP.out); have HS6 := Lib.hid (blk hg HKP.out HS5.out); clear hp hg)
        | ((with_reducible refine wpList_store_rw rfl _ _ rfl w3.heap.size ⟨R, C, row, col, hid, ti⟩ (some ⟨g, 0, none⟩) n1 c2 v1 rfl rfl HS6.out ?_); intro w7 hs hb hk hz; have HS7 := Lib.hid hs; have HP7 := Lib.hid (show Rc w7 p R2 from (hk _ (Ne.symm HKP.out)).trans HP6.out); have HW7 := Lib.hid (HW6.out.kept hk HGK.out); have HF7 := Lib.hid (grown_store HF6.out (hb _ _ HKS.out (Below.refl _ _))); clear hs hb hk hz)
        | ((with_reducible refine wpList_store_co rfl _ _ rfl w3.heap.size ⟨R, C, v1, col, hid, ti⟩ (some ⟨g, 0, none⟩) n1 c2 v2 rfl rfl HS7.out ?_); intro w8 hs hb hk hz; have HS8 := Lib.hid hs; have HP8 := Lib.hid (show Rc w8 p R2 from (hk _ (Ne.symm HKP.out)).trans HP7.out); have HW8 := Lib.hid (HW7.out.kept hk HGK.out); have HF8 := Lib.hid (grown_store HF7.out (hb _ _ HKS.out (Below.refl _ _))); clear hs hb hk hz)
        | (go_at_call 73; (with_reducible refine (K3.out _ HP8.out HF8.out).mono ?_); rintro e w9 ⟨rfl, hp, hg⟩; have HP9 := Lib.hid hp; have HF9 := Lib.hid (grown_trans HF8.out hg); have HW9 := Lib.hid (rw_grown HW8.out hg HGP.out); have HS9 := Lib.hid (blk hg HKP.out HS8.out); clear hp hg)
        | ((with_reducible refine wpList_store_hi rfl _ _ rfl w3.heap.size ⟨R, C, v1, v2, hid, ti⟩ (some ⟨g, 0, none⟩) n1 c2 (v3 == 1) rfl rfl HS9.out ?_); intro w10 hs hb hk hz; have HS10 := Lib.hid hs; have HP10 := Lib.hid (show Rc w10 p R3 from (hk _ (Ne.symm HKP.out)).trans HP9.out); have HW10 := Lib.hid (HW9.out.kept hk HGK.out); have HF10 := Lib.hid (grown_store HF9.out (hb _ _ HKS.out (Below.refl _ _))); clear hs hb hk hz)
        | (go_at_call 74; (with_reducible refine (K4.out _ HP10.out HF10.out).mono ?_); rintro e w11 ⟨rfl, hp, hg⟩; have HP11 := Lib.hid hp; have HF11 := Lib.hid (grown_trans HF10.out hg); have HW11 := Lib.hid (rw_grown HW10.out hg HGP.out); have HS11 := Lib.hid (blk hg HKP.out HS10.out); clear hp hg)
        | ((with_reducible refine wpList_store_ti rfl _ _ rfl w3.heap.size ⟨R, C, v1, v2, v3 == 1, ti⟩ (some ⟨g, 0, none⟩) n1 c2 t4 rfl rfl HS11.out ?_); intro w12 hs hb hk hz; have HS12 := Lib.hid hs; have HP12 := Lib.hid (show Rc w12 p R4 from (hk _ (Ne.symm HKP.out)).trans HP11.out); have HW12 := Lib.hid (HW11.out.kept hk HGK.out); have HF12 := Lib.hid (grown_store HF11.out (hb _ _ HKS.out (Below.refl _ _))); clear hs hb hk hz)
        | (go_at_call 52; (with_reducible refine (HERR.out _ HP12.out).mono ?_); rintro e w' ⟨rfl, rfl⟩)
        | (go_at_call 90; (with_reducible refine (dneed_f _).mono ?_); rintro e w' ⟨rfl, rfl⟩))
      go_wp2
      exact ⟨rfl, HNO.out _ HF.out (HBW.out _ HF12.out)⟩
end Go.Proofs.Ytfogbokifbjjlaa.Di
/- diff.Apply. -/
set_option linter.unusedVariables false
namespace Go.Proofs.Ytfogbokifbjjlaa.Dj
open Go Go.RowKit Kit Gm Gv Crc Var Get Bytes WireFirst Ref3 Copy Ap Sa Sb Sd Rd RdA La Lb Ld Oe Of Na Nb Tk Pb Da Db Df Dg Dh Di

theorem tm66 (a b v : Value) : #[a, b] ++ ((Array.replicate 15 undef).setIfInBounds 3 v).setIfInBounds 0 v = #[a, b, v, undef, undef, v, undef, undef, undef, undef, undef, undef, undef, undef, undef, undef, undef] := by
  apply Array.toList_inj.1
  simp [List.replicate]
/-- the deferred closure, where all ended well: nothing. -/
theorem idle66 (a b : Addr) (w : World) :
    CallsD Try.prog 66 #[.pointer (some a), .pointer (some b)] .returning w fun e u' w' => e = .returned (.tuple #[]) ∧ u' = .returning ∧ w' = w := by
  refine callsD_of_wpS Try.func66 rfl fun c₀ cs hu => ?_
  apply wpS_seq
  apply wpS_region
  simp [wpOpsS, go_sem, recoverD, hu, Try.ntmps66, Exit.thenS]
  refine wpS_of_wp ?_
  rw [tm66]
  go_wp2
  cases c₀
  simp_all [bodyPostS, results, Try.results66]
set_option maxRecDepth 100000 in
set_option maxHeartbeats 2000000 in
/-- the deferred closure catches diff's own fault. -/
theorem own66 (w : World) (g : Nat) (y : Int) (older : List PanicEntry) (h : ResS w g sO0 y) :
    CallsD Try.prog 66 #[.pointer (some ⟨g, 0, none⟩), .pointer (some ⟨g + 1, 0, none⟩)] (.panicking ({ v := dfault, recovered := false } :: older)) w fun en u' w' =>
      en = .returned (.tuple #[]) ∧ u' = .panicking ({ v := dfault, recovered := true } :: older) ∧ ResS w' g sO0 2 ∧ ∀ B W, B ≤ g → Below B W w → Below B W w' := by
  have hta : ∀ w, (Instr.typeAssert (.iface 90 (.agg #[])) 20 90 true).run Try.prog w = .ok (.tuple #[.agg #[], .bool true]) w := fun w => by kernel_rfl
  have hlt := Lib.hid (show g + 1 < w.heap.size from (Array.getElem?_eq_some_iff.1 h.2).1)
  have hb := below_one w (.cells #[] 90)
  have HR1 := Lib.hid ((hb.block _ (Array.getElem?_eq_some_iff.1 h.1).1).trans h.1)
  have HR2 := Lib.hid ((hb.block _ (Array.getElem?_eq_some_iff.1 h.2).1).trans h.2)
  have HB1 := Lib.hid hb
  have HI28 := Lib.hid (show (Try.prog.info? 28).map (·.size) = some 1 by kernel_rfl)
  have HL := Lib.hid (show 0 < (#[Value.int .i64 y] : Array Value).size from Nat.zero_lt_one)
  have HU := Lib.hid (show (#[Value.int .i64 y] : Array Value).setIfInBounds 0 (.int .i64 2) = #[.int .i64 2] from rfl)
  generalize hw1 : w.alloc (.cells #[] 90) = w1 at *
  clear h hb
  refine callsD_of_wpS Try.func66 rfl fun c₀ cs hu => ?_
  unfold dfault at hu ⊢
  apply wpS_seq
  apply wpS_region
  simp [wpOpsS, go_sem, recoverD, hu, Try.ntmps66, Exit.thenS]
  refine wpS_of_wp ?_
  rw [tm66]
  go_wp2_with (first
    | ((with_reducible refine wpList_store_sc rfl _ _ rfl g ⟨0, 0, 0, 0, false, ⟨#[]⟩⟩ none 0 0 _ rfl rfl HR1.out rfl ?_); intro w2 hs hb hk hz; have HS2 := Lib.hid hs; have HE2 := Lib.hid ((hk _ (Nat.succ_ne_self _)).trans HR2.out); have HW2 := Lib.hid hb; clear hs hb hk hz)
    | ((with_reducible refine wpList_store_at rfl 28 _ _ rfl HI28.out (g + 1) 0 28 #[.int .i64 y] #[.int .i64 2] (.int .i64 2) rfl rfl rfl rfl HE2.out HL.out HU.out ?_); intro w3 hs hb hk hz; have HS3 := Lib.hid ((hk _ (Nat.ne_of_lt (Nat.lt_succ_self _))).trans HS2.out); have HE3 := Lib.hid hs; have HW3 := Lib.hid hb; clear hs hb hk hz))
  exact ⟨rfl, _, rfl, .tuple #[], by simp [results, Try.results66], rfl, rfl, ⟨HS3.out, HE3.out⟩, fun B W hB hw => HW3.out _ _ (Nat.le_succ_of_le hB) (HW2.out _ _ hB (below_then hw HB1.out (Nat.le_trans hB (by have := hlt.out; omega))))⟩
/-- what Apply answers. -/
def AyQ (s : Scr) (L : List Ce) (d : List Nat) (w : World) (e : Ending) (w' : World) : Prop :=
  (∃ (r : Rdr) (t : Scr) (M : List Ce) (g c : Nat), r.at_ = 0 ∧ r.err = 0 ∧ AppR s L d r t M ∧ e = .returned (.tuple #[svA t (some ⟨g, 0, none⟩) M.length c, .int .i64 0]) ∧ M.length ≤ c ∧ Sc w' g 0 M ∧ Below w.heap.size w w') ∨
  ((∃ r : Rdr, r.at_ = 0 ∧ r.err = 0 ∧ ¬ ∃ t M, AppR s L d r t M) ∧ e = .returned (.tuple #[svA ⟨0, 0, 0, 0, false, ⟨#[]⟩⟩ none 0 0, .int .i64 2]) ∧ Below w.heap.size w w')
theorem sc_keep {w w' : World} {k b off : Nat} {L : List Ce} (h : Sc w b off L) (hk : ∀ j, j ≠ k → w'.heap[j]? = w.heap[j]?) (hb : b ≠ k) : Sc w' b off L := by
  intro j hj i hi
  rw [World.cell?_of_block (hk b hb)]; exact h j hj i hi
/-- the worlds of Apply's three blocks. -/
theorem three_new (W : World) (o : Obj) : Below W.heap.size W (((W.alloc o).alloc sO0).alloc (.cells #[.int .i64 0] 28)) ∧ (((W.alloc o).alloc sO0).alloc (.cells #[.int .i64 0] 28)).heap[W.heap.size]? = some o ∧ ResS (((W.alloc o).alloc sO0).alloc (.cells #[.int .i64 0] 28)) (W.heap.size + 1) sO0 0 ∧ (((W.alloc o).alloc sO0).alloc (.cells #[.int .i64 0] 28)).heap.size = W.heap.size + 3 := by
  have h1 := below_one W o
  have h2 := below_two (W.alloc o) sO0 (.cells #[.int .i64 0] 28)
  have h3 := two_heap (W.alloc o) sO0 (.cells #[.int .i64 0] 28)
  have hs : (W.alloc o).heap.size = W.heap.size + 1 := by simp
  refine ⟨below_then h1 h2 h1.size, (h2.block _ (by rw [hs]; omega)).trans (heap_alloc_last W o), ?_, by simp⟩
  rw [hs] at h3
  exact h3
set_option maxRecDepth 100000 in
set_option maxHeartbeats 8000000 in
/-- diff.Apply, to a screen that may not be. -/
theorem applyNo (R C row col : Int) (hid : Bool) (ti : ByteArray) (a1 : Option Addr) (n1 c1 : Nat) (L : List Ce) (b : Option Addr) (m cb : Nat) (W : World) (h1 : ScA W a1 n1 c1 L) (f1 : n1 ≤ 1000000 ∧ ti.size ≤ 1000000) (m1 : ¬ MayS ⟨R, C, row, col, hid, ti⟩ L) :
    Calls Try.prog 36 #[svA ⟨R, C, row, col, hid, ti⟩ a1 n1 c1, .slice b m cb] W fun e w' => e = .returned (.tuple #[svA ⟨0, 0, 0, 0, false, ⟨#[]⟩⟩ none 0 0, .int .i64 1]) ∧ Below W.heap.size W w' := by
  obtain ⟨hb, hA, hR, hsz⟩ := three_new W (svO ⟨R, C, row, col, hid, ti⟩ a1 n1 c1)
  obtain ⟨x0, x1, x2, x3, x4, x5, x6⟩ := seven hA
  dsimp only [svO] at hb hR hsz x0 x1 x2 x3 x4 x5 x6
  generalize hw0 : ((W.alloc (.cells #[.int .i64 R, .int .i64 C, .slice a1 n1 c1, .int .i64 row, .int .i64 col, .bool hid, .string ti] 24)).alloc (.cells #[.int .i64 0, .int .i64 0, .slice none 0 0, .int .i64 0, .int .i64 0, .bool false, .string ⟨#[]⟩] 24)).alloc (.cells #[.int .i64 0] 28) = w0 at *
  have HMAY := Lib.hid (mayNoA ⟨R, C, row, col, hid, ti⟩ a1 n1 c1 L w0 (h1.then_ hb (Nat.le_refl _)) f1 m1)
  have HB := Lib.hid hb
  have HR1 := Lib.hid hR.1
  have HR2 := Lib.hid hR.2
  have HI28 := Lib.hid (show (Try.prog.info? 28).map (·.size) = some 1 by kernel_rfl)
  have HL := Lib.hid (show 0 < (#[Value.int .i64 0] : Array Value).size from Nat.zero_lt_one)
  have HU := Lib.hid (show (#[Value.int .i64 0] : Array Value).setIfInBounds 0 (.int .i64 1) = #[.int .i64 1] from rfl)
  clear hb hA hR h1 f1 m1 hsz
  go_enter_defers Try.func36, Try.ntmps36
  go_wp2_with (first
    | (go_at_call 28; (with_reducible refine HMAY.out.mono ?_); rintro e w1 ⟨rfl, hb⟩; have HB1 := Lib.hid (below_then HB.out hb HB.out.size); have HS1 := Lib.hid ((hb.block _ (Array.getElem?_eq_some_iff.1 HR1.out).1).trans HR1.out); have HE1 := Lib.hid ((hb.block _ (Array.getElem?_eq_some_iff.1 HR2.out).1).trans HR2.out); clear hb)
    | ((with_reducible refine wpList_store_sc rfl _ _ rfl (W.heap.size + 1) ⟨0, 0, 0, 0, false, ⟨#[]⟩⟩ none 0 0 _ rfl rfl HS1.out rfl ?_); intro w2 hs hb hk hz; have HS2 := Lib.hid hs; have HE2 := Lib.hid ((hk _ (Nat.succ_ne_self _)).trans HE1.out); have HB2 := Lib.hid (hb _ _ (Nat.le_succ _) HB1.out); clear hs hb hk hz)
    | ((with_reducible refine wpList_store_at rfl 28 _ _ rfl HI28.out (W.heap.size + 1 + 1) 0 28 #[.int .i64 0] #[.int .i64 1] (.int .i64 1) rfl rfl rfl rfl HE2.out HL.out HU.out ?_); intro w3 hs hb hk hz; have HS3 := Lib.hid ((hk _ (Nat.ne_of_lt (Nat.lt_succ_self _))).trans HS2.out); have HE3 := Lib.hid hs; have HB3 := Lib.hid (hb _ _ (Nat.le_succ_of_le (Nat.le_succ _)) HB2.out); clear hs hb hk hz))
  obtain ⟨z0, z1, z2, z3, z4, z5, z6⟩ := seven HS3.out
  dsimp only at z0 z1 z2 z3 z4 z5 z6
  have z7 : w3.cell? ⟨W.heap.size + 1 + 1, 0, none⟩ = some (.int .i64 1) := cell_of_row w3 (W.heap.size + 1 + 1) 0 _ 28 _ HE3.out
  simp [bodyPostD, Leaves, results, Try.results36, go_sem, z0, z1, z2, z3, z4, z5, z6, z7]
  exact HB3.out
set_option maxRecDepth 100000 in
set_option maxHeartbeats 8000000 in
/-- diff.Apply, to a screen that may be. -/
theorem applyYes (R C row col : Int) (hid : Bool) (ti : ByteArray) (q1 o1 n1 c1 : Nat) (L : List Ce) (b : Option Addr) (m cb : Nat) (d : List Nat) (W : World) (h1 : ScA W (some ⟨q1, o1, none⟩) n1 c1 L) (f1 : n1 ≤ 1000000 ∧ ti.size ≤ 1000000) (m1 : MayS ⟨R, C, row, col, hid, ti⟩ L)
    (hm : m = d.length) (hm3 : d.length ≤ 1000000) (h8 : ∀ c ∈ d, c < 256) (hl : Sl W b d) (hcb : m ≤ cb) (hb0 : b = none → cb = 0) :
    Calls Try.prog 36 #[svA ⟨R, C, row, col, hid, ti⟩ (some ⟨q1, o1, none⟩) n1 c1, .slice b m cb] W (AyQ ⟨R, C, row, col, hid, ti⟩ L d W) := by
  have hmf := RdB.hmf
  obtain ⟨hb, hA, hR, hsz⟩ := three_new W (svO ⟨R, C, row, col, hid, ti⟩ (some ⟨q1, o1, none⟩) n1 c1)
  obtain ⟨x0, x1, x2, x3, x4, x5, x6⟩ := seven hA
  dsimp only [svO] at hb hR hsz x0 x1 x2 x3 x4 x5 x6
  generalize hw0 : ((W.alloc (.cells #[.int .i64 R, .int .i64 C, .slice (some ⟨q1, o1, none⟩) n1 c1, .int .i64 row, .int .i64 col, .bool hid, .string ti] 24)).alloc (.cells #[.int .i64 0, .int .i64 0, .slice none 0 0, .int .i64 0, .int .i64 0, .bool false, .string ⟨#[]⟩] 24)).alloc (.cells #[.int .i64 0] 28) = w0 at *
  have HMAY := Lib.hid (mayYesA ⟨R, C, row, col, hid, ti⟩ (some ⟨q1, o1, none⟩) n1 c1 L w0 (h1.then_ hb (Nat.le_refl _)) f1 m1)
  have HAPP := Lib.hid (fun w1 (hb : Below W.heap.size W w1) => applyC R C row col hid ti q1 o1 n1 c1 L b m cb d w1 (h1.then_ hb (Nat.le_refl _)) m1 hm hm3 h8 (sl_then hb (Nat.le_refl _) hl) hcb hb0)
  have HB := Lib.hid hb
  have HR1 := Lib.hid hR.1
  have HR2 := Lib.hid hR.2
  have HSZ := Lib.hid hsz
  have HI28 := Lib.hid (show (Try.prog.info? 28).map (·.size) = some 1 by kernel_rfl)
  have HL := Lib.hid (show 0 < (#[Value.int .i64 0] : Array Value).size from Nat.zero_lt_one)
  have HU := Lib.hid (show (#[Value.int .i64 0] : Array Value).setIfInBounds 0 (.int .i64 0) = #[.int .i64 0] from rfl)
  clear hb hA hR h1 f1 m1 hsz hm hm3 h8 hl hcb hb0
  go_enter_defers Try.func36, Try.ntmps36
  go_wp2_with (go_at_call 28; (with_reducible refine HMAY.out.mono ?_); rintro e w1 ⟨rfl, hb⟩; have HB1 := Lib.hid (below_then HB.out hb HB.out.size); have HS1 := Lib.hid ((hb.block _ (Array.getElem?_eq_some_iff.1 HR1.out).1).trans HR1.out); have HE1 := Lib.hid ((hb.block _ (Array.getElem?_eq_some_iff.1 HR2.out).1).trans HR2.out); have HZ1 := Lib.hid hb.size; replace x0 := cell_then hb (Nat.le_refl _) x0; replace x1 := cell_then hb (Nat.le_refl _) x1; replace x2 := cell_then hb (Nat.le_refl _) x2; replace x3 := cell_then hb (Nat.le_refl _) x3; replace x4 := cell_then hb (Nat.le_refl _) x4; replace x5 := cell_then hb (Nat.le_refl _) x5; replace x6 := cell_then hb (Nat.le_refl _) x6; clear hb; refine Hid.out ?_)
  refine Lib.hid ?_
  go_wp2_with fail
  refine (HAPP.out _ HB1.out).mono ?_
  rintro e w2 (⟨r, t, M, g, c, a1, a2, a3, rfl, a4, a5, a6, hb⟩ | ⟨hno, rfl, hb⟩)
  · have HB2 := Lib.hid (below_then HB1.out hb HB1.out.size)
    have HS2 := Lib.hid ((hb.block _ (Array.getElem?_eq_some_iff.1 HS1.out).1).trans HS1.out)
    have HE2 := Lib.hid ((hb.block _ (Array.getElem?_eq_some_iff.1 HE1.out).1).trans HE1.out)
    have HG := Lib.hid (show W.heap.size + 3 ≤ g by have := HZ1.out; have := HSZ.out; omega)
    have HM := Lib.hid a6
    have HA := Lib.hid (show r.at_ = 0 ∧ r.err = 0 ∧ AppR ⟨R, C, row, col, hid, ti⟩ L d r t M ∧ M.length ≤ c from ⟨a1, a2, a3, a4⟩)
    clear a1 a2 a3 a4 a5 a6 hb x0 x1 x2 x3 x4 x5 x6
    obtain ⟨R2, C2, row2, col2, hid2, ti2⟩ := t
    go_wp2_with (first
      | ((with_reducible refine wpList_store_sc rfl _ _ rfl (W.heap.size + 1) ⟨R2, C2, row2, col2, hid2, ti2⟩ (some ⟨g, 0, none⟩) M.length c _ rfl rfl HS2.out rfl ?_); intro w3 hs hk0 hk hz; have HS3 := Lib.hid hs; have HE3 := Lib.hid ((hk _ (Nat.succ_ne_self _)).trans HE2.out); have HB3 := Lib.hid (hk0 _ _ (Nat.le_succ _) HB2.out); have HM3 := Lib.hid (sc_keep HM.out hk (by have := HG.out; omega)); clear hs hk0 hk hz)
      | ((with_reducible refine wpList_store_at rfl 28 _ _ rfl HI28.out (W.heap.size + 1 + 1) 0 28 #[.int .i64 0] #[.int .i64 0] (.int .i64 0) rfl rfl rfl rfl HE3.out HL.out HU.out ?_); intro w4 hs hk0 hk hz; have HS4 := Lib.hid ((hk _ (Nat.ne_of_lt (Nat.lt_succ_self _))).trans HS3.out); have HE4 := Lib.hid hs; have HB4 := Lib.hid (hk0 _ _ (Nat.le_succ_of_le (Nat.le_succ _)) HB3.out); have HM4 := Lib.hid (sc_keep HM3.out hk (by have := HG.out; omega)); clear hs hk0 hk hz))
    obtain ⟨z0, z1, z2, z3, z4, z5, z6⟩ := seven (s := ⟨R2, C2, row2, col2, hid2, ti2⟩) HS4.out
    dsimp only at z0 z1 z2 z3 z4 z5 z6
    have z7 : w4.cell? ⟨W.heap.size + 1 + 1, 0, none⟩ = some (.int .i64 0) := cell_of_row w4 (W.heap.size + 1 + 1) 0 _ 28 _ HE4.out
    refine leaves_cons (f := 66) (args := #[.pointer (some ⟨W.heap.size + 1, 0, none⟩), .pointer (some ⟨W.heap.size + 1 + 1, 0, none⟩)]) (by simp) (by simp [go_sem]) ?_
    refine (idle66 ⟨W.heap.size + 1, 0, none⟩ ⟨W.heap.size + 1 + 1, 0, none⟩ _).mono ?_
    rintro e u' w'' ⟨rfl, rfl, rfl⟩
    have HOUT := Lib.hid (show AyQ ⟨R, C, row, col, hid, ti⟩ L d W (.returned (.tuple #[svA ⟨R2, C2, row2, col2, hid2, ti2⟩ (some ⟨g, 0, none⟩) M.length c, .int .i64 0])) w'' from .inl ⟨r, _, M, g, c, HA.out.1, HA.out.2.1, HA.out.2.2.1, rfl, HA.out.2.2.2, HM4.out, HB4.out⟩)
    simp [Leaves, settle, results, Try.results36, go_sem, Act.put, z0, z1, z2, z3, z4, z5, z6, z7]
    exact HOUT.out
  · have HB2 := Lib.hid (below_then HB1.out hb HB1.out.size)
    have HRS := Lib.hid (show ResS w2 (W.heap.size + 1) sO0 0 from ⟨(hb.block _ (Array.getElem?_eq_some_iff.1 HS1.out).1).trans HS1.out, (hb.block _ (Array.getElem?_eq_some_iff.1 HE1.out).1).trans HE1.out⟩)
    have HN := Lib.hid hno
    clear hno hb x0 x1 x2 x3 x4 x5 x6
    go_wp2
    refine leaves_cons (f := 66) (args := #[.pointer (some ⟨W.heap.size + 1, 0, none⟩), .pointer (some ⟨W.heap.size + 1 + 1, 0, none⟩)]) (by simp) (by simp [go_sem]) ?_
    refine (own66 _ (W.heap.size + 1) _ [] HRS.out).mono ?_
    rintro e u' w'' ⟨rfl, rfl, h3, h4⟩
    obtain ⟨z0, z1, z2, z3, z4, z5, z6⟩ := seven h3.1
    dsimp only at z0 z1 z2 z3 z4 z5 z6
    have z7 : w''.cell? ⟨W.heap.size + 1 + 1, 0, none⟩ = some (.int .i64 2) := cell_of_row w'' (W.heap.size + 1 + 1) 0 _ 28 _ h3.2
    have HOUT := Lib.hid (show AyQ ⟨R, C, row, col, hid, ti⟩ L d W (.returned (.tuple #[svA ⟨0, 0, 0, 0, false, ⟨#[]⟩⟩ none 0 0, .int .i64 2])) w'' from .inr ⟨HN.out, rfl, h4 _ _ (Nat.le_succ _) HB2.out⟩)
    clear h3 h4
    simp [Leaves, settle, results, Try.results36, go_sem, z0, z1, z2, z3, z4, z5, z6, z7]
    exact HOUT.out
end Go.Proofs.Ytfogbokifbjjlaa.Dj
