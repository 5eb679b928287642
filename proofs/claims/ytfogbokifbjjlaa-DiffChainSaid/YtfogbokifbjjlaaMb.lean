/- Reading runs of cells (key.runs): a plain function, and the contract of the code where all goes well. -/
import Derived.Test.YtfogbokifbjjlaaMa
import Derived.Laws.MakeOwn
import Derived.Deep.CutRange
set_option linter.unusedVariables false
namespace Go.Proofs.Ytfogbokifbjjlaa.Mb
open Go Go.RowKit Kit Gm Gv Crc Var Get Bytes WireFirst Ref3 Copy Ap Sa Sb Rd RdA RdB RdC RdF La Ma

/-- a run was read, of a cell that may be. -/
def okRun (l : List Nat) (r : Rdr) : Prop := (rst l r 6).err = 0 ∧ rva l r 1 ≤ 1114111 ∧ Cell.mayB (cellR (rva l r)).r (cellR (rva l r)).fl (cellR (rva l r)).fg (cellR (rva l r)).bg (cellR (rva l r)).wd = true
instance (l : List Nat) (r : Rdr) : Decidable (okRun l r) := by unfold okRun; infer_instance
/-- .. that may stand behind acc, of n in all. -/
def fitRun (l : List Nat) (n : Nat) (r : Rdr) (acc : List Ce) : Prop := okRun l r ∧ 0 < rva l r 0 ∧ rva l r 0 ≤ ((n - acc.length : Nat) : Int) ∧ (acc = [] ∨ acc.getLast? ≠ some (cellR (rva l r)))
instance (l : List Nat) (n : Nat) (r : Rdr) (acc : List Ce) : Decidable (fitRun l n r acc) := by unfold fitRun; infer_instance
/-- n cells by runs. -/
def runsF (l : List Nat) (n : Nat) : Nat → Rdr → List Ce → Option (Rdr × List Ce)
  | 0, r, acc => some (r, acc)
  | f + 1, r, acc => if n ≤ acc.length then some (r, acc) else if fitRun l n r acc then runsF l n f (rst l r 6) (acc ++ List.replicate (rva l r 0).toNat (cellR (rva l r))) else none
theorem runs_end {l : List Nat} {n f : Nat} {r : Rdr} {acc : List Ce} (h : n ≤ acc.length) : runsF l n f r acc = some (r, acc) := by
  cases f with
  | zero => rfl
  | succ f => rw [runsF, if_pos h]
theorem runs_step {l : List Nat} {n f : Nat} {r : Rdr} {acc : List Ce} {x : Rdr × List Ce} (h : runsF l n (f + 1) r acc = some x) (hl : ¬ n ≤ acc.length) : fitRun l n r acc ∧ runsF l n f (rst l r 6) (acc ++ List.replicate (rva l r 0).toNat (cellR (rva l r))) = some x := by
  rw [runsF, if_neg hl] at h
  by_cases hf : fitRun l n r acc
  · rw [if_pos hf] at h; exact ⟨hf, h⟩
  · rw [if_neg hf] at h; cases h
/-- a cell behind a row of one's own that has room. -/
theorem wpList_append_cell {w : World} {ops : Array Oper} {rest : List Oper} {o : Oper} {a : Act} {Q : Exit → Act → World → Prop} (hgd : o.guard = none) (s x : Operand)
    (ho : o.op = .call { callee := .builtin .append, args := #[s, x], argTypes := #[22, 22] }) (g k q : Nat) (hs : a.eval s = .slice (some ⟨g, 0, none⟩) k q) (A Z : List Ce) (d : Ce) (h : RB w g (A ++ d :: Z)) (hk : k = A.length) (hkq : k + 1 ≤ q)
    (b cap : Nat) (c : Ce) (hx : a.eval x = .slice (some ⟨b, 0, none⟩) 1 cap) (hc : RB w b [c])
    (hK : ∀ w', putR w g (A ++ c :: Z) = w' → wpList Try.prog ops Q rest (a.put o.dst (.slice (some ⟨g, 0, none⟩) (k + 1) q)) w') : wpList Try.prog ops Q (o :: rest) a w := by
  obtain ⟨i0, hi, hz, hs5, hby⟩ := info_parts info52
  have hfl : (flat (A ++ d :: Z)).length = (A.length + 1 + Z.length) * 5 := by rw [flat_len]; simp; omega
  have hr := run_append_room (P := Try.prog) w 22 o.type 52 i0 Try.underlying22 hi g k q (flat (A ++ d :: Z)).toArray h ⟨b, 0, none⟩ 1 cap (flat [c]) (by rw [hs5]; rfl) (by
    intro j u hu
    have hadd : (⟨b, 0, none⟩ : Addr).add j = ⟨b, j, none⟩ := by unfold Addr.add; split <;> simp_all
    rw [hadd]
    unfold RB at hc
    simp [World.cell?, hc]
    simpa using hu) (flat_one [c]) hkq (by rw [hs5, hk]; simp only [List.size_toArray]; rw [hfl]; simp [flat_len]; omega)
  have e : ((flat (A ++ d :: Z)).toArray.toList.take (k * i0.size) ++ flat [c] ++ (flat (A ++ d :: Z)).toArray.toList.drop (k * i0.size + (flat [c]).length)) = flat (A ++ c :: Z) := by
    rw [hs5, hk]
    have := flat_set A d c Z
    simpa [flat, cv] using this
  rw [e] at hr
  refine wpList_plain hgd fun _ hk' => ?_
  unfold Oper.wp execOp
  simp only [ho, resolve, invoke, builtin, Sem.run_bind, Sem.run_pure, Result.andThen_ok, List.map_toArray, List.map_cons, List.map_nil, hs, hx, hr]
  exact hk' _ _ (hK _ rfl)
theorem make_room (q : Nat) (hq : q ≤ 12000) (w : World) : (Instr.makeSlice 22 (.int .i64 0) (.int .i64 (q : Int))).run Try.prog w = .ok (.slice (some ⟨w.heap.size, 0, none⟩) 0 q) (w.alloc (.cells (flat (List.replicate q zeroC)).toArray 52)) := by
  obtain ⟨i0, hi, hz, hs, hb⟩ := info_parts info52
  have hr := run_make (P := Try.prog) w 22 52 i0 _ Try.underlying22 hi hz .i64 .i64 0 (q : Int) (Int.le_refl _) (Int.natCast_nonneg _) (by rw [hb]; omega) (by omega)
  rw [hr, hs, Int.toNat_natCast, ← Sf.made_flat]
  rfl
theorem by_same {w : World} {r r1 : Rdr} {l : List Nat} (h : By w r l) (h1 : r1.a = r.a ∧ r1.len = r.len ∧ r1.cap = r.cap) : By w r1 l :=
  ⟨h1.2.1.trans h.len, by rw [h1.1]; exact h.sl, by rw [h1.2.1, h1.2.2]; exact h.cap, h.small, h.byte⟩
theorem rst_same (l : List Nat) (r : Rdr) (k : Nat) : (rst l r k).a = r.a ∧ (rst l r k).len = r.len ∧ (rst l r k).cap = r.cap := by
  induction k with
  | zero => exact ⟨rfl, rfl, rfl⟩
  | succ k ih =>
    obtain ⟨h1, h2, h3⟩ := num_a l (rst l r k) M64
    exact ⟨h1.trans ih.1, h2.trans ih.2.1, h3.trans ih.2.2⟩
theorem rb_at {w : World} {g j : Nat} {L : List Ce} {c : Ce} (h : RB w g L) (hc : L[j]? = some c) : w.cell? ⟨g, j * 5, none⟩ = some (.int .i32 c.r) ∧ w.cell? ⟨g, j * 5 + 1, none⟩ = some (.int .i64 c.fl) ∧ w.cell? ⟨g, j * 5 + 2, none⟩ = some (.int .i64 c.fg) ∧ w.cell? ⟨g, j * 5 + 3, none⟩ = some (.int .i64 c.bg) ∧ w.cell? ⟨g, j * 5 + 4, none⟩ = some (.int .i64 c.wd) := by
  obtain ⟨hl, rfl⟩ := List.getElem?_eq_some_iff.1 hc
  exact ⟨h.cell j hl 0 (by omega), h.cell j hl 1 (by omega), h.cell j hl 2 (by omega), h.cell j hl 3 (by omega), h.cell j hl 4 (by omega)⟩
theorem rep_room {c : Ce} {A : List Ce} {j m : Nat} (h : j < m) : A ++ List.replicate j c ++ List.replicate (m - j) zeroC = (A ++ List.replicate j c) ++ zeroC :: List.replicate (m - (j + 1)) zeroC := by
  rw [show m - j = (m - (j + 1)) + 1 by omega, List.replicate_succ]
theorem rep_put {c : Ce} {A Z : List Ce} {j : Nat} : (A ++ List.replicate j c) ++ c :: Z = A ++ List.replicate (j + 1) c ++ Z := by
  rw [List.replicate_succ']; simp
theorem last_of {A : List Ce} (h : A ≠ []) : ∃ d, A.getLast? = some d ∧ A[A.length - 1]? = some d := by
  have := List.getLast?_eq_getElem? (l := A)
  refine ⟨A.getLast h, List.getLast?_eq_some_getLast h, ?_⟩
  rw [← this]; exact List.getLast?_eq_some_getLast h
set_option maxRecDepth 100000 in
set_option maxHeartbeats 8000000 in
/-- key.runs, where all goes well. -/
theorem runsYes (p : Nat) (r r' : Rdr) (l : List Nat) (n : Nat) (L : List Ce) (w : World) (hn : n ≤ 12000) (hp : Rc w p r) (hl : By w r l) (h : runsF l n (n + 1) r [] = some (r', L)) :
    Calls Try.prog 54 #[.pointer (some ⟨p, 0, none⟩), .int .i64 (n : Int)] w fun e w' => ∃ g, e = .returned (.slice (some ⟨g, 0, none⟩) L.length n) ∧ w.heap.size ≤ g ∧ RB w' g (L ++ List.replicate (n - L.length) zeroC) ∧ Rc w' p r' ∧ w.grownBy w' (some p) ∧ L.length = n := by
  have hmk := make_room n hn w
  have hpl := hp.lt
  have hz := heap_alloc_last w (.cells (flat (List.replicate n zeroC)).toArray 52)
  have hb := below_one w (.cells (flat (List.replicate n zeroC)).toArray 52)
  generalize hZ0 : (flat (List.replicate n zeroC)).toArray = Z0 at *
  generalize hw0 : w.alloc (.cells Z0 52) = w0 at *
  have HR0 := Lib.hid (show RB w0 w.heap.size ([] ++ List.replicate (n - 0) zeroC) by unfold RB; rw [List.nil_append, Nat.sub_zero, hZ0]; exact hz)
  have HP0 := Lib.hid (hp.then_ hb)
  have HG0 := Lib.hid (grown_below hb (some p))
  have HBY := Lib.hid (fun w' (hg : w.grownBy w' (some p)) => By.grown hp hl hg)
  have HPL := Lib.hid hpl
  have HN := Lib.hid hn
  have HF := Lib.hid h
  have HRR := Lib.hid (fun (r1 : Rdr) (w1 : World) (h1 : Rc w1 p r1) (h2 : By w1 r1 l) (hk : okRun l r1) => readRunOk p r1 l w1 h1 h2 hk.1 hk.2.1 hk.2.2)
  clear h hp hl hz hb hZ0 hpl
  go_enter Try.func54, Try.ntmps54
  go_wp2
  go_loopw [5] (fun s5 wr => ∃ (f : Nat) (r1 : Rdr) (acc : List Ce), acc.length ≤ n ∧ s5 = .slice (some ⟨w.heap.size, 0, none⟩) acc.length n ∧ Hid (runsF l n f r1 acc = some (r', L)) ∧ Hid (n - acc.length < f) ∧ Hid (RB wr w.heap.size (acc ++ List.replicate (n - acc.length) zeroC)) ∧ Hid (Rc wr p r1) ∧ Hid (r1.a = r.a ∧ r1.len = r.len ∧ r1.cap = r.cap) ∧ Hid (w.grownBy wr (some p))) (fun s5 _ => match s5 with | .slice _ m _ => n - m | _ => 0)
  case atStart => exact ⟨n + 1, r, [], Nat.zero_le _, rfl, HF, Lib.hid (Nat.lt_succ_self _), HR0, HP0, Lib.hid ⟨rfl, rfl, rfl⟩, HG0⟩
  case round =>
    obtain ⟨f, r1, acc, hk, rfl, HFr, HFu, HRr, HPr, HSr, HGr⟩ := hrel
    by_cases hlt : acc.length < n
    · obtain ⟨f, rfl⟩ : ∃ f', f = f' + 1 := ⟨f - 1, by have := HFu.out; omega⟩
      obtain ⟨⟨hok, hv0, hv1, hlast⟩, hnx⟩ := runs_step HFr.out (by omega)
      obtain ⟨V, hV⟩ := Int.eq_ofNat_of_zero_le (Int.le_of_lt hv0)
      have HRUN := Lib.hid (HRR.out r1 wr HPr.out (by_same (HBY.out wr HGr.out) HSr.out) hok)
      rw [hV] at HRUN hnx hv0 hv1
      rw [Int.toNat_natCast] at hnx
      generalize cellR (rva l r1) = c at *
      have HNX := Lib.hid hnx
      clear hok hnx hV
      obtain ⟨k, hkk⟩ : ∃ k, k = acc.length := ⟨_, rfl⟩
      obtain ⟨m, hm⟩ : ∃ m, m = n - k := ⟨_, rfl⟩
      have HRr2 := HRr
      rw [← hkk] at hv1 hlt hk HFu HRr2 ⊢
      rw [← hm] at hv1 HRr2
      have HKK := Lib.hid hkk
      have HM := Lib.hid (show k + m = n ∧ 0 < m ∧ V ≤ m ∧ 0 < V by omega)
      have HFF := Lib.hid (show n - (k + V) < f by have := HFu.out; omega)
      have HLST := Lib.hid (show (((k : Int) == 0) = true) ∨ (((k : Int) == 0) = false ∧ ∃ j d, k = j + 1 ∧ acc[j]? = some d ∧ d ≠ c) by
        rcases hlast with h | h
        · left; rw [beq_iff_eq, hkk, h]; rfl
        · by_cases h0 : acc = []
          · left; rw [beq_iff_eq, hkk, h0]; rfl
          · obtain ⟨d, h1, h2⟩ := last_of h0
            have hpos : 0 < acc.length := List.length_pos_iff.2 h0
            refine .inr ⟨by rw [beq_eq_false_iff_ne]; omega, k - 1, d, by omega, by rw [hkk]; exact h2, fun e => h (by rw [h1, e])⟩)
      have e1 : IntKind.i64.wrap ((n : Int) - (k : Int)) = (m : Int) := by rw [IntWalk.i64_in _ (by have := HN.out; omega)]; omega
      have e2 : wrap64 ((n : Int) - (k : Int)) = (m : Int) := by rw [IntWalk.wrap64_in _ (by have := HN.out; omega)]; omega
      have e3 : IntKind.u64.wrap (m : Int) = (m : Int) := by rw [IntKind.wrap_u64]; have := HN.out; omega
      have hltI : (k : Int) < (n : Int) := by omega
      clear hlast hm hkk hk hlt HFu HRr HFr
      obtain ⟨cr, cfl, cfg, cbg, cwd⟩ := c
      go_upto_region 5 with (first
        | (go_at_call 79; (with_reducible refine HRUN.out.mono ?_); rintro e w5 ⟨rfl, hp5, hg5⟩; have hal := below_one w5 (.cells #[.int .i32 cr, .int .i64 cfl, .int .i64 cfg, .int .i64 cbg, .int .i64 cwd] 52); have HX6 := Lib.hid (heap_alloc_last w5 (.cells #[.int .i32 cr, .int .i64 cfl, .int .i64 cfg, .int .i64 cbg, .int .i64 cwd] 52)); have hr5 : RB w5 w.heap.size (acc ++ List.replicate m zeroC) := (hg5.block _ HRr2.out.lt (by have := HPL.out; intro e; injection e with e; omega)).trans HRr2.out; have HGX := Lib.hid (show w.heap.size < w5.heap.size from hr5.lt); have HR6 := Lib.hid (hr5.then_ hal (Nat.le_refl _)); have HP6 := Lib.hid (hp5.then_ hal); have HG6 := Lib.hid (grown_trans (grown_trans HGr.out hg5) (grown_below hal (some p))); have HPX := Lib.hid (show p ≠ w5.heap.size from Nat.ne_of_lt hp5.lt); clear hp5 hg5 hal hr5)
        | (go_at_call 75; (with_reducible refine (need_t _).mono ?_); rintro e w' ⟨rfl, rfl⟩))
      have HCX := HRUN
      clear HRUN HCX
      generalize hw6 : w5.alloc (.cells #[.int .i32 cr, .int .i64 cfl, .int .i64 cfg, .int .i64 cbg, .int .i64 cwd] 52) = w6 at *
      generalize hx6 : w5.heap.size = x6 at *
      obtain ⟨x0, x1, x2, x3, x4⟩ := La.five (c := ⟨cr, cfl, cfg, cbg, cwd⟩) HX6.out
      dsimp only at x0 x1 x2 x3 x4
      clear e1 e2 e3 hv0 hv1 hw6 hx6
      have HSS := Lib.hid (show (rst l r1 6).a = r.a ∧ (rst l r1 6).len = r.len ∧ (rst l r1 6).cap = r.cap from ⟨(rst_same l r1 6).1.trans HSr.out.1, (rst_same l r1 6).2.1.trans HSr.out.2.1, (rst_same l r1 6).2.2.trans HSr.out.2.2⟩)
      rcases HLST.out with h0 | ⟨h0, j0, d, hkj, hd, hne⟩
      · go_quiet ((go_at_call 75; exact Calls.quiet_of_same ((need_t _).mono fun _ _ h => ⟨h.1, h.2.symm⟩)))
        clear x0 x1 x2 x3 x4 h0
        go_wp2
        have HB7 := Lib.hid (show Below w6.heap.size w6 (w6.drewN nq) from ⟨rfl, rfl, rfl, Nat.le_refl _, fun _ _ => rfl⟩)
        have HR7 := Lib.hid (show RB (w6.drewN nq) w.heap.size (acc ++ List.replicate 0 (⟨cr, cfl, cfg, cbg, cwd⟩ : Ce) ++ List.replicate (m - 0) zeroC) by rw [List.replicate_zero, List.append_nil, Nat.sub_zero]; exact HR6.out)
        have HP7 := Lib.hid (show Rc (w6.drewN nq) p (rst l r1 6) from HP6.out)
        have HG7 := Lib.hid (show w.grownBy (w6.drewN nq) (some p) from ⟨HG6.out.os, HG6.out.tape, HG6.out.output, HG6.out.size, HG6.out.block⟩)
        have HX7 := Lib.hid (show (w6.drewN nq).heap[x6]? = some (cO ⟨cr, cfl, cfg, cbg, cwd⟩) from HX6.out)
        generalize w6.drewN nq = w7 at *
        go_loopw [5, 46] (fun s5 s46 wr => ∃ j : Nat, j ≤ V ∧ s46 = .int .u64 j ∧ s5 = .slice (some ⟨w.heap.size, 0, none⟩) (k + j) n ∧ Hid (RB wr w.heap.size (acc ++ List.replicate j (⟨cr, cfl, cfg, cbg, cwd⟩ : Ce) ++ List.replicate (m - j) zeroC)) ∧ Hid (Rc wr p (rst l r1 6)) ∧ Hid (wr.heap[x6]? = some (cO ⟨cr, cfl, cfg, cbg, cwd⟩)) ∧ Hid (w.grownBy wr (some p))) (fun _ s46 _ => V - (intOf s46).toNat)
        case atStart => exact ⟨0, Nat.zero_le _, rfl, rfl, HR7, HP7, HX7, HG7⟩
        case round =>
          obtain ⟨j, hj, rfl, rfl, HRj, HPj, HXj, HGj⟩ := hrel
          obtain ⟨x0, x1, x2, x3, x4⟩ := La.five HXj.out
          dsimp only at x0 x1 x2 x3 x4
          by_cases hlt2 : j < V
          · have HKj := Lib.hid (show j + 1 ≤ V ∧ V - (j + 1) < V - j by omega)
            have HJM := Lib.hid (show j < m ∧ k + j + 1 ≤ n by have := HM.out; omega)
            have hjI : (j : Int) < (V : Int) := by omega
            have hju : IntKind.u64.wrap ((j : Int) + 1) = (j : Int) + 1 := by rw [IntKind.wrap_u64]; have := HM.out; have := HN.out; omega
            have HRj2 := Lib.hid (show RB wr w.heap.size ((acc ++ List.replicate j (⟨cr, cfl, cfg, cbg, cwd⟩ : Ce)) ++ zeroC :: List.replicate (m - (j + 1)) zeroC) by rw [← rep_room HJM.out.1]; exact HRj.out)
            have HKL := Lib.hid (show k + j = (acc ++ List.replicate j (⟨cr, cfl, cfg, cbg, cwd⟩ : Ce)).length by rw [List.length_append, List.length_replicate, ← HKK.out])
            have HS1 := Lib.hid (HRj2.out.alloc (.cells #[.int .i32 cr, .int .i64 cfl, .int .i64 cfg, .int .i64 cbg, .int .i64 cwd] 52))
            have HS2 := Lib.hid (show RB (wr.alloc (.cells #[.int .i32 cr, .int .i64 cfl, .int .i64 cfg, .int .i64 cbg, .int .i64 cwd] 52)) wr.heap.size [⟨cr, cfl, cfg, cbg, cwd⟩] from heap_alloc_last wr _)
            have hal := below_one wr (.cells #[.int .i32 cr, .int .i64 cfl, .int .i64 cfg, .int .i64 cbg, .int .i64 cwd] 52)
            have HS3 := Lib.hid (HPj.out.then_ hal)
            have HS4 := Lib.hid ((hal.block _ (Array.getElem?_eq_some_iff.1 HXj.out).1).trans HXj.out)
            have HS5 := Lib.hid (grown_trans HGj.out (grown_below hal (some p)))
            clear hal hj hlt2
            go_wp2_with (at_builtin; refine wpList_append_cell rfl _ _ rfl w.heap.size (k + j) n rfl (acc ++ List.replicate j (⟨cr, cfl, cfg, cbg, cwd⟩ : Ce)) (List.replicate (m - (j + 1)) zeroC) zeroC HS1.out HKL.out HJM.out.2 wr.heap.size 1 ⟨cr, cfl, cfg, cbg, cwd⟩ rfl HS2.out ?_; intro w8 hw8; have HR8 := Lib.hid (show RB w8 w.heap.size (acc ++ List.replicate (j + 1) (⟨cr, cfl, cfg, cbg, cwd⟩ : Ce) ++ List.replicate (m - (j + 1)) zeroC) by rw [← hw8, ← rep_put]; exact HS1.out.put _); have HP8 := Lib.hid (show Rc w8 p (rst l r1 6) by rw [← hw8]; exact (setRow_other _ w.heap.size p _ (Nat.ne_of_lt HPL.out)).trans HS3.out); have HX8 := Lib.hid (show w8.heap[x6]? = some (cO ⟨cr, cfl, cfg, cbg, cwd⟩) by rw [← hw8]; exact (setRow_other _ w.heap.size x6 _ (Ne.symm (Nat.ne_of_lt HGX.out))).trans HS4.out); have HG8 := Lib.hid (show w.grownBy w8 (some p) by rw [← hw8]; exact ⟨HS5.out.os, HS5.out.tape, HS5.out.output, by unfold putR; simpa using HS5.out.size, fun b hb hx => (setRow_other _ w.heap.size b _ (Nat.ne_of_lt hb)).trans (HS5.out.block b hb hx)⟩); clear hw8)
            first
              | exact ⟨⟨j + 1, HKj.out.1, by go_num, rfl, HR8, HP8, HX8, HG8⟩, by simp only [intOf]; exact HKj.out.2⟩
              | (go_roundw
                 · exact ⟨j + 1, HKj.out.1, by go_num, rfl, HR8, HP8, HX8, HG8⟩
                 · simp only [intOf]; exact HKj.out.2)
          · obtain rfl : j = V := by omega
            have HLE := Lib.hid (show (acc ++ List.replicate j (⟨cr, cfl, cfg, cbg, cwd⟩ : Ce)).length = k + j by rw [List.length_append, List.length_replicate, ← HKK.out])
            have HMM := Lib.hid (show k + j ≤ n ∧ n - (k + j) = m - j ∧ n - (k + j) < n - k by have := HM.out; omega)
            clear hj hlt2
            go_wp2
            first
              | exact ⟨⟨f, rst l r1 6, acc ++ List.replicate j (⟨cr, cfl, cfg, cbg, cwd⟩ : Ce), by rw [HLE.out]; exact HMM.out.1, by rw [HLE.out], HNX, Lib.hid (by rw [HLE.out]; exact HFF.out), Lib.hid (by rw [HLE.out, HMM.out.2.1]; exact HRj.out), HPj, HSS, HGj⟩, HMM.out.2.2⟩
              | (go_roundw
                 · exact ⟨f, rst l r1 6, acc ++ List.replicate j (⟨cr, cfl, cfg, cbg, cwd⟩ : Ce), by rw [HLE.out]; exact HMM.out.1, by rw [HLE.out], HNX, Lib.hid (by rw [HLE.out]; exact HFF.out), Lib.hid (by rw [HLE.out, HMM.out.2.1]; exact HRj.out), HPj, HSS, HGj⟩
                 · exact HMM.out.2.2)
      · obtain ⟨y0, y1, y2, y3, y4⟩ := (rb_at HR6.out (show (acc ++ List.replicate m zeroC)[j0]? = some d by rw [List.getElem?_append_left (List.getElem?_eq_some_iff.1 hd).1]; exact hd))
        have hce := ce_ne hne
        have f1 : IntKind.i64.wrap ((k : Int) - 1) = (j0 : Int) := by rw [IntWalk.i64_in _ (by have := HN.out; have := HM.out; omega)]; omega
        have f2 : wrap64 ((k : Int) - 1) = (j0 : Int) := by rw [IntWalk.wrap64_in _ (by have := HN.out; have := HM.out; omega)]; omega
        have f3 : j0 < k := by omega
        have f4 : (j0 : Int) < (k : Int) := by omega
        have f5 : (0 : Int) ≤ (j0 : Int) := Int.natCast_nonneg _
        obtain ⟨dr, dfl, dfg, dbg, dwd⟩ := d
        dsimp only at y0 y1 y2 y3 y4 hce
        clear hkj hd hne
        rcases hce with h1 | h1 | h1 | h1 | h1
        all_goals
          go_quiet ((go_at_call 75; exact Calls.quiet_of_same ((need_t _).mono fun _ _ h => ⟨h.1, h.2.symm⟩)))
          clear x0 x1 x2 x3 x4 y0 y1 y2 y3 y4 h0 h1 f1 f2 f3 f4 f5
          go_wp2
          have HB7 := Lib.hid (show Below w6.heap.size w6 (w6.drewN nq) from ⟨rfl, rfl, rfl, Nat.le_refl _, fun _ _ => rfl⟩)
          have HR7 := Lib.hid (show RB (w6.drewN nq) w.heap.size (acc ++ List.replicate 0 (⟨cr, cfl, cfg, cbg, cwd⟩ : Ce) ++ List.replicate (m - 0) zeroC) by rw [List.replicate_zero, List.append_nil, Nat.sub_zero]; exact HR6.out)
          have HP7 := Lib.hid (show Rc (w6.drewN nq) p (rst l r1 6) from HP6.out)
          have HG7 := Lib.hid (show w.grownBy (w6.drewN nq) (some p) from ⟨HG6.out.os, HG6.out.tape, HG6.out.output, HG6.out.size, HG6.out.block⟩)
          have HX7 := Lib.hid (show (w6.drewN nq).heap[x6]? = some (cO ⟨cr, cfl, cfg, cbg, cwd⟩) from HX6.out)
          generalize w6.drewN nq = w7 at *
          go_loopw [5, 46] (fun s5 s46 wr => ∃ j : Nat, j ≤ V ∧ s46 = .int .u64 j ∧ s5 = .slice (some ⟨w.heap.size, 0, none⟩) (k + j) n ∧ Hid (RB wr w.heap.size (acc ++ List.replicate j (⟨cr, cfl, cfg, cbg, cwd⟩ : Ce) ++ List.replicate (m - j) zeroC)) ∧ Hid (Rc wr p (rst l r1 6)) ∧ Hid (wr.heap[x6]? = some (cO ⟨cr, cfl, cfg, cbg, cwd⟩)) ∧ Hid (w.grownBy wr (some p))) (fun _ s46 _ => V - (intOf s46).toNat)
          case atStart => exact ⟨0, Nat.zero_le _, rfl, rfl, HR7, HP7, HX7, HG7⟩
          case round =>
            obtain ⟨j, hj, rfl, rfl, HRj, HPj, HXj, HGj⟩ := hrel
            obtain ⟨x0, x1, x2, x3, x4⟩ := La.five HXj.out
            dsimp only at x0 x1 x2 x3 x4
            by_cases hlt2 : j < V
            · have HKj := Lib.hid (show j + 1 ≤ V ∧ V - (j + 1) < V - j by omega)
              have HJM := Lib.hid (show j < m ∧ k + j + 1 ≤ n by have := HM.out; omega)
              have hjI : (j : Int) < (V : Int) := by omega
              have hju : IntKind.u64.wrap ((j : Int) + 1) = (j : Int) + 1 := by rw [IntKind.wrap_u64]; have := HM.out; have := HN.out; omega
              have HRj2 := Lib.hid (show RB wr w.heap.size ((acc ++ List.replicate j (⟨cr, cfl, cfg, cbg, cwd⟩ : Ce)) ++ zeroC :: List.replicate (m - (j + 1)) zeroC) by rw [← rep_room HJM.out.1]; exact HRj.out)
              have HKL := Lib.hid (show k + j = (acc ++ List.replicate j (⟨cr, cfl, cfg, cbg, cwd⟩ : Ce)).length by rw [List.length_append, List.length_replicate, ← HKK.out])
              have HS1 := Lib.hid (HRj2.out.alloc (.cells #[.int .i32 cr, .int .i64 cfl, .int .i64 cfg, .int .i64 cbg, .int .i64 cwd] 52))
              have HS2 := Lib.hid (show RB (wr.alloc (.cells #[.int .i32 cr, .int .i64 cfl, .int .i64 cfg, .int .i64 cbg, .int .i64 cwd] 52)) wr.heap.size [⟨cr, cfl, cfg, cbg, cwd⟩] from heap_alloc_last wr _)
              have hal := below_one wr (.cells #[.int .i32 cr, .int .i64 cfl, .int .i64 cfg, .int .i64 cbg, .int .i64 cwd] 52)
              have HS3 := Lib.hid (HPj.out.then_ hal)
              have HS4 := Lib.hid ((hal.block _ (Array.getElem?_eq_some_iff.1 HXj.out).1).trans HXj.out)
              have HS5 := Lib.hid (grown_trans HGj.out (grown_below hal (some p)))
              clear hal hj hlt2
              go_wp2_with (at_builtin; refine wpList_append_cell rfl _ _ rfl w.heap.size (k + j) n rfl (acc ++ List.replicate j (⟨cr, cfl, cfg, cbg, cwd⟩ : Ce)) (List.replicate (m - (j + 1)) zeroC) zeroC HS1.out HKL.out HJM.out.2 wr.heap.size 1 ⟨cr, cfl, cfg, cbg, cwd⟩ rfl HS2.out ?_; intro w8 hw8; have HR8 := Lib.hid (show RB w8 w.heap.size (acc ++ List.replicate (j + 1) (⟨cr, cfl, cfg, cbg, cwd⟩ : Ce) ++ List.replicate (m - (j + 1)) zeroC) by rw [← hw8, ← rep_put]; exact HS1.out.put _); have HP8 := Lib.hid (show Rc w8 p (rst l r1 6) by rw [← hw8]; exact (setRow_other _ w.heap.size p _ (Nat.ne_of_lt HPL.out)).trans HS3.out); have HX8 := Lib.hid (show w8.heap[x6]? = some (cO ⟨cr, cfl, cfg, cbg, cwd⟩) by rw [← hw8]; exact (setRow_other _ w.heap.size x6 _ (Ne.symm (Nat.ne_of_lt HGX.out))).trans HS4.out); have HG8 := Lib.hid (show w.grownBy w8 (some p) by rw [← hw8]; exact ⟨HS5.out.os, HS5.out.tape, HS5.out.output, by unfold putR; simpa using HS5.out.size, fun b hb hx => (setRow_other _ w.heap.size b _ (Nat.ne_of_lt hb)).trans (HS5.out.block b hb hx)⟩); clear hw8)
              first
                | exact ⟨⟨j + 1, HKj.out.1, by go_num, rfl, HR8, HP8, HX8, HG8⟩, by simp only [intOf]; exact HKj.out.2⟩
                | (go_roundw
                   · exact ⟨j + 1, HKj.out.1, by go_num, rfl, HR8, HP8, HX8, HG8⟩
                   · simp only [intOf]; exact HKj.out.2)
            · obtain rfl : j = V := by omega
              have HLE := Lib.hid (show (acc ++ List.replicate j (⟨cr, cfl, cfg, cbg, cwd⟩ : Ce)).length = k + j by rw [List.length_append, List.length_replicate, ← HKK.out])
              have HMM := Lib.hid (show k + j ≤ n ∧ n - (k + j) = m - j ∧ n - (k + j) < n - k by have := HM.out; omega)
              clear hj hlt2
              go_wp2
              first
                | exact ⟨⟨f, rst l r1 6, acc ++ List.replicate j (⟨cr, cfl, cfg, cbg, cwd⟩ : Ce), by rw [HLE.out]; exact HMM.out.1, by rw [HLE.out], HNX, Lib.hid (by rw [HLE.out]; exact HFF.out), Lib.hid (by rw [HLE.out, HMM.out.2.1]; exact HRj.out), HPj, HSS, HGj⟩, HMM.out.2.2⟩
                | (go_roundw
                   · exact ⟨f, rst l r1 6, acc ++ List.replicate j (⟨cr, cfl, cfg, cbg, cwd⟩ : Ce), by rw [HLE.out]; exact HMM.out.1, by rw [HLE.out], HNX, Lib.hid (by rw [HLE.out]; exact HFF.out), Lib.hid (by rw [HLE.out, HMM.out.2.1]; exact HRj.out), HPj, HSS, HGj⟩
                   · exact HMM.out.2.2)
    · have he : acc.length = n := by omega
      have HE := Lib.hid (show r1 = r' ∧ acc = L by
        have h := HFr.out
        rw [runs_end (by omega)] at h
        injection h with h; injection h with h1 h2; exact ⟨h1, h2⟩)
      obtain ⟨rfl, rfl⟩ := HE.out
      have HEN := Lib.hid he
      have hge : ¬ (acc.length : Int) < (n : Int) := by omega
      clear hk hlt he
      go_wp2
      go_ret
      exact ⟨_, rfl, Nat.le_refl _, HRr.out, HPr.out, HGr.out, HEN.out⟩
end Go.Proofs.Ytfogbokifbjjlaa.Mb
