/- Gather.put as one step; its deferred closure. -/
import Derived.Test.YtellhkcleicfbaaFg
set_option linter.unusedVariables false
namespace Go.Proofs.Ytellhkcleicfbaa.Fh
open Go Go.RowKit Go.MapKept Kit Crc Var Get Bytes WireFirst Ref3 Copy Ap Rd RdA RdB RdC RdD RdE Fr Fa Sb Fb Fc Fd Fe Ff Fg

/-- a Gather, without memory: its message, how many parts that has, the parts that came. -/
structure PS where
  id : Nat
  cnt : Nat
  l : List (Nat × List Nat)
def bodyL (l : List (Nat × List Nat)) (i : Nat) : List Nat := ((l.find? (fun q => q.1 == i)).map (fun q => q.2)).getD []
def pairs (E : List (Nat × Part)) : List (Nat × List Nat) := E.map (fun q => (q.1, q.2.l))
/-- a part comes. -/
def addP (s : PS) (pl cn : Nat) (body : List Nat) : PS × Bool × Int × List Nat :=
  if cn ≠ s.cnt then (s, false, 2, [])
  else if pl ∈ s.l.map (·.1) then (if bodyL s.l pl = body then (s, false, 0, []) else (s, false, 2, []))
  else if s.l.length + 1 < s.cnt then (⟨s.id, s.cnt, s.l ++ [(pl, body)]⟩, false, 0, [])
  else (⟨s.id, s.cnt, s.l ++ [(pl, body)]⟩, true, 0, catB (bodyL (s.l ++ [(pl, body)])) s.cnt)
def stepP (s : PS) (id pl cn : Nat) (body : List Nat) : PS × Bool × Int × List Nat :=
  if id < s.id then (s, false, 0, []) else if s.id < id then addP ⟨id, cn, []⟩ pl cn body else addP s pl cn body
theorem bodyE_L (E : List (Nat × Part)) : bodyE E = bodyL (pairs E) := by
  funext i
  unfold bodyE bodyL pairs
  rw [List.find?_map]
  simp [Function.comp_def, Option.map_map]
theorem pairs_keys (E : List (Nat × Part)) : (pairs E).map (·.1) = E.map (·.1) := by unfold pairs; rw [List.map_map]; rfl
theorem pairs_app (E F : List (Nat × Part)) : pairs (E ++ F) = pairs E ++ pairs F := by unfold pairs; rw [List.map_append]
theorem pairs_len (E : List (Nat × Part)) : (pairs E).length = E.length := by unfold pairs; rw [List.length_map]
/-- what put answers. -/
def P20 (lo p : Nat) (m : Option Nat) (r : PS × Bool × Int × List Nat) (w : World) (e : Ending) (w' : World) : Prop :=
  ∃ m' E', GM w' lo p r.1.id r.1.cnt m' E' ∧ pairs E' = r.1.l ∧ GF w w' p m ∧ ((r.2.2.1 = 0 ∧ ∃ v, e = .returned (.tuple #[v, .bool r.2.1]) ∧ Rb w' w.heap.size v r.2.2.2) ∨ (r.2.2.1 = 2 ∧ r.2.1 = false ∧ r.2.2.2 = [] ∧ e = .panicked [{ v := ffault, recovered := false }]))
/-- Gather.put, in one. -/
theorem put20 (lo p id cnt : Nat) (m : Option Nat) (E : List (Nat × Part)) (id' pl cn : Nat) (q : Option Addr) (n c : Nat) (body : List Nat) (w : World) (h : GM w lo p id cnt m E) (hn : n = body.length) (hp : Pt w ⟨q, c, body⟩) (hok : PartOk id' pl cn body) (hlo : lo ≤ w.heap.size) (hpx : ∀ x, q = some x → x.block ≠ p) (hE : E.length ≤ 3000) :
    Calls Try.prog 20 #[.pointer (some ⟨p, 0, none⟩), ptA (id' : Int) (pl : Int) (cn : Int) q n c] w (P20 lo p m (stepP ⟨id, cnt, pairs E⟩ id' pl cn body) w) := by
  by_cases h1 : id' < id
  · refine (putOld lo p id cnt m E id' pl cn q n c body w h hn hp hok hlo hpx h1).mono fun e w' hq => ?_
    have e1 : stepP ⟨id, cnt, pairs E⟩ id' pl cn body = (⟨id, cnt, pairs E⟩, false, 0, []) := by unfold stepP; rw [if_pos h1]
    rw [e1]
    exact ⟨m, E, hq.2.1, rfl, hq.2.2, .inl ⟨rfl, _, hq.1, rb_nil _ _⟩⟩
  · by_cases h2 : id < id'
    · have e1 : stepP ⟨id, cnt, pairs E⟩ id' pl cn body = addP ⟨id', cn, []⟩ pl cn body := by unfold stepP; rw [if_neg h1, if_pos h2]
      rw [e1]
      by_cases h3 : 1 < cn
      · refine (putNew lo p id cnt m E id' pl cn q n c body w h hn hp hok hlo hpx h2 h3).mono fun e w' hq => ?_
        obtain ⟨m', he, hg, hf⟩ := hq
        have e2 : addP ⟨id', cn, []⟩ pl cn body = (⟨id', cn, [(pl, body)]⟩, false, 0, []) := by
          unfold addP; rw [if_neg (by simp), if_neg (by simp), if_pos (by simpa using h3)]; rfl
        rw [e2]
        exact ⟨m', _, hg, rfl, hf, .inl ⟨rfl, _, he, rb_nil _ _⟩⟩
      · have h4 : cn = 1 := by have := hok.2.2.1; omega
        refine (putOne lo p id cnt m E id' pl cn q n c body w h hn hp hok hlo hpx h2 h4).mono fun e w' hq => ?_
        obtain ⟨m', u, he, hr, hg, hf⟩ := hq
        have e2 : addP ⟨id', cn, []⟩ pl cn body = (⟨id', cn, [(pl, body)]⟩, true, 0, catB (bodyL [(pl, body)]) cn) := by
          unfold addP; rw [if_neg (by simp), if_neg (by simp), if_neg (by simpa using h3)]; rfl
        rw [e2]
        rw [bodyE_L] at hr
        exact ⟨m', _, hg, rfl, hf, .inl ⟨rfl, _, he, hr⟩⟩
    · obtain rfl : id = id' := by omega
      have e1 : stepP ⟨id, cnt, pairs E⟩ id pl cn body = addP ⟨id, cnt, pairs E⟩ pl cn body := by unfold stepP; rw [if_neg h1, if_neg h2]
      rw [e1]
      obtain ⟨b, rfl⟩ : ∃ b, m = some b := by
        cases m with
        | none => have := h.zero rfl; have := hok.1; omega
        | some b => exact ⟨b, rfl⟩
      by_cases h3 : cn = cnt
      · subst h3
        by_cases h4 : ∃ P, (pl, P) ∈ E
        · obtain ⟨P, hP⟩ := h4
          have hm : pl ∈ (pairs E).map (·.1) := by rw [pairs_keys]; exact List.mem_map.2 ⟨_, hP, rfl⟩
          have hb : P.l = bodyL (pairs E) pl := by
            rw [← bodyE_L]
            obtain ⟨Q, hQ, e⟩ := bodyE_mem (List.mem_map.2 ⟨_, hP, rfl⟩ : pl ∈ E.map (·.1))
            rw [ent_one h.nod hP hQ]; exact e
          by_cases h5 : P.l = body
          · refine (putHad lo p id cn b E pl q n c body w h hn hp hok hlo hpx P hP h5).mono fun e w' hq => ?_
            have e2 : addP ⟨id, cn, pairs E⟩ pl cn body = (⟨id, cn, pairs E⟩, false, 0, []) := by
              unfold addP; rw [if_neg (by simp), if_pos hm, if_pos (by rw [← hb]; exact h5)]
            rw [e2]
            exact ⟨_, E, hq.2.1, rfl, hq.2.2, .inl ⟨rfl, _, hq.1, rb_nil _ _⟩⟩
          · refine (putBad lo p id cn b E pl q n c body w h hn hp hok hlo hpx P hP h5).mono fun e w' hq => ?_
            have e2 : addP ⟨id, cn, pairs E⟩ pl cn body = (⟨id, cn, pairs E⟩, false, 2, []) := by
              unfold addP; rw [if_neg (by simp), if_pos hm, if_neg (by rw [← hb]; exact h5)]
            rw [e2]
            exact ⟨_, E, hq.2.1, rfl, hq.2.2, .inr ⟨rfl, rfl, rfl, hq.1⟩⟩
        · have h4 : ∀ Q, (pl, Q) ∉ E := fun Q hQ => h4 ⟨Q, hQ⟩
          have hm : pl ∉ (pairs E).map (·.1) := by
            rw [pairs_keys]; intro hx
            obtain ⟨y, hy, e⟩ := List.mem_map.1 hx
            exact h4 y.2 (by rw [← e]; exact hy)
          by_cases h5 : E.length + 1 < cn
          · refine (putAdd lo p id cn b E pl q n c body w h hn hp hok hlo hpx h4 h5).mono fun e w' hq => ?_
            obtain ⟨m', he, hg, hf⟩ := hq
            have e2 : addP ⟨id, cn, pairs E⟩ pl cn body = (⟨id, cn, pairs E ++ [(pl, body)]⟩, false, 0, []) := by
              unfold addP; rw [if_neg (by simp), if_neg hm, if_pos (by rw [pairs_len]; exact h5)]
            rw [e2]
            exact ⟨m', _, hg, pairs_app _ _, hf, .inl ⟨rfl, _, he, rb_nil _ _⟩⟩
          · refine (putAll lo p id cn b E pl q n c body w h hn hp hok hlo hpx h4 (by omega) (by omega)).mono fun e w' hq => ?_
            obtain ⟨m', u, he, hr, hg, hf⟩ := hq
            have e2 : addP ⟨id, cn, pairs E⟩ pl cn body = (⟨id, cn, pairs E ++ [(pl, body)]⟩, true, 0, catB (bodyL (pairs E ++ [(pl, body)])) cn) := by
              unfold addP; rw [if_neg (by simp), if_neg hm, if_neg (by rw [pairs_len]; exact h5)]
            rw [e2]
            rw [bodyE_L, pairs_app] at hr
            exact ⟨m', _, hg, pairs_app _ _, hf, .inl ⟨rfl, _, he, hr⟩⟩
      · refine (putCnt lo p id cnt (some b) E id pl cn q n c body w h hn hp hok hlo hpx rfl h3).mono fun e w' hq => ?_
        have e2 : addP ⟨id, cnt, pairs E⟩ pl cn body = (⟨id, cnt, pairs E⟩, false, 2, []) := by
          unfold addP; rw [if_pos h3]
        rw [e2]
        exact ⟨_, E, hq.2.1, rfl, hq.2.2, .inr ⟨rfl, rfl, rfl, hq.1⟩⟩
/-- the three results' cells. -/
def Res3 (w : World) (g : Nat) (v : Value) (b : Bool) (y : Int) : Prop := w.heap[g]? = some (.cells #[v] 23) ∧ w.heap[g + 1]? = some (.cells #[.bool b] 4) ∧ w.heap[g + 2]? = some (.cells #[.int .i64 y] 26)
theorem tm19 (a b c v : Value) : #[a, b, c] ++ ((Array.replicate 14 undef).setIfInBounds 3 v).setIfInBounds 0 v = #[a, b, c, v, undef, undef, v, undef, undef, undef, undef, undef, undef, undef, undef, undef, undef] := by
  apply Array.toList_inj.1
  simp [List.replicate]
/-- the deferred closure, where all ended well: nothing. -/
theorem idle19 (a b c : Addr) (w : World) :
    CallsD Try.prog 19 #[.pointer (some a), .pointer (some b), .pointer (some c)] .returning w fun e u' w' => e = .returned (.tuple #[]) ∧ u' = .returning ∧ w' = w := by
  refine callsD_of_wpS Try.func19 rfl fun c₀ cs hu => ?_
  apply wpS_seq
  apply wpS_region
  simp [wpOpsS, go_sem, recoverD, hu, Try.ntmps19, Exit.thenS]
  refine wpS_of_wp ?_
  rw [tm19]
  go_wp2
  cases c₀
  simp_all [bodyPostS, results, Try.results19]
/-- a result's cell is stored. -/
theorem wpList_store_res {w : World} {ops : Array Oper} {rest : List Oper} {o : Oper} {a : Act} {Q : Exit → Act → World → Prop} (hgd : o.guard = none) (T : TypeId) (x y : Operand) (ho : o.op = .store T x y) (hi : (Try.prog.info? T).map (·.size) = some 1)
    (k : Nat) (u v : Value) (hx : a.eval x = .pointer (some ⟨k, 0, none⟩)) (hy : a.eval y = v) (hc : v.cells = #[v]) (h1 : v.oneCell' = true) (h : w.heap[k]? = some (.cells #[u] T))
    (hK : ∀ w', w'.heap[k]? = some (.cells #[v] T) → (∀ B W, B ≤ k → Below B W w → Below B W w') → (∀ j, j ≠ k → w'.heap[j]? = w.heap[j]?) → w.heap.size ≤ w'.heap.size → wpList Try.prog ops Q rest (a.put o.dst undef) w') : wpList Try.prog ops Q (o :: rest) a w :=
  wpList_store_at hgd T x y ho hi k 0 T #[u] #[v] v hx hy hc h1 h (Nat.zero_lt_one) rfl hK
theorem i23 : (Try.prog.info? 23).map (·.size) = some 1 := by kernel_rfl
theorem i4 : (Try.prog.info? 4).map (·.size) = some 1 := by kernel_rfl
theorem i26 : (Try.prog.info? 26).map (·.size) = some 1 := by kernel_rfl
set_option maxRecDepth 100000 in
set_option maxHeartbeats 2000000 in
/-- the deferred closure catches frag's own fault. -/
theorem own19 (w : World) (g : Nat) (v : Value) (b : Bool) (y : Int) (older : List PanicEntry) (h : Res3 w g v b y) :
    CallsD Try.prog 19 #[.pointer (some ⟨g, 0, none⟩), .pointer (some ⟨g + 1, 0, none⟩), .pointer (some ⟨g + 2, 0, none⟩)] (.panicking ({ v := ffault, recovered := false } :: older)) w fun en u' w' =>
      en = .returned (.tuple #[]) ∧ u' = .panicking ({ v := ffault, recovered := true } :: older) ∧ Res3 w' g (.slice none 0 0) false 2 ∧ (∀ B W, B ≤ g → Below B W w → Below B W w') ∧ (∀ j, j < w.heap.size → j ≠ g → j ≠ g + 1 → j ≠ g + 2 → w'.heap[j]? = w.heap[j]?) := by
  have hta : ∀ w, (Instr.typeAssert (.iface 53 (.agg #[])) 20 53 true).run Try.prog w = .ok (.tuple #[.agg #[], .bool true]) w := fun w => by kernel_rfl
  have hlt := Lib.hid (show g + 2 < w.heap.size from (Array.getElem?_eq_some_iff.1 h.2.2).1)
  have hb := below_one w (.cells #[] 53)
  have HR1 := Lib.hid ((hb.block _ (Array.getElem?_eq_some_iff.1 h.1).1).trans h.1)
  have HR2 := Lib.hid ((hb.block _ (Array.getElem?_eq_some_iff.1 h.2.1).1).trans h.2.1)
  have HR3 := Lib.hid ((hb.block _ (Array.getElem?_eq_some_iff.1 h.2.2).1).trans h.2.2)
  have HB1 := Lib.hid hb
  have I23 := Lib.hid i23
  have I4 := Lib.hid i4
  have I26 := Lib.hid i26
  generalize hw1 : w.alloc (.cells #[] 53) = w1 at *
  have HK1 := Lib.hid (show ∀ j, j < w.heap.size → w1.heap[j]? = w.heap[j]? from fun j hj => HB1.out.block j hj)
  clear h hb
  refine callsD_of_wpS Try.func19 rfl fun c₀ cs hu => ?_
  unfold ffault at hu ⊢
  apply wpS_seq
  apply wpS_region
  simp [wpOpsS, go_sem, recoverD, hu, Try.ntmps19, Exit.thenS]
  refine wpS_of_wp ?_
  rw [tm19]
  go_wp2_with (first
    | ((with_reducible refine wpList_store_res rfl 23 _ _ rfl I23.out g v (.slice none 0 0) rfl rfl rfl rfl HR1.out ?_); intro w2 hs hb hk hz; have HS2 := Lib.hid hs; have HE2 := Lib.hid ((hk (g + 1) (Nat.succ_ne_self _)).trans HR2.out); have HF2 := Lib.hid ((hk (g + 2) (by omega)).trans HR3.out); have HW2 := Lib.hid hb; have HK2 := Lib.hid hk; clear hs hb hk hz)
    | ((with_reducible refine wpList_store_res rfl 4 _ _ rfl I4.out (g + 1) (.bool b) (.bool false) rfl rfl rfl rfl HE2.out ?_); intro w3 hs hb hk hz; have HS3 := Lib.hid ((hk g (by omega)).trans HS2.out); have HE3 := Lib.hid hs; have HF3 := Lib.hid ((hk (g + 2) (by omega)).trans HF2.out); have HW3 := Lib.hid hb; have HK3 := Lib.hid hk; clear hs hb hk hz)
    | ((with_reducible refine wpList_store_res rfl 26 _ _ rfl I26.out (g + 2) (.int .i64 y) (.int .i64 2) rfl rfl rfl rfl HF3.out ?_); intro w4 hs hb hk hz; have HS4 := Lib.hid ((hk g (by omega)).trans HS3.out); have HE4 := Lib.hid ((hk (g + 1) (by omega)).trans HE3.out); have HF4 := Lib.hid hs; have HW4 := Lib.hid hb; have HK4 := Lib.hid hk; clear hs hb hk hz))
  exact ⟨rfl, _, rfl, .tuple #[], by simp [results, Try.results19], rfl, rfl, ⟨HS4.out, HE4.out, HF4.out⟩, fun B W hB hw => HW4.out _ _ (by omega) (HW3.out _ _ (by omega) (HW2.out _ _ hB (below_then hw HB1.out (by have := hlt.out; omega)))), fun j hj h1 h2 h3 => (HK4.out j h3).trans ((HK3.out j h2).trans ((HK2.out j h1).trans (HK1.out j hj)))⟩
end Go.Proofs.Ytellhkcleicfbaa.Fh
