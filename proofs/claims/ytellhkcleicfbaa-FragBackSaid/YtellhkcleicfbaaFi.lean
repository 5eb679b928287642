/- Gather.Put. -/
import Derived.Test.YtellhkcleicfbaaFh
set_option linter.unusedVariables false
namespace Go.Proofs.Ytellhkcleicfbaa.Fi
open Go Go.RowKit Go.MapKept Kit Crc Var Get Bytes WireFirst Ref3 Copy Ap Rd RdA RdB RdC RdD RdE Fr Fa Sb Fb Fc Fd Fe Ff Fg Fh

/-- what Put answers. -/
def PutQ (lo p : Nat) (m : Option Nat) (s : PS) (d : List Nat) (w : World) (e : Ending) (w' : World) : Prop :=
  (∃ id pl cn body, d = partL id pl cn body ∧ PartOk id pl cn body ∧ ∃ m' E' v, e = .returned (.tuple #[v, .bool (stepP s id pl cn body).2.1, .int .i64 (stepP s id pl cn body).2.2.1]) ∧ GM w' lo p (stepP s id pl cn body).1.id (stepP s id pl cn body).1.cnt m' E' ∧ pairs E' = (stepP s id pl cn body).1.l ∧ GF w w' p m ∧ Rb w' w.heap.size v (stepP s id pl cn body).2.2.2) ∨
  ((¬ ∃ id pl cn body, d = partL id pl cn body ∧ PartOk id pl cn body) ∧ e = .returned (.tuple #[.slice none 0 0, .bool false, .int .i64 2]) ∧ (∃ m' E, GM w' lo p s.id s.cnt m' E ∧ pairs E = s.l) ∧ GF w w' p m)
theorem three_res (w : World) : Below w.heap.size w (((w.alloc (.cells #[.slice none 0 0] 23)).alloc (.cells #[.bool false] 4)).alloc (.cells #[.int .i64 0] 26)) ∧ Res3 (((w.alloc (.cells #[.slice none 0 0] 23)).alloc (.cells #[.bool false] 4)).alloc (.cells #[.int .i64 0] 26)) w.heap.size (.slice none 0 0) false 0 ∧ (((w.alloc (.cells #[.slice none 0 0] 23)).alloc (.cells #[.bool false] 4)).alloc (.cells #[.int .i64 0] 26)).heap.size = w.heap.size + 3 := by
  have b1 := below_one w (.cells #[.slice none 0 0] 23)
  have b2 := below_one (w.alloc (.cells #[.slice none 0 0] 23)) (.cells #[.bool false] 4)
  have b3 := below_one ((w.alloc (.cells #[.slice none 0 0] 23)).alloc (.cells #[.bool false] 4)) (.cells #[.int .i64 0] 26)
  have z1 := heap_alloc_last w (.cells #[.slice none 0 0] 23)
  have z2 := heap_alloc_last (w.alloc (.cells #[.slice none 0 0] 23)) (.cells #[.bool false] 4)
  have z3 := heap_alloc_last ((w.alloc (.cells #[.slice none 0 0] 23)).alloc (.cells #[.bool false] 4)) (.cells #[.int .i64 0] 26)
  have s1 : (w.alloc (.cells #[.slice none 0 0] 23)).heap.size = w.heap.size + 1 := by simp
  have s2 : ((w.alloc (.cells #[.slice none 0 0] 23)).alloc (.cells #[.bool false] 4)).heap.size = w.heap.size + 2 := by simp
  rw [s1] at z2
  rw [s2] at z3
  refine ⟨below_next2 (below_next2 b1 b2) b3, ⟨?_, ?_, z3⟩, by simp⟩
  · exact (b3.block _ (by omega)).trans ((b2.block _ (by omega)).trans z1)
  · exact (b3.block _ (by omega)).trans z2
theorem res_then {w w' : World} {g : Nat} {v : Value} {b : Bool} {y : Int} (h : Res3 w g v b y) (hb : ∀ j, g ≤ j → j ≤ g + 2 → w'.heap[j]? = w.heap[j]?) : Res3 w' g v b y :=
  ⟨(hb _ (by omega) (by omega)).trans h.1, (hb _ (by omega) (by omega)).trans h.2.1, (hb _ (by omega) (by omega)).trans h.2.2⟩
theorem res_cells {w : World} {g : Nat} {v : Value} {b : Bool} {y : Int} (h : Res3 w g v b y) : (w.cell? ⟨g, 0, none⟩ = some v ∧ w.frozen? ⟨g, 0, none⟩ = false) ∧ (w.cell? ⟨g + 1, 0, none⟩ = some (.bool b) ∧ w.frozen? ⟨g + 1, 0, none⟩ = false) ∧ (w.cell? ⟨g + 2, 0, none⟩ = some (.int .i64 y) ∧ w.frozen? ⟨g + 2, 0, none⟩ = false) := by
  obtain ⟨h1, h2, h3⟩ := h
  refine ⟨⟨?_, ?_⟩, ⟨?_, ?_⟩, ⟨?_, ?_⟩⟩ <;> simp [World.cell?, World.frozen?, h1, h2, h3]
theorem set_same {w : World} {a : Addr} {u v : Value} (h : w.cell? a = some u) : (w.setCell a v).cell? a = some v := World.cell?_setCell_same' w a v (by rw [h]; rfl)
/-- behind the last three stores. -/
structure Fin3 (w w' : World) (g : Nat) (v : Value) (b : Bool) (y : Int) : Prop where
  z0 : w'.cell? ⟨g, 0, none⟩ = some v
  z1 : w'.cell? ⟨g + 1, 0, none⟩ = some (.bool b)
  z2 : w'.cell? ⟨g + 1 + 1, 0, none⟩ = some (.int .i64 y)
  fr : ∀ j, j ≠ g → j ≠ g + 1 → j ≠ g + 1 + 1 → w'.heap[j]? = w.heap[j]?
  os : w'.os = w.os ∧ w'.tape = w.tape ∧ w'.output = w.output ∧ w'.heap.size = w.heap.size
theorem one_apart {w : World} {g k o : Nat} {u : Value} {T : TypeId} {x : Int} (h : w.heap[g]? = some (.cells #[u] T)) (hu : u ≠ .int .u8 x) (hc : w.cell? ⟨k, o, none⟩ = some (.int .u8 x)) : k ≠ g := by
  rintro rfl
  cases o with
  | zero => simp [World.cell?, h] at hc; exact hu hc
  | succ o => simp [World.cell?, h] at hc
theorem res_apart {w : World} {g k o : Nat} {a : Option Addr} {n c : Nat} {b : Bool} {y x : Int} (h : Res3 w g (.slice a n c) b y) (hc : w.cell? ⟨k, o, none⟩ = some (.int .u8 x)) : k ≠ g ∧ k ≠ g + 1 ∧ k ≠ g + 1 + 1 :=
  ⟨one_apart h.1 (by simp) hc, one_apart h.2.1 (by simp) hc, one_apart h.2.2 (by simp) hc⟩
theorem sl_res {w w' : World} {g : Nat} {a : Option Addr} {n c : Nat} {b : Bool} {y : Int} (h : Res3 w g (.slice a n c) b y) (hk : ∀ j, j < w.heap.size → j ≠ g → j ≠ g + 1 → j ≠ g + 1 + 1 → w'.heap[j]? = w.heap[j]?) {ad : Option Addr} {l : List Nat} (hs : Sl w ad l) : Sl w' ad l := by
  rcases hs with hs | ⟨k, off, e, hc⟩
  · exact .inl hs
  · refine .inr ⟨k, off, e, fun i hi => ?_⟩
    obtain ⟨h1, h2, h3⟩ := res_apart h (hc i hi)
    exact (World.cell?_of_block (hk k (World.block_lt_of_cell? w _ (hc i hi)) h1 h2 h3)).trans (hc i hi)
theorem gm_res {w w' : World} {g : Nat} {a : Option Addr} {n c : Nat} {b : Bool} {y : Int} (h : Res3 w g (.slice a n c) b y) (hk : ∀ j, j < w.heap.size → j ≠ g → j ≠ g + 1 → j ≠ g + 1 + 1 → w'.heap[j]? = w.heap[j]?) {lo p id cnt : Nat} {m : Option Nat} {E : List (Nat × Part)} (hg : GM w lo p id cnt m E) (hp : p < g) : GM w' lo p id cnt m E := by
  have hm : ∀ b' l, MB w b' l → MB w' b' l := fun b' l hmb => by
    obtain ⟨es, clock, hb, hl⟩ := hmb
    refine ⟨es, clock, (hk b' (Array.getElem?_eq_some_iff.1 hb).1 ?_ ?_ ?_).trans hb, hl⟩ <;> rintro rfl
    · have h2 := h.1; rw [hb] at h2; cases h2
    · have h2 := h.2.1; rw [hb] at h2; cases h2
    · have h2 : w.heap[g + 1 + 1]? = _ := h.2.2; rw [hb] at h2; cases h2
  exact ⟨hg.plo, (hk p (Array.getElem?_eq_some_iff.1 hg.blk).1 (by omega) (by omega) (by omega)).trans hg.blk, hg.map.imp (fun x => x) fun ⟨b', e, h1, h2⟩ => ⟨b', e, h1, hm _ _ h2⟩, fun q hq => ⟨sl_res h hk (hg.parts q hq).1, (hg.parts q hq).2⟩, hg.nod, hg.low, hg.idb, hg.cnb, hg.len, hg.zero⟩
theorem rb_res {w w' : World} {g base : Nat} {a : Option Addr} {n c : Nat} {b : Bool} {y : Int} (h : Res3 w g (.slice a n c) b y) (hk : ∀ j, j < w.heap.size → j ≠ g → j ≠ g + 1 → j ≠ g + 1 + 1 → w'.heap[j]? = w.heap[j]?) {v : Value} {l : List Nat} (hr : Rb w base v l) : Rb w' base v l := by
  refine ⟨hr.1, ?_⟩
  rcases hr.2 with h1 | ⟨k, cap, cur, hv, hg, hc, rest⟩
  · exact .inl h1
  · refine .inr ⟨k, cap, cur, hv, hg, (hk k (Array.getElem?_eq_some_iff.1 hc).1 ?_ ?_ ?_).trans hc, rest⟩ <;> rintro rfl
    · have h2 := h.1; rw [hc] at h2; cases h2
    · have h2 := h.2.1; rw [hc] at h2; cases h2
    · have h2 : w.heap[g + 1 + 1]? = _ := h.2.2; rw [hc] at h2; cases h2
theorem gf_from {w w1 w2 : World} {p : Nat} {m : Option Nat} (hb : Below w.heap.size w w1) (h : GF w1 w2 p m) : GF w w2 p m :=
  ⟨h.os.trans hb.os, h.tape.trans hb.tape, h.output.trans hb.output, Nat.le_trans hb.size h.size, fun k hk h1 h2 => (h.block k (Nat.lt_of_lt_of_le hk hb.size) h1 h2).trans (hb.block k hk)⟩
theorem gf_new {w w1 w2 : World} {p : Nat} {m : Option Nat} (h : GF w w1 p m) (ho : w2.os = w1.os ∧ w2.tape = w1.tape ∧ w2.output = w1.output ∧ w1.heap.size ≤ w2.heap.size) (hk : ∀ j, j < w.heap.size → w2.heap[j]? = w1.heap[j]?) : GF w w2 p m :=
  ⟨ho.1.trans h.os, ho.2.1.trans h.tape, ho.2.2.1.trans h.output, Nat.le_trans h.size ho.2.2.2, fun k hk1 h1 h2 => (hk k hk1).trans (h.block k hk1 h1 h2)⟩
set_option maxRecDepth 100000 in
set_option maxHeartbeats 8000000 in
theorem putC (lo p id cnt : Nat) (m : Option Nat) (E : List (Nat × Part)) (a : Option Addr) (n cap : Nat) (d : List Nat) (w : World) (h : GM w lo p id cnt m E) (hn : n = d.length) (hd : d.length ≤ 1000000) (h8 : ∀ c ∈ d, c < 256) (hs : Sl w a d) (h0 : a = none → cap = 0) (hlo : lo ≤ w.heap.size) (hE : E.length ≤ 3000) :
    Calls Try.prog 12 #[.pointer (some ⟨p, 0, none⟩), .slice a n cap] w (PutQ lo p m ⟨id, cnt, pairs E⟩ d w) := by
  have hmf := RdB.hmf
  obtain ⟨hb, hR, hsz⟩ := three_res w
  generalize hw0 : ((w.alloc (.cells #[.slice none 0 0] 23)).alloc (.cells #[.bool false] 4)).alloc (.cells #[.int .i64 0] 26) = w0 at *
  have HRD := Lib.hid (readC a n cap d w0 hn hd h8 (sl_then hb (Nat.le_refl _) hs) h0)
  have HG := Lib.hid (h.then_ hb)
  have HB := Lib.hid hb
  have HR := Lib.hid hR
  have HSZ := Lib.hid hsz
  have HLO := Lib.hid hlo
  have HE := Lib.hid hE
  have HPL := Lib.hid (show p < w.heap.size from (Array.getElem?_eq_some_iff.1 h.blk).1)
  have HML := Lib.hid (show ∀ b, m = some b → b < w.heap.size from fun b e => by
    rcases h.map with ⟨h1, _⟩ | ⟨b', h1, _, h2⟩
    · rw [h1] at e; cases e
    · rw [h1] at e; injection e with e; subst e; exact h2.lt)
  have I23 := Lib.hid i23
  have I4 := Lib.hid i4
  have I26 := Lib.hid i26
  have HW := Lib.hid h
  clear h hn hd h8 hs h0 hlo hE hb hR hsz
  go_enter_defers Try.func12, Try.ntmps12
  go_wp2_with fail
  refine HRD.out.mono ?_
  rintro e w1 (⟨id', pl, cn, body, q, c, hdd, hok, rfl, hpt, hfar, hb⟩ | ⟨hno, rfl, hb⟩)
  · have HB1 := Lib.hid (below_then HB.out hb HB.out.size)
    have HR1 := Lib.hid (res_then HR.out (fun j h1 h2 => hb.block j (by have := HSZ.out; omega)))
    have HG1 := Lib.hid (HG.out.then_ hb)
    have HP20 := Lib.hid (put20 lo p id cnt m E id' pl cn q body.length c body w1 HG1.out rfl hpt hok (Nat.le_trans HLO.out HB1.out.size) (fun x hx => by have := hfar x hx; have := HPL.out; have := HSZ.out; omega) HE.out)
    have HDD := Lib.hid (And.intro hdd hok)
    clear hb hpt hfar hdd hok
    go_wp2_with fail
    refine HP20.out.mono ?_
    rintro e w2 ⟨m', E', hg, hpp, hf, hres⟩
    have HG2 := Lib.hid hg
    have HPP := Lib.hid hpp
    have HF2 := Lib.hid hf
    have HR2 := Lib.hid (res_then HR1.out (fun j h1 h2 => hf.block j (Nat.lt_of_lt_of_le (show j < w1.heap.size by have h3 := (Array.getElem?_eq_some_iff.1 HR1.out.2.2).1; omega) (Nat.le_refl _)) (by have := HPL.out; omega) (fun e => by have := HML.out _ e; omega)))
    clear hg hpp hf HP20
    obtain ⟨R, hRR⟩ : ∃ R, stepP ⟨id, cnt, pairs E⟩ id' pl cn body = R := ⟨_, rfl⟩
    rw [hRR] at HG2 HPP hres
    have HRR := Lib.hid hRR
    clear hRR
    obtain ⟨S, wh, er, msg⟩ := R
    dsimp only at hres HG2 HPP
    rcases hres with ⟨rfl, v, rfl, hr⟩ | ⟨rfl, rfl, rfl, rfl⟩
    · obtain ⟨va, vc, hv, _, _, _, _⟩ := rb_sl hr
      subst hv
      obtain ⟨ml, hml⟩ : ∃ ml, ml = msg.length := ⟨_, rfl⟩
      rw [← hml] at hr ⊢
      have HRB := Lib.hid hr
      clear hr hml
      have HRa := Lib.hid (show w2.heap[w.heap.size]? = some (.cells #[.slice none 0 0] 23) from HR2.out.1)
      have HRb := Lib.hid (show w2.heap[w.heap.size + 1]? = some (.cells #[.bool false] 4) from HR2.out.2.1)
      have HRc := Lib.hid (show w2.heap[w.heap.size + 1 + 1]? = some (.cells #[.int .i64 0] 26) from HR2.out.2.2)
      go_upto_region 3 with (first
        | ((with_reducible refine wpList_store_res rfl 23 _ _ rfl I23.out w.heap.size (.slice none 0 0) (.slice va ml vc) rfl rfl rfl rfl HRa.out ?_); intro w3 hs hb hk hz; have HS3 := Lib.hid hs; have HE3 := Lib.hid ((hk (w.heap.size + 1) (by omega)).trans HRb.out); have HT3 := Lib.hid ((hk (w.heap.size + 1 + 1) (by omega)).trans HRc.out); have HK3 := Lib.hid (And.intro hb (And.intro hk hz)); clear hs hb hk hz)
        | ((with_reducible refine wpList_store_res rfl 4 _ _ rfl I4.out (w.heap.size + 1) (.bool false) (.bool wh) rfl rfl rfl rfl HE3.out ?_); intro w4 hs hb hk hz; have HS4 := Lib.hid ((hk w.heap.size (by omega)).trans HS3.out); have HE4 := Lib.hid hs; have HT4 := Lib.hid ((hk (w.heap.size + 1 + 1) (by omega)).trans HT3.out); have HK4 := Lib.hid (And.intro hb (And.intro hk hz)); clear hs hb hk hz))
      have z0 : w4.drew.cell? ⟨w.heap.size, 0, none⟩ = some (.slice va ml vc) := cell_of_row w4 w.heap.size 0 _ 23 _ HS4.out
      have z1 : w4.drew.cell? ⟨w.heap.size + 1, 0, none⟩ = some (.bool wh) := cell_of_row w4 (w.heap.size + 1) 0 _ 4 _ HE4.out
      have z2 : w4.drew.cell? ⟨w.heap.size + 1 + 1, 0, none⟩ = some (.int .i64 0) := cell_of_row w4 (w.heap.size + 1 + 1) 0 _ 26 _ HT4.out
      have f0 : w4.drew.frozen? ⟨w.heap.size, 0, none⟩ = false := frozen_of_row w4 w.heap.size 0 _ 23 HS4.out
      have f1 : w4.drew.frozen? ⟨w.heap.size + 1, 0, none⟩ = false := frozen_of_row w4 (w.heap.size + 1) 0 _ 4 HE4.out
      have f2 : w4.drew.frozen? ⟨w.heap.size + 1 + 1, 0, none⟩ = false := frozen_of_row w4 (w.heap.size + 1 + 1) 0 _ 26 HT4.out
      have z0' : w4.cell? ⟨w.heap.size, 0, none⟩ = some (.slice va ml vc) := z0
      have z1' : w4.cell? ⟨w.heap.size + 1, 0, none⟩ = some (.bool wh) := z1
      have z2' : w4.cell? ⟨w.heap.size + 1 + 1, 0, none⟩ = some (.int .i64 0) := z2
      have f0' : w4.frozen? ⟨w.heap.size, 0, none⟩ = false := f0
      have f1' : w4.frozen? ⟨w.heap.size + 1, 0, none⟩ = false := f1
      have f2' : w4.frozen? ⟨w.heap.size + 1 + 1, 0, none⟩ = false := f2
      go_region
      all_goals
        generalize hw9 : World.drew _ = w9
        have HF9 : Hid (Fin3 w4 w9 w.heap.size (.slice va ml vc) wh 0) := by
          rw [← hw9]
          refine ⟨?_, ?_, ?_, ?_, ?_⟩
          · refine past_drew ?_
            repeat (first | (refine past_set ?_ (by dsimp only; omega)) | (refine set_same (u := .slice va ml vc) ?_) | exact z0')
          · refine past_drew ?_
            repeat (first | (refine past_set ?_ (by dsimp only; omega)) | (refine set_same (u := .bool wh) ?_) | exact z1')
          · refine past_drew ?_
            repeat (first | (refine past_set ?_ (by dsimp only; omega)) | (refine set_same (u := .int .i64 0) ?_) | exact z2')
          · intro j h1 h2 h3
            repeat (refine (Below.heap_setCell _ _ _ _ (by assumption)).trans ?_)
            rfl
          · refine ⟨rfl, rfl, rfl, ?_⟩
            simp [World.setCell]
        clear hw9 z0 z1 z2 f0 f1 f2 z0' z1' z2' f0' f1' f2'
        have HKK := Lib.hid (show ∀ j, j < w2.heap.size → j ≠ w.heap.size → j ≠ w.heap.size + 1 → j ≠ w.heap.size + 1 + 1 → w9.heap[j]? = w2.heap[j]? from fun j _ h1 h2 h3 => (HF9.out.fr j h1 h2 h3).trans ((HK4.out.2.1 j h2).trans (HK3.out.2.1 j h1)))
        have HG9 := Lib.hid (gm_res HR2.out HKK.out HG2.out HPL.out)
        have HRB9 := Lib.hid (rb_res HR2.out HKK.out HRB.out)
        have HB24 := Lib.hid (show Below w.heap.size w2 w4 from HK4.out.1 _ _ (Nat.le_succ _) (HK3.out.1 _ _ (Nat.le_refl _) (Below.refl _ _)))
        have HB29 := Lib.hid (show Below w.heap.size w2 w9 from ⟨HF9.out.os.1.trans HB24.out.os, HF9.out.os.2.1.trans HB24.out.tape, HF9.out.os.2.2.1.trans HB24.out.output, by rw [HF9.out.os.2.2.2]; exact HB24.out.size, fun k hk => (HF9.out.fr k (by omega) (by omega) (by omega)).trans (HB24.out.block k hk)⟩)
        have HGF := Lib.hid (gf_new (gf_from HB1.out HF2.out) ⟨HB29.out.os, HB29.out.tape, HB29.out.output, HB29.out.size⟩ (fun j hj => HB29.out.block j hj))
        have z0 := HF9.out.z0
        have z1 := HF9.out.z1
        have z2 := HF9.out.z2
        go_wp2
        refine leaves_cons (f := 19) (args := #[.pointer (some ⟨w.heap.size, 0, none⟩), .pointer (some ⟨w.heap.size + 1, 0, none⟩), .pointer (some ⟨w.heap.size + 1 + 1, 0, none⟩)]) (by simp) (by simp [go_sem]) ?_
        refine (idle19 ⟨w.heap.size, 0, none⟩ ⟨w.heap.size + 1, 0, none⟩ ⟨w.heap.size + 1 + 1, 0, none⟩ _).mono ?_
        rintro e u' w'' ⟨rfl, rfl, rfl⟩
        have HOUT := Lib.hid (show PutQ lo p m ⟨id, cnt, pairs E⟩ d w (.returned (.tuple #[.slice va ml vc, .bool wh, .int .i64 0])) w'' from .inl ⟨id', pl, cn, body, HDD.out.1, HDD.out.2, m', E', _, by rw [HRR.out], by rw [HRR.out]; exact HG9.out, by rw [HRR.out]; exact HPP.out, HGF.out, by rw [HRR.out]; exact rb_base HRB9.out HB1.out.size⟩)
        simp [Leaves, settle, results, Try.results12, go_sem, z0, z1, z2]
        exact HOUT.out
    · have HRS := Lib.hid (show Res3 w2 w.heap.size (.slice none 0 0) false 0 from HR2.out)
      go_wp2
      refine leaves_cons (f := 19) (args := #[.pointer (some ⟨w.heap.size, 0, none⟩), .pointer (some ⟨w.heap.size + 1, 0, none⟩), .pointer (some ⟨w.heap.size + 1 + 1, 0, none⟩)]) (by simp) (by simp [go_sem]) ?_
      refine (own19 _ w.heap.size _ _ _ [] HRS.out).mono ?_
      rintro e u' w'' ⟨rfl, rfl, h3, h4, h5⟩
      obtain ⟨⟨z0, _⟩, ⟨z1, _⟩, ⟨z2, _⟩⟩ := res_cells h3
      have HB29 := Lib.hid (show Below w.heap.size w2 w'' from h4 _ _ (Nat.le_refl _) (Below.refl _ _))
      have HGF := Lib.hid (gf_new (gf_from HB1.out HF2.out) ⟨HB29.out.os, HB29.out.tape, HB29.out.output, HB29.out.size⟩ (fun j hj => HB29.out.block j hj))
      have HG9 := Lib.hid (gm_res HRS.out (fun j h1 h2 h6 h7 => h5 j h1 h2 h6 h7) HG2.out HPL.out)
      have HOUT := Lib.hid (show PutQ lo p m ⟨id, cnt, pairs E⟩ d w (.returned (.tuple #[.slice none 0 0, .bool false, .int .i64 2])) w'' from .inl ⟨id', pl, cn, body, HDD.out.1, HDD.out.2, m', E', _, by rw [HRR.out], by rw [HRR.out]; exact HG9.out, by rw [HRR.out]; exact HPP.out, HGF.out, by rw [HRR.out]; exact rb_nil _ _⟩)
      clear h3 h4 h5
      simp [Leaves, settle, results, Try.results12, go_sem, z0, z1, z2]
      exact HOUT.out
  · have HB1 := Lib.hid (below_then HB.out hb HB.out.size)
    have HR1 := Lib.hid (res_then HR.out (fun j h1 h2 => hb.block j (by have := HSZ.out; omega)))
    have HG1 := Lib.hid (HG.out.then_ hb)
    have HN := Lib.hid hno
    clear hno hb
    go_wp2
    refine leaves_cons (f := 19) (args := #[.pointer (some ⟨w.heap.size, 0, none⟩), .pointer (some ⟨w.heap.size + 1, 0, none⟩), .pointer (some ⟨w.heap.size + 2, 0, none⟩)]) (by simp) (by simp [go_sem]) ?_
    refine (own19 _ w.heap.size _ _ _ [] HR1.out).mono ?_
    rintro e u' w'' ⟨rfl, rfl, h3, h4, h5⟩
    obtain ⟨⟨z0, _⟩, ⟨z1, _⟩, ⟨z2, _⟩⟩ := res_cells h3
    have HOUT := Lib.hid (show PutQ lo p m ⟨id, cnt, pairs E⟩ d w (.returned (.tuple #[.slice none 0 0, .bool false, .int .i64 2])) w'' from .inr ⟨HN.out, rfl, ⟨m, E, HW.out.then_ (h4 _ _ (Nat.le_refl _) HB1.out), rfl⟩, GF.of_below (h4 _ _ (Nat.le_refl _) HB1.out)⟩)
    clear h3 h4 h5
    simp [Leaves, settle, results, Try.results12, go_sem, z0, z1, z2]
    exact HOUT.out
end Go.Proofs.Ytellhkcleicfbaa.Fi
