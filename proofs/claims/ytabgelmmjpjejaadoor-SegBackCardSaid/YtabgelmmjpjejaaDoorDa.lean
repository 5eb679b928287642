/- Reading a record: all of it. -/
import Derived.Test.YtabgelmmjpjejaaDoorDd
set_option linter.unusedVariables false
namespace Go.Proofs.YtabgelmmjpjejaaDoor.Da
open Go Go.RowKit Kit Crc Var Get Ref3 Copy Bytes Bx Py Py2 Ry Dn Df Dd


theorem at_drop {l : List Nat} {p i : Nat} (h : p + i < l.length) : l[p + i]? = some ((l.drop p).getD i 0) := by
  rw [List.getD_eq_getElem?_getD, List.getElem?_drop, List.getElem?_eq_getElem h]; rfl
theorem pair {t : Nat × Nat × Nat} (h : t.2.2 = 0) : t = (t.1, t.2.1, 0) := Prod.ext rfl (Prod.ext rfl h)
/-- what decode answers. -/
def InP (D : Dec) (p : Nat) (a : Option Addr) (n cap : Nat) (w : World) : Prop :=
  (D.e = 0 ∧ Calls Tryd.prog 42 #[.slice a n cap, .int .i64 (p : Int)] w (OkP D.k D.s D.t D.b (p + D.n) w)) ∨
  (D.e ≠ 0 ∧ Calls Tryd.prog 42 #[.slice a n cap, .int .i64 (p : Int)] w (BadP D.e w))
theorem inBad {x p : Nat} {a : Option Addr} {n cap : Nat} {w : World} (hx : x ≠ 0) (h : Calls Tryd.prog 42 #[.slice a n cap, .int .i64 (p : Int)] w (BadP x w)) : InP (bad x) p a n cap w := .inr ⟨hx, h⟩
set_option maxHeartbeats 1000000 in
theorem dec_all (a : Option Addr) (cap : Nat) (l : List Nat) (p : Nat) (w : World) (hs : Sl w a l) (hcap : l.length ≤ cap) (hl : ∀ c ∈ l, c < 256) (hn : l.length ≤ 90000) (hp : p ≤ l.length) (hT : TabC w) :
    InP (decM (l.drop p)) p a l.length cap w := by
  obtain ⟨M, hM⟩ : ∃ M, l.length = p + M := ⟨l.length - p, by omega⟩
  have hm : (l.drop p).length = M := by simp; omega
  rw [decM, hm]
  by_cases h6 : M < 6
  · rw [if_pos h6]
    exact inBad (by decide) (dec_s1 a l.length cap p M w hM h6 hn)
  rw [if_neg h6]
  obtain ⟨b, off, rfl, hc⟩ := sl_at hs (by omega)
  have g0 : l[p]? = some ((l.drop p).getD 0 0) := at_drop (i := 0) (by omega)
  have g1 := at_drop (l := l) (p := p) (i := 1) (by omega)
  by_cases c0 : (l.drop p).getD 0 0 = 167
  case neg =>
    rw [if_pos (fun h => c0 h.1)]
    exact inBad (by decide) (dec_m1 b off cap l p M w hc hcap hl hn hM (by omega) _ g0 c0)
  rw [c0] at g0
  by_cases c1 : (l.drop p).getD 1 0 = 92
  case neg =>
    rw [if_pos (fun h => c1 h.2)]
    exact inBad (by decide) (dec_m2 b off cap l p M w hc hcap hl hn hM (by omega) g0 _ g1 c1)
  rw [c1] at g1
  rw [if_neg (fun h => h ⟨c0, c1⟩)]
  by_cases h7 : M < 7
  · rw [if_pos h7]
    exact inBad (by decide) (dec_s2 b off cap l p M w hc hcap hl hn hM (by omega) g0 g1 (p + 2) (p + 6) rfl rfl (by omega))
  rw [if_neg h7]
  have g6 := at_drop (l := l) (p := p) (i := 6) (by omega)
  have dd : ∀ k, (l.drop p).drop k = l.drop (p + k) := fun k => List.drop_drop
  have hlk : ∀ k, ∀ c ∈ l.drop k, c < 256 := fun k c hc => hl c (List.mem_of_mem_drop hc)
  generalize hK : (l.drop p).getD 6 0 = KK at g6
  rw [dec2, dd]
  by_cases x1 : (getF (l.drop (p + 7)) 0 0).2.2 = 0
  case neg =>
    rw [if_neg x1]
    exact inBad x1 (dec_n1 b off cap l p M w hc hcap hl hn hM (by omega) g0 g1 (p + 2) (p + 6) rfl rfl (by omega) (p + 7) rfl KK g6 _ rfl x1)
  rw [if_pos x1]
  replace x1 := pair x1
  generalize (getF (l.drop (p + 7)) 0 0).1 = s at *
  generalize (getF (l.drop (p + 7)) 0 0).2.1 = q1 at *
  obtain ⟨_, j1, _⟩ := getF_eat (hlk _) x1
  rw [List.length_drop] at j1
  rw [dec3, dd]
  by_cases x2 : (getF (l.drop (p + (7 + q1))) 0 0).2.2 = 0
  case neg =>
    rw [if_neg x2]
    exact inBad x2 (dec_n2 b off cap l p M w hc hcap hl hn hM (by omega) g0 g1 (p + 2) (p + 6) rfl rfl (by omega) (p + 7) rfl KK g6 s q1 (p + (7 + q1)) x1 (by omega) (by omega) _ rfl x2)
  rw [if_pos x2]
  replace x2 := pair x2
  generalize (getF (l.drop (p + (7 + q1))) 0 0).1 = t at *
  generalize (getF (l.drop (p + (7 + q1))) 0 0).2.1 = q2 at *
  obtain ⟨_, j2, _⟩ := getF_eat (hlk _) x2
  rw [List.length_drop] at j2
  rw [dec4, dd]
  by_cases x3 : (getF (l.drop (p + (7 + q1 + q2))) 0 0).2.2 = 0
  case neg =>
    rw [if_neg x3]
    exact inBad x3 (dec_n3 b off cap l p M w hc hcap hl hn hM (by omega) g0 g1 (p + 2) (p + 6) rfl rfl (by omega) (p + 7) rfl KK g6 s q1 (p + (7 + q1)) x1 (by omega) (by omega) t q2 (p + (7 + q1 + q2)) x2 (by omega) (by omega) _ rfl x3)
  rw [if_pos x3]
  replace x3 := pair x3
  generalize (getF (l.drop (p + (7 + q1 + q2))) 0 0).1 = n at *
  generalize (getF (l.drop (p + (7 + q1 + q2))) 0 0).2.1 = q3 at *
  obtain ⟨_, j3, _⟩ := getF_eat (hlk _) x3
  rw [List.length_drop] at j3
  rw [dec5]
  by_cases x4 : 1048576 < n
  · rw [if_pos x4]
    exact inBad (by decide) (dec_big b off cap l p M w hc hcap hl hn hM (by omega) g0 g1 (p + 2) (p + 6) rfl rfl (by omega) (p + 7) rfl KK g6 s q1 (p + (7 + q1)) x1 (by omega) (by omega) t q2 (p + (7 + q1 + q2)) x2 (by omega) (by omega) n q3 (p + (7 + q1 + q2 + q3)) x3 (by omega) (by omega) x4)
  rw [if_neg x4, hm]
  by_cases x5 : M - (7 + q1 + q2 + q3) < n
  · rw [if_pos x5]
    exact inBad (by decide) (dec_s3 b off cap l p M w hc hcap hl hn hM (by omega) g0 g1 (p + 2) (p + 6) rfl rfl (by omega) (p + 7) rfl KK g6 s q1 (p + (7 + q1)) x1 (by omega) (by omega) t q2 (p + (7 + q1 + q2)) x2 (by omega) (by omega) n q3 (p + (7 + q1 + q2 + q3)) x3 (by omega) (by omega) (by omega) (M - (7 + q1 + q2 + q3)) (by omega) (by omega))
  rw [if_neg x5]
  have e1 : ((l.drop p).take 6).drop 2 = (l.drop (p + 2)).take (p + 6 - (p + 2)) := by rw [List.drop_take, dd]; congr 1; omega
  have e2 : ((l.drop p).take (7 + q1 + q2 + q3 + n)).drop 6 = (l.drop (p + 6)).take (p + (7 + q1 + q2 + q3 + n) - (p + 6)) := by rw [List.drop_take, dd]; congr 1; omega
  have e3 : ((l.drop p).take (7 + q1 + q2 + q3 + n)).drop (7 + q1 + q2 + q3) = (l.drop (p + (7 + q1 + q2 + q3))).take (p + (7 + q1 + q2 + q3 + n) - (p + (7 + q1 + q2 + q3))) := by rw [List.drop_take, dd]; congr 1; omega
  rw [e1, e2]
  by_cases x6 : (l.drop (p + 2)).take (p + 6 - (p + 2)) = fourL ((crc ((l.drop (p + 6)).take (p + (7 + q1 + q2 + q3 + n) - (p + 6))) : Nat) : Int)
  case neg =>
    rw [if_neg x6]
    exact inBad (by decide) (dec_sum b off cap l p M w hc hcap hl hn hM (by omega) g0 g1 (p + 2) (p + 6) rfl rfl (by omega) (p + 7) rfl KK g6 s q1 (p + (7 + q1)) x1 (by omega) (by omega) t q2 (p + (7 + q1 + q2)) x2 (by omega) (by omega) n q3 (p + (7 + q1 + q2 + q3)) x3 (by omega) (by omega) (by omega) (M - (7 + q1 + q2 + q3)) (by omega) (by omega) (p + (7 + q1 + q2 + q3 + n)) (by omega) x6 hT)
  rw [if_pos x6, dec6, hK]
  by_cases x7 : mayR (KK : Int) s t n = true
  case neg =>
    rw [if_neg x7]
    exact inBad (by decide) (dec_may b off cap l p M w hc hcap hl hn hM (by omega) g0 g1 (p + 2) (p + 6) rfl rfl (by omega) (p + 7) rfl KK g6 s q1 (p + (7 + q1)) x1 (by omega) (by omega) t q2 (p + (7 + q1 + q2)) x2 (by omega) (by omega) n q3 (p + (7 + q1 + q2 + q3)) x3 (by omega) (by omega) (by omega) (M - (7 + q1 + q2 + q3)) (by omega) (by omega) (p + (7 + q1 + q2 + q3 + n)) (by omega) x6 hT (by simpa using x7))
  rw [if_pos x7, e3]
  exact .inl ⟨rfl, dec_ok b off cap l p M w hc hcap hl hn hM (by omega) g0 g1 (p + 2) (p + 6) rfl rfl (by omega) (p + 7) rfl KK g6 s q1 (p + (7 + q1)) x1 (by omega) (by omega) t q2 (p + (7 + q1 + q2)) x2 (by omega) (by omega) n q3 (p + (7 + q1 + q2 + q3)) x3 (by omega) (by omega) (by omega) (M - (7 + q1 + q2 + q3)) (by omega) (by omega) (p + (7 + q1 + q2 + q3 + n)) (by omega) x6 hT x7⟩

end Go.Proofs.YtabgelmmjpjejaaDoor.Da
