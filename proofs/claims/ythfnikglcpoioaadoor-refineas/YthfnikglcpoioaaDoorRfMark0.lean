/- refine: what Mark makes of a partition. -/
import Derived.Test.YthfnikglcpoioaaDoorRfMem
namespace Go.Proofs.YthfnikglcpoioaaDoor
open Go.RowKit Go.Maps
theorem upd_at {f : Nat → Int} {h : Nat → Nat} {a i k : Nat} (x : Nat) (hk : f (a + k) = h k) : upd f (a + i) x (a + k) = (upd h i x k : Nat) := by
  unfold upd
  by_cases e : k = i
  · subst e; simp
  · rw [if_neg (by omega), if_neg e]; exact hk
theorem upd_at3 {f : Nat → Int} {h : Nat → Nat} {a d i k : Nat} (x : Nat) (hk : f (a + k * 3 + d) = h k) : upd f (a + i * 3 + d) x (a + k * 3 + d) = (upd h i x k : Nat) := by
  unfold upd
  by_cases e : k = i
  · subst e; simp
  · rw [if_neg (by omega), if_neg e]; exact hk
/-- An element that was not marked is. -/
def Pst.markAt (s : Pst) (e o q pl x : Nat) : Pst := { s with E := upd (upd s.E pl x) q e, P := upd (upd s.P x pl) e q, R := upd s.R o (q + 1) }
def Pst.mark (s : Pst) (e : Nat) : Pst := s.markAt e (s.O e) (s.R (s.O e)) (s.P e) (s.E (s.R (s.O e)))
def markC (c : Nat → Int) (e o q pl x : Nat) : Nat → Int := upd (upd (upd (upd (upd c (2 + pl) x) (1002 + x) pl) (2 + q) e) (1002 + e) q) (3002 + o * 3 + 1) ((q + 1 : Nat) : Int)
theorem markAt_lay {c : Nat → Int} {s : Pst} (hL : Lay c s) (hn : s.n ≤ 1000) {e o q pl x : Nat} (he : e < 1000) (ho : o < 1000) (hq : q < 1000) (hpl : pl < 1000) (hx : x < 1000) : Lay (markC c e o q pl x) (s.markAt e o q pl x) := by
  refine ⟨?_, ?_, fun k hk => ?_, fun k hk => ?_, fun k hk => ?_, fun k hk => ?_, fun k hk => ?_, fun k hk => ?_⟩
  · unfold markC
    rw [upd_ne _ _ (by omega), upd_ne _ _ (by omega), upd_ne _ _ (by omega), upd_ne _ _ (by omega), upd_ne _ _ (by omega)]
    exact hL.n
  · unfold markC
    rw [upd_ne _ _ (by omega), upd_ne _ _ (by omega), upd_ne _ _ (by omega), upd_ne _ _ (by omega), upd_ne _ _ (by omega)]
    exact hL.nb
  · have hk' : k < s.n := hk
    unfold markC
    rw [upd_ne _ _ (by omega), upd_ne _ _ (by omega)]
    refine upd_at e ?_
    rw [upd_ne _ _ (by omega)]
    exact upd_at x (hL.e k hk')
  · have hk' : k < s.n := hk
    unfold markC
    rw [upd_ne _ _ (by omega)]
    refine upd_at q ?_
    rw [upd_ne _ _ (by omega)]
    refine upd_at pl ?_
    rw [upd_ne _ _ (by omega)]
    exact hL.p k hk'
  · have hk' : k < s.n := hk
    unfold markC
    rw [upd_ne _ _ (by omega), upd_ne _ _ (by omega), upd_ne _ _ (by omega), upd_ne _ _ (by omega), upd_ne _ _ (by omega)]
    exact hL.o k hk'
  · have hk' : k < s.nb := hk
    unfold markC
    rw [upd_ne _ _ (by omega), upd_ne _ _ (by omega), upd_ne _ _ (by omega), upd_ne _ _ (by omega), upd_ne _ _ (by omega)]
    exact hL.b k hk'
  · have hk' : k < s.nb := hk
    unfold markC
    refine upd_at3 (q + 1) ?_
    rw [upd_ne _ _ (by omega), upd_ne _ _ (by omega), upd_ne _ _ (by omega), upd_ne _ _ (by omega)]
    exact hL.r k hk'
  · have hk' : k < s.nb := hk
    unfold markC
    rw [upd_ne _ _ (by omega), upd_ne _ _ (by omega), upd_ne _ _ (by omega), upd_ne _ _ (by omega), upd_ne _ _ (by omega)]
    exact hL.d k hk'
/-- An element is marked. -/
def Pst.isM (s : Pst) (e : Nat) : Bool := decide (s.P e < s.R (s.O e))
theorem mark_ok {s : Pst} (hO : s.Ok) {e : Nat} (he : e < s.n) (hm : ¬ s.P e < s.R (s.O e)) : (s.mark e).Ok ∧ ∀ y, y < s.n → ((s.mark e).isM y = (decide (y = e) || s.isM y)) := by
  obtain ⟨o1, o2, o3⟩ := hO.o e he
  obtain ⟨v1, v2, v3, v4⟩ := hO.iv _ o1
  obtain ⟨y1, y2⟩ := hO.pe e he
  obtain ⟨o, ho⟩ : ∃ o, o = s.O e := ⟨_, rfl⟩
  obtain ⟨q, hq⟩ : ∃ q, q = s.R o := ⟨_, rfl⟩
  obtain ⟨pl, hpl⟩ : ∃ pl, pl = s.P e := ⟨_, rfl⟩
  obtain ⟨x, hx⟩ : ∃ x, x = s.E q := ⟨_, rfl⟩
  have hM : s.mark e = s.markAt e o q pl x := by rw [hx, hpl, hq, ho]; rfl
  rw [hM]
  rw [← ho] at o1 o2 o3 v1 v2 v3 v4 hm
  rw [← hq] at v1 v2 hm
  rw [← hpl] at o2 o3 y1 y2 hm
  obtain ⟨x1, x2⟩ := hO.ep q (by omega)
  have x3 := hO.ow o o1 q v1 (by omega)
  rw [← hx] at x1 x2 x3
  have hxe : pl = q → x = e := fun h => by rw [hx, ← h, y2]
  have hpne : ∀ z, z < s.n → z ≠ x → s.P z ≠ q := fun z hz hzx h => hzx (by rw [hx, ← h, (hO.pe z hz).2])
  have hpne2 : ∀ z, z < s.n → z ≠ e → s.P z ≠ pl := fun z hz hze h => hze (by rw [← y2, ← h, (hO.pe z hz).2])
  refine ⟨⟨hO.n1, fun z hz => ?_, fun k hk => ?_, fun z hz => ?_, fun b hb => ?_, fun b hb k h1 h2 => ?_, hO.su⟩, fun z hz => ?_⟩
  · show upd (upd s.P x pl) e q z < s.n ∧ upd (upd s.E pl x) q e (upd (upd s.P x pl) e q z) = z
    have hz' : z < s.n := hz
    by_cases e1 : z = e
    · subst e1
      rw [upd_same, upd_same]
      exact ⟨by omega, rfl⟩
    · rw [upd_ne _ _ e1]
      by_cases e2 : z = x
      · subst e2
        rw [upd_same, upd_ne _ _ (fun h => e1 (hxe h)), upd_same]
        exact ⟨y1, rfl⟩
      · rw [upd_ne _ _ e2, upd_ne _ _ (hpne z hz' e2), upd_ne _ _ (hpne2 z hz' e1)]
        exact hO.pe z hz'
  · show upd (upd s.E pl x) q e k < s.n ∧ upd (upd s.P x pl) e q (upd (upd s.E pl x) q e k) = k
    have hk' : k < s.n := hk
    by_cases e1 : k = q
    · subst e1
      rw [upd_same, upd_same]
      exact ⟨he, rfl⟩
    · rw [upd_ne _ _ e1]
      by_cases e2 : k = pl
      · subst e2
        rw [upd_same, upd_ne _ _ (fun h => e1 (by rw [hpl, ← x2, h])), upd_same]
        exact ⟨x1, rfl⟩
      · obtain ⟨k1, k2⟩ := hO.ep k hk'
        rw [upd_ne _ _ e2, upd_ne _ _ (fun h => e2 (by rw [← k2, h, hpl])), upd_ne _ _ (fun h => e1 (by rw [← k2, h, x2]))]
        exact ⟨k1, k2⟩
  · show s.O z < s.nb ∧ s.B (s.O z) ≤ upd (upd s.P x pl) e q z ∧ upd (upd s.P x pl) e q z < s.D (s.O z)
    have hz' : z < s.n := hz
    by_cases e1 : z = e
    · subst e1
      rw [upd_same, ← ho]
      exact ⟨o1, v1, by omega⟩
    · rw [upd_ne _ _ e1]
      by_cases e2 : z = x
      · subst e2
        rw [upd_same, x3]
        exact ⟨o1, o2, o3⟩
      · rw [upd_ne _ _ e2]
        exact hO.o z hz'
  · show s.B b ≤ upd s.R o (q + 1) b ∧ upd s.R o (q + 1) b ≤ s.D b ∧ s.B b < s.D b ∧ s.D b ≤ s.n
    by_cases e1 : b = o
    · subst e1
      rw [upd_same]
      omega
    · rw [upd_ne _ _ e1]
      exact hO.iv b hb
  · show s.O (upd (upd s.E pl x) q e k) = b
    have h0 := hO.ow b hb k h1 h2
    by_cases e1 : k = q
    · subst e1
      rw [upd_same, ← h0, ← hx, x3, ho]
    · rw [upd_ne _ _ e1]
      by_cases e2 : k = pl
      · subst e2
        rw [upd_same, x3, ← h0, y2, ho]
      · rw [upd_ne _ _ e2]
        exact h0
  · show decide (upd (upd s.P x pl) e q z < upd s.R o (q + 1) (s.O z)) = (decide (z = e) || decide (s.P z < s.R (s.O z)))
    by_cases e1 : z = e
    · subst e1
      rw [upd_same, ← ho, upd_same]
      simp
    · rw [upd_ne _ _ e1]
      by_cases e2 : z = x
      · subst e2
        have hne : pl ≠ q := fun h => e1 (hxe h)
        rw [upd_same, x3, upd_same, x2, ← hq]
        simp [e1]
        omega
      · rw [upd_ne _ _ e2]
        have h3 := hpne z hz e2
        by_cases e3 : s.O z = o
        · rw [e3, upd_same, ← hq]
          simp only [e1, decide_false, Bool.false_or]
          exact decide_eq_decide.2 (by omega)
        · rw [upd_ne _ _ e3]
          simp [e1]
end Go.Proofs.YthfnikglcpoioaaDoor
