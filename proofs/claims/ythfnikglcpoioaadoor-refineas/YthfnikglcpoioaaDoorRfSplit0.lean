/- refine: what Split makes of a partition. -/
import Derived.Test.YthfnikglcpoioaaDoorRfMark0
namespace Go.Proofs.YthfnikglcpoioaaDoor
open Go.RowKit Go.Maps
/-- The marks of a block are taken away. -/
def Pst.clear (s : Pst) (b : Nat) : Pst := { s with R := upd s.R b (s.B b) }
theorem clear_lay {c : Nat → Int} {s : Pst} (hL : Lay c s) (hn : s.n ≤ 1000) {b : Nat} (hb : b < 1000) : Lay (upd c (3002 + b * 3 + 1) (s.B b)) (s.clear b) := by
  refine ⟨?_, ?_, fun k hk => ?_, fun k hk => ?_, fun k hk => ?_, fun k hk => ?_, fun k hk => ?_, fun k hk => ?_⟩
  · rw [upd_ne _ _ (by omega)]; exact hL.n
  · rw [upd_ne _ _ (by omega)]; exact hL.nb
  · have hk' : k < s.n := hk
    rw [upd_ne _ _ (by omega)]; exact hL.e k hk'
  · have hk' : k < s.n := hk
    rw [upd_ne _ _ (by omega)]; exact hL.p k hk'
  · have hk' : k < s.n := hk
    rw [upd_ne _ _ (by omega)]; exact hL.o k hk'
  · have hk' : k < s.nb := hk
    rw [upd_ne _ _ (by omega)]; exact hL.b k hk'
  · have hk' : k < s.nb := hk
    exact upd_at3 _ (hL.r k hk')
  · have hk' : k < s.nb := hk
    rw [upd_ne _ _ (by omega)]; exact hL.d k hk'
theorem clear_ok {s : Pst} (hO : s.Ok) {b : Nat} (hb : b < s.nb) : (s.clear b).Ok ∧ ∀ y, y < s.n → (s.clear b).isM y = (s.isM y && decide (s.O y ≠ b)) := by
  refine ⟨⟨hO.n1, hO.pe, hO.ep, hO.o, fun b' hb' => ?_, hO.ow, hO.su⟩, fun y hy => ?_⟩
  · show s.B b' ≤ upd s.R b (s.B b) b' ∧ upd s.R b (s.B b) b' ≤ s.D b' ∧ s.B b' < s.D b' ∧ s.D b' ≤ s.n
    have h := hO.iv b' hb'
    by_cases e : b' = b
    · subst e; rw [upd_same]; omega
    · rw [upd_ne _ _ e]; exact h
  · show decide (s.P y < upd s.R b (s.B b) (s.O y)) = (decide (s.P y < s.R (s.O y)) && decide (s.O y ≠ b))
    have h := hO.o y hy
    by_cases e : s.O y = b
    · rw [e] at h ⊢
      rw [upd_same]
      simp
      omega
    · rw [upd_ne _ _ e]; simp [e]
/-- A block is cut in two: what stays, what is a new block; so many elements have been told so. -/
def Pst.cut (s : Pst) (b sB sD fB fD j : Nat) : Pst := { s with nb := s.nb + 1, B := upd (upd s.B b sB) s.nb fB, R := upd (upd s.R b sB) s.nb fB, D := upd (upd s.D b sD) s.nb fD, O := fun e => if fB ≤ s.P e ∧ s.P e < fB + j then s.nb else s.O e }
def cutC (c : Nat → Int) (b nb sB sD fB fD : Nat) : Nat → Int := upd (upd (upd (upd (upd (upd (upd c 1 ((nb + 1 : Nat) : Int)) (3002 + b * 3) sB) (3002 + b * 3 + 1) sB) (3002 + b * 3 + 2) sD) (3002 + nb * 3) fB) (3002 + nb * 3 + 1) fB) (3002 + nb * 3 + 2) fD
theorem upd_at30 {f : Nat → Int} {h : Nat → Nat} {a i k : Nat} (x : Nat) (hk : f (a + k * 3) = h k) : upd f (a + i * 3) x (a + k * 3) = (upd h i x k : Nat) := by
  unfold upd
  by_cases e : k = i
  · subst e; simp
  · rw [if_neg (by omega), if_neg e]; exact hk
theorem upd_here {f : Nat → Int} {h : Nat → Nat} {a i k : Nat} (x : Nat) (hk : k ≠ i → f (a + k * 3) = h k) : upd f (a + i * 3) x (a + k * 3) = (upd h i x k : Nat) := by
  unfold upd
  by_cases e : k = i
  · subst e; simp
  · rw [if_neg (by omega), if_neg e]; exact hk e
theorem upd_here3 {f : Nat → Int} {h : Nat → Nat} {a d i k : Nat} (x : Nat) (hk : k ≠ i → f (a + k * 3 + d) = h k) : upd f (a + i * 3 + d) x (a + k * 3 + d) = (upd h i x k : Nat) := by
  unfold upd
  by_cases e : k = i
  · subst e; simp
  · rw [if_neg (by omega), if_neg e]; exact hk e
theorem cut_lay {c : Nat → Int} {s : Pst} (hL : Lay c s) (hn : s.n ≤ 1000) {b sB sD fB fD : Nat} : Lay (cutC c b s.nb sB sD fB fD) (s.cut b sB sD fB fD 0) := by
  refine ⟨?_, ?_, fun k hk => ?_, fun k hk => ?_, fun k hk => ?_, fun k hk => ?_, fun k hk => ?_, fun k hk => ?_⟩
  · unfold cutC
    rw [upd_ne _ _ (by omega), upd_ne _ _ (by omega), upd_ne _ _ (by omega), upd_ne _ _ (by omega), upd_ne _ _ (by omega), upd_ne _ _ (by omega), upd_ne _ _ (by omega)]
    exact hL.n
  · unfold cutC
    rw [upd_ne _ _ (by omega), upd_ne _ _ (by omega), upd_ne _ _ (by omega), upd_ne _ _ (by omega), upd_ne _ _ (by omega), upd_ne _ _ (by omega), upd_same]
    rfl
  · have hk' : k < s.n := hk
    unfold cutC
    rw [upd_ne _ _ (by omega), upd_ne _ _ (by omega), upd_ne _ _ (by omega), upd_ne _ _ (by omega), upd_ne _ _ (by omega), upd_ne _ _ (by omega), upd_ne _ _ (by omega)]
    exact hL.e k hk'
  · have hk' : k < s.n := hk
    unfold cutC
    rw [upd_ne _ _ (by omega), upd_ne _ _ (by omega), upd_ne _ _ (by omega), upd_ne _ _ (by omega), upd_ne _ _ (by omega), upd_ne _ _ (by omega), upd_ne _ _ (by omega)]
    exact hL.p k hk'
  · have hk' : k < s.n := hk
    unfold cutC
    rw [upd_ne _ _ (by omega), upd_ne _ _ (by omega), upd_ne _ _ (by omega), upd_ne _ _ (by omega), upd_ne _ _ (by omega), upd_ne _ _ (by omega), upd_ne _ _ (by omega)]
    show c (2002 + k) = ((if fB ≤ s.P k ∧ s.P k < fB + 0 then s.nb else s.O k : Nat) : Int)
    rw [if_neg (by omega)]
    exact hL.o k hk'
  · have hk' : k < s.nb + 1 := hk
    unfold cutC
    rw [upd_ne _ _ (by omega), upd_ne _ _ (by omega)]
    refine upd_here fB fun e1 => ?_
    rw [upd_ne _ _ (by omega), upd_ne _ _ (by omega)]
    refine upd_here sB fun e2 => ?_
    rw [upd_ne _ _ (by omega)]
    exact hL.b k (by omega)
  · have hk' : k < s.nb + 1 := hk
    unfold cutC
    rw [upd_ne _ _ (by omega)]
    refine upd_here3 fB fun e1 => ?_
    rw [upd_ne _ _ (by omega), upd_ne _ _ (by omega)]
    refine upd_here3 sB fun e2 => ?_
    rw [upd_ne _ _ (by omega), upd_ne _ _ (by omega)]
    exact hL.r k (by omega)
  · have hk' : k < s.nb + 1 := hk
    unfold cutC
    refine upd_here3 fD fun e1 => ?_
    rw [upd_ne _ _ (by omega), upd_ne _ _ (by omega)]
    refine upd_here3 sD fun e2 => ?_
    rw [upd_ne _ _ (by omega), upd_ne _ _ (by omega), upd_ne _ _ (by omega)]
    exact hL.d k (by omega)
theorem cut_next {c : Nat → Int} {s : Pst} (hO : s.Ok) {b sB sD fB fD j : Nat} (hL : Lay c (s.cut b sB sD fB fD j)) (hj : fB + j < s.n) : Lay (upd c (2002 + s.E (fB + j)) s.nb) (s.cut b sB sD fB fD (j + 1)) := by
  obtain ⟨e1, e2⟩ := hO.ep (fB + j) hj
  have hn := hO.n1
  refine ⟨?_, ?_, fun k hk => ?_, fun k hk => ?_, fun k hk => ?_, fun k hk => ?_, fun k hk => ?_, fun k hk => ?_⟩
  · rw [upd_ne _ _ (by omega)]; exact hL.n
  · rw [upd_ne _ _ (by omega)]; exact hL.nb
  · have hk' : k < s.n := hk
    rw [upd_ne _ _ (by omega)]; exact hL.e k hk'
  · have hk' : k < s.n := hk
    rw [upd_ne _ _ (by omega)]; exact hL.p k hk'
  · have hk' : k < s.n := hk
    show _ = ((if fB ≤ s.P k ∧ s.P k < fB + (j + 1) then s.nb else s.O k : Nat) : Int)
    by_cases h : k = s.E (fB + j)
    · rw [h, upd_same, e2, if_pos (by omega)]
    · have h3 : s.P k ≠ fB + j := fun h4 => h (by rw [← h4, (hO.pe k hk').2])
      rw [upd_ne _ _ (by omega), hL.o k hk']
      show ((if fB ≤ s.P k ∧ s.P k < fB + j then s.nb else s.O k : Nat) : Int) = _
      by_cases h5 : fB ≤ s.P k ∧ s.P k < fB + j
      · rw [if_pos h5, if_pos (by omega)]
      · rw [if_neg h5, if_neg (by omega)]
  · rw [upd_ne _ _ (by omega)]; exact hL.b k hk
  · rw [upd_ne _ _ (by omega)]; exact hL.r k hk
  · rw [upd_ne _ _ (by omega)]; exact hL.d k hk
theorem cut_ok {s : Pst} (hO : s.Ok) {b sB sD fB fD : Nat} (hb : b < s.nb) (hm : s.B b < s.R b) (ho : s.R b < s.D b) (hx : (sB = s.B b ∧ sD = s.R b ∧ fB = s.R b ∧ fD = s.D b) ∨ (sB = s.R b ∧ sD = s.D b ∧ fB = s.B b ∧ fD = s.R b)) : (s.cut b sB sD fB fD (fD - fB)).Ok ∧ ∀ y, y < s.n → (s.cut b sB sD fB fD (fD - fB)).isM y = (s.isM y && decide (s.O y ≠ b)) := by
  have hne : b ≠ s.nb := by omega
  have v := hO.iv b hb
  have hf : fB + (fD - fB) = fD := by omega
  refine ⟨⟨hO.n1, hO.pe, hO.ep, fun e he => ?_, fun b' hb' => ?_, fun b' hb' k h1 h2 => ?_, ?_⟩, fun y hy => ?_⟩
  · show (if fB ≤ s.P e ∧ s.P e < fB + (fD - fB) then s.nb else s.O e) < s.nb + 1 ∧ upd (upd s.B b sB) s.nb fB (if fB ≤ s.P e ∧ s.P e < fB + (fD - fB) then s.nb else s.O e) ≤ s.P e ∧ s.P e < upd (upd s.D b sD) s.nb fD (if fB ≤ s.P e ∧ s.P e < fB + (fD - fB) then s.nb else s.O e)
    rw [hf]
    obtain ⟨o1, o2, o3⟩ := hO.o e he
    by_cases h : fB ≤ s.P e ∧ s.P e < fD
    · rw [if_pos h, upd_same, upd_same]; omega
    · have on : s.O e ≠ s.nb := by omega
      rw [if_neg h, upd_ne _ _ on, upd_ne _ _ on]
      by_cases e1 : s.O e = b
      · rw [e1] at o1 o2 o3 ⊢
        rw [upd_same, upd_same]; omega
      · rw [upd_ne _ _ e1, upd_ne _ _ e1]; omega
  · show upd (upd s.B b sB) s.nb fB b' ≤ upd (upd s.R b sB) s.nb fB b' ∧ upd (upd s.R b sB) s.nb fB b' ≤ upd (upd s.D b sD) s.nb fD b' ∧ upd (upd s.B b sB) s.nb fB b' < upd (upd s.D b sD) s.nb fD b' ∧ upd (upd s.D b sD) s.nb fD b' ≤ s.n
    have hb2 : b' < s.nb + 1 := hb'
    by_cases e1 : b' = s.nb
    · subst e1; rw [upd_same, upd_same, upd_same]; omega
    · rw [upd_ne _ _ e1, upd_ne _ _ e1, upd_ne _ _ e1]
      by_cases e2 : b' = b
      · subst e2; rw [upd_same, upd_same, upd_same]; omega
      · rw [upd_ne _ _ e2, upd_ne _ _ e2, upd_ne _ _ e2]; exact hO.iv b' (by omega)
  · replace h1 : upd (upd s.B b sB) s.nb fB b' ≤ k := h1
    replace h2 : k < upd (upd s.D b sD) s.nb fD b' := h2
    have hb2 : b' < s.nb + 1 := hb'
    show (if fB ≤ s.P (s.E k) ∧ s.P (s.E k) < fB + (fD - fB) then s.nb else s.O (s.E k)) = b'
    rw [hf]
    by_cases e1 : b' = s.nb
    · subst e1
      rw [upd_same] at h1 h2
      rw [(hO.ep k (by omega)).2, if_pos ⟨h1, h2⟩]
    · rw [upd_ne _ _ e1] at h1 h2
      by_cases e2 : b' = b
      · subst e2
        rw [upd_same] at h1 h2
        rw [(hO.ep k (by omega)).2, if_neg (by omega)]
        exact hO.ow b' hb k (by omega) (by omega)
      · rw [upd_ne _ _ e2] at h1 h2
        have v2 := hO.iv b' (by omega)
        have h3 := hO.ow b' (by omega) k h1 h2
        have h4 : ¬ (s.B b ≤ k ∧ k < s.D b) := fun h => e2 (by rw [← h3, hO.ow b hb k h.1 h.2])
        rw [(hO.ep k (by omega)).2, if_neg (by omega)]
        exact h3
  · show tot (fun b' => upd (upd s.D b sD) s.nb fD b' - upd (upd s.B b sB) s.nb fB b') (s.nb + 1) = s.n
    simp only [tot, upd_same]
    rw [tot_congr (g := upd (fun b' => s.D b' - s.B b') b (sD - sB)) s.nb fun j hj => by
      have jn : j ≠ s.nb := by omega
      rw [upd_ne _ _ jn, upd_ne _ _ jn]
      by_cases e : j = b
      · subst e; rw [upd_same, upd_same, upd_same]
      · rw [upd_ne _ _ e, upd_ne _ _ e, upd_ne _ _ e]]
    have h1 := tot_upd (fun b' => s.D b' - s.B b') b (sD - sB) s.nb hb
    have h2 := hO.su
    omega
  · show decide (s.P y < upd (upd s.R b sB) s.nb fB (if fB ≤ s.P y ∧ s.P y < fB + (fD - fB) then s.nb else s.O y)) = (decide (s.P y < s.R (s.O y)) && decide (s.O y ≠ b))
    rw [hf]
    obtain ⟨o1, o2, o3⟩ := hO.o y hy
    by_cases h : fB ≤ s.P y ∧ s.P y < fD
    · have e1 : s.O y = b := by
        have h3 := hO.ow b hb (s.P y) (by omega) (by omega)
        rw [(hO.pe y hy).2] at h3
        exact h3
      rw [if_pos h, upd_same]
      simp [e1]
      omega
    · rw [if_neg h, upd_ne _ _ (by omega)]
      by_cases e1 : s.O y = b
      · rw [e1] at o2 o3 ⊢
        rw [upd_same]
        simp
        omega
      · rw [upd_ne _ _ e1]; simp [e1]
end Go.Proofs.YthfnikglcpoioaaDoor
