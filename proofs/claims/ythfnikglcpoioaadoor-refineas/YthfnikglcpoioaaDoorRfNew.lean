/- refine: New. -/
import Derived.Test.YthfnikglcpoioaaDoorRfPut
namespace Go.Proofs.YthfnikglcpoioaaDoor
open Go.RowKit Go.Maps
attribute [local go_sem ↓] Go.wp_at_zero Go.wp_at_succ
theorem new_cells (n : Nat) (w : World) : Pt w (w.alloc (.cells (Tryd.zeroCells58.setIfInBounds 0 (.int .i64 (n : Int))) 58)) w.heap.size (upd (fun _ => 0) 0 n) := by
  refine ⟨(Below.refl _ _).alloc (Nat.le_refl _) _, ⟨_, (MapKept.heap_alloc w _).1, ?_⟩, Nat.le_refl _⟩
  rw [Array.toList_setIfInBounds, zero_list, ← Cs_zero, Cs_set]
/-- The cells of New's loop: elements and places of the first k. -/
def newC (n : Nat) : Nat → Nat → Int
  | 0 => upd (fun _ => 0) 0 n
  | k + 1 => upd (upd (newC n k) (2 + k) k) (1002 + k) k
theorem newC_at (n : Nat) : ∀ k i, k ≤ 1000 → newC n k i = if i = 0 then (n : Int) else if 2 ≤ i ∧ i < 2 + k then (i : Int) - 2 else if 1002 ≤ i ∧ i < 1002 + k then (i : Int) - 1002 else 0 := by
  intro k
  induction k with
  | zero =>
    intro i _
    simp only [newC, upd]
    by_cases h : i = 0
    · simp [h]
    · rw [if_neg h, if_neg h, if_neg (by omega), if_neg (by omega)]
  | succ k ih =>
    intro i hk
    simp only [newC, upd]
    rw [ih i (by omega)]
    by_cases h1 : i = 1002 + k
    · subst h1
      rw [if_pos rfl, if_neg (by omega), if_neg (by omega), if_pos (by omega)]
      omega
    · rw [if_neg h1]
      by_cases h2 : i = 2 + k
      · subst h2
        rw [if_pos rfl, if_neg (by omega), if_pos (by omega)]
        omega
      · rw [if_neg h2]
        by_cases h3 : i = 0
        · rw [if_pos h3, if_pos h3]
        · rw [if_neg h3, if_neg h3]
          by_cases h4 : 2 ≤ i ∧ i < 2 + k
          · rw [if_pos h4, if_pos (by omega)]
          · rw [if_neg h4, if_neg (show ¬ (2 ≤ i ∧ i < 2 + (k + 1)) by omega)]
            by_cases h5 : 1002 ≤ i ∧ i < 1002 + k
            · rw [if_pos h5, if_pos (by omega)]
            · rw [if_neg h5, if_neg (by omega)]
theorem new_lay0 : Lay (newC 0 0) (Pst.new 0) := by
  refine ⟨rfl, rfl, fun k hk => ?_, fun k hk => ?_, fun k hk => ?_, fun k hk => ?_, fun k hk => ?_, fun k hk => ?_⟩ <;> exact absurd hk (Nat.not_lt_zero _)
theorem new_lay {n : Nat} (hn : n ≤ 1000) (h0 : 0 < n) : Lay (upd (upd (newC n n) 1 1) 3004 n) (Pst.new n) := by
  have hb : (Pst.new n).nb = 1 := if_neg (by omega)
  have hN : (Pst.new n).n = n := rfl
  refine ⟨?_, ?_, fun k hk => ?_, fun k hk => ?_, fun k hk => ?_, fun k hk => ?_, fun k hk => ?_, fun k hk => ?_⟩
  · rw [upd_ne _ _ (by omega), upd_ne _ _ (by omega), newC_at n n 0 hn, if_pos rfl]; rfl
  · rw [upd_ne _ _ (by omega), upd_same, hb]; rfl
  · rw [hN] at hk
    rw [upd_ne _ _ (by omega), upd_ne _ _ (by omega), newC_at n n _ hn, if_neg (by omega), if_pos (by omega)]
    show _ = ((k : Nat) : Int)
    omega
  · rw [hN] at hk
    rw [upd_ne _ _ (by omega), upd_ne _ _ (by omega), newC_at n n _ hn, if_neg (by omega), if_neg (by omega), if_pos (by omega)]
    show _ = ((k : Nat) : Int)
    omega
  · rw [hN] at hk
    rw [upd_ne _ _ (by omega), upd_ne _ _ (by omega), newC_at n n _ hn, if_neg (by omega), if_neg (by omega), if_neg (by omega)]
    rfl
  · rw [hb] at hk
    rw [upd_ne _ _ (by omega), upd_ne _ _ (by omega), newC_at n n _ hn, if_neg (by omega), if_neg (by omega), if_neg (by omega)]
    rfl
  · rw [hb] at hk
    rw [upd_ne _ _ (by omega), upd_ne _ _ (by omega), newC_at n n _ hn, if_neg (by omega), if_neg (by omega), if_neg (by omega)]
    rfl
  · rw [hb] at hk
    rw [show 3002 + k * 3 + 2 = 3004 by omega, upd_same]
    rfl
set_option maxRecDepth 100000 in
set_option maxHeartbeats 4000000 in
theorem new_part (n : Nat) (hn : n ≤ 1000) (w : World) :
    Calls Tryd.prog 7 #[.int .i64 n] w fun r w' => ∃ g c, r = .returned (.tuple #[.pointer (some ⟨g, 0, none⟩), .nilIface]) ∧ Pt w w' g c ∧ Lay c (Pst.new n) := by
  have g1 : decide ((n : Int) < 0) = false := decide_eq_false (by omega)
  have g2 : decide ((n : Int) > 1000) = false := decide_eq_false (by omega)
  have g3 : ¬ (n : Int) < 0 := by omega
  have g4 : ¬ (1000 : Int) < (n : Int) := by omega
  have g5 : ¬ 1000 < n := by omega
  have HN := new_cells n w
  go_enter Tryd.func7, Tryd.ntmps7
  go_wp2_with fail
  obtain ⟨w1, hw1⟩ : ∃ w1, w1 = w.alloc (.cells (Tryd.zeroCells58.setIfInBounds 0 (.int .i64 (n : Int))) 58) := ⟨_, rfl⟩
  rw [← hw1] at HN ⊢
  obtain ⟨g, hg⟩ : ∃ g, g = w.heap.size := ⟨_, rfl⟩
  rw [← hg] at HN ⊢
  have H0 : Hid (Pt w w1 g (newC n 0)) := HN
  clear HN hw1 hg
  go_loopg [18] n (fun q kv wr => ∃ k : Nat, kv = .int .i64 k ∧ k ≤ n ∧ n - k ≤ q ∧ Pt w wr g (newC n k))
  case atStart => exact ⟨0, rfl, Nat.zero_le _, Nat.le_refl _, H0.out⟩
  case round =>
    obtain ⟨k, rfl, hk, hq, hP⟩ := hrel
    have H : Hid (Pt w wr g (newC n k)) := hP
    by_cases hkn : k < n
    · have p1 : (k : Int) < (n : Int) := by omega
      have c1 := hP.cell (i := 2 + k) (by omega)
      have c2 := hP.cell (i := 1002 + k) (by omega)
      have f1 := hP.free (2 + k)
      have f2 := hP.free (1002 + k)
      have k0 : (0 : Int) ≤ (k : Int) := by omega
      have k1 : (k : Int) < 1000 := by omega
      have hne : ¬ 1002 + k = 2 + k := by omega
      have hne2 : ¬ 2 + k = 1002 + k := by omega
      clear hP
      go_wp2_with fail
      go_region
      all_goals go_wp2_with fail
      all_goals
        go_roundg (n - (k + 1))
        case measure => omega
        case rel => exact ⟨k + 1, by go_num, by omega, Nat.le_refl _, ((H.out.set _ _).set _ _).below (Below.refl _ _).drew⟩
    · have p1 : ¬ (k : Int) < (n : Int) := by omega
      have hkn' : k = n := by omega
      rw [hkn'] at hP
      have H' : Hid (Pt w wr g (newC n n)) := hP
      clear H
      by_cases h0 : 0 < n
      · have q1 : (0 : Int) < (n : Int) := by omega
        have c1 := hP.cell (i := 1) (by omega)
        have c2 := hP.cell (i := 3004) (by omega)
        have f1 := hP.free 1
        have f2 := hP.free 3004
        clear hP
        go_wp2_with fail
        go_region
        all_goals go_wp2_with fail
        all_goals
          go_ret2
          exact ⟨g, _, rfl, ((H'.out.set _ _).set _ _).below (Below.refl _ _).drew, new_lay hn h0⟩
      · have q1 : ¬ (0 : Int) < (n : Int) := by omega
        have HL : Hid (Lay (newC n n) (Pst.new n)) := by
          have hn0 : n = 0 := by omega
          subst hn0
          exact new_lay0
        clear hP
        go_wp2_with fail
        go_ret2
        exact ⟨g, rfl, _, H'.out, HL.out⟩
end Go.Proofs.YthfnikglcpoioaaDoor
