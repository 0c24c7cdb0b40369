/- Contract of the document's own Pairs. -/
import Derived.Test.YthnenpncajpibaaGreatDoorRefRising
namespace Go.Proofs.YthnenpncajpibaaGreatDoor
open Go.RowKit
namespace Ac
def prevP (ps : List (Int × Int)) : Nat → Int
  | 0 => -1
  | j + 1 => (ps.getD j (0, 0)).1
end Ac
set_option maxRecDepth 100000 in
set_option maxHeartbeats 2000000 in
theorem refPairs_any (v : Value) (ps : List (Int × Int)) (w : World) (hH : HasP w v ps) (hn : ps.length ≤ 1000000000000000) :
    Calls Tryz.prog 113 #[v] w fun e w' => e = .returned (.bool (Ac.pairs (-1) ps)) ∧ Below w.heap.size w w' := by
  obtain ⟨ao, cap, rfl, hcells⟩ := hH
  obtain ⟨n, hN⟩ : ∃ n, n = ps.length := ⟨_, rfl⟩
  have HH : Hid ((∀ (i : Nat) (p : Int × Int), ps[i]? = some p → ∃ a, ao = some a ∧ w.cell? (a.add (i * 2)) = some (.int .i64 p.1) ∧ w.cell? (a.add (i * 2 + 1)) = some (.int .i64 p.2)) ∧ n = ps.length) := ⟨hcells, hN⟩
  rw [← hN] at hn ⊢
  clear hcells hN
  go_enter Tryz.func113, Tryz.ntmps113
  go_wp2_with fail
  go_loopg [3] n (fun g i wr => ∃ (j q : Nat), g = n - j ∧ j ≤ n ∧ i = .int .i64 j ∧ Ac.pairs (Ac.prevP ps j) (ps.drop j) = Ac.pairs (-1) ps ∧ wr = w.drewN q)
  case atStart => exact ⟨0, 0, rfl, Nat.zero_le _, rfl, rfl, rfl⟩
  case round =>
    obtain ⟨j, q, rfl, hj, rfl, hR, rfl⟩ := hrel
    have HB : Hid (Ac.pairs (Ac.prevP ps j) (ps.drop j) = Ac.pairs (-1) ps) := hR
    clear hR
    by_cases hlt : j < n
    · obtain ⟨p, hp⟩ : ∃ p, ps[j]? = some p := ⟨ps[j]'(by have := HH.out.2; omega), List.getElem?_eq_getElem _⟩
      obtain ⟨a, rfl, c0, c1⟩ := HH.out.1 j p hp
      obtain ⟨x, y⟩ := p
      have d2 : w.cell? ((a.add (j * 2)).add 1) = some (.int .i64 y) := by rw [add_two]; exact c1
      have d3 : w.cell? ⟨(a.add (j * 2)).block, (a.add (j * 2)).off + 1, none⟩ = some (.int .i64 y) := by rw [← d2]; rfl
      have HX : Hid (Ac.pairs (Ac.prevP ps j) (ps.drop j) = if x ≤ Ac.prevP ps j ∨ Ac.isN x = false ∨ Ac.isN y = false then false else Ac.pairs x (ps.drop (j + 1))) := by
        show Ac.pairs _ (ps.drop j) = _
        rw [drop_at hp]; rfl
      have HP : Hid (Ac.prevP ps (j + 1) = x) := (by show (ps.getD j (0, 0)).1 = x; rw [List.getD_eq_getElem?_getD, hp]; rfl : Ac.prevP ps (j + 1) = x)
      have q0 : (0 : Int) ≤ (j : Int) := by omega
      have q1 : (j : Int) < (n : Int) := by omega
      clear hp
      by_cases h1 : x < 0
      · have e1 : decide (x < 0) = true := decide_eq_true h1
        have HF : Hid (Ac.pairs (-1) ps = false) := (by rw [← HB.out, HX.out, if_pos (.inr (.inl ((isN_eq x).2 (.inl h1))))] : Ac.pairs (-1) ps = false)
        go_wp2_with fail
        go_quiet (fail)
        go_wp2
        go_ret
        exact ⟨by rw [HF.out]; rfl, below_drewN (below_drewN (Below.refl _ _) _) _⟩
      · have e1 : decide (x < 0) = false := decide_eq_false h1
        by_cases h2 : 100 ≤ x
        · have e2 : decide (100 ≤ x) = true := decide_eq_true h2
          have HF : Hid (Ac.pairs (-1) ps = false) := (by rw [← HB.out, HX.out, if_pos (.inr (.inl ((isN_eq x).2 (.inr h2))))] : Ac.pairs (-1) ps = false)
          go_wp2_with fail
          go_quiet (fail)
          go_wp2
          go_ret
          exact ⟨by rw [HF.out]; rfl, below_drewN (below_drewN (Below.refl _ _) _) _⟩
        · have e2 : decide (100 ≤ x) = false := decide_eq_false h2
          by_cases h3 : y < 0
          · have e3 : decide (y < 0) = true := decide_eq_true h3
            have HF : Hid (Ac.pairs (-1) ps = false) := (by rw [← HB.out, HX.out, if_pos (.inr (.inr ((isN_eq y).2 (.inl h3))))] : Ac.pairs (-1) ps = false)
            go_wp2_with fail
            go_quiet (fail)
            go_wp2
            go_ret
            exact ⟨by rw [HF.out]; rfl, below_drewN (below_drewN (Below.refl _ _) _) _⟩
          · have e3 : decide (y < 0) = false := decide_eq_false h3
            by_cases h4 : 100 ≤ y
            · have e4 : decide (100 ≤ y) = true := decide_eq_true h4
              have HF : Hid (Ac.pairs (-1) ps = false) := (by rw [← HB.out, HX.out, if_pos (.inr (.inr ((isN_eq y).2 (.inr h4))))] : Ac.pairs (-1) ps = false)
              go_wp2_with fail
              go_quiet (fail)
              go_wp2
              go_ret
              exact ⟨by rw [HF.out]; rfl, below_drewN (below_drewN (Below.refl _ _) _) _⟩
            · have e4 : decide (100 ≤ y) = false := decide_eq_false h4
              have hN : ¬ (Ac.isN x = false ∨ Ac.isN y = false) := fun h => by
                rcases h with h | h
                · rcases (isN_eq x).1 h with h | h <;> omega
                · rcases (isN_eq y).1 h with h | h <;> omega
              have hNN : Hid (¬ (Ac.isN x = false ∨ Ac.isN y = false)) := hN
              have HZ : Hid (¬ x < 0) := h1
              clear hN h1 h2 h3 h4
              by_cases h0 : j = 0
              · have hpj : Ac.prevP ps j = -1 := by rw [h0]; rfl
                have hno : ¬ (x ≤ Ac.prevP ps j ∨ Ac.isN x = false ∨ Ac.isN y = false) := fun h => h.elim (fun h => by have := HZ.out; omega) hNN.out
                have HF : Hid (Ac.pairs (Ac.prevP ps (j + 1)) (ps.drop (j + 1)) = Ac.pairs (-1) ps) := (by rw [HP.out, ← HB.out, HX.out, if_neg hno] : Ac.pairs (Ac.prevP ps (j + 1)) (ps.drop (j + 1)) = Ac.pairs (-1) ps)
                have e5 : decide ((0 : Int) < (j : Int)) = false := by simp; omega
                have e6 : decide (0 < j) = false := by simp; omega
                clear hno hpj h0
                go_wp2_with fail
                go_quiet (fail)
                go_wp2
                go_roundg (n - (j + 1))
                case measure => omega
                case rel => exact ⟨j + 1, _, rfl, by omega, by go_num, HF.out, by first | rfl | exact World.drewN_drewN _ _ _⟩
              · obtain ⟨k, hk⟩ : ∃ k, j = k + 1 := ⟨j - 1, by omega⟩
                obtain ⟨p, hy⟩ : ∃ p, ps[k]? = some p := ⟨ps[k]'(by have := HH.out.2; omega), List.getElem?_eq_getElem _⟩
                obtain ⟨a', ha', f0, _⟩ := HH.out.1 k p hy
                obtain rfl : a = a' := Option.some.inj ha'
                obtain ⟨u, t⟩ := p
                have hpk : Ac.prevP ps j = u := by rw [hk]; show (ps.getD k (0, 0)).1 = u; rw [List.getD_eq_getElem?_getD, hy]; rfl
                have HPK : Hid (Ac.prevP ps j = u) := hpk
                have r0 : decide ((0 : Int) < (j : Int)) = true := by simp; omega
                have r00 : decide (0 < j) = true := by simp; omega
                have r1 : (j : Int) - 1 = (k : Int) := by omega
                have r2 : (k : Int) < (n : Int) := by omega
                have r3 : (0 : Int) ≤ (k : Int) := by omega
                clear hy ha' hpk hk h0
                by_cases h5 : x ≤ u
                · have e5 : decide (x ≤ u) = true := decide_eq_true h5
                  have HF : Hid (Ac.pairs (-1) ps = false) := (by rw [← HB.out, HX.out, if_pos (.inl (by rw [HPK.out]; exact h5))] : Ac.pairs (-1) ps = false)
                  go_wp2_with fail
                  go_quiet (fail)
                  go_wp2
                  go_ret
                  exact ⟨by rw [HF.out]; rfl, below_drewN (below_drewN (Below.refl _ _) _) _⟩
                · have hno : ¬ (x ≤ Ac.prevP ps j ∨ Ac.isN x = false ∨ Ac.isN y = false) := fun h => h.elim (fun h => by rw [HPK.out] at h; exact h5 h) hNN.out
                  have HF : Hid (Ac.pairs (Ac.prevP ps (j + 1)) (ps.drop (j + 1)) = Ac.pairs (-1) ps) := (by rw [HP.out, ← HB.out, HX.out, if_neg hno] : Ac.pairs (Ac.prevP ps (j + 1)) (ps.drop (j + 1)) = Ac.pairs (-1) ps)
                  have e5 : decide (x ≤ u) = false := decide_eq_false h5
                  clear hno h5
                  go_wp2_with fail
                  go_quiet (fail)
                  go_wp2
                  go_roundg (n - (j + 1))
                  case measure => omega
                  case rel => exact ⟨j + 1, _, rfl, by omega, by go_num, HF.out, by first | rfl | exact World.drewN_drewN _ _ _⟩
    · have q1 : ¬ (j : Int) < (n : Int) := by omega
      have HF : Hid (Ac.pairs (-1) ps = true) := (by rw [← HB.out, List.drop_eq_nil_of_le (by have := HH.out.2; omega)]; rfl : Ac.pairs (-1) ps = true)
      go_wp2_with fail
      go_ret
      exact ⟨by rw [HF.out]; rfl, below_drewN (Below.refl _ _) _⟩
end Go.Proofs.YthnenpncajpibaaGreatDoor
