/- Texts of this claim, joined: RefPairs, RtMay, Copy. -/
import Derived.Test.YthnenpncajpibaaGreatDoorPart5
import Derived.Test.YthnenpncajpibaaGreatDoorProg
import Derived.WalkKit
import Derived.Maps.AppendAt
/- Contract of the document's own Pairs. -/
namespace Go.Proofs.YthnenpncajpibaaGreatDoor
open Go.RowKit
namespace Ac
def prevP (ps : List (Int × Int)) : Nat → Int
  | 0 => -1
  | j + 1 => (ps.getD j (0, 0)).1
end Ac
set_option maxRecDepth 100000 in
set_option maxHeartbeats 2000000 in
theorem refPairs_any (v : Value) (ps : List (Int × Int)) (w : World) (hH : HasP w v ps) (hn : ps.length ≤ 1000000000000000) :
    Calls Tryz.prog 113 #[v] w fun e w' => e = .returned (.bool (Ac.pairs (-1) ps)) ∧ Below w.heap.size w w' := by
  obtain ⟨ao, cap, rfl, hcells⟩ := hH
  obtain ⟨n, hN⟩ : ∃ n, n = ps.length := ⟨_, rfl⟩
  have HH : Hid ((∀ (i : Nat) (p : Int × Int), ps[i]? = some p → ∃ a, ao = some a ∧ w.cell? (a.add (i * 2)) = some (.int .i64 p.1) ∧ w.cell? (a.add (i * 2 + 1)) = some (.int .i64 p.2)) ∧ n = ps.length) := ⟨hcells, hN⟩
  rw [← hN] at hn ⊢
  clear hcells hN
  go_enter Tryz.func113, Tryz.ntmps113
  go_wp2_with fail
  go_loopg [3] n (fun g i wr => ∃ (j q : Nat), g = n - j ∧ j ≤ n ∧ i = .int .i64 j ∧ Ac.pairs (Ac.prevP ps j) (ps.drop j) = Ac.pairs (-1) ps ∧ wr = w.drewN q)
  case atStart => exact ⟨0, 0, rfl, Nat.zero_le _, rfl, rfl, rfl⟩
  case round =>
    obtain ⟨j, q, rfl, hj, rfl, hR, rfl⟩ := hrel
    have HB : Hid (Ac.pairs (Ac.prevP ps j) (ps.drop j) = Ac.pairs (-1) ps) := hR
    clear hR
    by_cases hlt : j < n
    · obtain ⟨p, hp⟩ : ∃ p, ps[j]? = some p := ⟨ps[j]'(by have := HH.out.2; omega), List.getElem?_eq_getElem _⟩
      obtain ⟨a, rfl, c0, c1⟩ := HH.out.1 j p hp
      obtain ⟨x, y⟩ := p
      have d2 : w.cell? ((a.add (j * 2)).add 1) = some (.int .i64 y) := by rw [add_two]; exact c1
      have d3 : w.cell? ⟨(a.add (j * 2)).block, (a.add (j * 2)).off + 1, none⟩ = some (.int .i64 y) := by rw [← d2]; rfl
      have HX : Hid (Ac.pairs (Ac.prevP ps j) (ps.drop j) = if x ≤ Ac.prevP ps j ∨ Ac.isN x = false ∨ Ac.isN y = false then false else Ac.pairs x (ps.drop (j + 1))) := by
        show Ac.pairs _ (ps.drop j) = _
        rw [drop_at hp]; rfl
      have HP : Hid (Ac.prevP ps (j + 1) = x) := (by show (ps.getD j (0, 0)).1 = x; rw [List.getD_eq_getElem?_getD, hp]; rfl : Ac.prevP ps (j + 1) = x)
      have q0 : (0 : Int) ≤ (j : Int) := by omega
      have q1 : (j : Int) < (n : Int) := by omega
      clear hp
      by_cases h1 : x < 0
      · have e1 : decide (x < 0) = true := decide_eq_true h1
        have HF : Hid (Ac.pairs (-1) ps = false) := (by rw [← HB.out, HX.out, if_pos (.inr (.inl ((isN_eq x).2 (.inl h1))))] : Ac.pairs (-1) ps = false)
        go_wp2_with fail
        go_quiet (fail)
        go_wp2
        go_ret
        exact ⟨by rw [HF.out]; rfl, below_drewN (below_drewN (Below.refl _ _) _) _⟩
      · have e1 : decide (x < 0) = false := decide_eq_false h1
        by_cases h2 : 100 ≤ x
        · have e2 : decide (100 ≤ x) = true := decide_eq_true h2
          have HF : Hid (Ac.pairs (-1) ps = false) := (by rw [← HB.out, HX.out, if_pos (.inr (.inl ((isN_eq x).2 (.inr h2))))] : Ac.pairs (-1) ps = false)
          go_wp2_with fail
          go_quiet (fail)
          go_wp2
          go_ret
          exact ⟨by rw [HF.out]; rfl, below_drewN (below_drewN (Below.refl _ _) _) _⟩
        · have e2 : decide (100 ≤ x) = false := decide_eq_false h2
          by_cases h3 : y < 0
          · have e3 : decide (y < 0) = true := decide_eq_true h3
            have HF : Hid (Ac.pairs (-1) ps = false) := (by rw [← HB.out, HX.out, if_pos (.inr (.inr ((isN_eq y).2 (.inl h3))))] : Ac.pairs (-1) ps = false)
            go_wp2_with fail
            go_quiet (fail)
            go_wp2
            go_ret
            exact ⟨by rw [HF.out]; rfl, below_drewN (below_drewN (Below.refl _ _) _) _⟩
          · have e3 : decide (y < 0) = false := decide_eq_false h3
            by_cases h4 : 100 ≤ y
            · have e4 : decide (100 ≤ y) = true := decide_eq_true h4
              have HF : Hid (Ac.pairs (-1) ps = false) := (by rw [← HB.out, HX.out, if_pos (.inr (.inr ((isN_eq y).2 (.inr h4))))] : Ac.pairs (-1) ps = false)
              go_wp2_with fail
              go_quiet (fail)
              go_wp2
              go_ret
              exact ⟨by rw [HF.out]; rfl, below_drewN (below_drewN (Below.refl _ _) _) _⟩
            · have e4 : decide (100 ≤ y) = false := decide_eq_false h4
              have hN : ¬ (Ac.isN x = false ∨ Ac.isN y = false) := fun h => by
                rcases h with h | h
                · rcases (isN_eq x).1 h with h | h <;> omega
                · rcases (isN_eq y).1 h with h | h <;> omega
              have hNN : Hid (¬ (Ac.isN x = false ∨ Ac.isN y = false)) := hN
              have HZ : Hid (¬ x < 0) := h1
              clear hN h1 h2 h3 h4
              by_cases h0 : j = 0
              · have hpj : Ac.prevP ps j = -1 := by rw [h0]; rfl
                have hno : ¬ (x ≤ Ac.prevP ps j ∨ Ac.isN x = false ∨ Ac.isN y = false) := fun h => h.elim (fun h => by have := HZ.out; omega) hNN.out
                have HF : Hid (Ac.pairs (Ac.prevP ps (j + 1)) (ps.drop (j + 1)) = Ac.pairs (-1) ps) := (by rw [HP.out, ← HB.out, HX.out, if_neg hno] : Ac.pairs (Ac.prevP ps (j + 1)) (ps.drop (j + 1)) = Ac.pairs (-1) ps)
                have e5 : decide ((0 : Int) < (j : Int)) = false := by simp; omega
                have e6 : decide (0 < j) = false := by simp; omega
                clear hno hpj h0
                go_wp2_with fail
                go_quiet (fail)
                go_wp2
                go_roundg (n - (j + 1))
                case measure => omega
                case rel => exact ⟨j + 1, _, rfl, by omega, by go_num, HF.out, by first | rfl | exact World.drewN_drewN _ _ _⟩
              · obtain ⟨k, hk⟩ : ∃ k, j = k + 1 := ⟨j - 1, by omega⟩
                obtain ⟨p, hy⟩ : ∃ p, ps[k]? = some p := ⟨ps[k]'(by have := HH.out.2; omega), List.getElem?_eq_getElem _⟩
                obtain ⟨a', ha', f0, _⟩ := HH.out.1 k p hy
                obtain rfl : a = a' := Option.some.inj ha'
                obtain ⟨u, t⟩ := p
                have hpk : Ac.prevP ps j = u := by rw [hk]; show (ps.getD k (0, 0)).1 = u; rw [List.getD_eq_getElem?_getD, hy]; rfl
                have HPK : Hid (Ac.prevP ps j = u) := hpk
                have r0 : decide ((0 : Int) < (j : Int)) = true := by simp; omega
                have r00 : decide (0 < j) = true := by simp; omega
                have r1 : (j : Int) - 1 = (k : Int) := by omega
                have r2 : (k : Int) < (n : Int) := by omega
                have r3 : (0 : Int) ≤ (k : Int) := by omega
                clear hy ha' hpk hk h0
                by_cases h5 : x ≤ u
                · have e5 : decide (x ≤ u) = true := decide_eq_true h5
                  have HF : Hid (Ac.pairs (-1) ps = false) := (by rw [← HB.out, HX.out, if_pos (.inl (by rw [HPK.out]; exact h5))] : Ac.pairs (-1) ps = false)
                  go_wp2_with fail
                  go_quiet (fail)
                  go_wp2
                  go_ret
                  exact ⟨by rw [HF.out]; rfl, below_drewN (below_drewN (Below.refl _ _) _) _⟩
                · have hno : ¬ (x ≤ Ac.prevP ps j ∨ Ac.isN x = false ∨ Ac.isN y = false) := fun h => h.elim (fun h => by rw [HPK.out] at h; exact h5 h) hNN.out
                  have HF : Hid (Ac.pairs (Ac.prevP ps (j + 1)) (ps.drop (j + 1)) = Ac.pairs (-1) ps) := (by rw [HP.out, ← HB.out, HX.out, if_neg hno] : Ac.pairs (Ac.prevP ps (j + 1)) (ps.drop (j + 1)) = Ac.pairs (-1) ps)
                  have e5 : decide (x ≤ u) = false := decide_eq_false h5
                  clear hno h5
                  go_wp2_with fail
                  go_quiet (fail)
                  go_wp2
                  go_roundg (n - (j + 1))
                  case measure => omega
                  case rel => exact ⟨j + 1, _, rfl, by omega, by go_num, HF.out, by first | rfl | exact World.drewN_drewN _ _ _⟩
    · have q1 : ¬ (j : Int) < (n : Int) := by omega
      have HF : Hid (Ac.pairs (-1) ps = true) := (by rw [← HB.out, List.drop_eq_nil_of_le (by have := HH.out.2; omega)]; rfl : Ac.pairs (-1) ps = true)
      go_wp2_with fail
      go_ret
      exact ⟨by rw [HF.out]; rfl, below_drewN (Below.refl _ _) _⟩
end Go.Proofs.YthnenpncajpibaaGreatDoor
/- Contract of the document's May. -/
namespace Go.Proofs.YthnenpncajpibaaGreatDoor
open Go.RowKit Go.Maps
theorem rhas_any (b : Nat) (ao : Option Addr) (n cap : Nat) (i : Int) (w : World) (hc : w.cell? ⟨b, 0, none⟩ = some (.slice ao n cap)) :
    Calls Tryz.prog 32 #[.pointer (some ⟨b, 0, none⟩), .int .i64 i] w fun r w' => r = .returned (.bool (Tm.has n i)) ∧ w' = w := by
  by_cases h0 : 0 ≤ i
  · by_cases h1 : i < (n : Int)
    · have HF : Hid (Tm.has n i = true) := (by simp [Tm.has, h0, h1] : Tm.has n i = true)
      go_enter Tryz.func32, Tryz.ntmps32
      go_wp2
      go_ret
      exact ⟨by rw [HF.out]; rfl, rfl⟩
    · have HF : Hid (Tm.has n i = false) := (by simp [Tm.has, h1] : Tm.has n i = false)
      go_enter Tryz.func32, Tryz.ntmps32
      go_wp2
      go_ret
      exact ⟨by rw [HF.out]; rfl, rfl⟩
  · have HF : Hid (Tm.has n i = false) := (by simp [Tm.has, h0] : Tm.has n i = false)
    go_enter Tryz.func32, Tryz.ntmps32
    go_wp2
    go_ret
    exact ⟨by rw [HF.out]; rfl, rfl⟩
set_option maxRecDepth 100000 in
set_option maxHeartbeats 1600000 in
theorem rmay1 (b : Nat) (ao : Option Addr) (n cap : Nat) (l a b' : Int) (an ap : Option Addr) (nn np cn cp : Nat) (w : World) (_hc : w.cell? ⟨b, 0, none⟩ = some (.slice ao n cap)) (c : Bool) (hS : ∀ W, Below w.heap.size w W → Calls Tryz.prog 114 #[.agg #[.int .i64 1, .int .i64 0, .int .i64 0, .int .i64 0, .slice none 0 0, .slice none 0 0], .agg #[.int .i64 1, .int .i64 l, .int .i64 a, .int .i64 b', .slice an nn cn, .slice ap np cp]] W fun e w' => e = .returned (.bool c) ∧ Below W.heap.size W w') :
    Calls Tryz.prog 83 #[.pointer (some ⟨b, 0, none⟩), .agg #[.int .i64 1, .int .i64 l, .int .i64 a, .int .i64 b', .slice an nn cn, .slice ap np cp]] w fun r w' => r = .returned (.bool (true && c)) ∧ Below w.heap.size w w' := by
  have HS : Hid _ := hS
  clear hS
  go_enter Tryz.func83, Tryz.ntmps83
  go_wp2_with ((go_at_call 114; refine (HS.out _ (by repeat (first | exact Below.refl _ _ | assumption | refine Below.drew ?_ | refine Below.setCell ?_ (by simp) _ | refine Below.alloc ?_ (by simp) _))).mono ?_; rintro r w6 ⟨rfl, hb6⟩; have hB6 : Below w.heap.size w w6 := Below.trans (by repeat (first | exact Below.refl _ _ | assumption | refine Below.drew ?_ | refine Below.setCell ?_ (by simp) _ | refine Below.alloc ?_ (by simp) _)) (hb6.mono (by first | omega | (simp; omega)))))
  all_goals (go_ret; refine ⟨?_, (by repeat (first | exact Below.refl _ _ | assumption | refine Below.drew ?_ | refine Below.setCell ?_ (by simp) _ | refine Below.alloc ?_ (by simp) _))⟩; first | (simp [*]; done) | (simp [*]; omega))
set_option maxRecDepth 100000 in
set_option maxHeartbeats 1600000 in
theorem rmay2 (b : Nat) (ao : Option Addr) (n cap : Nat) (l a b' : Int) (an ap : Option Addr) (nn np cn cp : Nat) (w : World) (hc : w.cell? ⟨b, 0, none⟩ = some (.slice ao n cap)) (c : Bool) (hS : ∀ W, Below w.heap.size w W → Calls Tryz.prog 114 #[.agg #[.int .i64 2, .int .i64 l, .int .i64 a, .int .i64 0, .slice none 0 0, .slice none 0 0], .agg #[.int .i64 2, .int .i64 l, .int .i64 a, .int .i64 b', .slice an nn cn, .slice ap np cp]] W fun e w' => e = .returned (.bool c) ∧ Below W.heap.size W w') :
    Calls Tryz.prog 83 #[.pointer (some ⟨b, 0, none⟩), .agg #[.int .i64 2, .int .i64 l, .int .i64 a, .int .i64 b', .slice an nn cn, .slice ap np cp]] w fun r w' => r = .returned (.bool ((decide (0 ≤ l) && (decide (l < 201) && Tm.has n a)) && c)) ∧ Below w.heap.size w w' := by
  have HS : Hid _ := hS
  clear hS
  go_enter Tryz.func83, Tryz.ntmps83
  go_wp2_with (first | (go_at_call 114; refine (HS.out _ (by repeat (first | exact Below.refl _ _ | assumption | refine Below.drew ?_ | refine Below.setCell ?_ (by simp) _ | refine Below.alloc ?_ (by simp) _))).mono ?_; rintro r w6 ⟨rfl, hb6⟩; have hB6 : Below w.heap.size w w6 := Below.trans (by repeat (first | exact Below.refl _ _ | assumption | refine Below.drew ?_ | refine Below.setCell ?_ (by simp) _ | refine Below.alloc ?_ (by simp) _)) (hb6.mono (by first | omega | (simp; omega)))) | (go_at_call 32; refine (rhas_any b ao n cap _ _ (cell_up hc (by repeat (first | exact Below.refl _ _ | assumption | refine Below.drew ?_ | refine Below.setCell ?_ (by simp) _ | refine Below.alloc ?_ (by simp) _)))).mono ?_; rintro r w' ⟨rfl, hw⟩; obtain rfl := hw.symm))
  go_region
  all_goals go_wp2_with (first | (go_at_call 114; refine (HS.out _ (by repeat (first | exact Below.refl _ _ | assumption | refine Below.drew ?_ | refine Below.setCell ?_ (by simp) _ | refine Below.alloc ?_ (by simp) _))).mono ?_; rintro r w6 ⟨rfl, hb6⟩; have hB6 : Below w.heap.size w w6 := Below.trans (by repeat (first | exact Below.refl _ _ | assumption | refine Below.drew ?_ | refine Below.setCell ?_ (by simp) _ | refine Below.alloc ?_ (by simp) _)) (hb6.mono (by first | omega | (simp; omega)))) | (go_at_call 32; refine (rhas_any b ao n cap _ _ (cell_up hc (by repeat (first | exact Below.refl _ _ | assumption | refine Below.drew ?_ | refine Below.setCell ?_ (by simp) _ | refine Below.alloc ?_ (by simp) _)))).mono ?_; rintro r w' ⟨rfl, hw⟩; obtain rfl := hw.symm))
  all_goals (go_ret; refine ⟨?_, (by repeat (first | exact Below.refl _ _ | assumption | refine Below.drew ?_ | refine Below.setCell ?_ (by simp) _ | refine Below.alloc ?_ (by simp) _))⟩; first | (simp [*]; done) | (simp [*]; omega))
set_option maxRecDepth 100000 in
set_option maxHeartbeats 1600000 in
theorem rmay3 (b : Nat) (ao : Option Addr) (n cap : Nat) (l a b' : Int) (an ap : Option Addr) (nn np cn cp : Nat) (w : World) (hc : w.cell? ⟨b, 0, none⟩ = some (.slice ao n cap)) (c : Bool) (hS : ∀ W, Below w.heap.size w W → Calls Tryz.prog 114 #[.agg #[.int .i64 3, .int .i64 0, .int .i64 a, .int .i64 b', .slice none 0 0, .slice none 0 0], .agg #[.int .i64 3, .int .i64 l, .int .i64 a, .int .i64 b', .slice an nn cn, .slice ap np cp]] W fun e w' => e = .returned (.bool c) ∧ Below W.heap.size W w') :
    Calls Tryz.prog 83 #[.pointer (some ⟨b, 0, none⟩), .agg #[.int .i64 3, .int .i64 l, .int .i64 a, .int .i64 b', .slice an nn cn, .slice ap np cp]] w fun r w' => r = .returned (.bool ((Tm.has n a && Tm.has n b') && c)) ∧ Below w.heap.size w w' := by
  have HS : Hid _ := hS
  clear hS
  go_enter Tryz.func83, Tryz.ntmps83
  go_wp2_with (first | (go_at_call 114; refine (HS.out _ (by repeat (first | exact Below.refl _ _ | assumption | refine Below.drew ?_ | refine Below.setCell ?_ (by simp) _ | refine Below.alloc ?_ (by simp) _))).mono ?_; rintro r w6 ⟨rfl, hb6⟩; have hB6 : Below w.heap.size w w6 := Below.trans (by repeat (first | exact Below.refl _ _ | assumption | refine Below.drew ?_ | refine Below.setCell ?_ (by simp) _ | refine Below.alloc ?_ (by simp) _)) (hb6.mono (by first | omega | (simp; omega)))) | (go_at_call 32; refine (rhas_any b ao n cap _ _ (cell_up hc (by repeat (first | exact Below.refl _ _ | assumption | refine Below.drew ?_ | refine Below.setCell ?_ (by simp) _ | refine Below.alloc ?_ (by simp) _)))).mono ?_; rintro r w' ⟨rfl, hw⟩; obtain rfl := hw.symm))
  go_region
  all_goals go_wp2_with (first | (go_at_call 114; refine (HS.out _ (by repeat (first | exact Below.refl _ _ | assumption | refine Below.drew ?_ | refine Below.setCell ?_ (by simp) _ | refine Below.alloc ?_ (by simp) _))).mono ?_; rintro r w6 ⟨rfl, hb6⟩; have hB6 : Below w.heap.size w w6 := Below.trans (by repeat (first | exact Below.refl _ _ | assumption | refine Below.drew ?_ | refine Below.setCell ?_ (by simp) _ | refine Below.alloc ?_ (by simp) _)) (hb6.mono (by first | omega | (simp; omega)))) | (go_at_call 32; refine (rhas_any b ao n cap _ _ (cell_up hc (by repeat (first | exact Below.refl _ _ | assumption | refine Below.drew ?_ | refine Below.setCell ?_ (by simp) _ | refine Below.alloc ?_ (by simp) _)))).mono ?_; rintro r w' ⟨rfl, hw⟩; obtain rfl := hw.symm))
  all_goals (go_ret; refine ⟨?_, (by repeat (first | exact Below.refl _ _ | assumption | refine Below.drew ?_ | refine Below.setCell ?_ (by simp) _ | refine Below.alloc ?_ (by simp) _))⟩; first | (simp [*]; done) | (simp [*]; omega))
set_option maxRecDepth 100000 in
set_option maxHeartbeats 1600000 in
theorem rmay4 (b : Nat) (ao : Option Addr) (n cap : Nat) (l a b' : Int) (an ap : Option Addr) (nn np cn cp : Nat) (w : World) (hc : w.cell? ⟨b, 0, none⟩ = some (.slice ao n cap)) (c : Bool) (hS : ∀ W, Below w.heap.size w W → Calls Tryz.prog 114 #[.agg #[.int .i64 4, .int .i64 0, .int .i64 a, .int .i64 b', .slice none 0 0, .slice none 0 0], .agg #[.int .i64 4, .int .i64 l, .int .i64 a, .int .i64 b', .slice an nn cn, .slice ap np cp]] W fun e w' => e = .returned (.bool c) ∧ Below W.heap.size W w') :
    Calls Tryz.prog 83 #[.pointer (some ⟨b, 0, none⟩), .agg #[.int .i64 4, .int .i64 l, .int .i64 a, .int .i64 b', .slice an nn cn, .slice ap np cp]] w fun r w' => r = .returned (.bool ((Tm.has n a && Tm.has n b') && c)) ∧ Below w.heap.size w w' := by
  have HS : Hid _ := hS
  clear hS
  go_enter Tryz.func83, Tryz.ntmps83
  go_wp2_with (first | (go_at_call 114; refine (HS.out _ (by repeat (first | exact Below.refl _ _ | assumption | refine Below.drew ?_ | refine Below.setCell ?_ (by simp) _ | refine Below.alloc ?_ (by simp) _))).mono ?_; rintro r w6 ⟨rfl, hb6⟩; have hB6 : Below w.heap.size w w6 := Below.trans (by repeat (first | exact Below.refl _ _ | assumption | refine Below.drew ?_ | refine Below.setCell ?_ (by simp) _ | refine Below.alloc ?_ (by simp) _)) (hb6.mono (by first | omega | (simp; omega)))) | (go_at_call 32; refine (rhas_any b ao n cap _ _ (cell_up hc (by repeat (first | exact Below.refl _ _ | assumption | refine Below.drew ?_ | refine Below.setCell ?_ (by simp) _ | refine Below.alloc ?_ (by simp) _)))).mono ?_; rintro r w' ⟨rfl, hw⟩; obtain rfl := hw.symm))
  go_region
  all_goals go_wp2_with (first | (go_at_call 114; refine (HS.out _ (by repeat (first | exact Below.refl _ _ | assumption | refine Below.drew ?_ | refine Below.setCell ?_ (by simp) _ | refine Below.alloc ?_ (by simp) _))).mono ?_; rintro r w6 ⟨rfl, hb6⟩; have hB6 : Below w.heap.size w w6 := Below.trans (by repeat (first | exact Below.refl _ _ | assumption | refine Below.drew ?_ | refine Below.setCell ?_ (by simp) _ | refine Below.alloc ?_ (by simp) _)) (hb6.mono (by first | omega | (simp; omega)))) | (go_at_call 32; refine (rhas_any b ao n cap _ _ (cell_up hc (by repeat (first | exact Below.refl _ _ | assumption | refine Below.drew ?_ | refine Below.setCell ?_ (by simp) _ | refine Below.alloc ?_ (by simp) _)))).mono ?_; rintro r w' ⟨rfl, hw⟩; obtain rfl := hw.symm))
  all_goals (go_ret; refine ⟨?_, (by repeat (first | exact Below.refl _ _ | assumption | refine Below.drew ?_ | refine Below.setCell ?_ (by simp) _ | refine Below.alloc ?_ (by simp) _))⟩; first | (simp [*]; done) | (simp [*]; omega))
set_option maxRecDepth 100000 in
set_option maxHeartbeats 1600000 in
theorem rmay5 (b : Nat) (ao : Option Addr) (n cap : Nat) (l a b' : Int) (an ap : Option Addr) (nn np cn cp : Nat) (w : World) (hc : w.cell? ⟨b, 0, none⟩ = some (.slice ao n cap)) (c : Bool) (d : Bool) (hR : ∀ W, Below w.heap.size w W → Calls Tryz.prog 112 #[.slice an nn cn] W fun e w' => e = .returned (.bool d) ∧ Below W.heap.size W w') (hS : ∀ W, Below w.heap.size w W → Calls Tryz.prog 114 #[.agg #[.int .i64 5, .int .i64 0, .int .i64 a, .int .i64 0, .slice an nn cn, .slice none 0 0], .agg #[.int .i64 5, .int .i64 l, .int .i64 a, .int .i64 b', .slice an nn cn, .slice ap np cp]] W fun e w' => e = .returned (.bool c) ∧ Below W.heap.size W w') :
    Calls Tryz.prog 83 #[.pointer (some ⟨b, 0, none⟩), .agg #[.int .i64 5, .int .i64 l, .int .i64 a, .int .i64 b', .slice an nn cn, .slice ap np cp]] w fun r w' => r = .returned (.bool ((Tm.has n a && d) && c)) ∧ Below w.heap.size w w' := by
  have HS : Hid _ := hS
  clear hS
  have HR : Hid _ := hR
  clear hR
  go_enter Tryz.func83, Tryz.ntmps83
  go_wp2_with (first | (go_at_call 114; refine (HS.out _ (by repeat (first | exact Below.refl _ _ | assumption | refine Below.drew ?_ | refine Below.setCell ?_ (by simp) _ | refine Below.alloc ?_ (by simp) _))).mono ?_; rintro r w6 ⟨rfl, hb6⟩; have hB6 : Below w.heap.size w w6 := Below.trans (by repeat (first | exact Below.refl _ _ | assumption | refine Below.drew ?_ | refine Below.setCell ?_ (by simp) _ | refine Below.alloc ?_ (by simp) _)) (hb6.mono (by first | omega | (simp; omega)))) | (go_at_call 32; refine (rhas_any b ao n cap _ _ (cell_up hc (by repeat (first | exact Below.refl _ _ | assumption | refine Below.drew ?_ | refine Below.setCell ?_ (by simp) _ | refine Below.alloc ?_ (by simp) _)))).mono ?_; rintro r w' ⟨rfl, hw⟩; obtain rfl := hw.symm) | (go_at_call 112; refine (HR.out _ (by repeat (first | exact Below.refl _ _ | assumption | refine Below.drew ?_ | refine Below.setCell ?_ (by simp) _ | refine Below.alloc ?_ (by simp) _))).mono ?_; rintro r w5 ⟨rfl, hb5⟩; obtain ⟨hc5, hf5⟩ := bcell hb5; have hz5 : w.heap.size + 1 < w5.heap.size := (by have := hb5.size; simp at this; omega); have hB5 : Below w.heap.size w w5 := Below.trans (by repeat (first | exact Below.refl _ _ | assumption | refine Below.drew ?_ | refine Below.setCell ?_ (by simp) _ | refine Below.alloc ?_ (by simp) _)) (hb5.mono (by simp; omega))))
  go_region
  all_goals go_wp2_with (first | (go_at_call 114; refine (HS.out _ (by repeat (first | exact Below.refl _ _ | assumption | refine Below.drew ?_ | refine Below.setCell ?_ (by simp) _ | refine Below.alloc ?_ (by simp) _))).mono ?_; rintro r w6 ⟨rfl, hb6⟩; have hB6 : Below w.heap.size w w6 := Below.trans (by repeat (first | exact Below.refl _ _ | assumption | refine Below.drew ?_ | refine Below.setCell ?_ (by simp) _ | refine Below.alloc ?_ (by simp) _)) (hb6.mono (by first | omega | (simp; omega)))) | (go_at_call 32; refine (rhas_any b ao n cap _ _ (cell_up hc (by repeat (first | exact Below.refl _ _ | assumption | refine Below.drew ?_ | refine Below.setCell ?_ (by simp) _ | refine Below.alloc ?_ (by simp) _)))).mono ?_; rintro r w' ⟨rfl, hw⟩; obtain rfl := hw.symm) | (go_at_call 112; refine (HR.out _ (by repeat (first | exact Below.refl _ _ | assumption | refine Below.drew ?_ | refine Below.setCell ?_ (by simp) _ | refine Below.alloc ?_ (by simp) _))).mono ?_; rintro r w5 ⟨rfl, hb5⟩; obtain ⟨hc5, hf5⟩ := bcell hb5; have hz5 : w.heap.size + 1 < w5.heap.size := (by have := hb5.size; simp at this; omega); have hB5 : Below w.heap.size w w5 := Below.trans (by repeat (first | exact Below.refl _ _ | assumption | refine Below.drew ?_ | refine Below.setCell ?_ (by simp) _ | refine Below.alloc ?_ (by simp) _)) (hb5.mono (by simp; omega))))
  all_goals (go_ret; refine ⟨?_, (by repeat (first | exact Below.refl _ _ | assumption | refine Below.drew ?_ | refine Below.setCell ?_ (by simp) _ | refine Below.alloc ?_ (by simp) _))⟩; first | (simp [*]; done) | (simp [*]; omega))
set_option maxRecDepth 100000 in
set_option maxHeartbeats 1600000 in
theorem rmay6 (b : Nat) (ao : Option Addr) (n cap : Nat) (l a b' : Int) (an ap : Option Addr) (nn np cn cp : Nat) (w : World) (hc : w.cell? ⟨b, 0, none⟩ = some (.slice ao n cap)) (c : Bool) (d : Bool) (hR : ∀ W, Below w.heap.size w W → Calls Tryz.prog 113 #[.slice ap np cp] W fun e w' => e = .returned (.bool d) ∧ Below W.heap.size W w') (hS : ∀ W, Below w.heap.size w W → Calls Tryz.prog 114 #[.agg #[.int .i64 6, .int .i64 0, .int .i64 a, .int .i64 0, .slice none 0 0, .slice ap np cp], .agg #[.int .i64 6, .int .i64 l, .int .i64 a, .int .i64 b', .slice an nn cn, .slice ap np cp]] W fun e w' => e = .returned (.bool c) ∧ Below W.heap.size W w') :
    Calls Tryz.prog 83 #[.pointer (some ⟨b, 0, none⟩), .agg #[.int .i64 6, .int .i64 l, .int .i64 a, .int .i64 b', .slice an nn cn, .slice ap np cp]] w fun r w' => r = .returned (.bool ((Tm.has n a && d) && c)) ∧ Below w.heap.size w w' := by
  have HS : Hid _ := hS
  clear hS
  have HR : Hid _ := hR
  clear hR
  go_enter Tryz.func83, Tryz.ntmps83
  go_wp2_with (first | (go_at_call 114; refine (HS.out _ (by repeat (first | exact Below.refl _ _ | assumption | refine Below.drew ?_ | refine Below.setCell ?_ (by simp) _ | refine Below.alloc ?_ (by simp) _))).mono ?_; rintro r w6 ⟨rfl, hb6⟩; have hB6 : Below w.heap.size w w6 := Below.trans (by repeat (first | exact Below.refl _ _ | assumption | refine Below.drew ?_ | refine Below.setCell ?_ (by simp) _ | refine Below.alloc ?_ (by simp) _)) (hb6.mono (by first | omega | (simp; omega)))) | (go_at_call 32; refine (rhas_any b ao n cap _ _ (cell_up hc (by repeat (first | exact Below.refl _ _ | assumption | refine Below.drew ?_ | refine Below.setCell ?_ (by simp) _ | refine Below.alloc ?_ (by simp) _)))).mono ?_; rintro r w' ⟨rfl, hw⟩; obtain rfl := hw.symm) | (go_at_call 113; refine (HR.out _ (by repeat (first | exact Below.refl _ _ | assumption | refine Below.drew ?_ | refine Below.setCell ?_ (by simp) _ | refine Below.alloc ?_ (by simp) _))).mono ?_; rintro r w5 ⟨rfl, hb5⟩; obtain ⟨hc5, hf5⟩ := bcell hb5; have hz5 : w.heap.size + 1 < w5.heap.size := (by have := hb5.size; simp at this; omega); have hB5 : Below w.heap.size w w5 := Below.trans (by repeat (first | exact Below.refl _ _ | assumption | refine Below.drew ?_ | refine Below.setCell ?_ (by simp) _ | refine Below.alloc ?_ (by simp) _)) (hb5.mono (by simp; omega))))
  go_region
  all_goals go_wp2_with (first | (go_at_call 114; refine (HS.out _ (by repeat (first | exact Below.refl _ _ | assumption | refine Below.drew ?_ | refine Below.setCell ?_ (by simp) _ | refine Below.alloc ?_ (by simp) _))).mono ?_; rintro r w6 ⟨rfl, hb6⟩; have hB6 : Below w.heap.size w w6 := Below.trans (by repeat (first | exact Below.refl _ _ | assumption | refine Below.drew ?_ | refine Below.setCell ?_ (by simp) _ | refine Below.alloc ?_ (by simp) _)) (hb6.mono (by first | omega | (simp; omega)))) | (go_at_call 32; refine (rhas_any b ao n cap _ _ (cell_up hc (by repeat (first | exact Below.refl _ _ | assumption | refine Below.drew ?_ | refine Below.setCell ?_ (by simp) _ | refine Below.alloc ?_ (by simp) _)))).mono ?_; rintro r w' ⟨rfl, hw⟩; obtain rfl := hw.symm) | (go_at_call 113; refine (HR.out _ (by repeat (first | exact Below.refl _ _ | assumption | refine Below.drew ?_ | refine Below.setCell ?_ (by simp) _ | refine Below.alloc ?_ (by simp) _))).mono ?_; rintro r w5 ⟨rfl, hb5⟩; obtain ⟨hc5, hf5⟩ := bcell hb5; have hz5 : w.heap.size + 1 < w5.heap.size := (by have := hb5.size; simp at this; omega); have hB5 : Below w.heap.size w w5 := Below.trans (by repeat (first | exact Below.refl _ _ | assumption | refine Below.drew ?_ | refine Below.setCell ?_ (by simp) _ | refine Below.alloc ?_ (by simp) _)) (hb5.mono (by simp; omega))))
  all_goals (go_ret; refine ⟨?_, (by repeat (first | exact Below.refl _ _ | assumption | refine Below.drew ?_ | refine Below.setCell ?_ (by simp) _ | refine Below.alloc ?_ (by simp) _))⟩; first | (simp [*]; done) | (simp [*]; omega))
set_option maxRecDepth 100000 in
set_option maxHeartbeats 1600000 in
theorem rmay7 (b : Nat) (ao : Option Addr) (n cap : Nat) (l a b' : Int) (an ap : Option Addr) (nn np cn cp : Nat) (w : World) (_hc : w.cell? ⟨b, 0, none⟩ = some (.slice ao n cap)) (c : Bool) (hS : ∀ W, Below w.heap.size w W → Calls Tryz.prog 114 #[.agg #[.int .i64 7, .int .i64 0, .int .i64 a, .int .i64 0, .slice none 0 0, .slice none 0 0], .agg #[.int .i64 7, .int .i64 l, .int .i64 a, .int .i64 b', .slice an nn cn, .slice ap np cp]] W fun e w' => e = .returned (.bool c) ∧ Below W.heap.size W w') :
    Calls Tryz.prog 83 #[.pointer (some ⟨b, 0, none⟩), .agg #[.int .i64 7, .int .i64 l, .int .i64 a, .int .i64 b', .slice an nn cn, .slice ap np cp]] w fun r w' => r = .returned (.bool ((decide (0 ≤ a) && decide (a < 200)) && c)) ∧ Below w.heap.size w w' := by
  have HS : Hid _ := hS
  clear hS
  go_enter Tryz.func83, Tryz.ntmps83
  go_wp2_with ((go_at_call 114; refine (HS.out _ (by repeat (first | exact Below.refl _ _ | assumption | refine Below.drew ?_ | refine Below.setCell ?_ (by simp) _ | refine Below.alloc ?_ (by simp) _))).mono ?_; rintro r w6 ⟨rfl, hb6⟩; have hB6 : Below w.heap.size w w6 := Below.trans (by repeat (first | exact Below.refl _ _ | assumption | refine Below.drew ?_ | refine Below.setCell ?_ (by simp) _ | refine Below.alloc ?_ (by simp) _)) (hb6.mono (by first | omega | (simp; omega)))))
  all_goals (go_ret; refine ⟨?_, (by repeat (first | exact Below.refl _ _ | assumption | refine Below.drew ?_ | refine Below.setCell ?_ (by simp) _ | refine Below.alloc ?_ (by simp) _))⟩; first | (simp [*]; done) | (simp [*]; omega))
set_option maxRecDepth 100000 in
set_option maxHeartbeats 1600000 in
theorem rmay0 (b : Nat) (k : Int) (l a b' : Int) (an ap : Option Addr) (nn np cn cp : Nat) (w : World) (h1 : (k == 1) = false) (h2 : (k == 2) = false) (h3 : (k == 3) = false) (h4 : (k == 4) = false) (h5 : (k == 5) = false) (h6 : (k == 6) = false) (h7 : (k == 7) = false) :
    Calls Tryz.prog 83 #[.pointer (some ⟨b, 0, none⟩), .agg #[.int .i64 k, .int .i64 l, .int .i64 a, .int .i64 b', .slice an nn cn, .slice ap np cp]] w fun r w' => r = .returned (.bool false) ∧ Below w.heap.size w w' := by
  go_enter Tryz.func83, Tryz.ntmps83
  go_wp2_with fail
  go_ret
  exact ⟨rfl, (by repeat (first | exact Below.refl _ _ | assumption | refine Below.drew ?_ | refine Below.setCell ?_ (by simp) _ | refine Below.alloc ?_ (by simp) _))⟩
theorem hasI_nil (w : World) : HasI w (.slice none 0 0) [] := ⟨none, 0, rfl, fun i z h => by simp at h⟩
theorem hasP_nil (w : World) : HasP w (.slice none 0 0) [] := ⟨none, 0, rfl, fun i z h => by simp at h⟩
theorem nil_beq {α : Type} (l : List α) : l.isEmpty = (l.length == 0) := by cases l <;> rfl
theorem zero_beq (z : Int) : ((0 : Int) == z) = (z == 0) := by rw [Bool.eq_iff_iff]; simp; exact eq_comm
theorem rmay_any (b : Nat) (ao : Option Addr) (n cap : Nat) (t : Tm) (vn vp : Value) (w : World) (hc : w.cell? ⟨b, 0, none⟩ = some (.slice ao n cap)) (hn : HasI w vn t.names) (hp : HasP w vp t.pairs) (ln : t.names.length ≤ 1000000000000000) (lp : t.pairs.length ≤ 1000000000000000) :
    Calls Tryz.prog 83 #[.pointer (some ⟨b, 0, none⟩), tmV t vn vp] w fun r w' => r = .returned (.bool (t.may n)) ∧ Below w.heap.size w w' := by
  have hR : ∀ W, Below w.heap.size w W → Calls Tryz.prog 112 #[vn] W fun e w' => e = .returned (.bool (Ac.rising (-1) t.names)) ∧ Below W.heap.size W w' := fun W hW => refRising_any vn t.names W (hn.below hW) ln
  have hP : ∀ W, Below w.heap.size w W → Calls Tryz.prog 113 #[vp] W fun e w' => e = .returned (.bool (Ac.pairs (-1) t.pairs)) ∧ Below W.heap.size W w' := fun W hW => refPairs_any vp t.pairs W (hp.below hW) lp
  have hS : ∀ (x : Tm) (xn xp : Value), (x.names = [] ∧ xn = .slice none 0 0 ∨ x.names = t.names ∧ xn = vn) → (x.pairs = [] ∧ xp = .slice none 0 0 ∨ x.pairs = t.pairs ∧ xp = vp) → ∀ W, Below w.heap.size w W → Calls Tryz.prog 114 #[tmV x xn xp, tmV t vn vp] W fun e w' => e = .returned (.bool (Tm.same x t)) ∧ Below W.heap.size W w' := fun x xn xp h1 h2 W hW => by
    have g1 : HasI W xn x.names ∧ x.names.length ≤ 1000000000000000 := by
      rcases h1 with ⟨e1, e2⟩ | ⟨e1, e2⟩
      · rw [e1, e2]; exact ⟨hasI_nil W, by simp⟩
      · rw [e1, e2]; exact ⟨hn.below hW, ln⟩
    have g2 : HasP W xp x.pairs ∧ x.pairs.length ≤ 1000000000000000 := by
      rcases h2 with ⟨e1, e2⟩ | ⟨e1, e2⟩
      · rw [e1, e2]; exact ⟨hasP_nil W, by simp⟩
      · rw [e1, e2]; exact ⟨hp.below hW, lp⟩
    exact rsame_any x t xn xp vn vp W g1.1 g2.1 (hn.below hW) (hp.below hW) g1.2 g2.2 ln lp
  obtain ⟨an, cn, rfl, _⟩ := hn
  obtain ⟨ap, cp, rfl, _⟩ := hp
  obtain ⟨k, l, a, b', names, pairs⟩ := t
  simp only at hR hP hS ⊢
  unfold tmV at hS ⊢
  simp only at hS ⊢
  by_cases h1 : k = 1
  · subst h1
    refine (rmay1 b ao n cap l a b' an ap _ _ cn cp w hc _ (hS ⟨1, 0, 0, 0, [], []⟩ _ _ (.inl ⟨rfl, rfl⟩) (.inl ⟨rfl, rfl⟩))).mono ?_
    rintro r w' ⟨rfl, hb⟩
    exact ⟨by simp [Tm.may, Tm.right, Tm.rest, Tm.same, Bool.and_assoc, nil_beq, zero_beq], hb⟩
  by_cases h2 : k = 2
  · subst h2
    refine (rmay2 b ao n cap l a b' an ap _ _ cn cp w hc _ (hS ⟨2, l, a, 0, [], []⟩ _ _ (.inl ⟨rfl, rfl⟩) (.inl ⟨rfl, rfl⟩))).mono ?_
    rintro r w' ⟨rfl, hb⟩
    exact ⟨by simp [Tm.may, Tm.right, Tm.rest, Tm.same, Bool.and_assoc, nil_beq, zero_beq], hb⟩
  by_cases h3 : k = 3
  · subst h3
    refine (rmay3 b ao n cap l a b' an ap _ _ cn cp w hc _ (hS ⟨3, 0, a, b', [], []⟩ _ _ (.inl ⟨rfl, rfl⟩) (.inl ⟨rfl, rfl⟩))).mono ?_
    rintro r w' ⟨rfl, hb⟩
    exact ⟨by simp [Tm.may, Tm.right, Tm.rest, Tm.same, Bool.and_assoc, nil_beq, zero_beq], hb⟩
  by_cases h4 : k = 4
  · subst h4
    refine (rmay4 b ao n cap l a b' an ap _ _ cn cp w hc _ (hS ⟨4, 0, a, b', [], []⟩ _ _ (.inl ⟨rfl, rfl⟩) (.inl ⟨rfl, rfl⟩))).mono ?_
    rintro r w' ⟨rfl, hb⟩
    exact ⟨by simp [Tm.may, Tm.right, Tm.rest, Tm.same, Bool.and_assoc, nil_beq, zero_beq], hb⟩
  by_cases h5 : k = 5
  · subst h5
    refine (rmay5 b ao n cap l a b' an ap _ _ cn cp w hc _ _ hR (hS ⟨5, 0, a, 0, names, []⟩ _ _ (.inr ⟨rfl, rfl⟩) (.inl ⟨rfl, rfl⟩))).mono ?_
    rintro r w' ⟨rfl, hb⟩
    exact ⟨by simp [Tm.may, Tm.right, Tm.rest, Tm.same, Bool.and_assoc, nil_beq, zero_beq], hb⟩
  by_cases h6 : k = 6
  · subst h6
    refine (rmay6 b ao n cap l a b' an ap _ _ cn cp w hc _ _ hP (hS ⟨6, 0, a, 0, [], pairs⟩ _ _ (.inl ⟨rfl, rfl⟩) (.inr ⟨rfl, rfl⟩))).mono ?_
    rintro r w' ⟨rfl, hb⟩
    exact ⟨by simp [Tm.may, Tm.right, Tm.rest, Tm.same, Bool.and_assoc, nil_beq, zero_beq], hb⟩
  by_cases h7 : k = 7
  · subst h7
    refine (rmay7 b ao n cap l a b' an ap _ _ cn cp w hc _ (hS ⟨7, 0, a, 0, [], []⟩ _ _ (.inl ⟨rfl, rfl⟩) (.inl ⟨rfl, rfl⟩))).mono ?_
    rintro r w' ⟨rfl, hb⟩
    exact ⟨by simp [Tm.may, Tm.right, Tm.rest, Tm.same, Bool.and_assoc, nil_beq, zero_beq], hb⟩
  refine (rmay0 b k l a b' an ap _ _ cn cp w (by simpa using h1) (by simpa using h2) (by simpa using h3) (by simpa using h4) (by simpa using h5) (by simpa using h6) (by simpa using h7)).mono ?_
  rintro r w' ⟨rfl, hb⟩
  exact ⟨by simp [Tm.may, Tm.right, *], hb⟩
end Go.Proofs.YthnenpncajpibaaGreatDoor
/- 'append(nil, x...)' of any list, nil too: a row of one's own. (A law of my own, over the library's own laws on append.) -/
namespace Go.Proofs.YthnenpncajpibaaGreatDoor
open Go.RowKit
theorem run_copy_at {P : Program} (w : World) (base : Nat) (t ty e : TypeId) (i : TypeInfo) (z : Value) (size bytes : Nat) (ht : P.underlying t = some (.slice e)) (hi : P.info? e = some i) (hz : i.zero = some z)
    (hsize : i.size = size) (hby : i.bytes = bytes) (hzs : z.cells.size = size) (hsz : 0 < size) (ao : Option Addr) (m c : Nat) (news : List Value) (hao : ao = none → m = 0) (hl : news.length = m * size)
    (hnews : ∀ ad, ao = some ad → ∀ j u, news[j]? = some u → w.cell? (ad.add j) = some u) (h1 : ∀ u ∈ news, u.oneCell' = true) (h63 : m ≤ maxLen) (hbytes : m * bytes ≤ 140737488355328) (hbase : base ≤ w.heap.size) :
    ∃ v' w', (Builtin.append_ #[t, t] ty #[.slice none 0 0, .slice ao m c]).run P w = .ok v' w' ∧ w'.ownsRow base e size v' m news ∧ w.grownBy w' (Value.slice none 0 0).ownBlock ∧ (v'.ownBlock = none ∨ v'.ownBlock = some w.heap.size) := by
  cases ao with
  | none =>
    obtain rfl := hao rfl
    obtain rfl : news = [] := List.eq_nil_of_length_eq_zero (by simpa using hl)
    refine ⟨.slice none 0 0, w, ?_, World.ownsRow_nil w base e size, ⟨rfl, rfl, rfl, Nat.le_refl _, fun _ _ _ => rfl⟩, Or.inl rfl⟩
    simp [Builtin.append_, run_underlying ht, sizeOf, typeInfo, hi, Builtin.lenOf, Builtin.firstCells]
  | some ad =>
    obtain ⟨v', w', hr, h2, h3, h4, h5⟩ := run_append_own_at (P := P) w base t ty e i z size bytes ht hi hz hsize hby hzs hsz (.slice none 0 0) 0 [] (World.ownsRow_nil _ _ _ _) ad m c news hl (hnews ad rfl) h1 (by simpa using h63) (by simpa using hbytes) hbase
    refine ⟨v', w', hr, by simpa using h2, h3, h5⟩
theorem wpList_copy_at {P : Program} (w : World) {ops : Array Oper} {rest : List Oper} {o : Oper} {a : Act} {Q : Exit → Act → World → Prop} (hgd : o.guard = none) (s x : Operand) (t : TypeId)
    (ho : o.op = .call { callee := .builtin .append, args := #[s, x], argTypes := #[t, t] })
    (base : Nat) (e : TypeId) (i : TypeInfo) (z : Value) (size bytes : Nat) (ht : P.underlying t = some (.slice e)) (hi : P.info? e = some i) (hz : i.zero = some z)
    (hsize : i.size = size) (hby : i.bytes = bytes) (hzs : z.cells.size = size) (hsz : 0 < size) (hs : a.eval s = .slice none 0 0)
    (ao : Option Addr) (m c : Nat) (news : List Value) (hx : a.eval x = .slice ao m c) (hao : ao = none → m = 0) (hl : news.length = m * size) (hnews : ∀ ad, ao = some ad → ∀ j u, news[j]? = some u → w.cell? (ad.add j) = some u) (h1 : ∀ u ∈ news, u.oneCell' = true)
    (h63 : m ≤ maxLen) (hbytes : m * bytes ≤ 140737488355328) (hbase : base ≤ w.heap.size)
    (h : ∀ v' w', w'.ownsRow base e size v' m news → w.grownBy w' (Value.slice none 0 0).ownBlock → (v'.ownBlock = none ∨ v'.ownBlock = some w.heap.size) → wpList P ops Q rest (a.put o.dst v') w') :
    wpList P ops Q (o :: rest) a w := by
  refine wpList_plain hgd fun K hK => ?_
  obtain ⟨v', w', hr, h2, h3, h4⟩ := run_copy_at (P := P) w base t o.type e i z size bytes ht hi hz hsize hby hzs hsz ao m c news hao hl hnews h1 h63 hbytes hbase
  unfold Oper.wp execOp
  simp only [ho, resolve, invoke, builtin, Sem.run_bind, Sem.run_pure, Result.andThen_ok, List.map_toArray, List.map_cons, List.map_nil, hs, hx, hr]
  exact hK _ _ (h v' w' h2 h3 h4)
end Go.Proofs.YthnenpncajpibaaGreatDoor
