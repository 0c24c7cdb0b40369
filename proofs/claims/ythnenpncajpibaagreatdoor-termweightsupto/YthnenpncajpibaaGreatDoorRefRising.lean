/- Contract of the document's own Rising. -/
import Derived.Test.YthnenpncajpibaaGreatDoorInts
namespace Go.Proofs.YthnenpncajpibaaGreatDoor
open Go.RowKit
theorem isN_eq (z : Int) : Ac.isN z = false ↔ z < 0 ∨ 100 ≤ z := by simp [Ac.isN]; omega
set_option maxRecDepth 100000 in
set_option maxHeartbeats 2000000 in
theorem refRising_any (v : Value) (zs : List Int) (w : World) (hH : HasI w v zs) (hn : zs.length ≤ 1000000000000000) :
    Calls Tryz.prog 112 #[v] w fun e w' => e = .returned (.bool (Ac.rising (-1) zs)) ∧ Below w.heap.size w w' := by
  obtain ⟨ao, cap, rfl, hcells⟩ := hH
  obtain ⟨n, hN⟩ : ∃ n, n = zs.length := ⟨_, rfl⟩
  have HH : Hid ((∀ (i : Nat) (z : Int), zs[i]? = some z → ∃ a, ao = some a ∧ w.cell? (a.add i) = some (.int .i64 z)) ∧ n = zs.length) := ⟨hcells, hN⟩
  rw [← hN] at hn ⊢
  clear hcells hN
  go_enter Tryz.func112, Tryz.ntmps112
  go_wp2_with fail
  go_loopg [3] n (fun g i wr => ∃ (j q : Nat), g = n - j ∧ j ≤ n ∧ i = .int .i64 j ∧ Ac.rising (Ac.prev zs j) (zs.drop j) = Ac.rising (-1) zs ∧ wr = w.drewN q)
  case atStart => exact ⟨0, 0, rfl, Nat.zero_le _, rfl, rfl, rfl⟩
  case round =>
    obtain ⟨j, q, rfl, hj, rfl, hR, rfl⟩ := hrel
    have HB : Hid (Ac.rising (Ac.prev zs j) (zs.drop j) = Ac.rising (-1) zs) := hR
    clear hR
    by_cases hlt : j < n
    · obtain ⟨z, hz⟩ : ∃ z, zs[j]? = some z := ⟨zs[j]'(by have := HH.out.2; omega), List.getElem?_eq_getElem _⟩
      obtain ⟨a, rfl, c0⟩ := HH.out.1 j z hz
      have HX : Hid (Ac.rising (Ac.prev zs j) (zs.drop j) = if z ≤ Ac.prev zs j ∨ Ac.isN z = false then false else Ac.rising z (zs.drop (j + 1))) := by
        show Ac.rising _ (zs.drop j) = _
        rw [drop_at hz]; rfl
      have HP : Hid (Ac.prev zs (j + 1) = z) := (by show zs.getD j 0 = z; rw [List.getD_eq_getElem?_getD, hz]; rfl : Ac.prev zs (j + 1) = z)
      have q0 : (0 : Int) ≤ (j : Int) := by omega
      have q1 : (j : Int) < (n : Int) := by omega
      clear hz
      by_cases h1 : z < 0
      · have HF : Hid (Ac.rising (-1) zs = false) := (by rw [← HB.out, HX.out, if_pos (.inr ((isN_eq z).2 (.inl h1)))] : Ac.rising (-1) zs = false)
        go_wp2_with fail
        go_quiet (fail)
        go_wp2
        go_ret
        exact ⟨by rw [HF.out]; rfl, below_drewN (below_drewN (Below.refl _ _) _) _⟩
      · have e1 : decide (z < 0) = false := decide_eq_false h1
        by_cases h2 : 100 ≤ z
        · have e2 : decide (100 ≤ z) = true := decide_eq_true h2
          have HF : Hid (Ac.rising (-1) zs = false) := (by rw [← HB.out, HX.out, if_pos (.inr ((isN_eq z).2 (.inr h2)))] : Ac.rising (-1) zs = false)
          go_wp2_with fail
          go_quiet (fail)
          go_wp2
          go_ret
          exact ⟨by rw [HF.out]; rfl, below_drewN (below_drewN (Below.refl _ _) _) _⟩
        · have e2 : decide (100 ≤ z) = false := decide_eq_false h2
          have hN : ¬ Ac.isN z = false := fun e => by rcases (isN_eq z).1 e with h | h <;> omega
          have hNN : Hid (¬ Ac.isN z = false) := hN
          have HZ : Hid (¬ z < 0) := h1
          clear hN h1 h2
          by_cases h0 : j = 0
          · have hpj : Ac.prev zs j = -1 := by rw [h0]; rfl
            have hno : ¬ (z ≤ Ac.prev zs j ∨ Ac.isN z = false) := fun h => h.elim (fun h => by have := HZ.out; omega) hNN.out
            have HF : Hid (Ac.rising (Ac.prev zs (j + 1)) (zs.drop (j + 1)) = Ac.rising (-1) zs) := (by rw [HP.out, ← HB.out, HX.out, if_neg hno] : Ac.rising (Ac.prev zs (j + 1)) (zs.drop (j + 1)) = Ac.rising (-1) zs)
            have e3 : decide ((0 : Int) < (j : Int)) = false := by simp; omega
            have e4 : decide (0 < j) = false := by simp; omega
            have e5 : ¬ (0 : Int) < (j : Int) := by omega
            clear hno hpj h0
            go_wp2_with fail
            go_quiet (fail)
            go_wp2
            go_roundg (n - (j + 1))
            case measure => omega
            case rel => exact ⟨j + 1, _, rfl, by omega, by go_num, HF.out, by first | rfl | exact World.drewN_drewN _ _ _⟩
          · obtain ⟨k, hk⟩ : ∃ k, j = k + 1 := ⟨j - 1, by omega⟩
            obtain ⟨y, hy⟩ : ∃ y, zs[k]? = some y := ⟨zs[k]'(by have := HH.out.2; omega), List.getElem?_eq_getElem _⟩
            obtain ⟨a', ha', c1⟩ := HH.out.1 k y hy
            obtain rfl : a = a' := Option.some.inj ha'
            have hpk : Ac.prev zs j = y := by rw [hk]; show zs.getD k 0 = y; rw [List.getD_eq_getElem?_getD, hy]; rfl
            have HPK : Hid (Ac.prev zs j = y) := hpk
            have r0 : decide ((0 : Int) < (j : Int)) = true := by simp; omega
            have r00 : decide (0 < j) = true := by simp; omega
            have r1 : (j : Int) - 1 = (k : Int) := by omega
            have r2 : (k : Int) < (n : Int) := by omega
            have r3 : (0 : Int) ≤ (k : Int) := by omega
            clear hy ha' hpk hk h0
            by_cases h3 : z ≤ y
            · have HF : Hid (Ac.rising (-1) zs = false) := (by rw [← HB.out, HX.out, if_pos (.inl (by rw [HPK.out]; exact h3))] : Ac.rising (-1) zs = false)
              have e3 : decide (z ≤ y) = true := decide_eq_true h3
              go_wp2_with fail
              go_quiet (fail)
              go_wp2
              go_ret
              exact ⟨by rw [HF.out]; rfl, below_drewN (below_drewN (Below.refl _ _) _) _⟩
            · have hno : ¬ (z ≤ Ac.prev zs j ∨ Ac.isN z = false) := fun h => h.elim (fun h => by rw [HPK.out] at h; exact h3 h) hNN.out
              have HF : Hid (Ac.rising (Ac.prev zs (j + 1)) (zs.drop (j + 1)) = Ac.rising (-1) zs) := (by rw [HP.out, ← HB.out, HX.out, if_neg hno] : Ac.rising (Ac.prev zs (j + 1)) (zs.drop (j + 1)) = Ac.rising (-1) zs)
              have e3 : decide (z ≤ y) = false := decide_eq_false h3
              clear hno h3
              go_wp2_with fail
              go_quiet (fail)
              go_wp2
              go_roundg (n - (j + 1))
              case measure => omega
              case rel => exact ⟨j + 1, _, rfl, by omega, by go_num, HF.out, by first | rfl | exact World.drewN_drewN _ _ _⟩
    · have q1 : ¬ (j : Int) < (n : Int) := by omega
      have HF : Hid (Ac.rising (-1) zs = true) := (by rw [← HB.out, List.drop_eq_nil_of_le (by have := HH.out.2; omega)]; rfl : Ac.rising (-1) zs = true)
      go_wp2_with fail
      go_ret
      exact ⟨by rw [HF.out]; rfl, below_drewN (Below.refl _ _) _⟩
end Go.Proofs.YthnenpncajpibaaGreatDoor
