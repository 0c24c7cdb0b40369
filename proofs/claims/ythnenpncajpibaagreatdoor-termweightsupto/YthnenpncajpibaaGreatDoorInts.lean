/- Lists of numbers; contract of act.Rising. -/
import Derived.Test.YthnenpncajpibaaGreatDoorPairs
import Derived.Test.YthnenpncajpibaaGreatDoorRefLab
import Derived.Deep.QuietTactic
import Derived.BigQuiet
namespace Go.Proofs.YthnenpncajpibaaGreatDoor
open Go.RowKit
/-- The value is a list of these numbers. -/
def HasI (w : World) (v : Value) (zs : List Int) : Prop := ∃ ao cap, v = .slice ao zs.length cap ∧ ∀ (i : Nat) (z : Int), zs[i]? = some z → ∃ a, ao = some a ∧ w.cell? (a.add i) = some (.int .i64 z)
theorem HasI.below {w w' : World} {v : Value} {zs : List Int} (h : HasI w v zs) (hb : Below w.heap.size w w') : HasI w' v zs := by
  obtain ⟨ao, cap, h1, h2⟩ := h
  refine ⟨ao, cap, h1, fun i p hi => ?_⟩
  obtain ⟨a, ha, c0⟩ := h2 i p hi
  exact ⟨a, ha, (hb.cell (World.block_lt_of_cell? w _ c0)).trans c0⟩
namespace Ac
def rising : Int → List Int → Bool
  | _, [] => true
  | last, z :: r => if z ≤ last ∨ isN z = false then false else rising z r
def prev (zs : List Int) : Nat → Int
  | 0 => -1
  | j + 1 => zs.getD j 0
end Ac
set_option maxRecDepth 100000 in
set_option maxHeartbeats 1000000 in
theorem rising_any (v : Value) (zs : List Int) (w : World) (hH : HasI w v zs) (hn : zs.length ≤ maxLen) :
    Calls Tryz.prog 110 #[v] w fun e w' => e = .returned (.bool (Ac.rising (-1) zs)) ∧ w' = w := by
  obtain ⟨ao, cap, rfl, hcells⟩ := hH
  obtain ⟨n, hN⟩ : ∃ n, n = zs.length := ⟨_, rfl⟩
  have HH : Hid ((∀ (i : Nat) (z : Int), zs[i]? = some z → ∃ a, ao = some a ∧ w.cell? (a.add i) = some (.int .i64 z)) ∧ n = zs.length) := ⟨hcells, hN⟩
  rw [← hN] at hn ⊢
  unfold maxLen at hn
  clear hcells hN
  go_enter Tryz.func110, Tryz.ntmps110
  go_wp2_with fail
  go_loopg [3, 8] n (fun g lv i wr => ∃ (j : Nat) (last : Int), g = n - j ∧ j ≤ n ∧ i = .int .i64 j ∧ lv = .int .i64 last ∧ Ac.rising last (zs.drop j) = Ac.rising (-1) zs ∧ w = wr)
  case atStart => exact ⟨0, -1, rfl, Nat.zero_le _, rfl, rfl, rfl, rfl⟩
  case round =>
    obtain ⟨j, last, rfl, hj, rfl, rfl, hR, rfl⟩ := hrel
    have HB : Hid (Ac.rising last (zs.drop j) = Ac.rising (-1) zs) := hR
    clear hR
    by_cases hlt : j < n
    · obtain ⟨z, hz⟩ : ∃ z, zs[j]? = some z := ⟨zs[j]'(by have := HH.out.2; omega), List.getElem?_eq_getElem _⟩
      obtain ⟨a, rfl, c0⟩ := HH.out.1 j z hz
      have HX : Hid (Ac.rising last (zs.drop j) = if z ≤ last ∨ Ac.isN z = false then false else Ac.rising z (zs.drop (j + 1))) := by
        show Ac.rising last (zs.drop j) = _
        rw [drop_at hz]; rfl
      have q0 : (0 : Int) ≤ (j : Int) := by omega
      have q1 : (j : Int) < (n : Int) := by omega
      clear hz
      by_cases h1 : z ≤ last
      · have HF : Hid (Ac.rising (-1) zs = false) := (by rw [← HB.out, HX.out, if_pos (.inl h1)] : Ac.rising (-1) zs = false)
        go_wp2_with fail
        go_ret
        exact ⟨by rw [HF.out]; rfl, rfl⟩
      · cases hx : Ac.isN z with
        | false =>
          have HF : Hid (Ac.rising (-1) zs = false) := (by rw [← HB.out, HX.out, if_pos (.inr hx)] : Ac.rising (-1) zs = false)
          go_wp2_with (go_at_call 128; refine (actName_any _ _).mono ?_; rw [hx]; rintro r w' ⟨rfl, hw⟩; obtain rfl := hw.symm)
          go_ret
          exact ⟨by rw [HF.out]; rfl, rfl⟩
        | true =>
          have HF : Hid (Ac.rising z (zs.drop (j + 1)) = Ac.rising (-1) zs) := (by rw [← HB.out, HX.out, if_neg (by simp [h1, hx])] : Ac.rising z (zs.drop (j + 1)) = Ac.rising (-1) zs)
          go_wp2_with (go_at_call 128; refine (actName_any _ _).mono ?_; rw [hx]; rintro r w' ⟨rfl, hw⟩; obtain rfl := hw.symm)
          go_roundg (n - (j + 1))
          case measure => omega
          case rel => exact ⟨j + 1, z, rfl, by omega, by go_num, rfl, HF.out, rfl⟩
    · have q1 : ¬ (j : Int) < (n : Int) := by omega
      have HF : Hid (Ac.rising (-1) zs = true) := (by rw [← HB.out, List.drop_eq_nil_of_le (by have := HH.out.2; omega)]; rfl : Ac.rising (-1) zs = true)
      go_wp2_with fail
      go_ret
      exact ⟨by rw [HF.out]; rfl, rfl⟩
end Go.Proofs.YthnenpncajpibaaGreatDoor
