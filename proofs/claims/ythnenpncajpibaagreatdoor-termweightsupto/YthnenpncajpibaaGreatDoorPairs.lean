/- Contract of act.Pairs: are these a renaming? -/
import Derived.Test.YthnenpncajpibaaGreatDoorLabel
import Derived.WalkSmall
import Derived.Deep.LoopGhost
import Derived.Below
namespace Go.Proofs.YthnenpncajpibaaGreatDoor
open Go.RowKit
/-- The value is a list of these pairs. -/
def HasP (w : World) (v : Value) (ps : List (Int × Int)) : Prop := ∃ ao cap, v = .slice ao ps.length cap ∧ ∀ (i : Nat) (p : Int × Int), ps[i]? = some p → ∃ a, ao = some a ∧ w.cell? (a.add (i * 2)) = some (.int .i64 p.1) ∧ w.cell? (a.add (i * 2 + 1)) = some (.int .i64 p.2)
theorem HasP.below {w w' : World} {v : Value} {ps : List (Int × Int)} (h : HasP w v ps) (hb : Below w.heap.size w w') : HasP w' v ps := by
  obtain ⟨ao, cap, h1, h2⟩ := h
  refine ⟨ao, cap, h1, fun i p hi => ?_⟩
  obtain ⟨a, ha, c0, c1⟩ := h2 i p hi
  exact ⟨a, ha, (hb.cell (World.block_lt_of_cell? w _ c0)).trans c0, (hb.cell (World.block_lt_of_cell? w _ c1)).trans c1⟩
namespace Ac
/-- Are they pairs, the olds rising behind a number? -/
def pairs : Int → List (Int × Int) → Bool
  | _, [] => true
  | last, p :: r => if p.1 ≤ last ∨ isN p.1 = false ∨ isN p.2 = false then false else pairs p.1 r
end Ac
theorem drop_at {α : Type} {l : List α} {j : Nat} {x : α} (h : l[j]? = some x) : l.drop j = x :: l.drop (j + 1) := by
  obtain ⟨hlt, rfl⟩ := List.getElem?_eq_some_iff.1 h
  rw [List.drop_eq_getElem_cons hlt]
theorem add_two (a : Addr) (x y : Nat) : (a.add x).add y = a.add (x + y) := by
  unfold Addr.add
  split <;> split <;> simp_all <;> omega
set_option maxRecDepth 100000 in
set_option maxHeartbeats 1000000 in
theorem pairs_any (v : Value) (ps : List (Int × Int)) (w : World) (hH : HasP w v ps) (hn : ps.length ≤ maxLen) :
    Calls Tryz.prog 111 #[v] w fun e w' => e = .returned (.bool (Ac.pairs (-1) ps)) ∧ Below w.heap.size w w' := by
  obtain ⟨ao, cap, rfl, hcells⟩ := hH
  obtain ⟨n, hN⟩ : ∃ n, n = ps.length := ⟨_, rfl⟩
  have HH : Hid ((∀ (i : Nat) (p : Int × Int), ps[i]? = some p → ∃ a, ao = some a ∧ w.cell? (a.add (i * 2)) = some (.int .i64 p.1) ∧ w.cell? (a.add (i * 2 + 1)) = some (.int .i64 p.2)) ∧ n = ps.length) := ⟨hcells, hN⟩
  rw [← hN] at hn ⊢
  unfold maxLen at hn
  clear hcells hN
  go_enter Tryz.func111, Tryz.ntmps111
  go_wp2_with fail
  go_loopg [3, 8] n (fun g lv i wr => ∃ (j : Nat) (last : Int), g = n - j ∧ j ≤ n ∧ i = .int .i64 j ∧ lv = .int .i64 last ∧ Ac.pairs last (ps.drop j) = Ac.pairs (-1) ps ∧ Below w.heap.size w wr)
  case atStart => exact ⟨0, -1, rfl, Nat.zero_le _, rfl, rfl, rfl, Below.refl _ _⟩
  case round =>
    obtain ⟨j, last, rfl, hj, rfl, rfl, hR, hb⟩ := hrel
    have HB : Hid (Below w.heap.size w wr ∧ Ac.pairs last (ps.drop j) = Ac.pairs (-1) ps) := ⟨hb, hR⟩
    clear hb hR
    by_cases hlt : j < n
    · obtain ⟨p, hp⟩ : ∃ p, ps[j]? = some p := ⟨ps[j]'(by have := HH.out.2; omega), List.getElem?_eq_getElem _⟩
      obtain ⟨a, rfl, c0, c1⟩ := HH.out.1 j p hp
      have d0 := (HB.out.1.cell (World.block_lt_of_cell? w _ c0)).trans c0
      have d1 := (HB.out.1.cell (World.block_lt_of_cell? w _ c1)).trans c1
      have hdr := drop_at hp
      have q0 : (0 : Int) ≤ (j : Int) := by omega
      have q1 : (j : Int) < (n : Int) := by omega
      obtain ⟨x, y⟩ := p
      clear c0 c1 hp
      have HX : Hid (Ac.pairs last (ps.drop j) = if x ≤ last ∨ Ac.isN x = false ∨ Ac.isN y = false then false else Ac.pairs x (ps.drop (j + 1))) := by
        show Ac.pairs last (ps.drop j) = _
        rw [hdr]; rfl
      clear hdr
      have d2 : wr.cell? ((a.add (j * 2)).add 1) = some (.int .i64 y) := by rw [add_two]; exact d1
      have d3 : wr.cell? ⟨(a.add (j * 2)).block, (a.add (j * 2)).off + 1, none⟩ = some (.int .i64 y) := by rw [← d2]; rfl
      have hal : Below w.heap.size w (wr.alloc (.cells #[.int .i64 x, .int .i64 y] 75)) := HB.out.1.alloc HB.out.1.size _
      have HA : Hid (Below w.heap.size w (wr.alloc (.cells #[.int .i64 x, .int .i64 y] 75))) := hal
      clear hal
      by_cases h1 : x ≤ last
      · have HF : Hid (Ac.pairs (-1) ps = false) := (by rw [← HB.out.2, HX.out, if_pos (.inl h1)] : Ac.pairs (-1) ps = false)
        go_wp2_with fail
        go_ret
        exact ⟨by rw [HF.out]; rfl, HA.out⟩
      · cases hx : Ac.isN x with
        | false =>
          have HF : Hid (Ac.pairs (-1) ps = false) := (by rw [← HB.out.2, HX.out, if_pos (.inr (.inl hx))] : Ac.pairs (-1) ps = false)
          go_wp2_with (go_at_call 128; refine (actName_any _ _).mono ?_; rw [hx]; rintro r w' ⟨rfl, hw⟩; obtain rfl := hw.symm)
          go_ret
          exact ⟨by rw [HF.out]; rfl, HA.out⟩
        | true =>
          cases hy : Ac.isN y with
          | false =>
            have HF : Hid (Ac.pairs (-1) ps = false) := (by rw [← HB.out.2, HX.out, if_pos (.inr (.inr hy))] : Ac.pairs (-1) ps = false)
            go_wp2_with (go_at_call 128; refine (actName_any _ _).mono ?_; (first | rw [hx] | rw [hy]); rintro r w' ⟨rfl, hw⟩; obtain rfl := hw.symm)
            go_ret
            exact ⟨by rw [HF.out]; rfl, HA.out⟩
          | true =>
            have HF : Hid (Ac.pairs x (ps.drop (j + 1)) = Ac.pairs (-1) ps) := (by rw [← HB.out.2, HX.out, if_neg (by simp [h1, hx, hy])] : Ac.pairs x (ps.drop (j + 1)) = Ac.pairs (-1) ps)
            go_wp2_with (go_at_call 128; refine (actName_any _ _).mono ?_; (first | rw [hx] | rw [hy]); rintro r w' ⟨rfl, hw⟩; obtain rfl := hw.symm)
            go_roundg (n - (j + 1))
            case measure => omega
            case rel => exact ⟨j + 1, x, rfl, by omega, by go_num, rfl, HF.out, HA.out⟩
    · have q1 : ¬ (j : Int) < (n : Int) := by omega
      have HF : Hid (Ac.pairs (-1) ps = true) := (by rw [← HB.out.2, List.drop_eq_nil_of_le (by have := HH.out.2; omega)]; rfl : Ac.pairs (-1) ps = true)
      go_wp2_with fail
      go_ret
      exact ⟨by rw [HF.out]; rfl, HB.out.1⟩
end Go.Proofs.YthnenpncajpibaaGreatDoor
