/- A store of the call's own; alive of chapter 3. -/
import Derived.Test.YthnenpncajpibaaGreatDoorTmWeight
namespace Go.Proofs.YthnenpncajpibaaGreatDoor
open Go.RowKit Go.Maps
/-- A store of the call's own: its blocks lie above what was there. -/
def StoA (w0 w : World) (b : Nat) (L : List Tm) : Prop := ∃ F, StoB w b L F ∧ (∀ i, F i → w0.heap.size ≤ i) ∧ Below w0.heap.size w0 w ∧ Tm.Good L
theorem StoA.put {w0 w w' : World} {b : Nat} {L : List Tm} {F F' : Nat → Prop} {t : Tm} (hF : ∀ i, F i → w0.heap.size ≤ i) (hb : Below w0.heap.size w0 w) (hG : Tm.Good L) (ht : t.may L.length = true) (h1 : StoB w' b (L ++ [t]) F') (h2 : Kept F w w') (h3 : ∀ i, F' i → F i ∨ w.heap.size ≤ i) : StoA w0 w' b (L ++ [t]) :=
  ⟨F', h1, fun i hi => by
    rcases h3 i hi with h | h
    · exact hF i h
    · have := hb.size; omega, hb.trans (h2.below hb.size hF), hG.snoc ht⟩
theorem hand_nil (w : World) (F : Nat → Prop) (k l a b : Int) : Hand w F ⟨k, l, a, b, [], []⟩ (.slice none 0 0) (.slice none 0 0) :=
  ⟨⟨none, 0, rfl, fun i z h => by simp at h⟩, ⟨none, 0, rfl, fun i z h => by simp at h⟩, fun h => absurd rfl h, fun h => absurd rfl h⟩
theorem good_nil : Tm.Good [⟨1, 0, 0, 0, [], []⟩] := fun i t h => by
  cases i with
  | zero => simp at h; subst h; decide
  | succ i => simp at h
theorem newA (w : World) : Calls Tryz.prog 6 #[] w fun r w' => r = .returned (.pointer (some ⟨w.heap.size, 0, none⟩)) ∧ StoA w w' w.heap.size [⟨1, 0, 0, 0, [], []⟩] := by
  refine (new_any3 w).mono ?_
  rintro r w' ⟨rfl, ⟨F, h1, h2⟩, h3⟩
  exact ⟨rfl, F, h1, h2, h3, good_nil⟩
set_option maxRecDepth 100000 in
set_option maxHeartbeats 1600000 in
theorem alive3 (w : World) : Calls Tryz.prog 5 #[] w fun r w' => r = .returned (.bool true) ∧ Below w.heap.size w w' := by
  go_enter Tryz.func5, Tryz.ntmps5
  go_wp2_with fail
  refine (newA w).mono ?_
  rintro r w1 ⟨rfl, F1, hS1, hF1, hb1, hG1⟩
  have hP := put_new w.heap.size [⟨1, 0, 0, 0, [], []⟩] F1 ⟨2, 1, 0, 0, [], []⟩ (.slice none 0 0) (.slice none 0 0) w1 hS1 (hand_nil _ _ _ _ _ _) (by decide) (by simp) (by decide)
  unfold tmV at hP
  have HP : Hid _ := And.intro hP (And.intro hF1 (And.intro hb1 hG1))
  clear hP hS1 hF1 hb1 hG1
  go_wp2_with fail
  refine HP.out.1.mono ?_
  rintro r w2 ⟨rfl, F2, g1, g2, g3⟩
  obtain ⟨F3, hS2, hF2, hb2, hG2⟩ := StoA.put HP.out.2.1 HP.out.2.2.1 HP.out.2.2.2 (by decide) g1 g2 g3
  have hP := put_new w.heap.size _ F3 ⟨3, 0, 1, 0, [], []⟩ (.slice none 0 0) (.slice none 0 0) w2 hS2 (hand_nil _ _ _ _ _ _) (by decide) (by simp) (by decide)
  unfold tmV at hP
  have HP2 : Hid _ := And.intro hP (And.intro hF2 (And.intro hb2 hG2))
  clear hP hS2 hF2 hb2 hG2 g1 g2 g3 HP
  go_wp2_with fail
  refine HP2.out.1.mono ?_
  rintro r w3 ⟨rfl, F4, g1, g2, g3⟩
  obtain ⟨F5, hS3, hF3, hb3, hG3⟩ := StoA.put HP2.out.2.1 HP2.out.2.2.1 HP2.out.2.2.2 (by decide) g1 g2 g3
  have hW := weight_yes w.heap.size _ F5 2 w3 hS3 hG3 (by decide)
  have hwt : Tm.wt ([⟨1, 0, 0, 0, [], []⟩] ++ [⟨2, 1, 0, 0, [], []⟩] ++ [⟨3, 0, 1, 0, [], []⟩]) 2 = 4 := by decide
  rw [hwt] at hW
  have HW : Hid _ := And.intro hW (And.intro hS3 hb3)
  clear hW hwt hS3 hF3 hb3 hG3 g1 g2 g3 HP2
  go_wp2_with fail
  refine HW.out.1.mono ?_
  rintro r w4 ⟨rfl, hb4⟩
  obtain ⟨ao, cap, hc⟩ := (HW.out.2.1.below hb4).cell
  have hZ := tsize_any w.heap.size ao _ cap w4 hc
  have HB : Hid _ := HW.out.2.2.trans (hb4.mono HW.out.2.2.size)
  have HZ : Hid _ := hZ
  clear hZ hb4 hc HW
  go_wp2_with fail
  refine Calls.mono HZ.out ?_
  rintro r w5 ⟨rfl, hw⟩
  obtain rfl := hw.symm
  go_wp2_with fail
  go_ret
  exact ⟨rfl, HB.out⟩
end Go.Proofs.YthnenpncajpibaaGreatDoor
