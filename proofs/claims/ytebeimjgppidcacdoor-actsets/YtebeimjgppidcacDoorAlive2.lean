/- Contract of the second chapter's helper alive: it returns true, and nothing that was there has turned. -/
import Derived.Test.YtebeimjgppidcacDoorText
namespace Go.Proofs.YtebeimjgppidcacDoor
open Go.RowKit Go.Maps
theorem name_a : Lx.nameZ true ⟨#[97]⟩ = true := by kernel_rfl
theorem name_b : Lx.nameZ true ⟨#[98]⟩ = true := by kernel_rfl
theorem a_tau : (⟨#[97]⟩ : ByteArray) ≠ tauB := by decide
theorem b_tau : (⟨#[98]⟩ : ByteArray) ≠ tauB := by decide
theorem foot_ge {w : World} {b : Nat} {vn vm vn' vm' : Value} {B : Nat} (h : ∀ i, Foot b vn vm i → B ≤ i) (hB : B ≤ w.heap.size) (hf : ∀ i, Foot b vn' vm' i → Foot b vn vm i ∨ w.heap.size ≤ i) : ∀ i, Foot b vn' vm' i → B ≤ i := fun i hi => by
  rcases hf i hi with h1 | h1
  · exact h i h1
  · omega
theorem foot_new (B : Nat) : ∀ i, Foot B (.slice none 0 0) (.map none) i → B ≤ i := fun i hi => by
  rcases hi with rfl | hi | hi
  · exact Nat.le_refl _
  · cases hi
  · cases hi
set_option maxRecDepth 100000 in
set_option maxHeartbeats 1000000 in
theorem alive2_any (a : Addr) (w : World) (hU : w.cell? ⟨3, 0, none⟩ = some (.iface 103 (.pointer (some a)))) :
    Calls Tryd.prog 9 #[] w fun e w' => e = .returned (.bool true) ∧ Below w.heap.size w w' := by
  have hul := World.block_lt_of_cell? w _ hU
  go_enter Tryd.func9, Tryd.ntmps9
  go_wp2_with fail
  refine (new_any _).mono ?_
  rintro r w1 ⟨rfl, hT1, hb1⟩
  have hU1 : w1.cell? ⟨3, 0, none⟩ = some (.iface 103 (.pointer (some a))) := (hb1.cell hul).trans hU
  have H1 : Hid (Tab w1 w.heap.size (.slice none 0 0) (.map none) [] ∧ Below w.heap.size w w1) := ⟨hT1, hb1⟩
  clear hT1 hb1
  go_wp2_with fail
  refine (add_new w.heap.size _ _ [] ⟨#[97]⟩ a w1 H1.out.1 (by simp) a_tau name_a (by decide) (by decide) hU1).mono ?_
  rintro r w2 ⟨rfl, vn2, vm2, hT2, hK2, hf2⟩
  have hb2 : Below w.heap.size w1 w2 := hK2.below H1.out.2.size (foot_new _)
  have hg2 := foot_ge (foot_new w.heap.size) H1.out.2.size hf2
  have hU2 : w2.cell? ⟨3, 0, none⟩ = some (.iface 103 (.pointer (some a))) := (hb2.cell hul).trans hU1
  have H2 : Hid (Tab w2 w.heap.size vn2 vm2 [⟨#[97]⟩] ∧ Below w.heap.size w w2 ∧ ∀ i, Foot w.heap.size vn2 vm2 i → w.heap.size ≤ i) := ⟨hT2, H1.out.2.trans hb2, hg2⟩
  clear hT2 hK2 hf2 hb2 hg2 H1 hU1
  go_wp2_with fail
  refine (add_new w.heap.size _ _ [⟨#[97]⟩] ⟨#[98]⟩ a w2 H2.out.1 (by rw [List.mem_singleton]; decide) b_tau name_b (by decide) (by decide) hU2).mono ?_
  rintro r w3 ⟨rfl, vn3, vm3, hT3, hK3, hf3⟩
  have hb3 : Below w.heap.size w2 w3 := hK3.below H2.out.2.1.size H2.out.2.2
  have H3 : Hid (Tab w3 w.heap.size vn3 vm3 [⟨#[97]⟩, ⟨#[98]⟩] ∧ Below w.heap.size w w3) := ⟨hT3, H2.out.2.1.trans hb3⟩
  clear hT3 hK3 hf3 hb3 H2 hU2
  go_wp2_with fail
  refine (text_yes w.heap.size _ _ [⟨#[97]⟩, ⟨#[98]⟩] ⟨#[98]⟩ 4 1 w3 H3.out.1 (by decide) (by decide) rfl).mono ?_
  rintro r w4 ⟨rfl, hw⟩
  obtain rfl := hw.symm
  have e1 : coB (Ac.nameC 4) ⟨#[98]⟩ = ⟨#[39, 98]⟩ := by kernel_rfl
  have e2 : Ac.label 1 true = 4 := by decide
  rw [e1]
  have hL := label_any 1 true w3
  rw [e2] at hL
  go_wp2_with (go_at_call 33; refine hL.mono ?_; rintro r w' ⟨rfl, hw⟩; obtain rfl := hw.symm)
  go_ret
  exact ⟨rfl, H3.out.2⟩
end Go.Proofs.YtebeimjgppidcacDoor
