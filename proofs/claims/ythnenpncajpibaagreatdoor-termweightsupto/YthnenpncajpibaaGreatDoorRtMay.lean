/- Contract of the document's May. -/
import Derived.Test.YthnenpncajpibaaGreatDoorRtSame
import Derived.Test.YthnenpncajpibaaGreatDoorRefPairs
namespace Go.Proofs.YthnenpncajpibaaGreatDoor
open Go.RowKit Go.Maps
theorem rhas_any (b : Nat) (ao : Option Addr) (n cap : Nat) (i : Int) (w : World) (hc : w.cell? ⟨b, 0, none⟩ = some (.slice ao n cap)) :
    Calls Tryz.prog 32 #[.pointer (some ⟨b, 0, none⟩), .int .i64 i] w fun r w' => r = .returned (.bool (Tm.has n i)) ∧ w' = w := by
  by_cases h0 : 0 ≤ i
  · by_cases h1 : i < (n : Int)
    · have HF : Hid (Tm.has n i = true) := (by simp [Tm.has, h0, h1] : Tm.has n i = true)
      go_enter Tryz.func32, Tryz.ntmps32
      go_wp2
      go_ret
      exact ⟨by rw [HF.out]; rfl, rfl⟩
    · have HF : Hid (Tm.has n i = false) := (by simp [Tm.has, h1] : Tm.has n i = false)
      go_enter Tryz.func32, Tryz.ntmps32
      go_wp2
      go_ret
      exact ⟨by rw [HF.out]; rfl, rfl⟩
  · have HF : Hid (Tm.has n i = false) := (by simp [Tm.has, h0] : Tm.has n i = false)
    go_enter Tryz.func32, Tryz.ntmps32
    go_wp2
    go_ret
    exact ⟨by rw [HF.out]; rfl, rfl⟩
set_option maxRecDepth 100000 in
set_option maxHeartbeats 1600000 in
theorem rmay1 (b : Nat) (ao : Option Addr) (n cap : Nat) (l a b' : Int) (an ap : Option Addr) (nn np cn cp : Nat) (w : World) (_hc : w.cell? ⟨b, 0, none⟩ = some (.slice ao n cap)) (c : Bool) (hS : ∀ W, Below w.heap.size w W → Calls Tryz.prog 114 #[.agg #[.int .i64 1, .int .i64 0, .int .i64 0, .int .i64 0, .slice none 0 0, .slice none 0 0], .agg #[.int .i64 1, .int .i64 l, .int .i64 a, .int .i64 b', .slice an nn cn, .slice ap np cp]] W fun e w' => e = .returned (.bool c) ∧ Below W.heap.size W w') :
    Calls Tryz.prog 83 #[.pointer (some ⟨b, 0, none⟩), .agg #[.int .i64 1, .int .i64 l, .int .i64 a, .int .i64 b', .slice an nn cn, .slice ap np cp]] w fun r w' => r = .returned (.bool (true && c)) ∧ Below w.heap.size w w' := by
  have HS : Hid _ := hS
  clear hS
  go_enter Tryz.func83, Tryz.ntmps83
  go_wp2_with ((go_at_call 114; refine (HS.out _ (by repeat (first | exact Below.refl _ _ | assumption | refine Below.drew ?_ | refine Below.setCell ?_ (by simp) _ | refine Below.alloc ?_ (by simp) _))).mono ?_; rintro r w6 ⟨rfl, hb6⟩; have hB6 : Below w.heap.size w w6 := Below.trans (by repeat (first | exact Below.refl _ _ | assumption | refine Below.drew ?_ | refine Below.setCell ?_ (by simp) _ | refine Below.alloc ?_ (by simp) _)) (hb6.mono (by first | omega | (simp; omega)))))
  all_goals (go_ret; refine ⟨?_, (by repeat (first | exact Below.refl _ _ | assumption | refine Below.drew ?_ | refine Below.setCell ?_ (by simp) _ | refine Below.alloc ?_ (by simp) _))⟩; first | (simp [*]; done) | (simp [*]; omega))
set_option maxRecDepth 100000 in
set_option maxHeartbeats 1600000 in
theorem rmay2 (b : Nat) (ao : Option Addr) (n cap : Nat) (l a b' : Int) (an ap : Option Addr) (nn np cn cp : Nat) (w : World) (hc : w.cell? ⟨b, 0, none⟩ = some (.slice ao n cap)) (c : Bool) (hS : ∀ W, Below w.heap.size w W → Calls Tryz.prog 114 #[.agg #[.int .i64 2, .int .i64 l, .int .i64 a, .int .i64 0, .slice none 0 0, .slice none 0 0], .agg #[.int .i64 2, .int .i64 l, .int .i64 a, .int .i64 b', .slice an nn cn, .slice ap np cp]] W fun e w' => e = .returned (.bool c) ∧ Below W.heap.size W w') :
    Calls Tryz.prog 83 #[.pointer (some ⟨b, 0, none⟩), .agg #[.int .i64 2, .int .i64 l, .int .i64 a, .int .i64 b', .slice an nn cn, .slice ap np cp]] w fun r w' => r = .returned (.bool ((decide (0 ≤ l) && (decide (l < 201) && Tm.has n a)) && c)) ∧ Below w.heap.size w w' := by
  have HS : Hid _ := hS
  clear hS
  go_enter Tryz.func83, Tryz.ntmps83
  go_wp2_with (first | (go_at_call 114; refine (HS.out _ (by repeat (first | exact Below.refl _ _ | assumption | refine Below.drew ?_ | refine Below.setCell ?_ (by simp) _ | refine Below.alloc ?_ (by simp) _))).mono ?_; rintro r w6 ⟨rfl, hb6⟩; have hB6 : Below w.heap.size w w6 := Below.trans (by repeat (first | exact Below.refl _ _ | assumption | refine Below.drew ?_ | refine Below.setCell ?_ (by simp) _ | refine Below.alloc ?_ (by simp) _)) (hb6.mono (by first | omega | (simp; omega)))) | (go_at_call 32; refine (rhas_any b ao n cap _ _ (cell_up hc (by repeat (first | exact Below.refl _ _ | assumption | refine Below.drew ?_ | refine Below.setCell ?_ (by simp) _ | refine Below.alloc ?_ (by simp) _)))).mono ?_; rintro r w' ⟨rfl, hw⟩; obtain rfl := hw.symm))
  go_region
  all_goals go_wp2_with (first | (go_at_call 114; refine (HS.out _ (by repeat (first | exact Below.refl _ _ | assumption | refine Below.drew ?_ | refine Below.setCell ?_ (by simp) _ | refine Below.alloc ?_ (by simp) _))).mono ?_; rintro r w6 ⟨rfl, hb6⟩; have hB6 : Below w.heap.size w w6 := Below.trans (by repeat (first | exact Below.refl _ _ | assumption | refine Below.drew ?_ | refine Below.setCell ?_ (by simp) _ | refine Below.alloc ?_ (by simp) _)) (hb6.mono (by first | omega | (simp; omega)))) | (go_at_call 32; refine (rhas_any b ao n cap _ _ (cell_up hc (by repeat (first | exact Below.refl _ _ | assumption | refine Below.drew ?_ | refine Below.setCell ?_ (by simp) _ | refine Below.alloc ?_ (by simp) _)))).mono ?_; rintro r w' ⟨rfl, hw⟩; obtain rfl := hw.symm))
  all_goals (go_ret; refine ⟨?_, (by repeat (first | exact Below.refl _ _ | assumption | refine Below.drew ?_ | refine Below.setCell ?_ (by simp) _ | refine Below.alloc ?_ (by simp) _))⟩; first | (simp [*]; done) | (simp [*]; omega))
set_option maxRecDepth 100000 in
set_option maxHeartbeats 1600000 in
theorem rmay3 (b : Nat) (ao : Option Addr) (n cap : Nat) (l a b' : Int) (an ap : Option Addr) (nn np cn cp : Nat) (w : World) (hc : w.cell? ⟨b, 0, none⟩ = some (.slice ao n cap)) (c : Bool) (hS : ∀ W, Below w.heap.size w W → Calls Tryz.prog 114 #[.agg #[.int .i64 3, .int .i64 0, .int .i64 a, .int .i64 b', .slice none 0 0, .slice none 0 0], .agg #[.int .i64 3, .int .i64 l, .int .i64 a, .int .i64 b', .slice an nn cn, .slice ap np cp]] W fun e w' => e = .returned (.bool c) ∧ Below W.heap.size W w') :
    Calls Tryz.prog 83 #[.pointer (some ⟨b, 0, none⟩), .agg #[.int .i64 3, .int .i64 l, .int .i64 a, .int .i64 b', .slice an nn cn, .slice ap np cp]] w fun r w' => r = .returned (.bool ((Tm.has n a && Tm.has n b') && c)) ∧ Below w.heap.size w w' := by
  have HS : Hid _ := hS
  clear hS
  go_enter Tryz.func83, Tryz.ntmps83
  go_wp2_with (first | (go_at_call 114; refine (HS.out _ (by repeat (first | exact Below.refl _ _ | assumption | refine Below.drew ?_ | refine Below.setCell ?_ (by simp) _ | refine Below.alloc ?_ (by simp) _))).mono ?_; rintro r w6 ⟨rfl, hb6⟩; have hB6 : Below w.heap.size w w6 := Below.trans (by repeat (first | exact Below.refl _ _ | assumption | refine Below.drew ?_ | refine Below.setCell ?_ (by simp) _ | refine Below.alloc ?_ (by simp) _)) (hb6.mono (by first | omega | (simp; omega)))) | (go_at_call 32; refine (rhas_any b ao n cap _ _ (cell_up hc (by repeat (first | exact Below.refl _ _ | assumption | refine Below.drew ?_ | refine Below.setCell ?_ (by simp) _ | refine Below.alloc ?_ (by simp) _)))).mono ?_; rintro r w' ⟨rfl, hw⟩; obtain rfl := hw.symm))
  go_region
  all_goals go_wp2_with (first | (go_at_call 114; refine (HS.out _ (by repeat (first | exact Below.refl _ _ | assumption | refine Below.drew ?_ | refine Below.setCell ?_ (by simp) _ | refine Below.alloc ?_ (by simp) _))).mono ?_; rintro r w6 ⟨rfl, hb6⟩; have hB6 : Below w.heap.size w w6 := Below.trans (by repeat (first | exact Below.refl _ _ | assumption | refine Below.drew ?_ | refine Below.setCell ?_ (by simp) _ | refine Below.alloc ?_ (by simp) _)) (hb6.mono (by first | omega | (simp; omega)))) | (go_at_call 32; refine (rhas_any b ao n cap _ _ (cell_up hc (by repeat (first | exact Below.refl _ _ | assumption | refine Below.drew ?_ | refine Below.setCell ?_ (by simp) _ | refine Below.alloc ?_ (by simp) _)))).mono ?_; rintro r w' ⟨rfl, hw⟩; obtain rfl := hw.symm))
  all_goals (go_ret; refine ⟨?_, (by repeat (first | exact Below.refl _ _ | assumption | refine Below.drew ?_ | refine Below.setCell ?_ (by simp) _ | refine Below.alloc ?_ (by simp) _))⟩; first | (simp [*]; done) | (simp [*]; omega))
set_option maxRecDepth 100000 in
set_option maxHeartbeats 1600000 in
theorem rmay4 (b : Nat) (ao : Option Addr) (n cap : Nat) (l a b' : Int) (an ap : Option Addr) (nn np cn cp : Nat) (w : World) (hc : w.cell? ⟨b, 0, none⟩ = some (.slice ao n cap)) (c : Bool) (hS : ∀ W, Below w.heap.size w W → Calls Tryz.prog 114 #[.agg #[.int .i64 4, .int .i64 0, .int .i64 a, .int .i64 b', .slice none 0 0, .slice none 0 0], .agg #[.int .i64 4, .int .i64 l, .int .i64 a, .int .i64 b', .slice an nn cn, .slice ap np cp]] W fun e w' => e = .returned (.bool c) ∧ Below W.heap.size W w') :
    Calls Tryz.prog 83 #[.pointer (some ⟨b, 0, none⟩), .agg #[.int .i64 4, .int .i64 l, .int .i64 a, .int .i64 b', .slice an nn cn, .slice ap np cp]] w fun r w' => r = .returned (.bool ((Tm.has n a && Tm.has n b') && c)) ∧ Below w.heap.size w w' := by
  have HS : Hid _ := hS
  clear hS
  go_enter Tryz.func83, Tryz.ntmps83
  go_wp2_with (first | (go_at_call 114; refine (HS.out _ (by repeat (first | exact Below.refl _ _ | assumption | refine Below.drew ?_ | refine Below.setCell ?_ (by simp) _ | refine Below.alloc ?_ (by simp) _))).mono ?_; rintro r w6 ⟨rfl, hb6⟩; have hB6 : Below w.heap.size w w6 := Below.trans (by repeat (first | exact Below.refl _ _ | assumption | refine Below.drew ?_ | refine Below.setCell ?_ (by simp) _ | refine Below.alloc ?_ (by simp) _)) (hb6.mono (by first | omega | (simp; omega)))) | (go_at_call 32; refine (rhas_any b ao n cap _ _ (cell_up hc (by repeat (first | exact Below.refl _ _ | assumption | refine Below.drew ?_ | refine Below.setCell ?_ (by simp) _ | refine Below.alloc ?_ (by simp) _)))).mono ?_; rintro r w' ⟨rfl, hw⟩; obtain rfl := hw.symm))
  go_region
  all_goals go_wp2_with (first | (go_at_call 114; refine (HS.out _ (by repeat (first | exact Below.refl _ _ | assumption | refine Below.drew ?_ | refine Below.setCell ?_ (by simp) _ | refine Below.alloc ?_ (by simp) _))).mono ?_; rintro r w6 ⟨rfl, hb6⟩; have hB6 : Below w.heap.size w w6 := Below.trans (by repeat (first | exact Below.refl _ _ | assumption | refine Below.drew ?_ | refine Below.setCell ?_ (by simp) _ | refine Below.alloc ?_ (by simp) _)) (hb6.mono (by first | omega | (simp; omega)))) | (go_at_call 32; refine (rhas_any b ao n cap _ _ (cell_up hc (by repeat (first | exact Below.refl _ _ | assumption | refine Below.drew ?_ | refine Below.setCell ?_ (by simp) _ | refine Below.alloc ?_ (by simp) _)))).mono ?_; rintro r w' ⟨rfl, hw⟩; obtain rfl := hw.symm))
  all_goals (go_ret; refine ⟨?_, (by repeat (first | exact Below.refl _ _ | assumption | refine Below.drew ?_ | refine Below.setCell ?_ (by simp) _ | refine Below.alloc ?_ (by simp) _))⟩; first | (simp [*]; done) | (simp [*]; omega))
set_option maxRecDepth 100000 in
set_option maxHeartbeats 1600000 in
theorem rmay5 (b : Nat) (ao : Option Addr) (n cap : Nat) (l a b' : Int) (an ap : Option Addr) (nn np cn cp : Nat) (w : World) (hc : w.cell? ⟨b, 0, none⟩ = some (.slice ao n cap)) (c : Bool) (d : Bool) (hR : ∀ W, Below w.heap.size w W → Calls Tryz.prog 112 #[.slice an nn cn] W fun e w' => e = .returned (.bool d) ∧ Below W.heap.size W w') (hS : ∀ W, Below w.heap.size w W → Calls Tryz.prog 114 #[.agg #[.int .i64 5, .int .i64 0, .int .i64 a, .int .i64 0, .slice an nn cn, .slice none 0 0], .agg #[.int .i64 5, .int .i64 l, .int .i64 a, .int .i64 b', .slice an nn cn, .slice ap np cp]] W fun e w' => e = .returned (.bool c) ∧ Below W.heap.size W w') :
    Calls Tryz.prog 83 #[.pointer (some ⟨b, 0, none⟩), .agg #[.int .i64 5, .int .i64 l, .int .i64 a, .int .i64 b', .slice an nn cn, .slice ap np cp]] w fun r w' => r = .returned (.bool ((Tm.has n a && d) && c)) ∧ Below w.heap.size w w' := by
  have HS : Hid _ := hS
  clear hS
  have HR : Hid _ := hR
  clear hR
  go_enter Tryz.func83, Tryz.ntmps83
  go_wp2_with (first | (go_at_call 114; refine (HS.out _ (by repeat (first | exact Below.refl _ _ | assumption | refine Below.drew ?_ | refine Below.setCell ?_ (by simp) _ | refine Below.alloc ?_ (by simp) _))).mono ?_; rintro r w6 ⟨rfl, hb6⟩; have hB6 : Below w.heap.size w w6 := Below.trans (by repeat (first | exact Below.refl _ _ | assumption | refine Below.drew ?_ | refine Below.setCell ?_ (by simp) _ | refine Below.alloc ?_ (by simp) _)) (hb6.mono (by first | omega | (simp; omega)))) | (go_at_call 32; refine (rhas_any b ao n cap _ _ (cell_up hc (by repeat (first | exact Below.refl _ _ | assumption | refine Below.drew ?_ | refine Below.setCell ?_ (by simp) _ | refine Below.alloc ?_ (by simp) _)))).mono ?_; rintro r w' ⟨rfl, hw⟩; obtain rfl := hw.symm) | (go_at_call 112; refine (HR.out _ (by repeat (first | exact Below.refl _ _ | assumption | refine Below.drew ?_ | refine Below.setCell ?_ (by simp) _ | refine Below.alloc ?_ (by simp) _))).mono ?_; rintro r w5 ⟨rfl, hb5⟩; obtain ⟨hc5, hf5⟩ := bcell hb5; have hz5 : w.heap.size + 1 < w5.heap.size := (by have := hb5.size; simp at this; omega); have hB5 : Below w.heap.size w w5 := Below.trans (by repeat (first | exact Below.refl _ _ | assumption | refine Below.drew ?_ | refine Below.setCell ?_ (by simp) _ | refine Below.alloc ?_ (by simp) _)) (hb5.mono (by simp; omega))))
  go_region
  all_goals go_wp2_with (first | (go_at_call 114; refine (HS.out _ (by repeat (first | exact Below.refl _ _ | assumption | refine Below.drew ?_ | refine Below.setCell ?_ (by simp) _ | refine Below.alloc ?_ (by simp) _))).mono ?_; rintro r w6 ⟨rfl, hb6⟩; have hB6 : Below w.heap.size w w6 := Below.trans (by repeat (first | exact Below.refl _ _ | assumption | refine Below.drew ?_ | refine Below.setCell ?_ (by simp) _ | refine Below.alloc ?_ (by simp) _)) (hb6.mono (by first | omega | (simp; omega)))) | (go_at_call 32; refine (rhas_any b ao n cap _ _ (cell_up hc (by repeat (first | exact Below.refl _ _ | assumption | refine Below.drew ?_ | refine Below.setCell ?_ (by simp) _ | refine Below.alloc ?_ (by simp) _)))).mono ?_; rintro r w' ⟨rfl, hw⟩; obtain rfl := hw.symm) | (go_at_call 112; refine (HR.out _ (by repeat (first | exact Below.refl _ _ | assumption | refine Below.drew ?_ | refine Below.setCell ?_ (by simp) _ | refine Below.alloc ?_ (by simp) _))).mono ?_; rintro r w5 ⟨rfl, hb5⟩; obtain ⟨hc5, hf5⟩ := bcell hb5; have hz5 : w.heap.size + 1 < w5.heap.size := (by have := hb5.size; simp at this; omega); have hB5 : Below w.heap.size w w5 := Below.trans (by repeat (first | exact Below.refl _ _ | assumption | refine Below.drew ?_ | refine Below.setCell ?_ (by simp) _ | refine Below.alloc ?_ (by simp) _)) (hb5.mono (by simp; omega))))
  all_goals (go_ret; refine ⟨?_, (by repeat (first | exact Below.refl _ _ | assumption | refine Below.drew ?_ | refine Below.setCell ?_ (by simp) _ | refine Below.alloc ?_ (by simp) _))⟩; first | (simp [*]; done) | (simp [*]; omega))
set_option maxRecDepth 100000 in
set_option maxHeartbeats 1600000 in
theorem rmay6 (b : Nat) (ao : Option Addr) (n cap : Nat) (l a b' : Int) (an ap : Option Addr) (nn np cn cp : Nat) (w : World) (hc : w.cell? ⟨b, 0, none⟩ = some (.slice ao n cap)) (c : Bool) (d : Bool) (hR : ∀ W, Below w.heap.size w W → Calls Tryz.prog 113 #[.slice ap np cp] W fun e w' => e = .returned (.bool d) ∧ Below W.heap.size W w') (hS : ∀ W, Below w.heap.size w W → Calls Tryz.prog 114 #[.agg #[.int .i64 6, .int .i64 0, .int .i64 a, .int .i64 0, .slice none 0 0, .slice ap np cp], .agg #[.int .i64 6, .int .i64 l, .int .i64 a, .int .i64 b', .slice an nn cn, .slice ap np cp]] W fun e w' => e = .returned (.bool c) ∧ Below W.heap.size W w') :
    Calls Tryz.prog 83 #[.pointer (some ⟨b, 0, none⟩), .agg #[.int .i64 6, .int .i64 l, .int .i64 a, .int .i64 b', .slice an nn cn, .slice ap np cp]] w fun r w' => r = .returned (.bool ((Tm.has n a && d) && c)) ∧ Below w.heap.size w w' := by
  have HS : Hid _ := hS
  clear hS
  have HR : Hid _ := hR
  clear hR
  go_enter Tryz.func83, Tryz.ntmps83
  go_wp2_with (first | (go_at_call 114; refine (HS.out _ (by repeat (first | exact Below.refl _ _ | assumption | refine Below.drew ?_ | refine Below.setCell ?_ (by simp) _ | refine Below.alloc ?_ (by simp) _))).mono ?_; rintro r w6 ⟨rfl, hb6⟩; have hB6 : Below w.heap.size w w6 := Below.trans (by repeat (first | exact Below.refl _ _ | assumption | refine Below.drew ?_ | refine Below.setCell ?_ (by simp) _ | refine Below.alloc ?_ (by simp) _)) (hb6.mono (by first | omega | (simp; omega)))) | (go_at_call 32; refine (rhas_any b ao n cap _ _ (cell_up hc (by repeat (first | exact Below.refl _ _ | assumption | refine Below.drew ?_ | refine Below.setCell ?_ (by simp) _ | refine Below.alloc ?_ (by simp) _)))).mono ?_; rintro r w' ⟨rfl, hw⟩; obtain rfl := hw.symm) | (go_at_call 113; refine (HR.out _ (by repeat (first | exact Below.refl _ _ | assumption | refine Below.drew ?_ | refine Below.setCell ?_ (by simp) _ | refine Below.alloc ?_ (by simp) _))).mono ?_; rintro r w5 ⟨rfl, hb5⟩; obtain ⟨hc5, hf5⟩ := bcell hb5; have hz5 : w.heap.size + 1 < w5.heap.size := (by have := hb5.size; simp at this; omega); have hB5 : Below w.heap.size w w5 := Below.trans (by repeat (first | exact Below.refl _ _ | assumption | refine Below.drew ?_ | refine Below.setCell ?_ (by simp) _ | refine Below.alloc ?_ (by simp) _)) (hb5.mono (by simp; omega))))
  go_region
  all_goals go_wp2_with (first | (go_at_call 114; refine (HS.out _ (by repeat (first | exact Below.refl _ _ | assumption | refine Below.drew ?_ | refine Below.setCell ?_ (by simp) _ | refine Below.alloc ?_ (by simp) _))).mono ?_; rintro r w6 ⟨rfl, hb6⟩; have hB6 : Below w.heap.size w w6 := Below.trans (by repeat (first | exact Below.refl _ _ | assumption | refine Below.drew ?_ | refine Below.setCell ?_ (by simp) _ | refine Below.alloc ?_ (by simp) _)) (hb6.mono (by first | omega | (simp; omega)))) | (go_at_call 32; refine (rhas_any b ao n cap _ _ (cell_up hc (by repeat (first | exact Below.refl _ _ | assumption | refine Below.drew ?_ | refine Below.setCell ?_ (by simp) _ | refine Below.alloc ?_ (by simp) _)))).mono ?_; rintro r w' ⟨rfl, hw⟩; obtain rfl := hw.symm) | (go_at_call 113; refine (HR.out _ (by repeat (first | exact Below.refl _ _ | assumption | refine Below.drew ?_ | refine Below.setCell ?_ (by simp) _ | refine Below.alloc ?_ (by simp) _))).mono ?_; rintro r w5 ⟨rfl, hb5⟩; obtain ⟨hc5, hf5⟩ := bcell hb5; have hz5 : w.heap.size + 1 < w5.heap.size := (by have := hb5.size; simp at this; omega); have hB5 : Below w.heap.size w w5 := Below.trans (by repeat (first | exact Below.refl _ _ | assumption | refine Below.drew ?_ | refine Below.setCell ?_ (by simp) _ | refine Below.alloc ?_ (by simp) _)) (hb5.mono (by simp; omega))))
  all_goals (go_ret; refine ⟨?_, (by repeat (first | exact Below.refl _ _ | assumption | refine Below.drew ?_ | refine Below.setCell ?_ (by simp) _ | refine Below.alloc ?_ (by simp) _))⟩; first | (simp [*]; done) | (simp [*]; omega))
set_option maxRecDepth 100000 in
set_option maxHeartbeats 1600000 in
theorem rmay7 (b : Nat) (ao : Option Addr) (n cap : Nat) (l a b' : Int) (an ap : Option Addr) (nn np cn cp : Nat) (w : World) (_hc : w.cell? ⟨b, 0, none⟩ = some (.slice ao n cap)) (c : Bool) (hS : ∀ W, Below w.heap.size w W → Calls Tryz.prog 114 #[.agg #[.int .i64 7, .int .i64 0, .int .i64 a, .int .i64 0, .slice none 0 0, .slice none 0 0], .agg #[.int .i64 7, .int .i64 l, .int .i64 a, .int .i64 b', .slice an nn cn, .slice ap np cp]] W fun e w' => e = .returned (.bool c) ∧ Below W.heap.size W w') :
    Calls Tryz.prog 83 #[.pointer (some ⟨b, 0, none⟩), .agg #[.int .i64 7, .int .i64 l, .int .i64 a, .int .i64 b', .slice an nn cn, .slice ap np cp]] w fun r w' => r = .returned (.bool ((decide (0 ≤ a) && decide (a < 200)) && c)) ∧ Below w.heap.size w w' := by
  have HS : Hid _ := hS
  clear hS
  go_enter Tryz.func83, Tryz.ntmps83
  go_wp2_with ((go_at_call 114; refine (HS.out _ (by repeat (first | exact Below.refl _ _ | assumption | refine Below.drew ?_ | refine Below.setCell ?_ (by simp) _ | refine Below.alloc ?_ (by simp) _))).mono ?_; rintro r w6 ⟨rfl, hb6⟩; have hB6 : Below w.heap.size w w6 := Below.trans (by repeat (first | exact Below.refl _ _ | assumption | refine Below.drew ?_ | refine Below.setCell ?_ (by simp) _ | refine Below.alloc ?_ (by simp) _)) (hb6.mono (by first | omega | (simp; omega)))))
  all_goals (go_ret; refine ⟨?_, (by repeat (first | exact Below.refl _ _ | assumption | refine Below.drew ?_ | refine Below.setCell ?_ (by simp) _ | refine Below.alloc ?_ (by simp) _))⟩; first | (simp [*]; done) | (simp [*]; omega))
set_option maxRecDepth 100000 in
set_option maxHeartbeats 1600000 in
theorem rmay0 (b : Nat) (k : Int) (l a b' : Int) (an ap : Option Addr) (nn np cn cp : Nat) (w : World) (h1 : (k == 1) = false) (h2 : (k == 2) = false) (h3 : (k == 3) = false) (h4 : (k == 4) = false) (h5 : (k == 5) = false) (h6 : (k == 6) = false) (h7 : (k == 7) = false) :
    Calls Tryz.prog 83 #[.pointer (some ⟨b, 0, none⟩), .agg #[.int .i64 k, .int .i64 l, .int .i64 a, .int .i64 b', .slice an nn cn, .slice ap np cp]] w fun r w' => r = .returned (.bool false) ∧ Below w.heap.size w w' := by
  go_enter Tryz.func83, Tryz.ntmps83
  go_wp2_with fail
  go_ret
  exact ⟨rfl, (by repeat (first | exact Below.refl _ _ | assumption | refine Below.drew ?_ | refine Below.setCell ?_ (by simp) _ | refine Below.alloc ?_ (by simp) _))⟩
theorem hasI_nil (w : World) : HasI w (.slice none 0 0) [] := ⟨none, 0, rfl, fun i z h => by simp at h⟩
theorem hasP_nil (w : World) : HasP w (.slice none 0 0) [] := ⟨none, 0, rfl, fun i z h => by simp at h⟩
theorem nil_beq {α : Type} (l : List α) : l.isEmpty = (l.length == 0) := by cases l <;> rfl
theorem zero_beq (z : Int) : ((0 : Int) == z) = (z == 0) := by rw [Bool.eq_iff_iff]; simp; exact eq_comm
theorem rmay_any (b : Nat) (ao : Option Addr) (n cap : Nat) (t : Tm) (vn vp : Value) (w : World) (hc : w.cell? ⟨b, 0, none⟩ = some (.slice ao n cap)) (hn : HasI w vn t.names) (hp : HasP w vp t.pairs) (ln : t.names.length ≤ 1000000000000000) (lp : t.pairs.length ≤ 1000000000000000) :
    Calls Tryz.prog 83 #[.pointer (some ⟨b, 0, none⟩), tmV t vn vp] w fun r w' => r = .returned (.bool (t.may n)) ∧ Below w.heap.size w w' := by
  have hR : ∀ W, Below w.heap.size w W → Calls Tryz.prog 112 #[vn] W fun e w' => e = .returned (.bool (Ac.rising (-1) t.names)) ∧ Below W.heap.size W w' := fun W hW => refRising_any vn t.names W (hn.below hW) ln
  have hP : ∀ W, Below w.heap.size w W → Calls Tryz.prog 113 #[vp] W fun e w' => e = .returned (.bool (Ac.pairs (-1) t.pairs)) ∧ Below W.heap.size W w' := fun W hW => refPairs_any vp t.pairs W (hp.below hW) lp
  have hS : ∀ (x : Tm) (xn xp : Value), (x.names = [] ∧ xn = .slice none 0 0 ∨ x.names = t.names ∧ xn = vn) → (x.pairs = [] ∧ xp = .slice none 0 0 ∨ x.pairs = t.pairs ∧ xp = vp) → ∀ W, Below w.heap.size w W → Calls Tryz.prog 114 #[tmV x xn xp, tmV t vn vp] W fun e w' => e = .returned (.bool (Tm.same x t)) ∧ Below W.heap.size W w' := fun x xn xp h1 h2 W hW => by
    have g1 : HasI W xn x.names ∧ x.names.length ≤ 1000000000000000 := by
      rcases h1 with ⟨e1, e2⟩ | ⟨e1, e2⟩
      · rw [e1, e2]; exact ⟨hasI_nil W, by simp⟩
      · rw [e1, e2]; exact ⟨hn.below hW, ln⟩
    have g2 : HasP W xp x.pairs ∧ x.pairs.length ≤ 1000000000000000 := by
      rcases h2 with ⟨e1, e2⟩ | ⟨e1, e2⟩
      · rw [e1, e2]; exact ⟨hasP_nil W, by simp⟩
      · rw [e1, e2]; exact ⟨hp.below hW, lp⟩
    exact rsame_any x t xn xp vn vp W g1.1 g2.1 (hn.below hW) (hp.below hW) g1.2 g2.2 ln lp
  obtain ⟨an, cn, rfl, _⟩ := hn
  obtain ⟨ap, cp, rfl, _⟩ := hp
  obtain ⟨k, l, a, b', names, pairs⟩ := t
  simp only at hR hP hS ⊢
  unfold tmV at hS ⊢
  simp only at hS ⊢
  by_cases h1 : k = 1
  · subst h1
    refine (rmay1 b ao n cap l a b' an ap _ _ cn cp w hc _ (hS ⟨1, 0, 0, 0, [], []⟩ _ _ (.inl ⟨rfl, rfl⟩) (.inl ⟨rfl, rfl⟩))).mono ?_
    rintro r w' ⟨rfl, hb⟩
    exact ⟨by simp [Tm.may, Tm.right, Tm.rest, Tm.same, Bool.and_assoc, nil_beq, zero_beq], hb⟩
  by_cases h2 : k = 2
  · subst h2
    refine (rmay2 b ao n cap l a b' an ap _ _ cn cp w hc _ (hS ⟨2, l, a, 0, [], []⟩ _ _ (.inl ⟨rfl, rfl⟩) (.inl ⟨rfl, rfl⟩))).mono ?_
    rintro r w' ⟨rfl, hb⟩
    exact ⟨by simp [Tm.may, Tm.right, Tm.rest, Tm.same, Bool.and_assoc, nil_beq, zero_beq], hb⟩
  by_cases h3 : k = 3
  · subst h3
    refine (rmay3 b ao n cap l a b' an ap _ _ cn cp w hc _ (hS ⟨3, 0, a, b', [], []⟩ _ _ (.inl ⟨rfl, rfl⟩) (.inl ⟨rfl, rfl⟩))).mono ?_
    rintro r w' ⟨rfl, hb⟩
    exact ⟨by simp [Tm.may, Tm.right, Tm.rest, Tm.same, Bool.and_assoc, nil_beq, zero_beq], hb⟩
  by_cases h4 : k = 4
  · subst h4
    refine (rmay4 b ao n cap l a b' an ap _ _ cn cp w hc _ (hS ⟨4, 0, a, b', [], []⟩ _ _ (.inl ⟨rfl, rfl⟩) (.inl ⟨rfl, rfl⟩))).mono ?_
    rintro r w' ⟨rfl, hb⟩
    exact ⟨by simp [Tm.may, Tm.right, Tm.rest, Tm.same, Bool.and_assoc, nil_beq, zero_beq], hb⟩
  by_cases h5 : k = 5
  · subst h5
    refine (rmay5 b ao n cap l a b' an ap _ _ cn cp w hc _ _ hR (hS ⟨5, 0, a, 0, names, []⟩ _ _ (.inr ⟨rfl, rfl⟩) (.inl ⟨rfl, rfl⟩))).mono ?_
    rintro r w' ⟨rfl, hb⟩
    exact ⟨by simp [Tm.may, Tm.right, Tm.rest, Tm.same, Bool.and_assoc, nil_beq, zero_beq], hb⟩
  by_cases h6 : k = 6
  · subst h6
    refine (rmay6 b ao n cap l a b' an ap _ _ cn cp w hc _ _ hP (hS ⟨6, 0, a, 0, [], pairs⟩ _ _ (.inl ⟨rfl, rfl⟩) (.inr ⟨rfl, rfl⟩))).mono ?_
    rintro r w' ⟨rfl, hb⟩
    exact ⟨by simp [Tm.may, Tm.right, Tm.rest, Tm.same, Bool.and_assoc, nil_beq, zero_beq], hb⟩
  by_cases h7 : k = 7
  · subst h7
    refine (rmay7 b ao n cap l a b' an ap _ _ cn cp w hc _ (hS ⟨7, 0, a, 0, [], []⟩ _ _ (.inl ⟨rfl, rfl⟩) (.inl ⟨rfl, rfl⟩))).mono ?_
    rintro r w' ⟨rfl, hb⟩
    exact ⟨by simp [Tm.may, Tm.right, Tm.rest, Tm.same, Bool.and_assoc, nil_beq, zero_beq], hb⟩
  refine (rmay0 b k l a b' an ap _ _ cn cp w (by simpa using h1) (by simpa using h2) (by simpa using h3) (by simpa using h4) (by simpa using h5) (by simpa using h6) (by simpa using h7)).mono ?_
  rintro r w' ⟨rfl, hb⟩
  exact ⟨by simp [Tm.may, Tm.right, *], hb⟩
end Go.Proofs.YthnenpncajpibaaGreatDoor
