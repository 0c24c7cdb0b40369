/- Texts of this claim, joined: RtMay, Copy, RtSto, RtFind. -/
import Derived.Test.YthnenpncajpibaaGreatDoorPart4
import Derived.Test.YthnenpncajpibaaGreatDoorProg
import Derived.WalkKit
import Derived.Maps.AppendAt
/- Contract of the document's May. -/
namespace Go.Proofs.YthnenpncajpibaaGreatDoor
open Go.RowKit Go.Maps
theorem rhas_any (b : Nat) (ao : Option Addr) (n cap : Nat) (i : Int) (w : World) (hc : w.cell? ⟨b, 0, none⟩ = some (.slice ao n cap)) :
    Calls Tryz.prog 32 #[.pointer (some ⟨b, 0, none⟩), .int .i64 i] w fun r w' => r = .returned (.bool (Tm.has n i)) ∧ w' = w := by
  by_cases h0 : 0 ≤ i
  · by_cases h1 : i < (n : Int)
    · have HF : Hid (Tm.has n i = true) := (by simp [Tm.has, h0, h1] : Tm.has n i = true)
      go_enter Tryz.func32, Tryz.ntmps32
      go_wp2
      go_ret
      exact ⟨by rw [HF.out]; rfl, rfl⟩
    · have HF : Hid (Tm.has n i = false) := (by simp [Tm.has, h1] : Tm.has n i = false)
      go_enter Tryz.func32, Tryz.ntmps32
      go_wp2
      go_ret
      exact ⟨by rw [HF.out]; rfl, rfl⟩
  · have HF : Hid (Tm.has n i = false) := (by simp [Tm.has, h0] : Tm.has n i = false)
    go_enter Tryz.func32, Tryz.ntmps32
    go_wp2
    go_ret
    exact ⟨by rw [HF.out]; rfl, rfl⟩
set_option maxRecDepth 100000 in
set_option maxHeartbeats 1600000 in
theorem rmay1 (b : Nat) (ao : Option Addr) (n cap : Nat) (l a b' : Int) (an ap : Option Addr) (nn np cn cp : Nat) (w : World) (_hc : w.cell? ⟨b, 0, none⟩ = some (.slice ao n cap)) (c : Bool) (hS : ∀ W, Below w.heap.size w W → Calls Tryz.prog 114 #[.agg #[.int .i64 1, .int .i64 0, .int .i64 0, .int .i64 0, .slice none 0 0, .slice none 0 0], .agg #[.int .i64 1, .int .i64 l, .int .i64 a, .int .i64 b', .slice an nn cn, .slice ap np cp]] W fun e w' => e = .returned (.bool c) ∧ Below W.heap.size W w') :
    Calls Tryz.prog 83 #[.pointer (some ⟨b, 0, none⟩), .agg #[.int .i64 1, .int .i64 l, .int .i64 a, .int .i64 b', .slice an nn cn, .slice ap np cp]] w fun r w' => r = .returned (.bool (true && c)) ∧ Below w.heap.size w w' := by
  have HS : Hid _ := hS
  clear hS
  go_enter Tryz.func83, Tryz.ntmps83
  go_wp2_with ((go_at_call 114; refine (HS.out _ (by repeat (first | exact Below.refl _ _ | assumption | refine Below.drew ?_ | refine Below.setCell ?_ (by simp) _ | refine Below.alloc ?_ (by simp) _))).mono ?_; rintro r w6 ⟨rfl, hb6⟩; have hB6 : Below w.heap.size w w6 := Below.trans (by repeat (first | exact Below.refl _ _ | assumption | refine Below.drew ?_ | refine Below.setCell ?_ (by simp) _ | refine Below.alloc ?_ (by simp) _)) (hb6.mono (by first | omega | (simp; omega)))))
  all_goals (go_ret; refine ⟨?_, (by repeat (first | exact Below.refl _ _ | assumption | refine Below.drew ?_ | refine Below.setCell ?_ (by simp) _ | refine Below.alloc ?_ (by simp) _))⟩; first | (simp [*]; done) | (simp [*]; omega))
set_option maxRecDepth 100000 in
set_option maxHeartbeats 1600000 in
theorem rmay2 (b : Nat) (ao : Option Addr) (n cap : Nat) (l a b' : Int) (an ap : Option Addr) (nn np cn cp : Nat) (w : World) (hc : w.cell? ⟨b, 0, none⟩ = some (.slice ao n cap)) (c : Bool) (hS : ∀ W, Below w.heap.size w W → Calls Tryz.prog 114 #[.agg #[.int .i64 2, .int .i64 l, .int .i64 a, .int .i64 0, .slice none 0 0, .slice none 0 0], .agg #[.int .i64 2, .int .i64 l, .int .i64 a, .int .i64 b', .slice an nn cn, .slice ap np cp]] W fun e w' => e = .returned (.bool c) ∧ Below W.heap.size W w') :
    Calls Tryz.prog 83 #[.pointer (some ⟨b, 0, none⟩), .agg #[.int .i64 2, .int .i64 l, .int .i64 a, .int .i64 b', .slice an nn cn, .slice ap np cp]] w fun r w' => r = .returned (.bool ((decide (0 ≤ l) && (decide (l < 201) && Tm.has n a)) && c)) ∧ Below w.heap.size w w' := by
  have HS : Hid _ := hS
  clear hS
  go_enter Tryz.func83, Tryz.ntmps83
  go_wp2_with (first | (go_at_call 114; refine (HS.out _ (by repeat (first | exact Below.refl _ _ | assumption | refine Below.drew ?_ | refine Below.setCell ?_ (by simp) _ | refine Below.alloc ?_ (by simp) _))).mono ?_; rintro r w6 ⟨rfl, hb6⟩; have hB6 : Below w.heap.size w w6 := Below.trans (by repeat (first | exact Below.refl _ _ | assumption | refine Below.drew ?_ | refine Below.setCell ?_ (by simp) _ | refine Below.alloc ?_ (by simp) _)) (hb6.mono (by first | omega | (simp; omega)))) | (go_at_call 32; refine (rhas_any b ao n cap _ _ (cell_up hc (by repeat (first | exact Below.refl _ _ | assumption | refine Below.drew ?_ | refine Below.setCell ?_ (by simp) _ | refine Below.alloc ?_ (by simp) _)))).mono ?_; rintro r w' ⟨rfl, hw⟩; obtain rfl := hw.symm))
  go_region
  all_goals go_wp2_with (first | (go_at_call 114; refine (HS.out _ (by repeat (first | exact Below.refl _ _ | assumption | refine Below.drew ?_ | refine Below.setCell ?_ (by simp) _ | refine Below.alloc ?_ (by simp) _))).mono ?_; rintro r w6 ⟨rfl, hb6⟩; have hB6 : Below w.heap.size w w6 := Below.trans (by repeat (first | exact Below.refl _ _ | assumption | refine Below.drew ?_ | refine Below.setCell ?_ (by simp) _ | refine Below.alloc ?_ (by simp) _)) (hb6.mono (by first | omega | (simp; omega)))) | (go_at_call 32; refine (rhas_any b ao n cap _ _ (cell_up hc (by repeat (first | exact Below.refl _ _ | assumption | refine Below.drew ?_ | refine Below.setCell ?_ (by simp) _ | refine Below.alloc ?_ (by simp) _)))).mono ?_; rintro r w' ⟨rfl, hw⟩; obtain rfl := hw.symm))
  all_goals (go_ret; refine ⟨?_, (by repeat (first | exact Below.refl _ _ | assumption | refine Below.drew ?_ | refine Below.setCell ?_ (by simp) _ | refine Below.alloc ?_ (by simp) _))⟩; first | (simp [*]; done) | (simp [*]; omega))
set_option maxRecDepth 100000 in
set_option maxHeartbeats 1600000 in
theorem rmay3 (b : Nat) (ao : Option Addr) (n cap : Nat) (l a b' : Int) (an ap : Option Addr) (nn np cn cp : Nat) (w : World) (hc : w.cell? ⟨b, 0, none⟩ = some (.slice ao n cap)) (c : Bool) (hS : ∀ W, Below w.heap.size w W → Calls Tryz.prog 114 #[.agg #[.int .i64 3, .int .i64 0, .int .i64 a, .int .i64 b', .slice none 0 0, .slice none 0 0], .agg #[.int .i64 3, .int .i64 l, .int .i64 a, .int .i64 b', .slice an nn cn, .slice ap np cp]] W fun e w' => e = .returned (.bool c) ∧ Below W.heap.size W w') :
    Calls Tryz.prog 83 #[.pointer (some ⟨b, 0, none⟩), .agg #[.int .i64 3, .int .i64 l, .int .i64 a, .int .i64 b', .slice an nn cn, .slice ap np cp]] w fun r w' => r = .returned (.bool ((Tm.has n a && Tm.has n b') && c)) ∧ Below w.heap.size w w' := by
  have HS : Hid _ := hS
  clear hS
  go_enter Tryz.func83, Tryz.ntmps83
  go_wp2_with (first | (go_at_call 114; refine (HS.out _ (by repeat (first | exact Below.refl _ _ | assumption | refine Below.drew ?_ | refine Below.setCell ?_ (by simp) _ | refine Below.alloc ?_ (by simp) _))).mono ?_; rintro r w6 ⟨rfl, hb6⟩; have hB6 : Below w.heap.size w w6 := Below.trans (by repeat (first | exact Below.refl _ _ | assumption | refine Below.drew ?_ | refine Below.setCell ?_ (by simp) _ | refine Below.alloc ?_ (by simp) _)) (hb6.mono (by first | omega | (simp; omega)))) | (go_at_call 32; refine (rhas_any b ao n cap _ _ (cell_up hc (by repeat (first | exact Below.refl _ _ | assumption | refine Below.drew ?_ | refine Below.setCell ?_ (by simp) _ | refine Below.alloc ?_ (by simp) _)))).mono ?_; rintro r w' ⟨rfl, hw⟩; obtain rfl := hw.symm))
  go_region
  all_goals go_wp2_with (first | (go_at_call 114; refine (HS.out _ (by repeat (first | exact Below.refl _ _ | assumption | refine Below.drew ?_ | refine Below.setCell ?_ (by simp) _ | refine Below.alloc ?_ (by simp) _))).mono ?_; rintro r w6 ⟨rfl, hb6⟩; have hB6 : Below w.heap.size w w6 := Below.trans (by repeat (first | exact Below.refl _ _ | assumption | refine Below.drew ?_ | refine Below.setCell ?_ (by simp) _ | refine Below.alloc ?_ (by simp) _)) (hb6.mono (by first | omega | (simp; omega)))) | (go_at_call 32; refine (rhas_any b ao n cap _ _ (cell_up hc (by repeat (first | exact Below.refl _ _ | assumption | refine Below.drew ?_ | refine Below.setCell ?_ (by simp) _ | refine Below.alloc ?_ (by simp) _)))).mono ?_; rintro r w' ⟨rfl, hw⟩; obtain rfl := hw.symm))
  all_goals (go_ret; refine ⟨?_, (by repeat (first | exact Below.refl _ _ | assumption | refine Below.drew ?_ | refine Below.setCell ?_ (by simp) _ | refine Below.alloc ?_ (by simp) _))⟩; first | (simp [*]; done) | (simp [*]; omega))
set_option maxRecDepth 100000 in
set_option maxHeartbeats 1600000 in
theorem rmay4 (b : Nat) (ao : Option Addr) (n cap : Nat) (l a b' : Int) (an ap : Option Addr) (nn np cn cp : Nat) (w : World) (hc : w.cell? ⟨b, 0, none⟩ = some (.slice ao n cap)) (c : Bool) (hS : ∀ W, Below w.heap.size w W → Calls Tryz.prog 114 #[.agg #[.int .i64 4, .int .i64 0, .int .i64 a, .int .i64 b', .slice none 0 0, .slice none 0 0], .agg #[.int .i64 4, .int .i64 l, .int .i64 a, .int .i64 b', .slice an nn cn, .slice ap np cp]] W fun e w' => e = .returned (.bool c) ∧ Below W.heap.size W w') :
    Calls Tryz.prog 83 #[.pointer (some ⟨b, 0, none⟩), .agg #[.int .i64 4, .int .i64 l, .int .i64 a, .int .i64 b', .slice an nn cn, .slice ap np cp]] w fun r w' => r = .returned (.bool ((Tm.has n a && Tm.has n b') && c)) ∧ Below w.heap.size w w' := by
  have HS : Hid _ := hS
  clear hS
  go_enter Tryz.func83, Tryz.ntmps83
  go_wp2_with (first | (go_at_call 114; refine (HS.out _ (by repeat (first | exact Below.refl _ _ | assumption | refine Below.drew ?_ | refine Below.setCell ?_ (by simp) _ | refine Below.alloc ?_ (by simp) _))).mono ?_; rintro r w6 ⟨rfl, hb6⟩; have hB6 : Below w.heap.size w w6 := Below.trans (by repeat (first | exact Below.refl _ _ | assumption | refine Below.drew ?_ | refine Below.setCell ?_ (by simp) _ | refine Below.alloc ?_ (by simp) _)) (hb6.mono (by first | omega | (simp; omega)))) | (go_at_call 32; refine (rhas_any b ao n cap _ _ (cell_up hc (by repeat (first | exact Below.refl _ _ | assumption | refine Below.drew ?_ | refine Below.setCell ?_ (by simp) _ | refine Below.alloc ?_ (by simp) _)))).mono ?_; rintro r w' ⟨rfl, hw⟩; obtain rfl := hw.symm))
  go_region
  all_goals go_wp2_with (first | (go_at_call 114; refine (HS.out _ (by repeat (first | exact Below.refl _ _ | assumption | refine Below.drew ?_ | refine Below.setCell ?_ (by simp) _ | refine Below.alloc ?_ (by simp) _))).mono ?_; rintro r w6 ⟨rfl, hb6⟩; have hB6 : Below w.heap.size w w6 := Below.trans (by repeat (first | exact Below.refl _ _ | assumption | refine Below.drew ?_ | refine Below.setCell ?_ (by simp) _ | refine Below.alloc ?_ (by simp) _)) (hb6.mono (by first | omega | (simp; omega)))) | (go_at_call 32; refine (rhas_any b ao n cap _ _ (cell_up hc (by repeat (first | exact Below.refl _ _ | assumption | refine Below.drew ?_ | refine Below.setCell ?_ (by simp) _ | refine Below.alloc ?_ (by simp) _)))).mono ?_; rintro r w' ⟨rfl, hw⟩; obtain rfl := hw.symm))
  all_goals (go_ret; refine ⟨?_, (by repeat (first | exact Below.refl _ _ | assumption | refine Below.drew ?_ | refine Below.setCell ?_ (by simp) _ | refine Below.alloc ?_ (by simp) _))⟩; first | (simp [*]; done) | (simp [*]; omega))
set_option maxRecDepth 100000 in
set_option maxHeartbeats 1600000 in
theorem rmay5 (b : Nat) (ao : Option Addr) (n cap : Nat) (l a b' : Int) (an ap : Option Addr) (nn np cn cp : Nat) (w : World) (hc : w.cell? ⟨b, 0, none⟩ = some (.slice ao n cap)) (c : Bool) (d : Bool) (hR : ∀ W, Below w.heap.size w W → Calls Tryz.prog 112 #[.slice an nn cn] W fun e w' => e = .returned (.bool d) ∧ Below W.heap.size W w') (hS : ∀ W, Below w.heap.size w W → Calls Tryz.prog 114 #[.agg #[.int .i64 5, .int .i64 0, .int .i64 a, .int .i64 0, .slice an nn cn, .slice none 0 0], .agg #[.int .i64 5, .int .i64 l, .int .i64 a, .int .i64 b', .slice an nn cn, .slice ap np cp]] W fun e w' => e = .returned (.bool c) ∧ Below W.heap.size W w') :
    Calls Tryz.prog 83 #[.pointer (some ⟨b, 0, none⟩), .agg #[.int .i64 5, .int .i64 l, .int .i64 a, .int .i64 b', .slice an nn cn, .slice ap np cp]] w fun r w' => r = .returned (.bool ((Tm.has n a && d) && c)) ∧ Below w.heap.size w w' := by
  have HS : Hid _ := hS
  clear hS
  have HR : Hid _ := hR
  clear hR
  go_enter Tryz.func83, Tryz.ntmps83
  go_wp2_with (first | (go_at_call 114; refine (HS.out _ (by repeat (first | exact Below.refl _ _ | assumption | refine Below.drew ?_ | refine Below.setCell ?_ (by simp) _ | refine Below.alloc ?_ (by simp) _))).mono ?_; rintro r w6 ⟨rfl, hb6⟩; have hB6 : Below w.heap.size w w6 := Below.trans (by repeat (first | exact Below.refl _ _ | assumption | refine Below.drew ?_ | refine Below.setCell ?_ (by simp) _ | refine Below.alloc ?_ (by simp) _)) (hb6.mono (by first | omega | (simp; omega)))) | (go_at_call 32; refine (rhas_any b ao n cap _ _ (cell_up hc (by repeat (first | exact Below.refl _ _ | assumption | refine Below.drew ?_ | refine Below.setCell ?_ (by simp) _ | refine Below.alloc ?_ (by simp) _)))).mono ?_; rintro r w' ⟨rfl, hw⟩; obtain rfl := hw.symm) | (go_at_call 112; refine (HR.out _ (by repeat (first | exact Below.refl _ _ | assumption | refine Below.drew ?_ | refine Below.setCell ?_ (by simp) _ | refine Below.alloc ?_ (by simp) _))).mono ?_; rintro r w5 ⟨rfl, hb5⟩; obtain ⟨hc5, hf5⟩ := bcell hb5; have hz5 : w.heap.size + 1 < w5.heap.size := (by have := hb5.size; simp at this; omega); have hB5 : Below w.heap.size w w5 := Below.trans (by repeat (first | exact Below.refl _ _ | assumption | refine Below.drew ?_ | refine Below.setCell ?_ (by simp) _ | refine Below.alloc ?_ (by simp) _)) (hb5.mono (by simp; omega))))
  go_region
  all_goals go_wp2_with (first | (go_at_call 114; refine (HS.out _ (by repeat (first | exact Below.refl _ _ | assumption | refine Below.drew ?_ | refine Below.setCell ?_ (by simp) _ | refine Below.alloc ?_ (by simp) _))).mono ?_; rintro r w6 ⟨rfl, hb6⟩; have hB6 : Below w.heap.size w w6 := Below.trans (by repeat (first | exact Below.refl _ _ | assumption | refine Below.drew ?_ | refine Below.setCell ?_ (by simp) _ | refine Below.alloc ?_ (by simp) _)) (hb6.mono (by first | omega | (simp; omega)))) | (go_at_call 32; refine (rhas_any b ao n cap _ _ (cell_up hc (by repeat (first | exact Below.refl _ _ | assumption | refine Below.drew ?_ | refine Below.setCell ?_ (by simp) _ | refine Below.alloc ?_ (by simp) _)))).mono ?_; rintro r w' ⟨rfl, hw⟩; obtain rfl := hw.symm) | (go_at_call 112; refine (HR.out _ (by repeat (first | exact Below.refl _ _ | assumption | refine Below.drew ?_ | refine Below.setCell ?_ (by simp) _ | refine Below.alloc ?_ (by simp) _))).mono ?_; rintro r w5 ⟨rfl, hb5⟩; obtain ⟨hc5, hf5⟩ := bcell hb5; have hz5 : w.heap.size + 1 < w5.heap.size := (by have := hb5.size; simp at this; omega); have hB5 : Below w.heap.size w w5 := Below.trans (by repeat (first | exact Below.refl _ _ | assumption | refine Below.drew ?_ | refine Below.setCell ?_ (by simp) _ | refine Below.alloc ?_ (by simp) _)) (hb5.mono (by simp; omega))))
  all_goals (go_ret; refine ⟨?_, (by repeat (first | exact Below.refl _ _ | assumption | refine Below.drew ?_ | refine Below.setCell ?_ (by simp) _ | refine Below.alloc ?_ (by simp) _))⟩; first | (simp [*]; done) | (simp [*]; omega))
set_option maxRecDepth 100000 in
set_option maxHeartbeats 1600000 in
theorem rmay6 (b : Nat) (ao : Option Addr) (n cap : Nat) (l a b' : Int) (an ap : Option Addr) (nn np cn cp : Nat) (w : World) (hc : w.cell? ⟨b, 0, none⟩ = some (.slice ao n cap)) (c : Bool) (d : Bool) (hR : ∀ W, Below w.heap.size w W → Calls Tryz.prog 113 #[.slice ap np cp] W fun e w' => e = .returned (.bool d) ∧ Below W.heap.size W w') (hS : ∀ W, Below w.heap.size w W → Calls Tryz.prog 114 #[.agg #[.int .i64 6, .int .i64 0, .int .i64 a, .int .i64 0, .slice none 0 0, .slice ap np cp], .agg #[.int .i64 6, .int .i64 l, .int .i64 a, .int .i64 b', .slice an nn cn, .slice ap np cp]] W fun e w' => e = .returned (.bool c) ∧ Below W.heap.size W w') :
    Calls Tryz.prog 83 #[.pointer (some ⟨b, 0, none⟩), .agg #[.int .i64 6, .int .i64 l, .int .i64 a, .int .i64 b', .slice an nn cn, .slice ap np cp]] w fun r w' => r = .returned (.bool ((Tm.has n a && d) && c)) ∧ Below w.heap.size w w' := by
  have HS : Hid _ := hS
  clear hS
  have HR : Hid _ := hR
  clear hR
  go_enter Tryz.func83, Tryz.ntmps83
  go_wp2_with (first | (go_at_call 114; refine (HS.out _ (by repeat (first | exact Below.refl _ _ | assumption | refine Below.drew ?_ | refine Below.setCell ?_ (by simp) _ | refine Below.alloc ?_ (by simp) _))).mono ?_; rintro r w6 ⟨rfl, hb6⟩; have hB6 : Below w.heap.size w w6 := Below.trans (by repeat (first | exact Below.refl _ _ | assumption | refine Below.drew ?_ | refine Below.setCell ?_ (by simp) _ | refine Below.alloc ?_ (by simp) _)) (hb6.mono (by first | omega | (simp; omega)))) | (go_at_call 32; refine (rhas_any b ao n cap _ _ (cell_up hc (by repeat (first | exact Below.refl _ _ | assumption | refine Below.drew ?_ | refine Below.setCell ?_ (by simp) _ | refine Below.alloc ?_ (by simp) _)))).mono ?_; rintro r w' ⟨rfl, hw⟩; obtain rfl := hw.symm) | (go_at_call 113; refine (HR.out _ (by repeat (first | exact Below.refl _ _ | assumption | refine Below.drew ?_ | refine Below.setCell ?_ (by simp) _ | refine Below.alloc ?_ (by simp) _))).mono ?_; rintro r w5 ⟨rfl, hb5⟩; obtain ⟨hc5, hf5⟩ := bcell hb5; have hz5 : w.heap.size + 1 < w5.heap.size := (by have := hb5.size; simp at this; omega); have hB5 : Below w.heap.size w w5 := Below.trans (by repeat (first | exact Below.refl _ _ | assumption | refine Below.drew ?_ | refine Below.setCell ?_ (by simp) _ | refine Below.alloc ?_ (by simp) _)) (hb5.mono (by simp; omega))))
  go_region
  all_goals go_wp2_with (first | (go_at_call 114; refine (HS.out _ (by repeat (first | exact Below.refl _ _ | assumption | refine Below.drew ?_ | refine Below.setCell ?_ (by simp) _ | refine Below.alloc ?_ (by simp) _))).mono ?_; rintro r w6 ⟨rfl, hb6⟩; have hB6 : Below w.heap.size w w6 := Below.trans (by repeat (first | exact Below.refl _ _ | assumption | refine Below.drew ?_ | refine Below.setCell ?_ (by simp) _ | refine Below.alloc ?_ (by simp) _)) (hb6.mono (by first | omega | (simp; omega)))) | (go_at_call 32; refine (rhas_any b ao n cap _ _ (cell_up hc (by repeat (first | exact Below.refl _ _ | assumption | refine Below.drew ?_ | refine Below.setCell ?_ (by simp) _ | refine Below.alloc ?_ (by simp) _)))).mono ?_; rintro r w' ⟨rfl, hw⟩; obtain rfl := hw.symm) | (go_at_call 113; refine (HR.out _ (by repeat (first | exact Below.refl _ _ | assumption | refine Below.drew ?_ | refine Below.setCell ?_ (by simp) _ | refine Below.alloc ?_ (by simp) _))).mono ?_; rintro r w5 ⟨rfl, hb5⟩; obtain ⟨hc5, hf5⟩ := bcell hb5; have hz5 : w.heap.size + 1 < w5.heap.size := (by have := hb5.size; simp at this; omega); have hB5 : Below w.heap.size w w5 := Below.trans (by repeat (first | exact Below.refl _ _ | assumption | refine Below.drew ?_ | refine Below.setCell ?_ (by simp) _ | refine Below.alloc ?_ (by simp) _)) (hb5.mono (by simp; omega))))
  all_goals (go_ret; refine ⟨?_, (by repeat (first | exact Below.refl _ _ | assumption | refine Below.drew ?_ | refine Below.setCell ?_ (by simp) _ | refine Below.alloc ?_ (by simp) _))⟩; first | (simp [*]; done) | (simp [*]; omega))
set_option maxRecDepth 100000 in
set_option maxHeartbeats 1600000 in
theorem rmay7 (b : Nat) (ao : Option Addr) (n cap : Nat) (l a b' : Int) (an ap : Option Addr) (nn np cn cp : Nat) (w : World) (_hc : w.cell? ⟨b, 0, none⟩ = some (.slice ao n cap)) (c : Bool) (hS : ∀ W, Below w.heap.size w W → Calls Tryz.prog 114 #[.agg #[.int .i64 7, .int .i64 0, .int .i64 a, .int .i64 0, .slice none 0 0, .slice none 0 0], .agg #[.int .i64 7, .int .i64 l, .int .i64 a, .int .i64 b', .slice an nn cn, .slice ap np cp]] W fun e w' => e = .returned (.bool c) ∧ Below W.heap.size W w') :
    Calls Tryz.prog 83 #[.pointer (some ⟨b, 0, none⟩), .agg #[.int .i64 7, .int .i64 l, .int .i64 a, .int .i64 b', .slice an nn cn, .slice ap np cp]] w fun r w' => r = .returned (.bool ((decide (0 ≤ a) && decide (a < 200)) && c)) ∧ Below w.heap.size w w' := by
  have HS : Hid _ := hS
  clear hS
  go_enter Tryz.func83, Tryz.ntmps83
  go_wp2_with ((go_at_call 114; refine (HS.out _ (by repeat (first | exact Below.refl _ _ | assumption | refine Below.drew ?_ | refine Below.setCell ?_ (by simp) _ | refine Below.alloc ?_ (by simp) _))).mono ?_; rintro r w6 ⟨rfl, hb6⟩; have hB6 : Below w.heap.size w w6 := Below.trans (by repeat (first | exact Below.refl _ _ | assumption | refine Below.drew ?_ | refine Below.setCell ?_ (by simp) _ | refine Below.alloc ?_ (by simp) _)) (hb6.mono (by first | omega | (simp; omega)))))
  all_goals (go_ret; refine ⟨?_, (by repeat (first | exact Below.refl _ _ | assumption | refine Below.drew ?_ | refine Below.setCell ?_ (by simp) _ | refine Below.alloc ?_ (by simp) _))⟩; first | (simp [*]; done) | (simp [*]; omega))
set_option maxRecDepth 100000 in
set_option maxHeartbeats 1600000 in
theorem rmay0 (b : Nat) (k : Int) (l a b' : Int) (an ap : Option Addr) (nn np cn cp : Nat) (w : World) (h1 : (k == 1) = false) (h2 : (k == 2) = false) (h3 : (k == 3) = false) (h4 : (k == 4) = false) (h5 : (k == 5) = false) (h6 : (k == 6) = false) (h7 : (k == 7) = false) :
    Calls Tryz.prog 83 #[.pointer (some ⟨b, 0, none⟩), .agg #[.int .i64 k, .int .i64 l, .int .i64 a, .int .i64 b', .slice an nn cn, .slice ap np cp]] w fun r w' => r = .returned (.bool false) ∧ Below w.heap.size w w' := by
  go_enter Tryz.func83, Tryz.ntmps83
  go_wp2_with fail
  go_ret
  exact ⟨rfl, (by repeat (first | exact Below.refl _ _ | assumption | refine Below.drew ?_ | refine Below.setCell ?_ (by simp) _ | refine Below.alloc ?_ (by simp) _))⟩
theorem hasI_nil (w : World) : HasI w (.slice none 0 0) [] := ⟨none, 0, rfl, fun i z h => by simp at h⟩
theorem hasP_nil (w : World) : HasP w (.slice none 0 0) [] := ⟨none, 0, rfl, fun i z h => by simp at h⟩
theorem nil_beq {α : Type} (l : List α) : l.isEmpty = (l.length == 0) := by cases l <;> rfl
theorem zero_beq (z : Int) : ((0 : Int) == z) = (z == 0) := by rw [Bool.eq_iff_iff]; simp; exact eq_comm
theorem rmay_any (b : Nat) (ao : Option Addr) (n cap : Nat) (t : Tm) (vn vp : Value) (w : World) (hc : w.cell? ⟨b, 0, none⟩ = some (.slice ao n cap)) (hn : HasI w vn t.names) (hp : HasP w vp t.pairs) (ln : t.names.length ≤ 1000000000000000) (lp : t.pairs.length ≤ 1000000000000000) :
    Calls Tryz.prog 83 #[.pointer (some ⟨b, 0, none⟩), tmV t vn vp] w fun r w' => r = .returned (.bool (t.may n)) ∧ Below w.heap.size w w' := by
  have hR : ∀ W, Below w.heap.size w W → Calls Tryz.prog 112 #[vn] W fun e w' => e = .returned (.bool (Ac.rising (-1) t.names)) ∧ Below W.heap.size W w' := fun W hW => refRising_any vn t.names W (hn.below hW) ln
  have hP : ∀ W, Below w.heap.size w W → Calls Tryz.prog 113 #[vp] W fun e w' => e = .returned (.bool (Ac.pairs (-1) t.pairs)) ∧ Below W.heap.size W w' := fun W hW => refPairs_any vp t.pairs W (hp.below hW) lp
  have hS : ∀ (x : Tm) (xn xp : Value), (x.names = [] ∧ xn = .slice none 0 0 ∨ x.names = t.names ∧ xn = vn) → (x.pairs = [] ∧ xp = .slice none 0 0 ∨ x.pairs = t.pairs ∧ xp = vp) → ∀ W, Below w.heap.size w W → Calls Tryz.prog 114 #[tmV x xn xp, tmV t vn vp] W fun e w' => e = .returned (.bool (Tm.same x t)) ∧ Below W.heap.size W w' := fun x xn xp h1 h2 W hW => by
    have g1 : HasI W xn x.names ∧ x.names.length ≤ 1000000000000000 := by
      rcases h1 with ⟨e1, e2⟩ | ⟨e1, e2⟩
      · rw [e1, e2]; exact ⟨hasI_nil W, by simp⟩
      · rw [e1, e2]; exact ⟨hn.below hW, ln⟩
    have g2 : HasP W xp x.pairs ∧ x.pairs.length ≤ 1000000000000000 := by
      rcases h2 with ⟨e1, e2⟩ | ⟨e1, e2⟩
      · rw [e1, e2]; exact ⟨hasP_nil W, by simp⟩
      · rw [e1, e2]; exact ⟨hp.below hW, lp⟩
    exact rsame_any x t xn xp vn vp W g1.1 g2.1 (hn.below hW) (hp.below hW) g1.2 g2.2 ln lp
  obtain ⟨an, cn, rfl, _⟩ := hn
  obtain ⟨ap, cp, rfl, _⟩ := hp
  obtain ⟨k, l, a, b', names, pairs⟩ := t
  simp only at hR hP hS ⊢
  unfold tmV at hS ⊢
  simp only at hS ⊢
  by_cases h1 : k = 1
  · subst h1
    refine (rmay1 b ao n cap l a b' an ap _ _ cn cp w hc _ (hS ⟨1, 0, 0, 0, [], []⟩ _ _ (.inl ⟨rfl, rfl⟩) (.inl ⟨rfl, rfl⟩))).mono ?_
    rintro r w' ⟨rfl, hb⟩
    exact ⟨by simp [Tm.may, Tm.right, Tm.rest, Tm.same, Bool.and_assoc, nil_beq, zero_beq], hb⟩
  by_cases h2 : k = 2
  · subst h2
    refine (rmay2 b ao n cap l a b' an ap _ _ cn cp w hc _ (hS ⟨2, l, a, 0, [], []⟩ _ _ (.inl ⟨rfl, rfl⟩) (.inl ⟨rfl, rfl⟩))).mono ?_
    rintro r w' ⟨rfl, hb⟩
    exact ⟨by simp [Tm.may, Tm.right, Tm.rest, Tm.same, Bool.and_assoc, nil_beq, zero_beq], hb⟩
  by_cases h3 : k = 3
  · subst h3
    refine (rmay3 b ao n cap l a b' an ap _ _ cn cp w hc _ (hS ⟨3, 0, a, b', [], []⟩ _ _ (.inl ⟨rfl, rfl⟩) (.inl ⟨rfl, rfl⟩))).mono ?_
    rintro r w' ⟨rfl, hb⟩
    exact ⟨by simp [Tm.may, Tm.right, Tm.rest, Tm.same, Bool.and_assoc, nil_beq, zero_beq], hb⟩
  by_cases h4 : k = 4
  · subst h4
    refine (rmay4 b ao n cap l a b' an ap _ _ cn cp w hc _ (hS ⟨4, 0, a, b', [], []⟩ _ _ (.inl ⟨rfl, rfl⟩) (.inl ⟨rfl, rfl⟩))).mono ?_
    rintro r w' ⟨rfl, hb⟩
    exact ⟨by simp [Tm.may, Tm.right, Tm.rest, Tm.same, Bool.and_assoc, nil_beq, zero_beq], hb⟩
  by_cases h5 : k = 5
  · subst h5
    refine (rmay5 b ao n cap l a b' an ap _ _ cn cp w hc _ _ hR (hS ⟨5, 0, a, 0, names, []⟩ _ _ (.inr ⟨rfl, rfl⟩) (.inl ⟨rfl, rfl⟩))).mono ?_
    rintro r w' ⟨rfl, hb⟩
    exact ⟨by simp [Tm.may, Tm.right, Tm.rest, Tm.same, Bool.and_assoc, nil_beq, zero_beq], hb⟩
  by_cases h6 : k = 6
  · subst h6
    refine (rmay6 b ao n cap l a b' an ap _ _ cn cp w hc _ _ hP (hS ⟨6, 0, a, 0, [], pairs⟩ _ _ (.inl ⟨rfl, rfl⟩) (.inr ⟨rfl, rfl⟩))).mono ?_
    rintro r w' ⟨rfl, hb⟩
    exact ⟨by simp [Tm.may, Tm.right, Tm.rest, Tm.same, Bool.and_assoc, nil_beq, zero_beq], hb⟩
  by_cases h7 : k = 7
  · subst h7
    refine (rmay7 b ao n cap l a b' an ap _ _ cn cp w hc _ (hS ⟨7, 0, a, 0, [], []⟩ _ _ (.inl ⟨rfl, rfl⟩) (.inl ⟨rfl, rfl⟩))).mono ?_
    rintro r w' ⟨rfl, hb⟩
    exact ⟨by simp [Tm.may, Tm.right, Tm.rest, Tm.same, Bool.and_assoc, nil_beq, zero_beq], hb⟩
  refine (rmay0 b k l a b' an ap _ _ cn cp w (by simpa using h1) (by simpa using h2) (by simpa using h3) (by simpa using h4) (by simpa using h5) (by simpa using h6) (by simpa using h7)).mono ?_
  rintro r w' ⟨rfl, hb⟩
  exact ⟨by simp [Tm.may, Tm.right, *], hb⟩
end Go.Proofs.YthnenpncajpibaaGreatDoor
/- 'append(nil, x...)' of any list, nil too: a row of one's own. (A law of my own, over the library's own laws on append.) -/
namespace Go.Proofs.YthnenpncajpibaaGreatDoor
open Go.RowKit
theorem run_copy_at {P : Program} (w : World) (base : Nat) (t ty e : TypeId) (i : TypeInfo) (z : Value) (size bytes : Nat) (ht : P.underlying t = some (.slice e)) (hi : P.info? e = some i) (hz : i.zero = some z)
    (hsize : i.size = size) (hby : i.bytes = bytes) (hzs : z.cells.size = size) (hsz : 0 < size) (ao : Option Addr) (m c : Nat) (news : List Value) (hao : ao = none → m = 0) (hl : news.length = m * size)
    (hnews : ∀ ad, ao = some ad → ∀ j u, news[j]? = some u → w.cell? (ad.add j) = some u) (h1 : ∀ u ∈ news, u.oneCell' = true) (h63 : m ≤ maxLen) (hbytes : m * bytes ≤ 140737488355328) (hbase : base ≤ w.heap.size) :
    ∃ v' w', (Builtin.append_ #[t, t] ty #[.slice none 0 0, .slice ao m c]).run P w = .ok v' w' ∧ w'.ownsRow base e size v' m news ∧ w.grownBy w' (Value.slice none 0 0).ownBlock ∧ (v'.ownBlock = none ∨ v'.ownBlock = some w.heap.size) := by
  cases ao with
  | none =>
    obtain rfl := hao rfl
    obtain rfl : news = [] := List.eq_nil_of_length_eq_zero (by simpa using hl)
    refine ⟨.slice none 0 0, w, ?_, World.ownsRow_nil w base e size, ⟨rfl, rfl, rfl, Nat.le_refl _, fun _ _ _ => rfl⟩, Or.inl rfl⟩
    simp [Builtin.append_, run_underlying ht, sizeOf, typeInfo, hi, Builtin.lenOf, Builtin.firstCells]
  | some ad =>
    obtain ⟨v', w', hr, h2, h3, h4, h5⟩ := run_append_own_at (P := P) w base t ty e i z size bytes ht hi hz hsize hby hzs hsz (.slice none 0 0) 0 [] (World.ownsRow_nil _ _ _ _) ad m c news hl (hnews ad rfl) h1 (by simpa using h63) (by simpa using hbytes) hbase
    refine ⟨v', w', hr, by simpa using h2, h3, h5⟩
theorem wpList_copy_at {P : Program} (w : World) {ops : Array Oper} {rest : List Oper} {o : Oper} {a : Act} {Q : Exit → Act → World → Prop} (hgd : o.guard = none) (s x : Operand) (t : TypeId)
    (ho : o.op = .call { callee := .builtin .append, args := #[s, x], argTypes := #[t, t] })
    (base : Nat) (e : TypeId) (i : TypeInfo) (z : Value) (size bytes : Nat) (ht : P.underlying t = some (.slice e)) (hi : P.info? e = some i) (hz : i.zero = some z)
    (hsize : i.size = size) (hby : i.bytes = bytes) (hzs : z.cells.size = size) (hsz : 0 < size) (hs : a.eval s = .slice none 0 0)
    (ao : Option Addr) (m c : Nat) (news : List Value) (hx : a.eval x = .slice ao m c) (hao : ao = none → m = 0) (hl : news.length = m * size) (hnews : ∀ ad, ao = some ad → ∀ j u, news[j]? = some u → w.cell? (ad.add j) = some u) (h1 : ∀ u ∈ news, u.oneCell' = true)
    (h63 : m ≤ maxLen) (hbytes : m * bytes ≤ 140737488355328) (hbase : base ≤ w.heap.size)
    (h : ∀ v' w', w'.ownsRow base e size v' m news → w.grownBy w' (Value.slice none 0 0).ownBlock → (v'.ownBlock = none ∨ v'.ownBlock = some w.heap.size) → wpList P ops Q rest (a.put o.dst v') w') :
    wpList P ops Q (o :: rest) a w := by
  refine wpList_plain hgd fun K hK => ?_
  obtain ⟨v', w', hr, h2, h3, h4⟩ := run_copy_at (P := P) w base t o.type e i z size bytes ht hi hz hsize hby hzs hsz ao m c news hao hl hnews h1 h63 hbytes hbase
  unfold Oper.wp execOp
  simp only [ho, resolve, invoke, builtin, Sem.run_bind, Sem.run_pure, Result.andThen_ok, List.map_toArray, List.map_cons, List.map_nil, hs, hx, hr]
  exact hK _ _ (h v' w' h2 h3 h4)
end Go.Proofs.YthnenpncajpibaaGreatDoor
/- The document's store in memory: what it holds, and what of it stays. -/
namespace Go.Proofs.YthnenpncajpibaaGreatDoor
open Go.RowKit Go.Maps
namespace Tm
/-- The numbers of the terms with this sum. -/
def idx (L : List Tm) (h : Nat) : List Int := ((List.range L.length).filter fun i => (L[i]?.map Tm.hash) == some h).map fun i => ((i : Nat) : Int)
theorem idx_snoc (L : List Tm) (t : Tm) (h : Nat) : idx (L ++ [t]) h = if t.hash = h then idx L h ++ [(L.length : Int)] else idx L h := by
  unfold idx
  have e1 : (List.range L.length).filter (fun i => ((L ++ [t])[i]?.map Tm.hash) == some h) = (List.range L.length).filter (fun i => (L[i]?.map Tm.hash) == some h) :=
    List.filter_congr fun i hi => by
      have : i < L.length := List.mem_range.1 hi
      rw [List.getElem?_append_left this]
  rw [List.length_append, List.length_singleton, List.range_succ, List.filter_append, e1]
  by_cases ht : t.hash = h
  · rw [if_pos ht]; simp [ht]
  · rw [if_neg ht]; simp [ht]
theorem idx_mem {L : List Tm} {h : Nat} {z : Int} : z ∈ idx L h ↔ ∃ (i : Nat) (t : Tm), z = i ∧ L[i]? = some t ∧ t.hash = h := by
  unfold idx
  simp only [List.mem_map, List.mem_filter, List.mem_range, beq_iff_eq, Option.map_eq_some_iff]
  constructor
  · rintro ⟨i, ⟨_, t, ht, hh⟩, rfl⟩
    exact ⟨i, t, rfl, ht, hh⟩
  · rintro ⟨i, t, rfl, ht, hh⟩
    exact ⟨i, ⟨(List.getElem?_eq_some_iff.1 ht).1, t, ht, hh⟩, rfl⟩
theorem idx_len (L : List Tm) (h : Nat) : (idx L h).length ≤ L.length := by
  unfold idx
  rw [List.length_map]
  exact Nat.le_trans (List.length_filter_le _ _) (by simp)
end Tm
structure RSto (w : World) (b : Nat) (cs : Array Value) (vt : Value) (rs : Nat → Value) (L M : List Tm) (vs : List (Value × Value)) : Prop where
  cell : w.heap[b]? = some (.cells cs 32 (0, 0))
  c0 : cs[0]? = some vt
  ch : ∀ h, h < 512 → cs[h + 1]? = some (rs h)
  row : w.ownsRow 0 35 6 vt L.length (rowC L vs)
  rows : ∀ h, h < 512 → OwnI w 0 (rs h) (Tm.idx M h)
  len : vs.length = L.length
  lists : ∀ (i : Nat) (t : Tm) (v : Value × Value), L[i]? = some t → vs[i]? = some v → OwnI w 0 v.1 t.names ∧ OwnP w 0 v.2 t.pairs
  bd : ∀ t ∈ L, t.Bd
  big : L.length ≤ 100000
  ap : ∀ h h', h < 512 → h' < 512 → h ≠ h' → ∀ k, (rs h).ownBlock = some k → (rs h').ownBlock ≠ some k
  al : ∀ v ∈ vs, ∀ h, h < 512 → ∀ k, (rs h).ownBlock = some k → v.1.ownBlock ≠ some k
def RFoot (b : Nat) (vt : Value) (rs : Nat → Value) (vs : List (Value × Value)) (i : Nat) : Prop := i = b ∨ vt.ownBlock = some i ∨ (∃ h, h < 512 ∧ (rs h).ownBlock = some i) ∨ ∃ v ∈ vs, v.1.ownBlock = some i ∨ v.2.ownBlock = some i
theorem RSto.list_at {w : World} {b : Nat} {cs : Array Value} {vt : Value} {rs : Nat → Value} {L M : List Tm} {vs : List (Value × Value)} (h : RSto w b cs vt rs L M vs) {v : Value × Value} (hv : v ∈ vs) : ∃ t ∈ L, OwnI w 0 v.1 t.names ∧ OwnP w 0 v.2 t.pairs := by
  obtain ⟨i, hi, rfl⟩ := List.getElem_of_mem hv
  have hl : i < L.length := by rw [← h.len]; exact hi
  exact ⟨L[i], List.getElem_mem hl, h.lists i _ _ (List.getElem?_eq_getElem hl) (List.getElem?_eq_getElem hi)⟩
theorem RSto.foot_lt {w : World} {b : Nat} {cs : Array Value} {vt : Value} {rs : Nat → Value} {L M : List Tm} {vs : List (Value × Value)} (h : RSto w b cs vt rs L M vs) {i : Nat} (hi : RFoot b vt rs vs i) : i < w.heap.size := by
  rcases hi with rfl | hi | ⟨k, hk, hi⟩ | ⟨v, hv, hi | hi⟩
  · exact t_lt h.cell
  · exact (h.row.lt i hi).2
  · exact ((h.rows k hk).lt i hi).2
  · obtain ⟨t, _, h1, _⟩ := h.list_at hv
    exact (h1.lt i hi).2
  · obtain ⟨t, _, _, h1⟩ := h.list_at hv
    exact (h1.lt i hi).2
theorem RSto.at {w w' : World} {b : Nat} {cs : Array Value} {vt : Value} {rs : Nat → Value} {L M : List Tm} {vs : List (Value × Value)} (h : RSto w b cs vt rs L M vs) (hb : ∀ i, RFoot b vt rs vs i → w'.heap[i]? = w.heap[i]?) : RSto w' b cs vt rs L M vs :=
  ⟨by rw [hb b (.inl rfl)]; exact h.cell, h.c0, h.ch, trow_at h.row fun i hi => hb i (.inr (.inl hi)), fun k hk => trow_at (h.rows k hk) fun i hi => hb i (.inr (.inr (.inl ⟨k, hk, hi⟩))), h.len,
    fun i t v h1 h2 => ⟨trow_at (h.lists i t v h1 h2).1 fun k hk => hb k (.inr (.inr (.inr ⟨v, List.mem_of_getElem? h2, .inl hk⟩))), trow_at (h.lists i t v h1 h2).2 fun k hk => hb k (.inr (.inr (.inr ⟨v, List.mem_of_getElem? h2, .inr hk⟩)))⟩, h.bd, h.big, h.ap, h.al⟩
theorem RSto.below {w w' : World} {b : Nat} {cs : Array Value} {vt : Value} {rs : Nat → Value} {L M : List Tm} {vs : List (Value × Value)} (h : RSto w b cs vt rs L M vs) (hb : Below w.heap.size w w') : RSto w' b cs vt rs L M vs := h.at fun i hi => hb.block i (h.foot_lt hi)
theorem RSto.kept {w w' : World} {b : Nat} {cs : Array Value} {vt : Value} {rs : Nat → Value} {L M : List Tm} {vs : List (Value × Value)} {F : Nat → Prop} (h : RSto w b cs vt rs L M vs) (hk : Kept F w w') (hF : ∀ i, RFoot b vt rs vs i → ¬ F i) : RSto w' b cs vt rs L M vs := h.at fun i hi => hk.block i (h.foot_lt hi) (hF i hi)
/-- The cells of the store. -/
theorem RSto.cells {w : World} {b : Nat} {cs : Array Value} {vt : Value} {rs : Nat → Value} {L M : List Tm} {vs : List (Value × Value)} (h : RSto w b cs vt rs L M vs) : w.cell? ⟨b, 0, none⟩ = some vt ∧ (∀ k, k < 512 → w.cell? ⟨b, k + 1, none⟩ = some (rs k)) ∧ ∀ k, w.frozen? ⟨b, k, none⟩ = false :=
  ⟨by simp [World.cell?, h.cell, h.c0], fun k hk => by simp [World.cell?, h.cell, h.ch k hk], blk_free h.cell⟩
/-- A store with these terms, its blocks being those of F. -/
def RStoB (w : World) (b : Nat) (L : List Tm) (F : Nat → Prop) : Prop := ∃ cs vt rs vs, RSto w b cs vt rs L L vs ∧ F = RFoot b vt rs vs
theorem RStoB.foot_lt {w : World} {b : Nat} {L : List Tm} {F : Nat → Prop} (h : RStoB w b L F) {i : Nat} (hi : F i) : i < w.heap.size := by
  obtain ⟨cs, vt, rs, vs, hS, rfl⟩ := h
  exact hS.foot_lt hi
theorem RStoB.b {w : World} {b : Nat} {L : List Tm} {F : Nat → Prop} (h : RStoB w b L F) : F b := by
  obtain ⟨cs, vt, rs, vs, hS, rfl⟩ := h
  exact .inl rfl
theorem RStoB.kept {w w' : World} {b : Nat} {L : List Tm} {F G : Nat → Prop} (h : RStoB w b L F) (hk : Kept G w w') (hF : ∀ i, F i → ¬ G i) : RStoB w' b L F := by
  obtain ⟨cs, vt, rs, vs, hS, rfl⟩ := h
  exact ⟨cs, vt, rs, vs, hS.kept hk hF, rfl⟩
theorem RStoB.below {w w' : World} {b : Nat} {L : List Tm} {F : Nat → Prop} (h : RStoB w b L F) (hb : Below w.heap.size w w') : RStoB w' b L F := by
  obtain ⟨cs, vt, rs, vs, hS, rfl⟩ := h
  exact ⟨cs, vt, rs, vs, hS.below hb, rfl⟩
theorem RStoB.big {w : World} {b : Nat} {L : List Tm} {F : Nat → Prop} (h : RStoB w b L F) : L.length ≤ 100000 := by
  obtain ⟨cs, vt, rs, vs, hS, rfl⟩ := h
  exact hS.big
theorem RStoB.cell {w : World} {b : Nat} {L : List Tm} {F : Nat → Prop} (h : RStoB w b L F) : ∃ ao cap, w.cell? ⟨b, 0, none⟩ = some (.slice ao L.length cap) := by
  obtain ⟨cs, vt, rs, vs, hS, rfl⟩ := h
  obtain ⟨ao, cap, rfl⟩ := row_shape hS.row
  exact ⟨ao, cap, hS.cells.1⟩
theorem RStoB.bd {w : World} {b : Nat} {L : List Tm} {F : Nat → Prop} (h : RStoB w b L F) : ∀ t ∈ L, t.Bd := by
  obtain ⟨cs, vt, rs, vs, hS, rfl⟩ := h
  exact hS.bd
/-- A term of the store, as it lies in the row. -/
theorem RStoB.at {w : World} {b : Nat} {L : List Tm} {F : Nat → Prop} (h : RStoB w b L F) {i : Nat} {t : Tm} (hi : L[i]? = some t) : ∃ g cap vn vp, AtT w b g cap L.length i t vn vp := by
  obtain ⟨cs, vt, rs, vs, hS, rfl⟩ := h
  have hlt := (List.getElem?_eq_some_iff.1 hi).1
  obtain ⟨g, cap, rfl, _, _⟩ := hS.row.form (by omega)
  have hv : vs[i]? = some (vs[i]'(by rw [hS.len]; exact hlt)) := List.getElem?_eq_getElem _
  obtain ⟨l1, l2⟩ := hS.lists i t _ hi hv
  have hr := rowC_at L vs hS.len i t _ hi hv
  have hc : ∀ k, k < 6 → w.cell? ⟨g, i * 6 + k, none⟩ = (tmC t (vs[i]'(by rw [hS.len]; exact hlt)).1 (vs[i]'(by rw [hS.len]; exact hlt)).2)[k]? := fun k hk => by
    rw [hS.row.cellAt (i * 6 + k) (by omega), hr k hk]
  exact ⟨g, cap, _, _, ⟨hS.cells.1, hc 0 (by omega), hc 1 (by omega), hc 2 (by omega), hc 3 (by omega), hc 4 (by omega), hc 5 (by omega), l1.has, l2.has⟩⟩
/-- The row of a sum. -/
theorem RStoB.rowAt {w : World} {b : Nat} {L : List Tm} {F : Nat → Prop} (h : RStoB w b L F) {k : Nat} (hk : k < 512) : ∃ v, w.cell? ⟨b, k + 1, none⟩ = some v ∧ HasI w v (Tm.idx L k) := by
  obtain ⟨cs, vt, rs, vs, hS, rfl⟩ := h
  exact ⟨rs k, hS.cells.2.1 k hk, (hS.rows k hk).has⟩
set_option maxRecDepth 100000 in
theorem Tryz.zeroR : Tryz.zeroCells32 = Array.replicate 513 (.slice none 0 0) := by kernel_rfl
/-- The store that holds nothing. -/
theorem rsto_zero (w : World) : RSto (w.alloc (.cells Tryz.zeroCells32 32)) w.heap.size Tryz.zeroCells32 (.slice none 0 0) (fun _ => .slice none 0 0) [] [] [] := by
  refine ⟨(MapKept.heap_alloc w _).1, ?_, fun h hh => ?_, World.ownsRow_nil _ _ _ _, fun h hh => World.ownsRow_nil _ _ _ _, rfl, fun i t v h => by simp at h, fun t h => by simp at h, by simp, fun h h' _ _ _ k hk => (by cases hk), fun v hv => (by simp at hv)⟩
  · rw [Tryz.zeroR, Array.getElem?_replicate]; rfl
  · rw [Tryz.zeroR, Array.getElem?_replicate, if_pos (by omega)]
end Go.Proofs.YthnenpncajpibaaGreatDoor
/- Contract of the document's Find. -/
namespace Go.Proofs.YthnenpncajpibaaGreatDoor
open Go.RowKit Go.Maps
attribute [local go_sem ↓] Go.wp_at_zero Go.wp_at_succ
theorem idx_no {L : List Tm} {t : Tm} (h : ∀ z ∈ Tm.idx L t.hash, ∀ i : Nat, z = i → L[i]? ≠ some t) : t ∉ L := fun hm => by
  obtain ⟨i, hi, e⟩ := List.getElem_of_mem hm
  have e' : L[i]? = some t := by rw [List.getElem?_eq_getElem hi, e]
  exact h i (Tm.idx_mem.2 ⟨i, t, rfl, e', rfl⟩) i rfl e'
theorem mem_take_succ {α : Type} {l : List α} {j : Nat} {x y : α} (h : l[j]? = some x) (hy : y ∈ l.take (j + 1)) : y ∈ l.take j ∨ y = x := by
  rw [take_next h] at hy
  simpa using hy
set_option maxRecDepth 100000 in
set_option maxHeartbeats 1600000 in
theorem rfind_any (b : Nat) (L : List Tm) (F : Nat → Prop) (t : Tm) (vn vp : Value) (w : World) (hS : RStoB w b L F) (hn : HasI w vn t.names) (hp : HasP w vp t.pairs) (hB : t.Bd) :
    Calls Tryz.prog 84 #[.pointer (some ⟨b, 0, none⟩), tmV t vn vp] w fun r w' => ((∃ k : Nat, r = .returned (.int .i64 k) ∧ L[k]? = some t) ∨ (r = .returned (.int .i64 (-1)) ∧ t ∉ L)) ∧ Below w.heap.size w w' := by
  obtain ⟨W, hW⟩ : ∃ W, W = w.alloc (.cells #[.int .i64 t.kind, .int .i64 t.label, .int .i64 t.a, .int .i64 t.b, vn, vp] 35) := ⟨_, rfl⟩
  have hb : Below w.heap.size w W := by rw [hW]; exact (Below.refl _ _).alloc (Nat.le_refl _) _
  have hX : W.heap[w.heap.size]? = some (.cells #[.int .i64 t.kind, .int .i64 t.label, .int .i64 t.a, .int .i64 t.b, vn, vp] 35 (0, 0)) := by rw [hW]; exact (MapKept.heap_alloc w _).1
  have hSum : ∀ W', Below W.heap.size W W' → Calls Tryz.prog 85 #[tmV t vn vp] W' fun r w' => r = .returned (.int .i64 t.hash) ∧ Below W'.heap.size W' w' := fun W' hb' => rsum_any t vn vp W' ((hn.below hb).below hb') ((hp.below hb).below hb') hB
  have hSame : ∀ W', Below W.heap.size W W' → ∀ (s : Tm) (un up : Value), HasI W' un s.names → HasP W' up s.pairs → s.Bd → Calls Tryz.prog 114 #[tmV s un up, tmV t vn vp] W' fun r w' => r = .returned (.bool (Tm.same s t)) ∧ Below W'.heap.size W' w' := fun W' hb' s un up h1 h2 h3 => rsame_any s t un up vn vp W' h1 h2 ((hn.below hb).below hb') ((hp.below hb).below hb') (by have := h3.nl; omega) (by have := h3.pl; omega) (by have := hB.nl; omega) (by have := hB.pl; omega)
  have hS' := hS.below hb
  obtain ⟨ao, cap, hc⟩ := hS'.cell
  have hblt : b < W.heap.size := World.block_lt_of_cell? W _ hc
  obtain ⟨an, cn, rfl, _⟩ := id hn
  obtain ⟨ap, cp, rfl, _⟩ := id hp
  unfold tmV at hSum hSame ⊢
  have HS : Hid _ := And.intro hS' (And.intro hb (And.intro hX (And.intro hB hSame)))
  have HU : Hid _ := hSum
  have HW : Hid _ := hW
  obtain ⟨x0, x1, x2, x3, x4, x5, xf⟩ := six6 hX
  have hh := Tm.hash_lt t
  obtain ⟨v, hv, hvI⟩ := hS'.rowAt hh
  have q0 : (0 : Int) ≤ (t.hash : Int) := by omega
  have q1 : (t.hash : Int) < 512 := by omega
  have hv' : W.cell? ⟨b, 1 + t.hash, none⟩ = some v := by rw [Nat.add_comm]; exact hv
  have HI : Hid _ := hvI
  clear hS hS' hb hX hB hSum hSame hn hp hvI hW
  go_enter Tryz.func84, Tryz.ntmps84
  go_wp2_with fail
  rw [← HW.out]
  go_region_law
    ((first
      | (go_simp; go_at_call 85; refine (HU.out _ (by repeat (first | exact Below.refl _ _ | assumption | refine Below.drew ?_ | refine Below.setCell ?_ (by simp) _ | refine Below.alloc ?_ (by simp) _))).mono ?_; rintro r3 w3 ⟨rfl, hb3'⟩; have hb3 := below_of_drew3 hb3'; have hv3 := cell_up hv hb3; have hv3' := cell_up hv' hb3; have H3 : Hid _ := hb3; clear hb3 hb3' HU)))
  all_goals
    obtain ⟨av, cv, rfl, hcv⟩ := id HI.out
    obtain ⟨I, hI⟩ : ∃ I, I = Tm.idx L t.hash := ⟨_, rfl⟩
    obtain ⟨n, hN⟩ : ∃ n, n = I.length := ⟨_, rfl⟩
    have hlen := Tm.idx_len L t.hash
    have hbig := HS.out.1.big
    rw [← hI, ← hN] at hlen
    rw [← hI] at hcv
    have HL : Hid _ := And.intro hI (And.intro hN hcv)
    rw [← hI, ← hN]
    clear hI hN hcv hv hv' hv3 hv3' x0 x1 x2 x3 x4 x5 hc
    (try go_simp)
    go_wp2_with fail
    go_loopg [6] n (fun g i wr => ∃ j : Nat, g = n - j ∧ j ≤ n ∧ i = .int .i64 j ∧ (∀ z ∈ I.take j, ∀ i : Nat, z = i → L[i]? ≠ some t) ∧ Below W.heap.size W wr)
    case atStart => exact ⟨0, rfl, Nat.zero_le _, rfl, fun z hz => by simp at hz, H3.out⟩
    case round =>
      obtain ⟨j, rfl, hj, rfl, hno, hbw⟩ := hrel
      have HR : Hid _ := And.intro hno hbw
      clear hno hbw
      by_cases hlt : j < n
      · obtain ⟨z, hz⟩ : ∃ z, I[j]? = some z := ⟨I[j]'(by have := HL.out.2.1; omega), List.getElem?_eq_getElem _⟩
        obtain ⟨k, s, rfl, hk, hsh⟩ := Tm.idx_mem.1 (by rw [← HL.out.1]; exact List.mem_of_getElem? hz)
        obtain ⟨aa, rfl, e0⟩ := HL.out.2.2 j _ hz
        have d0 := (HR.out.2.cell (World.block_lt_of_cell? W _ e0)).trans e0
        have hSr := HS.out.1.below HR.out.2
        obtain ⟨g, cg, un, up, hA⟩ := hSr.at hk
        have hXr := (HR.out.2.block _ (t_lt HS.out.2.2.1)).trans HS.out.2.2.1
        obtain ⟨x0, x1, x2, x3, x4, x5, xf'⟩ := six6 hXr
        have hkl := (List.getElem?_eq_some_iff.1 hk).1
        have hC : ∀ W', Below wr.heap.size wr W' → Calls Tryz.prog 114 #[.agg #[.int .i64 s.kind, .int .i64 s.label, .int .i64 s.a, .int .i64 s.b, un, up], .agg #[.int .i64 t.kind, .int .i64 t.label, .int .i64 t.a, .int .i64 t.b, .slice an t.names.length cn, .slice ap t.pairs.length cp]] W' fun r w' => r = .returned (.bool (Tm.same s t)) ∧ Below W'.heap.size W' w' := fun W' hb' => HS.out.2.2.2.2 W' (HR.out.2.trans (hb'.mono HR.out.2.size)) s un up (hA.n.below hb') (hA.p.below hb') (hSr.bd s (List.mem_of_getElem? hk))
        have HC : Hid _ := hC
        obtain ⟨an', cn', rfl, _⟩ := id hA.n
        obtain ⟨ap', cp', rfl, _⟩ := id hA.p
        obtain ⟨c0, y0, y1, y2, y3, y4, y5, _, _⟩ := hA
        have r0 : (0 : Int) ≤ (j : Int) := by omega
        have r1 : (j : Int) < (n : Int) := by omega
        have r2 : (0 : Int) ≤ (k : Int) := by omega
        have r3 : (k : Int) < (L.length : Int) := by omega
        have HK : Hid _ := And.intro hz hk
        clear hz hk hSr hXr hC e0 hsh
        by_cases hst : s = t
        · have he : Tm.same s t = true := (same_iff _ _).2 hst
          rw [he] at HC
          have HST : Hid _ := hst
          clear he hst
          go_wp2_with fail
          go_region_held3 (fun w' => w'.cell? ⟨b, 0, none⟩ = some (.slice (some ⟨g, 0, none⟩) L.length cg) ∧ w'.cell? (aa.add j) = some (.int .i64 k) ∧ (w'.cell? ⟨g, k * 6, none⟩ = some (.int .i64 s.kind) ∧ w'.cell? ⟨g, k * 6 + 1, none⟩ = some (.int .i64 s.label) ∧ w'.cell? ⟨g, k * 6 + 2, none⟩ = some (.int .i64 s.a) ∧ w'.cell? ⟨g, k * 6 + 3, none⟩ = some (.int .i64 s.b) ∧ w'.cell? ⟨g, k * 6 + 4, none⟩ = some (.slice an' s.names.length cn') ∧ w'.cell? ⟨g, k * 6 + 5, none⟩ = some (.slice ap' s.pairs.length cp')) ∧ w'.cell? ⟨w.heap.size, 0, none⟩ = some (.int .i64 t.kind) ∧ w'.cell? ⟨w.heap.size, 1, none⟩ = some (.int .i64 t.label) ∧ w'.cell? ⟨w.heap.size, 2, none⟩ = some (.int .i64 t.a) ∧ w'.cell? ⟨w.heap.size, 3, none⟩ = some (.int .i64 t.b) ∧ w'.cell? ⟨w.heap.size, 4, none⟩ = some (.slice an t.names.length cn) ∧ w'.cell? ⟨w.heap.size, 5, none⟩ = some (.slice ap t.pairs.length cp)) (go_keep)
            ((go_at_call 114; refine (HC.out _ (by repeat (first | exact Below.refl _ _ | assumption | refine Below.drew ?_ | refine Below.setCell ?_ (by simp) _ | refine Below.alloc ?_ (by simp) _))).mono ?_; rintro r6 w6 ⟨rfl, hb6'⟩; have hb6 := below_of_drew3 hb6'; have d6 := (hb6.cell (World.block_lt_of_cell? wr _ d0)).trans d0; clear HC; obtain ⟨c0, x0, x1, x2, x3, x4, x5, y0, y1, y2, y3, y4, y5⟩ : _ ∧ _ ∧ _ ∧ _ ∧ _ ∧ _ ∧ _ ∧ _ ∧ _ ∧ _ ∧ _ ∧ _ ∧ _ := ⟨cell_up c0 hb6, cell_up x0 hb6, cell_up x1 hb6, cell_up x2 hb6, cell_up x3 hb6, cell_up x4 hb6, cell_up x5 hb6, cell_up y0 hb6, cell_up y1 hb6, cell_up y2 hb6, cell_up y3 hb6, cell_up y4 hb6, cell_up y5 hb6⟩; have H6 : Hid _ := hb6; clear hb6 hb6'))
          all_goals
            (try go_simp)
            go_wp2_with fail
            go_ret
            exact ⟨.inl ⟨k, rfl, by rw [← HST.out]; exact HK.out.2⟩, HS.out.2.1.trans ((HR.out.2.trans (H6.out.mono HR.out.2.size)).mono HS.out.2.1.size)⟩
        · have he : Tm.same s t = false := by exact same_ne hst
          rw [he] at HC
          have HST : Hid _ := hst
          clear he hst
          go_wp2_with fail
          go_region_held3 (fun w' => w'.cell? ⟨b, 0, none⟩ = some (.slice (some ⟨g, 0, none⟩) L.length cg) ∧ w'.cell? (aa.add j) = some (.int .i64 k) ∧ (w'.cell? ⟨g, k * 6, none⟩ = some (.int .i64 s.kind) ∧ w'.cell? ⟨g, k * 6 + 1, none⟩ = some (.int .i64 s.label) ∧ w'.cell? ⟨g, k * 6 + 2, none⟩ = some (.int .i64 s.a) ∧ w'.cell? ⟨g, k * 6 + 3, none⟩ = some (.int .i64 s.b) ∧ w'.cell? ⟨g, k * 6 + 4, none⟩ = some (.slice an' s.names.length cn') ∧ w'.cell? ⟨g, k * 6 + 5, none⟩ = some (.slice ap' s.pairs.length cp')) ∧ w'.cell? ⟨w.heap.size, 0, none⟩ = some (.int .i64 t.kind) ∧ w'.cell? ⟨w.heap.size, 1, none⟩ = some (.int .i64 t.label) ∧ w'.cell? ⟨w.heap.size, 2, none⟩ = some (.int .i64 t.a) ∧ w'.cell? ⟨w.heap.size, 3, none⟩ = some (.int .i64 t.b) ∧ w'.cell? ⟨w.heap.size, 4, none⟩ = some (.slice an t.names.length cn) ∧ w'.cell? ⟨w.heap.size, 5, none⟩ = some (.slice ap t.pairs.length cp)) (go_keep)
            ((go_at_call 114; refine (HC.out _ (by repeat (first | exact Below.refl _ _ | assumption | refine Below.drew ?_ | refine Below.setCell ?_ (by simp) _ | refine Below.alloc ?_ (by simp) _))).mono ?_; rintro r6 w6 ⟨rfl, hb6'⟩; have hb6 := below_of_drew3 hb6'; have d6 := (hb6.cell (World.block_lt_of_cell? wr _ d0)).trans d0; clear HC; obtain ⟨c0, x0, x1, x2, x3, x4, x5, y0, y1, y2, y3, y4, y5⟩ : _ ∧ _ ∧ _ ∧ _ ∧ _ ∧ _ ∧ _ ∧ _ ∧ _ ∧ _ ∧ _ ∧ _ ∧ _ := ⟨cell_up c0 hb6, cell_up x0 hb6, cell_up x1 hb6, cell_up x2 hb6, cell_up x3 hb6, cell_up x4 hb6, cell_up x5 hb6, cell_up y0 hb6, cell_up y1 hb6, cell_up y2 hb6, cell_up y3 hb6, cell_up y4 hb6, cell_up y5 hb6⟩; have H6 : Hid _ := hb6; clear hb6 hb6'))
          all_goals
            (try go_simp)
            go_wp2_with fail
            go_roundg (n - (j + 1))
            case measure => omega
            case rel => exact ⟨j + 1, rfl, by omega, by go_num, fun z hz i hi => by
              rcases mem_take_succ HK.out.1 hz with h | h
              · exact HR.out.1 z h i hi
              · have : i = k := by omega
                subst this
                rw [HK.out.2]; intro e; exact HST.out (Option.some.inj e), HR.out.2.trans (H6.out.mono HR.out.2.size)⟩
      · obtain rfl : j = n := by omega
        have r1 : ¬ (j : Int) < (j : Int) := by omega
        go_wp2_with fail
        go_ret
        refine ⟨.inr ⟨rfl, idx_no ?_⟩, HS.out.2.1.trans (HR.out.2.mono HS.out.2.1.size)⟩
        have h := HR.out.1
        rw [HL.out.2.1, List.take_length, HL.out.1] at h
        exact h
end Go.Proofs.YthnenpncajpibaaGreatDoor
