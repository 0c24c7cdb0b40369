/- refine: put, New. -/
import Derived.Test.YthfnikglcpoioaaDoorRfMem
import Derived.WalkKit
import Derived.Deep.RegionHeld3
import Derived.Deep.LoopGhost
namespace Go.Proofs.YthfnikglcpoioaaDoor
open Go.RowKit Go.Maps
attribute [local go_sem ↓] Go.wp_at_zero Go.wp_at_succ
set_option maxRecDepth 100000 in
set_option maxHeartbeats 4000000 in
theorem put_any (g : Nat) (c : Nat → Int) (e k : Nat) (w0 w : World) (hP : Pt w0 w g c) (he : e < 1000) (hk : k < 1000) :
    Calls Tryd.prog 20 #[.pointer (some ⟨g, 0, none⟩), .int .i64 e, .int .i64 k] w fun r w' => r = .returned (.tuple #[]) ∧ Pt w0 w' g (upd (upd c (2 + k) e) (1002 + e) k) ∧ Kept (fun i => i = g) w w' := by
  have c1 := hP.cell (i := 2 + k) (by omega)
  have c2 := hP.cell (i := 1002 + e) (by omega)
  have f1 := hP.free (2 + k)
  have f2 := hP.free (1002 + e)
  have e0 : (0 : Int) ≤ (e : Int) := by omega
  have e1 : (e : Int) < 1000 := by omega
  have k0 : (0 : Int) ≤ (k : Int) := by omega
  have k1 : (k : Int) < 1000 := by omega
  have hne : ¬ 1002 + e = 2 + k := by omega
  have hne2 : ¬ 2 + k = 1002 + e := by omega
  have H : Hid (Pt w0 w g c) := hP
  clear hP
  go_enter Tryd.func20, Tryd.ntmps20
  go_wp2_with fail
  go_region
  all_goals go_wp2_with fail
  all_goals
    go_end0
    exact ⟨rfl, ((H.out.set _ _).set _ _).below (Below.refl _ _).drew, ((Kept.setCell _ _ _ _).trans (Kept.setCell _ _ _ _)).trans (Kept.of_below (Below.refl _ _).drew)⟩
end Go.Proofs.YthfnikglcpoioaaDoor
