/- The statement ActLabels as a call: on any numbers it returns true, and nothing that was there has turned. -/
import Derived.Test.YtebeimjgppidcabDoorRefLabel
import Derived.Test.YtebeimjgppidcabDoorAlive2
namespace Go.Proofs.YtebeimjgppidcabDoor
open Go.RowKit
set_option maxRecDepth 100000 in
set_option maxHeartbeats 1000000 in
theorem lawLabels_any (n l : Int) (co : Bool) (a : Addr) (w : World) (hU : w.cell? ⟨7, 0, none⟩ = some (.iface 99 (.pointer (some a)))) :
    Calls Tryd.prog 6 #[.int .i64 n, .int .i64 l, .bool co] w fun e w' => e = .returned (.bool true) ∧ Below w.heap.size w w' := by
  have h1 : ∀ x : Int, (x == x) = true := fun x => by simp
  have h2 : ∀ x : Bool, (x == x) = true := fun x => by cases x <;> rfl
  go_enter Tryd.func6, Tryd.ntmps6
  go_wp2_with (first
    | (go_at_call 13; refine (nameOf_any _ _).mono ?_; rintro r w' ⟨rfl, hw⟩; obtain rfl := hw.symm)
    | (go_at_call 14; refine (refNameOf_any _ _).mono ?_; rintro r w' ⟨rfl, hw⟩; obtain rfl := hw.symm)
    | (go_at_call 15; refine (alive2_any a w hU).mono ?_; rintro r w' ⟨rfl, hb⟩)
    | (go_at_call 16; refine (label_any _ _ _).mono ?_; rintro r w' ⟨rfl, hw⟩; obtain rfl := hw.symm)
    | (go_at_call 17; refine (refLabel_any _ _ _).mono ?_; rintro r w' ⟨rfl, hw⟩; obtain rfl := hw.symm)
    | (go_at_call 18; refine (co_any _ _).mono ?_; rintro r w' ⟨rfl, hw⟩; obtain rfl := hw.symm)
    | (go_at_call 19; refine (refCo_any _ _).mono ?_; rintro r w' ⟨rfl, hw⟩; obtain rfl := hw.symm))
  go_ret
  exact ⟨rfl, hb⟩
end Go.Proofs.YtebeimjgppidcabDoor
