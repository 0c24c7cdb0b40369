/- Contract of act.Co. -/
import Derived.Test.YtebeimjgppidcacDoorLabel
namespace Go.Proofs.YtebeimjgppidcacDoor
open Go.RowKit
theorem co_any (l : Int) (w : World) : Calls Tryd.prog 31 #[.int .i64 l] w fun e w' => e = .returned (.int .i64 (Ac.co l)) ∧ w' = w := by
  have hC := nameOf_any l w
  cases hn : Ac.named l with
  | false =>
    have H : Hid (Ac.co l = 0) := (by unfold Ac.co; rw [if_neg (by simpa [Ac.named] using hn)] : Ac.co l = 0)
    rw [hn] at hC
    clear hn
    go_enter Tryd.func31, Tryd.ntmps31
    go_wp2_with (go_at_call 32; refine hC.mono ?_; rintro r w' ⟨rfl, hw⟩; obtain rfl := hw.symm)
    go_ret
    exact ⟨ret_int' H.out.symm, rfl⟩
  | true =>
    have H : Hid (Ac.co l = Ac.label (Ac.nameN l) (!Ac.nameC l)) := (by unfold Ac.co; rw [if_pos (by simpa [Ac.named] using hn)] : Ac.co l = Ac.label (Ac.nameN l) (!Ac.nameC l))
    have hL := label_any (Ac.nameN l) (!Ac.nameC l) w
    rw [hn] at hC
    clear hn
    go_enter Tryd.func31, Tryd.ntmps31
    go_wp2_with (first | (go_at_call 32; refine hC.mono ?_; rintro r w' ⟨rfl, hw⟩; obtain rfl := hw.symm) | (go_at_call 33; refine hL.mono ?_; rintro r w' ⟨rfl, hw⟩; obtain rfl := hw.symm))
    go_ret
    exact ⟨ret_int' H.out.symm, rfl⟩
end Go.Proofs.YtebeimjgppidcacDoor
