/- Contracts of package act's Label, NameOf and Co. -/
import Derived.Test.YthnenpncajpibaaGreatDoorProg
import Derived.WalkKit
import Derived.WalkSpells
namespace Go.Proofs.YthnenpncajpibaaGreatDoor
open Go.RowKit
namespace Ac
def isN (c : Int) : Bool := decide (0 ≤ c ∧ c < 100)
def label (n : Int) (co : Bool) : Int := if 0 ≤ n ∧ n < 100 then (if co then 2 * n + 2 else 2 * n + 1) else 0
def named (l : Int) : Bool := decide (0 < l ∧ l < 201)
def nameN (l : Int) : Int := if 0 < l ∧ l < 201 then (l - 1) / 2 else 0
def nameC (l : Int) : Bool := decide (0 < l ∧ l < 201 ∧ l % 2 = 0)
def co (l : Int) : Int := if 0 < l ∧ l < 201 then label (nameN l) (!nameC l) else 0
end Ac
theorem ret_int' {a b : Int} (h : a = b) : Ending.returned (.int .i64 a) = .returned (.int .i64 b) := by rw [h]
theorem actName_any (c : Int) (w : World) : Calls Tryz.prog 128 #[.int .i64 c] w fun e w' => e = .returned (.bool (Ac.isN c)) ∧ w' = w := by
  rcases (show c < 0 ∨ (0 ≤ c ∧ c < 100) ∨ (0 ≤ c ∧ 100 ≤ c) from by omega) with h | ⟨h1, h2⟩ | ⟨h1, h2⟩
  all_goals
    go_enter Tryz.func128, Tryz.ntmps128
    go_wp2
    go_ret
    exact ⟨by simp [Ac.isN]; omega, rfl⟩
end Go.Proofs.YthnenpncajpibaaGreatDoor
