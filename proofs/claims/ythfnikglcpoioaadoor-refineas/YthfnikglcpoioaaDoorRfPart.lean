/- refine: marks, others, part. -/
import Derived.Test.YthfnikglcpoioaaDoorRfMark
import Derived.Test.YthfnikglcpoioaaDoorRfSplit0
namespace Go.Proofs.YthfnikglcpoioaaDoor
open Go.RowKit Go.Maps
attribute [local go_sem ↓] Go.wp_at_zero Go.wp_at_succ
theorem marks_any (x y z : Nat) (hx : x ≤ y) (hy : y ≤ 1000) (w : World) : Calls Tryd.prog 25 #[.agg #[.int .i64 x, .int .i64 y, .int .i64 z]] w fun r w' => r = .returned (.int .i64 ((y - x : Nat) : Int)) ∧ Below w.heap.size w w' := by
  have p1 : IntKind.i64.wrap ((y : Int) - (x : Int)) = ((y - x : Nat) : Int) := by rw [IntKind.wrap_i64]; omega
  go_enter Tryd.func25, Tryd.ntmps25
  go_wp2_with fail
  go_ret
  exact ⟨by first | rfl | (congr 2; omega), (Below.refl _ _).alloc (Nat.le_refl _) _⟩
theorem others_any (x y z : Nat) (hx : y ≤ z) (hy : z ≤ 1000) (w : World) : Calls Tryd.prog 26 #[.agg #[.int .i64 x, .int .i64 y, .int .i64 z]] w fun r w' => r = .returned (.int .i64 ((z - y : Nat) : Int)) ∧ Below w.heap.size w w' := by
  have p1 : IntKind.i64.wrap ((z : Int) - (y : Int)) = ((z - y : Nat) : Int) := by rw [IntKind.wrap_i64]; omega
  go_enter Tryd.func26, Tryd.ntmps26
  go_wp2_with fail
  go_ret
  exact ⟨by first | rfl | (congr 2; omega), (Below.refl _ _).alloc (Nat.le_refl _) _⟩
set_option maxHeartbeats 1000000 in
theorem part_any (g b e : Nat) (hb : b < e) (he : e ≤ 1000) (w : World) : Calls Tryd.prog 23 #[.pointer (some ⟨g, 0, none⟩), .int .i64 b, .int .i64 e] w fun r w' => r = .returned (.slice (some ⟨g, 2 + b, none⟩) (e - b) (e - b)) ∧ w' = w := by
  have b0 : (0 : Int) ≤ (b : Int) := by omega
  have b1 : (b : Int) ≤ (e : Int) := by omega
  have b2 : (e : Int) ≤ 1000 := by omega
  have b3 : ¬ e - b = 0 := by omega
  have b4 : ¬ e = b := by omega
  have b5 : (0 : Int) ≤ (e : Int) := by omega
  go_enter Tryd.func23, Tryd.ntmps23
  go_wp2_with fail
  go_ret
  exact ⟨by first | rfl | simp, rfl⟩
end Go.Proofs.YthfnikglcpoioaaDoor
