/- Contract of lexis.Number: a number's value, or a fault of lexis without a place that wraps ErrWord or ErrLong. -/
import Derived.Test.YtheiahheflcjpaaDoorValue
import Derived.Test.YtheiahheflcjpaaDoorWords
namespace Go.Proofs.YtheiahheflcjpaaDoor
open Go.RowKit
def numFault (w : World) (e : Ending) (w' : World) (x : Value) : Prop :=
  ∃ b, e = .returned (.tuple #[.int .i64 0, .iface 46 (.pointer (some ⟨b, 0, none⟩))]) ∧ w.heap.size ≤ b ∧ w'.heap[b]? = some (.cells #[.string ⟨#[108, 101, 120, 105, 115]⟩, .int .i64 0, .int .i64 0, x] 49 (0, 0)) ∧ Below w.heap.size w w'
set_option maxHeartbeats 1000000 in
theorem number_fine (s : ByteArray) (eL eW : Value) (w : World) (hs : s.size ≤ maxLen) (hL : w.cell? ⟨0, 0, none⟩ = some eL) (hW : w.cell? ⟨1, 0, none⟩ = some eW) (n : Nat) (h : Lx.numR s.data.toList = (n, 0)) :
    Calls Tryd.prog 13 #[.string s] w fun e w' => e = .returned (.tuple #[.int .i64 (n : Int), .nilIface]) ∧ Below w.heap.size w w' := by
  have hC := value_at s eL eW .nilIface (n : Int) w hs hL hW (by rw [h]; rfl)
  clear hL hW
  go_enter Tryd.func13, Tryd.ntmps13
  go_wp2_with (go_at_call 36; refine hC.mono ?_; rintro e w1 ⟨rfl, m, rfl⟩)
  go_ret2
  exact ⟨rfl, below_drewN (Below.refl _ _) _⟩
set_option maxHeartbeats 1000000 in
theorem number_wrong (s : ByteArray) (eL eW : Value) (T : TypeId) (u : Value) (w : World) (hs : s.size ≤ maxLen) (hL : w.cell? ⟨0, 0, none⟩ = some eL) (hW : w.cell? ⟨1, 0, none⟩ = some eW) (h : numOut eL eW (Lx.numR s.data.toList) = .tuple #[.int .i64 0, .iface T u]) :
    Calls Tryd.prog 13 #[.string s] w fun e w' => numFault w e w' (.iface T u) := by
  have hC := value_at s eL eW (.iface T u) 0 w hs hL hW h
  clear hL hW h
  go_enter Tryd.func13, Tryd.ntmps13
  go_wp2_with (go_at_call 36; refine hC.mono ?_; rintro e w1 ⟨rfl, m, rfl⟩)
  go_ret2
  exact ⟨w.heap.size, rfl, Nat.le_refl _, heap_alloc_new _ _, (below_drewN (Below.refl _ _) _).alloc (Nat.le_refl _) _⟩
end Go.Proofs.YtheiahheflcjpaaDoor
