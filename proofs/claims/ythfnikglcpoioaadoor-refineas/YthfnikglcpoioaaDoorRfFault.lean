/- refine: its faults; lacks, Size, Blocks, Block. -/
import Derived.Test.YthfnikglcpoioaaDoorRfNew
import Derived.Test.YthfnikglcpoioaaDoorErAs
import Derived.Test.YthfnikglcpoioaaDoorErIs
namespace Go.Proofs.YthfnikglcpoioaaDoor
open Go.RowKit Go.Maps
attribute [local go_sem ↓] Go.wp_at_zero Go.wp_at_succ
def refB : ByteArray := ⟨#[114, 101, 102, 105, 110, 101]⟩
/-- What the calls of refine lean on: two of api's errors, and what errors.As looks up. -/
structure EnvR (w : World) (a1 a3 : Addr) : Prop where
  arg : Sent w 1 a1
  idx : Sent w 0 a3
  et : w.cell? ⟨10, 0, none⟩ = some (.iface 86 (.agg #[.pointer (some ⟨20, 26, none⟩)]))
theorem EnvR.below {w w' : World} {a1 a3 : Addr} (h : EnvR w a1 a3) (hb : Below w.heap.size w w') : EnvR w' a1 a3 := ⟨h.arg.below hb, h.idx.below hb, (hb.cell (World.block_lt_of_cell? w _ h.et)).trans h.et⟩
set_option maxRecDepth 100000 in
set_option maxHeartbeats 1000000 in
theorem fault_any (a : Addr) (w : World) (hg : w.cell? ⟨10, 0, none⟩ = some (.iface 86 (.agg #[.pointer (some ⟨20, 26, none⟩)]))) : Calls Tryd.prog 18 #[.iface 123 (.pointer (some a))] w fun r w' => ∃ x, r = .returned x ∧ Chain w' 0 0 a [refB] x ∧ Below w.heap.size w w' := by
  have hb1 : Below w.heap.size w (w.alloc (.cells #[.pointer none] 46)) := (Below.refl _ _).alloc (Nat.le_refl _) _
  have hA := as_miss a ⟨w.heap.size, 0, none⟩ (w.alloc (.cells #[.pointer none] 46)) ((hb1.cell (World.block_lt_of_cell? w _ hg)).trans hg)
  have HA : Hid _ := And.intro hA hb1
  clear hA hg hb1
  go_enter Tryd.func18, Tryd.ntmps18
  go_wp2_with (go_at_call 17; refine Calls.mono HA.out.1 ?_; rintro r w2 ⟨rfl, hb2⟩; have HB : Hid _ := And.intro hb2 trivial; clear hb2)
  go_ret
  have hb := HA.out.2.trans (HB.out.1.mono HA.out.2.size)
  exact ⟨_, rfl, ⟨_, _, rfl, heap_alloc_new _ _, rfl⟩, hb.trans ((Below.refl _ _).alloc (Nat.le_refl _) _ |>.mono hb.size)⟩
end Go.Proofs.YthfnikglcpoioaaDoor
