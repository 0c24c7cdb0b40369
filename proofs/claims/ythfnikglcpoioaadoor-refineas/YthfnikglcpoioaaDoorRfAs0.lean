/- What the statement RefineAs leans on. -/
import Derived.Test.YthfnikglcpoioaaDoorRfAlive
import Derived.Test.YthfnikglcpoioaaDoorErCode
namespace Go.Proofs.YthfnikglcpoioaaDoor
open Go.RowKit Go.Maps
attribute [local go_sem ↓] Go.wp_at_zero Go.wp_at_succ
set_option maxHeartbeats 1000000 in
theorem new_bad8 (n : Int) (a1 a3 : Addr) (w : World) (hE : EnvR w a1 a3) (h : n < 0 ∨ 1000 < n) :
    Calls Tryd.prog 7 #[.int .i64 n] w fun r w' => ∃ x, r = .returned (.tuple #[.pointer none, x]) ∧ Chain w' 0 0 a1 [refB] x ∧ Below w.heap.size w w' := by
  have hF := fault_any a1 w hE.et
  have hc := hE.arg.1
  have HF : Hid _ := And.intro hF trivial
  clear hF hE
  by_cases h1 : n < 0
  · have g1 : decide (n < 0) = true := decide_eq_true h1
    clear h
    go_enter Tryd.func7, Tryd.ntmps7
    go_wp2_with (go_at_call 18; refine Calls.mono HF.out.1 ?_; rintro r w2 ⟨x, rfl, hC, hb⟩; have HB : Hid _ := And.intro hC hb; clear hC hb)
    go_ret2
    exact ⟨_, rfl, HB.out.1, HB.out.2⟩
  · have g1 : decide (n < 0) = false := decide_eq_false h1
    have g2 : 1000 < n := by omega
    have g3 : decide (1000 < n) = true := decide_eq_true g2
    clear h
    go_enter Tryd.func7, Tryd.ntmps7
    go_wp2_with (go_at_call 18; refine Calls.mono HF.out.1 ?_; rintro r w2 ⟨x, rfl, hC, hb⟩; have HB : Hid _ := And.intro hC hb; clear hC hb)
    go_ret2
    exact ⟨_, rfl, HB.out.1, HB.out.2⟩
theorem as_nil (v : Value) (w : World) : Calls Tryd.prog 17 #[.nilIface, v] w fun ev w' => ev = .returned (.bool false) ∧ w' = w := by
  go_enter Tryd.func17, Tryd.ntmps17
  go_wp2_with fail
  go_ret
  exact ⟨rfl, rfl⟩
theorem ref_bytes : refB.toList = [114, 101, 102, 105, 110, 101] := by rw [ByteArray.toList_eq]; rfl
theorem rgu4 {w2 wa wb : World} {a0 a1 a2 a3 : Addr} {x0 x1 x2 x3 : Value} (hb : Below wa.heap.size wa wb) (h : (wa.cell? a0 = some x0 ∧ wa.cell? a1 = some x1 ∧ wa.cell? a2 = some x2 ∧ wa.cell? a3 = some x3) ∧ Hid (Below w2.heap.size w2 wa)) : (wb.cell? a0 = some x0 ∧ wb.cell? a1 = some x1 ∧ wb.cell? a2 = some x2 ∧ wb.cell? a3 = some x3) ∧ Hid (Below w2.heap.size w2 wb) :=
  ⟨⟨cellu h.1.1 hb, cellu h.1.2.1 hb, cellu h.1.2.2.1 hb, cellu h.1.2.2.2 hb⟩, (h.2.out.trans (hb.mono h.2.out.size) : Below w2.heap.size w2 wb)⟩
/-- errors.As: the variable at block B holds the fault; nothing else that was there has turned. -/
theorem as_fact8 (e : Addr) (B : Nat) (w : World) (hg : w.cell? ⟨10, 0, none⟩ = some (.iface 86 (.agg #[.pointer (some ⟨20, 26, none⟩)]))) (hB : w.heap[B]? = some (.cells #[.pointer none] 46 (0, 0))) :
    Calls Tryd.prog 17 #[.iface 46 (.pointer (some e)), .iface 48 (.pointer (some ⟨B, 0, none⟩))] w fun ev w' => ev = .returned (.bool true) ∧ w'.cell? ⟨B, 0, none⟩ = some (.pointer (some e)) ∧ Below B w w' := by
  have hlt := lt_of_block hB
  refine (as_hit e ⟨B, 0, none⟩ (.pointer none) w hg (cell_of_one hB) (free_of_one hB)).mono ?_
  rintro ev w' ⟨rfl, rfl⟩
  refine ⟨rfl, ?_, ?_⟩
  · refine cell_of_one (t := 46) (one_setCell (v := .pointer none) ?_)
    rw [Below.heap_alloc _ _ _ (by simp; omega), Below.heap_alloc _ _ _ (by simp; omega), Below.heap_alloc _ _ _ (by simp; omega), Below.heap_alloc _ _ _ hlt]
    exact hB
  · exact (((((Below.refl _ _).alloc (Nat.le_of_lt hlt) _).alloc (by simp; omega) _).alloc (by simp; omega) _).alloc (by simp; omega) _).setCell (Nat.le_refl _) _
end Go.Proofs.YthfnikglcpoioaaDoor
