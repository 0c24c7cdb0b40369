/- Contract of api.Code at a fault that wraps ErrLong or ErrWord; and what a statement knows of api's errors in memory. -/
import Derived.Test.YthcboklkejlifaaGreatDoorSent
import Derived.Below
import Derived.OneCell
namespace Go.Proofs.YthcboklkejlifaaGreatDoor
open Go.RowKit
/-- The four of api's errors that lexis' faults are held against, all unlike. -/
def Errs (w : World) (aA aL aI aW : Addr) : Prop := Sent w 2 aA ∧ Sent w 0 aL ∧ Sent w 3 aI ∧ Sent w 1 aW ∧ aL ≠ aA ∧ aW ≠ aA ∧ aW ≠ aL ∧ aW ≠ aI
theorem Errs.below {w w1 : World} {aA aL aI aW : Addr} (h : Errs w aA aL aI aW) (hb : Below w.heap.size w w1) : Errs w1 aA aL aI aW :=
  ⟨h.1.below hb, h.2.1.below hb, h.2.2.1.below hb, h.2.2.2.1.below hb, h.2.2.2.2⟩
set_option maxHeartbeats 1000000 in
theorem code_long (pb : Nat) (aA aL aI aW : Addr) (w : World) (hE : Errs w aA aL aI aW) (h1 : w.cell? ⟨pb, 3, none⟩ = some (.iface 194 (.pointer (some aL)))) :
    Calls Tryz.prog 29 #[.iface 58 (.pointer (some ⟨pb, 0, none⟩))] w fun e w' => e = .returned (.int .i64 2) ∧ w' = w := by
  obtain ⟨⟨gA, cA, tA, bA⟩, ⟨gL, cL, tL, bL⟩, _, _, n1, _, _, _⟩ := hE
  go_enter Tryz.func29, Tryz.ntmps29
  go_wp2_with fail
  refine (is_fault_other pb aA aL cL cA tL tA _ h1 n1 bL bA).mono ?_
  rintro e w' ⟨rfl, rfl⟩
  go_wp2_with fail
  refine (is_fault_same pb aL _ h1).mono ?_
  rintro e w' ⟨rfl, rfl⟩
  go_wp2_with fail
  go_ret
  exact ⟨rfl, rfl⟩
set_option maxHeartbeats 1000000 in
theorem code_word (pb : Nat) (aA aL aI aW : Addr) (w : World) (hE : Errs w aA aL aI aW) (h1 : w.cell? ⟨pb, 3, none⟩ = some (.iface 194 (.pointer (some aW)))) :
    Calls Tryz.prog 29 #[.iface 58 (.pointer (some ⟨pb, 0, none⟩))] w fun e w' => e = .returned (.int .i64 4) ∧ w' = w := by
  obtain ⟨⟨gA, cA, tA, bA⟩, ⟨gL, cL, tL, bL⟩, ⟨gI, cI, tI, bI⟩, ⟨gW, cW, tW, bW⟩, _, n1, n2, n3⟩ := hE
  go_enter Tryz.func29, Tryz.ntmps29
  go_wp2_with fail
  refine (is_fault_other pb aA aW cW cA tW tA _ h1 n1 bW bA).mono ?_
  rintro e w' ⟨rfl, rfl⟩
  go_wp2_with fail
  refine (is_fault_other pb aL aW cW cL tW tL _ h1 n2 bW bL).mono ?_
  rintro e w' ⟨rfl, rfl⟩
  go_wp2_with fail
  refine (is_fault_other pb aI aW cW cI tW tI _ h1 n3 bW bI).mono ?_
  rintro e w' ⟨rfl, rfl⟩
  go_wp2_with fail
  refine (is_fault_same pb aW _ h1).mono ?_
  rintro e w' ⟨rfl, rfl⟩
  go_wp2_with fail
  go_ret
  exact ⟨rfl, rfl⟩
end Go.Proofs.YthcboklkejlifaaGreatDoor
