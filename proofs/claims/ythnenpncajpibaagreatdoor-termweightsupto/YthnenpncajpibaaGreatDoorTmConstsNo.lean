/- Contract of the store's Consts where there is no such term. -/
import Derived.Test.YthnenpncajpibaaGreatDoorTmConsts
namespace Go.Proofs.YthnenpncajpibaaGreatDoor
open Go.RowKit Go.Maps
theorem consts_no (b : Nat) (L : List Tm) (F : Nat → Prop) (i : Int) (T : TypeId) (u : Value) (w : World) (hS : StoB w b L F) (hi : Tm.has L.length i = false) (hE : w.cell? ⟨1, 0, none⟩ = some (.iface T u)) :
    Calls Tryz.prog 10 #[.pointer (some ⟨b, 0, none⟩), .int .i64 i] w fun r w' => r = .returned (.tuple #[.slice none 0 0, tFaultV w.heap.size]) ∧ TermFault w' w.heap.size (.iface T u) ∧ Below w.heap.size w w' := by
  obtain ⟨ao, cap, hc⟩ := hS.cell
  have hl := lacks_yes b ao L.length cap i T u w hc hi hE
  unfold tFaultV at hl ⊢
  have HL : Hid _ := hl
  clear hl
  go_enter Tryz.func10, Tryz.ntmps10
  go_wp2_with fail
  refine Calls.mono HL.out ?_
  rintro r w2 ⟨rfl, hF, hb2⟩
  go_wp2_with fail
  go_ret2
  exact ⟨rfl, hF, hb2⟩
end Go.Proofs.YthnenpncajpibaaGreatDoor
