/- Contract of the statements' helper alive: it returns true, and nothing that was there has turned. -/
import Derived.Test.YthcboklkejlifaaGreatDoorScan
namespace Go.Proofs.YthcboklkejlifaaGreatDoor
open Go.RowKit
def aliveS : ByteArray := ⟨#[80, 32, 61, 32, 97, 46, 48]⟩
def aliveToks : List Tok := [⟨2, ⟨#[80]⟩, 1, 1⟩, ⟨4, ⟨#[61]⟩, 1, 3⟩, ⟨2, ⟨#[97]⟩, 1, 5⟩, ⟨4, ⟨#[46]⟩, 1, 6⟩, ⟨3, ⟨#[48]⟩, 1, 7⟩, ⟨1, nlB, 1, 8⟩]
theorem alive_scan : scanF aliveS (aliveS.size + 1) 0 1 0 [] = .inl aliveToks := by kernel_rfl
set_option maxHeartbeats 1000000 in
theorem alive_any (TL TW : TypeId) (uL uW : Value) (w : World) (hL : w.cell? ⟨0, 0, none⟩ = some (.iface TL uL)) (hW : w.cell? ⟨1, 0, none⟩ = some (.iface TW uW)) :
    Calls Tryz.prog 6 #[] w fun e w' => e = .returned (.bool true) ∧ Below w.heap.size w w' := by
  have hC := scan_any aliveS TL TW uL uW w (by decide) hL hW
  rw [alive_scan] at hC
  go_enter Tryz.func6, Tryz.ntmps6
  go_wp2_with (go_at_call 7; refine hC.mono ?_; rintro e1 w1 ⟨⟨v, rfl, hown, _⟩, hb⟩; obtain ⟨g, cap, rfl, _, _⟩ := hown.form (by decide); have c9 : w1.cell? ⟨g, 9, none⟩ = some (.string ⟨#[97]⟩) := hown.cells (g := g) rfl 9 _ rfl; have c23 : w1.cell? ⟨g, 23, none⟩ = some (.int .i64 8) := hown.cells (g := g) rfl 23 _ rfl; have HB : Hid (Below w.heap.size w w1) := hb; clear hown hb)
  go_ret
  exact ⟨rfl, HB.out⟩
end Go.Proofs.YthcboklkejlifaaGreatDoor
