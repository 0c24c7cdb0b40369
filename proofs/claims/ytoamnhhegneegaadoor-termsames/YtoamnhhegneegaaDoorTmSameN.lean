/- The store's Same where there is no such term, or no other store. -/
import Derived.Test.YtoamnhhegneegaaDoorTmSameS
namespace Go.Proofs.YtoamnhhegneegaaDoor
open Go.RowKit Go.Maps
set_option maxRecDepth 100000 in
set_option maxHeartbeats 1600000 in
theorem same_no1 (b : Nat) (L : List Tm) (F : Nat → Prop) (id other : Int) (o : Value) (T : TypeId) (u : Value) (w : World) (hS : StoB w b L F) (hi : Tm.has L.length id = false) (hE : w.cell? ⟨1, 0, none⟩ = some (.iface T u)) :
    Calls Tryd.prog 13 #[.pointer (some ⟨b, 0, none⟩), .int .i64 id, o, .int .i64 other] w fun r w' => (∃ g, r = .returned (.tuple #[.bool false, tFaultV g]) ∧ TermFault w' g (.iface T u)) ∧ Below w.heap.size w w' := by
  obtain ⟨ao, cap, hc⟩ := hS.cell
  have HL : Hid _ := lacks_yes b ao L.length cap id T u w hc hi hE
  clear hS hi hE hc
  go_enter Tryd.func13, Tryd.ntmps13
  go_wp2_with fail
  refine Calls.mono HL.out ?_
  rintro r w1 ⟨rfl, hF, hb⟩
  have H1 : Hid _ := And.intro hF hb
  clear hF hb HL
  unfold tFaultV
  go_wp2_with fail
  go_ret2
  exact ⟨⟨_, rfl, H1.out.1⟩, H1.out.2⟩
set_option maxRecDepth 100000 in
set_option maxHeartbeats 1600000 in
theorem same_no2 (b b2 : Nat) (L M : List Tm) (F F2 : Nat → Prop) (id other : Int) (T : TypeId) (u : Value) (w : World) (hS : StoB w b L F) (hS2 : StoB w b2 M F2) (hi : Tm.has L.length id = true) (ho : Tm.has M.length other = false) (hE : w.cell? ⟨1, 0, none⟩ = some (.iface T u)) :
    Calls Tryd.prog 13 #[.pointer (some ⟨b, 0, none⟩), .int .i64 id, .pointer (some ⟨b2, 0, none⟩), .int .i64 other] w fun r w' => (∃ g, r = .returned (.tuple #[.bool false, tFaultV g]) ∧ TermFault w' g (.iface T u)) ∧ Below w.heap.size w w' := by
  obtain ⟨ao, cap, hc⟩ := hS.cell
  obtain ⟨ao2, cap2, hc2⟩ := hS2.cell
  have HL : Hid _ := And.intro (lacks_no b ao L.length cap id w hc hi) (lacks_yes b2 ao2 M.length cap2 other T u w hc2 ho hE)
  clear hS hS2 hi ho hE hc hc2
  go_enter Tryd.func13, Tryd.ntmps13
  go_wp2_with fail
  refine Calls.mono HL.out.1 ?_
  rintro r w1 ⟨rfl, hw⟩
  obtain rfl := hw.symm
  go_wp2_with fail
  refine Calls.mono HL.out.2 ?_
  rintro r w1 ⟨rfl, hF, hb⟩
  have H1 : Hid _ := And.intro hF hb
  clear hF hb HL
  unfold tFaultV
  go_wp2_with fail
  go_ret2
  exact ⟨⟨_, rfl, H1.out.1⟩, H1.out.2⟩
set_option maxRecDepth 100000 in
set_option maxHeartbeats 1600000 in
theorem same_nil3 (b : Nat) (L : List Tm) (F : Nat → Prop) (id other : Int) (T : TypeId) (u : Value) (w : World) (hS : StoB w b L F) (hi : Tm.has L.length id = true) (hE : w.cell? ⟨0, 0, none⟩ = some (.iface T u)) :
    Calls Tryd.prog 13 #[.pointer (some ⟨b, 0, none⟩), .int .i64 id, .pointer none, .int .i64 other] w fun r w' => (∃ g, r = .returned (.tuple #[.bool false, tFaultV g]) ∧ TermFault w' g (.iface T u)) ∧ Below w.heap.size w w' := by
  obtain ⟨ao, cap, hc⟩ := hS.cell
  have HL : Hid _ := And.intro (lacks_no b ao L.length cap id w hc hi) (lacks_nil other T u w hE)
  clear hS hi hE hc
  go_enter Tryd.func13, Tryd.ntmps13
  go_wp2_with fail
  refine Calls.mono HL.out.1 ?_
  rintro r w1 ⟨rfl, hw⟩
  obtain rfl := hw.symm
  go_wp2_with fail
  refine Calls.mono HL.out.2 ?_
  rintro r w1 ⟨rfl, hF, hb⟩
  have H1 : Hid _ := And.intro hF hb
  clear hF hb HL
  unfold tFaultV
  go_wp2_with fail
  go_ret2
  exact ⟨⟨_, rfl, H1.out.1⟩, H1.out.2⟩
end Go.Proofs.YtoamnhhegneegaaDoor
