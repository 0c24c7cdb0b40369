/- Contracts of the table's Read; and of api.Code at a fault of act that wraps ErrUnknown. -/
import Derived.Test.YtebeimjgppidcacDoorRead
import Derived.Test.YtebeimjgppidcacDoorErrs6
import Derived.Test.YtebeimjgppidcacDoorLawCo
namespace Go.Proofs.YtebeimjgppidcacDoor
open Go.RowKit Go.Maps
set_option maxRecDepth 100000 in
theorem read_tau (b : Nat) (w : World) : Calls Tryd.prog 25 #[.pointer (some ⟨b, 0, none⟩), .string tauB] w fun r w' => r = .returned (.tuple #[.int .i64 0, .nilIface]) ∧ w' = w := by
  unfold tauB
  go_enter Tryd.func25, Tryd.ntmps25
  go_wp2
  go_ret2
  exact ⟨rfl, rfl⟩
set_option maxRecDepth 100000 in
theorem read_yes (b : Nat) (vn vm : Value) (ns : List ByteArray) (x : ByteArray) (co : Bool) (i : Nat) (w : World) (hT : Tab w b vn vm ns) (hi : ns[i]? = some x) (ht : coB co x ≠ tauB) (hn : co = false → NoCo x) :
    Calls Tryd.prog 25 #[.pointer (some ⟨b, 0, none⟩), .string (coB co x)] w fun r w' => r = .returned (.tuple #[.int .i64 (Ac.label i co), .nilIface]) ∧ w' = w := by
  have hC := cut_any co x w (by
    have h9 := hT.strs x (List.mem_of_getElem? hi)
    cases co with
    | true => rw [coB_size]; unfold maxLen; omega
    | false => show x.size ≤ maxLen; unfold maxLen; omega) hn
  have hF := find_yes b vn vm ns x i w hT hi
  have hL := label_any i co w
  have hq := tau_no ht
  clear ht hT hi hn
  generalize coB co x = s at hC hq
  go_enter Tryd.func25, Tryd.ntmps25
  go_wp2_with (first | (go_at_call 47; refine hC.mono ?_; rintro r w' ⟨rfl, hw⟩; obtain rfl := hw.symm) | (go_at_call 22; refine hF.mono ?_; rintro r w' ⟨rfl, hw⟩; obtain rfl := hw.symm) | (go_at_call 33; refine hL.mono ?_; rintro r w' ⟨rfl, hw⟩; obtain rfl := hw.symm))
  go_ret2
  exact ⟨rfl, rfl⟩
set_option maxRecDepth 100000 in
theorem read_no (b : Nat) (vn vm : Value) (ns : List ByteArray) (x : ByteArray) (co : Bool) (T : TypeId) (u : Value) (w : World) (hT : Tab w b vn vm ns) (hi : x ∉ ns) (ht : coB co x ≠ tauB) (hn : co = false → NoCo x) (hs : (coB co x).size ≤ maxLen) (hU : w.cell? ⟨3, 0, none⟩ = some (.iface T u)) :
    Calls Tryd.prog 25 #[.pointer (some ⟨b, 0, none⟩), .string (coB co x)] w fun r w' => r = .returned (.tuple #[.int .i64 0, faultV w.heap.size]) ∧ ActFault w' w.heap.size (.iface T u) ∧ Below w.heap.size w w' := by
  have hC := cut_any co x w hs hn
  have hF := find_no b vn vm ns x T u w hT hi (by
    cases co with
    | true => rw [coB_size] at hs; omega
    | false => exact hs) hU
  have hq := tau_no ht
  clear ht hT hi hn hs
  generalize coB co x = s at hC hq
  unfold faultV at hF ⊢
  go_enter Tryd.func25, Tryd.ntmps25
  go_wp2_with (first | (go_at_call 47; refine hC.mono ?_; rintro r w' ⟨rfl, hw⟩; obtain rfl := hw.symm) | (go_at_call 22; refine hF.mono ?_; rintro r w' ⟨rfl, hA, hb⟩))
  go_ret2
  exact ⟨rfl, hA, hb⟩
set_option maxRecDepth 100000 in
set_option maxHeartbeats 2000000 in
theorem code_unknown (pb : Nat) (aA aL aI aW aY aD aT aU aS : Addr) (w : World) (hE : Nine w aA aL aI aW aY aD aT aU aS) (h1 : w.cell? ⟨pb, 3, none⟩ = some (.iface 103 (.pointer (some aU)))) :
    Calls Tryd.prog 35 #[.iface 74 (.pointer (some ⟨pb, 0, none⟩))] w fun e w' => e = .returned (.int .i64 8) ∧ w' = w := by
  obtain ⟨⟨gA, cA, tA, bA⟩, ⟨gL, cL, tL, bL⟩, ⟨gI, cI, tI, bI⟩, ⟨gW, cW, tW, bW⟩, ⟨gY, cY, tY, bY⟩, ⟨gD, cD, tD, bD⟩, ⟨gT, cT, tT, bT⟩, ⟨gU, cU, tU, bU⟩, _, hne⟩ := hE
  simp only [List.pairwise_cons, List.mem_cons, List.not_mem_nil, or_false, forall_eq_or_imp, forall_eq, List.Pairwise.nil, and_true, false_implies, implies_true] at hne
  obtain ⟨⟨_, _, _, _, _, _, nA, _⟩, ⟨_, _, _, _, _, nL, _⟩, ⟨_, _, _, _, nI, _⟩, ⟨_, _, _, nW, _⟩, ⟨_, _, nY, _⟩, ⟨_, nD, _⟩, ⟨nT, _⟩, _⟩ := hne
  go_enter Tryd.func35, Tryd.ntmps35
  go_wp2_with fail
  refine (is_fault_other pb aA aU cU cA tU tA _ h1 (fun e => nA e.symm) bU bA).mono ?_
  rintro e w' ⟨rfl, hw⟩; obtain rfl := hw.symm
  go_wp2_with fail
  refine (is_fault_other pb aL aU cU cL tU tL _ h1 (fun e => nL e.symm) bU bL).mono ?_
  rintro e w' ⟨rfl, hw⟩; obtain rfl := hw.symm
  go_wp2_with fail
  refine (is_fault_other pb aI aU cU cI tU tI _ h1 (fun e => nI e.symm) bU bI).mono ?_
  rintro e w' ⟨rfl, hw⟩; obtain rfl := hw.symm
  go_wp2_with fail
  refine (is_fault_other pb aW aU cU cW tU tW _ h1 (fun e => nW e.symm) bU bW).mono ?_
  rintro e w' ⟨rfl, hw⟩; obtain rfl := hw.symm
  go_wp2_with fail
  refine (is_fault_other pb aY aU cU cY tU tY _ h1 (fun e => nY e.symm) bU bY).mono ?_
  rintro e w' ⟨rfl, hw⟩; obtain rfl := hw.symm
  go_wp2_with fail
  refine (is_fault_other pb aD aU cU cD tU tD _ h1 (fun e => nD e.symm) bU bD).mono ?_
  rintro e w' ⟨rfl, hw⟩; obtain rfl := hw.symm
  go_wp2_with fail
  refine (is_fault_other pb aT aU cU cT tU tT _ h1 (fun e => nT e.symm) bU bT).mono ?_
  rintro e w' ⟨rfl, hw⟩; obtain rfl := hw.symm
  go_wp2_with fail
  refine (is_fault_same pb aU _ h1).mono ?_
  rintro e w' ⟨rfl, hw⟩; obtain rfl := hw.symm
  go_wp2_with fail
  go_ret
  exact ⟨rfl, rfl⟩
end Go.Proofs.YtebeimjgppidcacDoor
