/- Contracts of the table's Name and Text. -/
import Derived.Test.YtebeimjgppidcacDoorAdd
namespace Go.Proofs.YtebeimjgppidcacDoor
open Go.RowKit Go.Maps
theorem Tab.name {w : World} {b : Nat} {vn vm : Value} {ns : List ByteArray} (h : Tab w b vn vm ns) {i : Nat} {s : ByteArray} (hi : ns[i]? = some s) : ∃ g cap, vn = .slice (some ⟨g, 0, none⟩) ns.length cap ∧ w.cell? ⟨g, i, none⟩ = some (.string s) := by
  have hlt := (List.getElem?_eq_some_iff.1 hi).1
  rcases h.row.2 with ⟨_, h0⟩ | ⟨g, cap, cur, rfl, _⟩
  · omega
  · refine ⟨g, cap, rfl, ?_⟩
    rw [h.row.cellAt i (by omega), List.getElem?_map, hi]
    rfl
set_option maxRecDepth 100000 in
set_option maxHeartbeats 1000000 in
theorem name_yes (b : Nat) (vn vm : Value) (ns : List ByteArray) (s : ByteArray) (i : Nat) (w : World) (hT : Tab w b vn vm ns) (hi : ns[i]? = some s) :
    Calls Tryd.prog 23 #[.pointer (some ⟨b, 0, none⟩), .int .i64 i] w fun r w' => r = .returned (.tuple #[.string s, .nilIface]) ∧ w' = w := by
  have hlt := (List.getElem?_eq_some_iff.1 hi).1
  obtain ⟨g, cap, rfl, hg⟩ := hT.name hi
  obtain ⟨hc0, hc1⟩ := tab_cells hT.cell
  have hlen := hT.len
  have q0 : (0 : Int) ≤ (i : Int) := by omega
  have q1 : (i : Int) < (ns.length : Int) := by omega
  clear hT hi
  go_enter Tryd.func23, Tryd.ntmps23
  go_wp2
  go_ret2
  exact ⟨rfl, rfl⟩
set_option maxRecDepth 100000 in
set_option maxHeartbeats 1000000 in
theorem name_no (b : Nat) (vn vm : Value) (ns : List ByteArray) (i : Int) (T : TypeId) (u : Value) (w : World) (hT : Tab w b vn vm ns) (hi : i < 0 ∨ (ns.length : Int) ≤ i) (hI : w.cell? ⟨5, 0, none⟩ = some (.iface T u)) :
    Calls Tryd.prog 23 #[.pointer (some ⟨b, 0, none⟩), .int .i64 i] w fun r w' => r = .returned (.tuple #[.string ⟨#[]⟩, faultV w.heap.size]) ∧ ActFault w' w.heap.size (.iface T u) ∧ Below w.heap.size w w' := by
  obtain ⟨ao, cap, rfl⟩ := row_form hT.row
  obtain ⟨hc0, hc1⟩ := tab_cells hT.cell
  clear hT
  by_cases h0 : i < 0
  · clear hi
    go_enter Tryd.func23, Tryd.ntmps23
    go_wp2_with (go_at_call 43; refine (fault_any _ _ _).mono ?_; rintro r w' ⟨rfl, hF, hb⟩)
    go_ret2
    exact ⟨rfl, hF, hb⟩
  · have h1 : (ns.length : Int) ≤ i := hi.resolve_left h0
    clear hi
    go_enter Tryd.func23, Tryd.ntmps23
    go_wp2_with (go_at_call 43; refine (fault_any _ _ _).mono ?_; rintro r w' ⟨rfl, hF, hb⟩)
    go_ret2
    exact ⟨rfl, hF, hb⟩
def coB (co : Bool) (s : ByteArray) : ByteArray := if co then (⟨#[39]⟩ : ByteArray) ++ s else s
set_option maxRecDepth 100000 in
set_option maxHeartbeats 1000000 in
theorem text_tau (b : Nat) (w : World) : Calls Tryd.prog 24 #[.pointer (some ⟨b, 0, none⟩), .int .i64 0] w fun r w' => r = .returned (.tuple #[.string tauB, .nilIface]) ∧ w' = w := by
  go_enter Tryd.func24, Tryd.ntmps24
  go_wp2
  go_ret2
  exact ⟨rfl, rfl⟩
set_option maxRecDepth 100000 in
set_option maxHeartbeats 1000000 in
theorem text_yes (b : Nat) (vn vm : Value) (ns : List ByteArray) (s : ByteArray) (l : Int) (i : Nat) (w : World) (hT : Tab w b vn vm ns) (hn : Ac.named l = true) (hl : Ac.nameN l = i) (hi : ns[i]? = some s) :
    Calls Tryd.prog 24 #[.pointer (some ⟨b, 0, none⟩), .int .i64 l] w fun r w' => r = .returned (.tuple #[.string (coB (Ac.nameC l) s), .nilIface]) ∧ w' = w := by
  have hN := name_yes b vn vm ns s i w hT hi
  have hC := nameOf_any l w
  rw [hn, hl] at hC
  have hsz := hT.strs s (List.mem_of_getElem? hi)
  have h0 : (l == 0) = false := by
    have : 0 < l := by simp [Ac.named] at hn; omega
    simp; omega
  clear hT hn hl hi
  cases hco : Ac.nameC l with
  | true =>
    rw [hco] at hC
    clear hco
    go_enter Tryd.func24, Tryd.ntmps24
    go_wp2_with (first | (go_at_call 32; refine hC.mono ?_; rintro r w' ⟨rfl, hw⟩; obtain rfl := hw.symm) | (go_at_call 23; refine hN.mono ?_; rintro r w' ⟨rfl, hw⟩; obtain rfl := hw.symm))
    go_ret2
    exact ⟨rfl, rfl⟩
  | false =>
    rw [hco] at hC
    clear hco
    go_enter Tryd.func24, Tryd.ntmps24
    go_wp2_with (first | (go_at_call 32; refine hC.mono ?_; rintro r w' ⟨rfl, hw⟩; obtain rfl := hw.symm) | (go_at_call 23; refine hN.mono ?_; rintro r w' ⟨rfl, hw⟩; obtain rfl := hw.symm))
    go_ret2
    exact ⟨rfl, rfl⟩
set_option maxRecDepth 100000 in
set_option maxHeartbeats 1000000 in
theorem text_no (b : Nat) (vn vm : Value) (ns : List ByteArray) (l : Int) (T : TypeId) (u : Value) (w : World) (hT : Tab w b vn vm ns) (h0 : l ≠ 0) (hn : Ac.named l = false ∨ (ns.length : Int) ≤ Ac.nameN l) (hI : w.cell? ⟨5, 0, none⟩ = some (.iface T u)) :
    Calls Tryd.prog 24 #[.pointer (some ⟨b, 0, none⟩), .int .i64 l] w fun r w' => r = .returned (.tuple #[.string ⟨#[]⟩, faultV w.heap.size]) ∧ ActFault w' w.heap.size (.iface T u) ∧ Below w.heap.size w w' := by
  have hC := nameOf_any l w
  have h0' : (l == 0) = false := by simpa using h0
  clear h0
  cases hnm : Ac.named l with
  | false =>
    rw [hnm] at hC
    clear hnm hn hT
    go_enter Tryd.func24, Tryd.ntmps24
    go_wp2_with (first | (go_at_call 32; refine hC.mono ?_; rintro r w' ⟨rfl, hw⟩; obtain rfl := hw.symm) | (go_at_call 43; refine (fault_any _ _ _).mono ?_; rintro r w' ⟨rfl, hF, hb⟩))
    go_ret2
    exact ⟨rfl, hF, hb⟩
  | true =>
    have h2 : (ns.length : Int) ≤ Ac.nameN l := hn.resolve_left (by rw [hnm]; simp)
    have hN := name_no b vn vm ns (Ac.nameN l) T u w hT (.inr h2) hI
    rw [hnm] at hC
    clear hnm hn hT h2
    unfold faultV at hN ⊢
    go_enter Tryd.func24, Tryd.ntmps24
    go_wp2_with (first | (go_at_call 32; refine hC.mono ?_; rintro r w' ⟨rfl, hw⟩; obtain rfl := hw.symm) | (go_at_call 23; refine hN.mono ?_; rintro r w' ⟨rfl, hF, hb⟩))
    go_ret2
    exact ⟨rfl, hF, hb⟩
end Go.Proofs.YtebeimjgppidcacDoor
