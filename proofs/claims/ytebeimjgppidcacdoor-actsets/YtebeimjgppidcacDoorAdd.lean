/- Contracts of the table's Add, Name and Text. -/
import Derived.Test.YtebeimjgppidcacDoorPut
import Derived.Test.YtebeimjgppidcacDoorNam
import Derived.Test.YtebeimjgppidcacDoorIs
import Derived.Test.YtebeimjgppidcacDoorLabel
namespace Go.Proofs.YtebeimjgppidcacDoor
open Go.RowKit Go.Maps
theorem Tryd.eqNilErr (v : Value) (w : World) : (binOp BinOp.eql 37 .nilIface (.iface 103 v)).run Tryd.prog w = .ok (.bool false) w := by kernel_rfl
set_option maxRecDepth 100000 in
set_option maxHeartbeats 1000000 in
/-- errors.Is(nil, x). -/
theorem is_nil (v : Value) (w : World) : Calls Tryd.prog 45 #[.nilIface, .iface 103 v] w fun e w' => e = .returned (.bool false) ∧ w' = w := by
  have hq := Tryd.eqNilErr v
  go_enter Tryd.func45, Tryd.ntmps45
  go_wp2
  go_ret
  exact ⟨rfl, rfl⟩
def tauB : ByteArray := ⟨#[116, 97, 117]⟩
theorem tau_no {s : ByteArray} (h : s ≠ tauB) : (s.toList == [116, 97, 117]) = false := by
  refine beq_eq_false_iff_ne.2 fun e => h ?_
  rw [ByteArray.toList_eq] at e
  cases s
  simp only [tauB, ByteArray.mk.injEq]
  exact Array.toList_inj.1 e
set_option maxRecDepth 100000 in
set_option maxHeartbeats 1000000 in
theorem add_tau (b : Nat) (T : TypeId) (u : Value) (w : World) (hS : w.cell? ⟨1, 0, none⟩ = some (.iface T u)) :
    Calls Tryd.prog 21 #[.pointer (some ⟨b, 0, none⟩), .string tauB] w fun r w' => r = .returned (.tuple #[.int .i64 0, faultV w.heap.size]) ∧ ActFault w' w.heap.size (.iface T u) ∧ Below w.heap.size w w' := by
  unfold tauB
  go_enter Tryd.func21, Tryd.ntmps21
  go_wp2_with (go_at_call 43; refine (fault_any _ _ _).mono ?_; rintro r w' ⟨rfl, hF, hb⟩)
  go_ret2
  exact ⟨rfl, hF, hb⟩
set_option maxRecDepth 100000 in
set_option maxHeartbeats 1000000 in
theorem add_word (b : Nat) (s : ByteArray) (T : TypeId) (u : Value) (w : World) (hs : s.size ≤ maxLen) (ht : s ≠ tauB) (hn : Lx.nameZ true s = false) (hW : w.cell? ⟨2, 0, none⟩ = some (.iface T u)) :
    Calls Tryd.prog 21 #[.pointer (some ⟨b, 0, none⟩), .string s] w fun r w' => r = .returned (.tuple #[.int .i64 0, faultV w.heap.size]) ∧ ActFault w' w.heap.size (.iface T u) ∧ Below w.heap.size w w' := by
  have hC := isName_any s w hs
  rw [hn] at hC
  have hq := tau_no ht
  clear ht
  go_enter Tryd.func21, Tryd.ntmps21
  go_wp2_with (first | (go_at_call 43; refine (fault_any _ _ _).mono ?_; rintro r w' ⟨rfl, hF, hb⟩) | (go_at_call 44; refine hC.mono ?_; rintro r w' ⟨rfl, rfl⟩))
  go_ret2
  exact ⟨rfl, hF, hb⟩
set_option maxRecDepth 100000 in
set_option maxHeartbeats 1000000 in
/-- Add of a name that is there. -/
theorem add_yes (b : Nat) (vn vm : Value) (ns : List ByteArray) (s : ByteArray) (i : Nat) (v : Value) (w : World) (hT : Tab w b vn vm ns) (hi : ns[i]? = some s) (ht : s ≠ tauB) (hn : Lx.nameZ true s = true) (hU : w.cell? ⟨3, 0, none⟩ = some (.iface 103 v)) :
    Calls Tryd.prog 21 #[.pointer (some ⟨b, 0, none⟩), .string s] w fun r w' => r = .returned (.tuple #[.int .i64 i, .nilIface]) ∧ w' = w := by
  have hC := isName_any s w (by have := hT.strs s (List.mem_of_getElem? hi); unfold maxLen; omega)
  rw [hn] at hC
  have hF := find_yes b vn vm ns s i w hT hi
  have hq := tau_no ht
  clear ht hT hi hn
  go_enter Tryd.func21, Tryd.ntmps21
  go_wp2_with (first | (go_at_call 22; refine hF.mono ?_; rintro r w' ⟨rfl, rfl⟩) | (go_at_call 44; refine hC.mono ?_; rintro r w' ⟨rfl, rfl⟩) | (go_at_call 45; refine (is_nil _ _).mono ?_; rintro r w' ⟨rfl, rfl⟩))
  go_ret2
  exact ⟨rfl, rfl⟩
theorem actFault_err {w : World} {b : Nat} {e : Value} (h : ActFault w b e) : w.cell? ⟨b, 3, none⟩ = some e := by
  unfold ActFault at h
  simp [World.cell?, h]
set_option maxRecDepth 100000 in
set_option maxHeartbeats 1000000 in
/-- Add of a new name where there is room. -/
theorem add_new (b : Nat) (vn vm : Value) (ns : List ByteArray) (s : ByteArray) (a : Addr) (w : World) (hT : Tab w b vn vm ns) (hi : s ∉ ns) (ht : s ≠ tauB) (hn : Lx.nameZ true s = true) (hs : s.size ≤ 32) (hl : ns.length < 100) (hU : w.cell? ⟨3, 0, none⟩ = some (.iface 103 (.pointer (some a)))) :
    Calls Tryd.prog 21 #[.pointer (some ⟨b, 0, none⟩), .string s] w fun r w' => r = .returned (.tuple #[.int .i64 ns.length, .nilIface]) ∧ ∃ vn' vm', Tab w' b vn' vm' (ns ++ [s]) ∧ Keeps (Foot b vn vm) w w' ∧ (∀ i, Foot b vn' vm' i → Foot b vn vm i ∨ w.heap.size ≤ i) := by
  have hC := isName_any s w (by unfold maxLen; omega)
  rw [hn] at hC
  have hF := find_no b vn vm ns s _ _ w hT hi (by unfold maxLen; omega) hU
  have hq := tau_no ht
  obtain ⟨ao, cap, rfl⟩ := row_form hT.row
  have HT : Hid (Tab w b (.slice ao ns.length cap) vm ns ∧ s ∉ ns) := ⟨hT, hi⟩
  clear ht hT hi hn
  go_enter Tryd.func21, Tryd.ntmps21
  go_wp2_with (go_at_call 44; refine hC.mono ?_; rintro r w' ⟨rfl, hw⟩; obtain rfl := hw.symm)
  refine hF.mono ?_
  rintro r w1 ⟨rfl, hA, hb1⟩
  have hT1 := HT.out.1.below hb1
  have hU1 : w1.cell? ⟨3, 0, none⟩ = some (.iface 103 (.pointer (some a))) := (hb1.cell (World.block_lt_of_cell? w _ hU)).trans hU
  have hE := actFault_err hA
  obtain ⟨d0, d1⟩ := tab_cells hT1.cell
  have H1 : Hid (Tab w1 b (.slice ao ns.length cap) vm ns ∧ Below w.heap.size w w1) := ⟨hT1, hb1⟩
  clear hT1 hA hb1 hC hF
  unfold faultV
  have hl9 : ((ns.length : Nat) : Int) < 100 := by omega
  go_wp2_with (go_at_call 45; refine (is_fault_same _ a _ hE).mono ?_; rintro r w' ⟨rfl, hw⟩; obtain rfl := hw.symm)
  rcases H1.out.1.map with ⟨rfl, rfl⟩ | ⟨bm, D, rfl, ho, hm⟩
  · refine (put_none b _ s w1 H1.out.1 hs).mono ?_
    rintro r w2 ⟨rfl, vn', hT2, hK, hat⟩
    have H2 : Hid (∃ vn' vm', Tab w2 b vn' vm' ([] ++ [s]) ∧ Keeps (Foot b (.slice ao ([] : List ByteArray).length cap) (.map none)) w w2 ∧ (∀ i, Foot b vn' vm' i → Foot b (.slice ao ([] : List ByteArray).length cap) (.map none) i ∨ w.heap.size ≤ i)) := ⟨vn', _, hT2, (Keeps.of_below H1.out.2).trans hK, fun i hf => by
      have hsz := H1.out.2.size
      rcases hf with hf | hf | hf
      · exact .inl (.inl hf)
      · rcases hat with e | ⟨g, e, hg⟩
        · exact .inl (.inr (.inl (e ▸ hf)))
        · rw [e] at hf; cases hf; exact .inr (by omega)
      · injection hf with hf; injection hf with hf; exact .inr (by omega)⟩
    clear hT2 hK hat
    go_wp2
    go_ret2
    exact ⟨rfl, H2.out⟩
  · refine (put_some b bm _ D ns s w1 H1.out.1 ho hm HT.out.2 hs hl).mono ?_
    rintro r w2 ⟨rfl, vn', hT2, hK, hat⟩
    have H2 : Hid (∃ vn' vm', Tab w2 b vn' vm' (ns ++ [s]) ∧ Keeps (Foot b (.slice ao ns.length cap) (.map (some bm))) w w2 ∧ (∀ i, Foot b vn' vm' i → Foot b (.slice ao ns.length cap) (.map (some bm)) i ∨ w.heap.size ≤ i)) := ⟨vn', _, hT2, (Keeps.of_below H1.out.2).trans hK, fun i hf => by
      have hsz := H1.out.2.size
      rcases hf with hf | hf | hf
      · exact .inl (.inl hf)
      · rcases hat with e | ⟨g, e, hg⟩
        · exact .inl (.inr (.inl (e ▸ hf)))
        · rw [e] at hf; cases hf; exact .inr (by omega)
      · exact .inl (.inr (.inr hf))⟩
    clear hT2 hK hat ho hm
    go_wp2
    go_ret2
    exact ⟨rfl, H2.out⟩
end Go.Proofs.YtebeimjgppidcacDoor
