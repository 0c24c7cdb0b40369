/- Contracts of the table's Add of any text, of Size and of Names. -/
import Derived.Test.YtebeimjgppidcacDoorAlive2
import Derived.Test.YtebeimjgppidcacDoorErrs6
namespace Go.Proofs.YtebeimjgppidcacDoor
open Go.RowKit Go.Maps
set_option maxRecDepth 100000 in
set_option maxHeartbeats 1000000 in
/-- Add of a new name where there is no room. -/
theorem add_full (b : Nat) (vn vm : Value) (ns : List ByteArray) (s : ByteArray) (a : Addr) (T : TypeId) (u : Value) (w : World) (hT : Tab w b vn vm ns) (hi : s ∉ ns) (ht : s ≠ tauB) (hn : Lx.nameZ true s = true) (hs : s.size ≤ 32) (hl : 100 ≤ ns.length) (hU : w.cell? ⟨3, 0, none⟩ = some (.iface 103 (.pointer (some a)))) (hL : w.cell? ⟨4, 0, none⟩ = some (.iface T u)) :
    Calls Tryd.prog 21 #[.pointer (some ⟨b, 0, none⟩), .string s] w fun r w' => ∃ bF, r = .returned (.tuple #[.int .i64 0, faultV bF]) ∧ ActFault w' bF (.iface T u) ∧ Below w.heap.size w w' := by
  have hC := isName_any s w (by unfold maxLen; omega)
  rw [hn] at hC
  have hF := find_no b vn vm ns s _ _ w hT hi (by unfold maxLen; omega) hU
  have hq := tau_no ht
  obtain ⟨ao, cap, rfl⟩ := row_form hT.row
  have HT : Hid (Tab w b (.slice ao ns.length cap) vm ns) := hT
  clear ht hT hi hn
  go_enter Tryd.func21, Tryd.ntmps21
  go_wp2_with (go_at_call 44; refine hC.mono ?_; rintro r w' ⟨rfl, hw⟩; obtain rfl := hw.symm)
  refine hF.mono ?_
  rintro r w1 ⟨rfl, hA, hb1⟩
  have hT1 := HT.out.below hb1
  have hU1 : w1.cell? ⟨3, 0, none⟩ = some (.iface 103 (.pointer (some a))) := (hb1.cell (World.block_lt_of_cell? w _ hU)).trans hU
  have hL1 : w1.cell? ⟨4, 0, none⟩ = some (.iface T u) := (hb1.cell (World.block_lt_of_cell? w _ hL)).trans hL
  have hE := actFault_err hA
  obtain ⟨d0, d1⟩ := tab_cells hT1.cell
  have H1 : Hid (Below w.heap.size w w1) := hb1
  clear hT1 hA hb1 hC hF
  unfold faultV
  have hl9 : (100 : Int) ≤ ((ns.length : Nat) : Int) := by omega
  go_wp2_with (first | (go_at_call 45; refine (is_fault_same _ a _ hE).mono ?_; rintro r w' ⟨rfl, hw⟩; obtain rfl := hw.symm) | (go_at_call 43; refine (fault_any _ _ _).mono ?_; rintro r w2 ⟨rfl, hF2, hb2⟩))
  go_ret2
  exact ⟨_, rfl, hF2, H1.out.trans (hb2.mono H1.out.size)⟩
/-- What Add does to a table, and what it answers. -/
def AddOut (b : Nat) (vn vm : Value) (ns : List ByteArray) (s : ByteArray) (w : World) (r : Ending) (w' : World) : Prop :=
  ∃ vn' vm' ns', Tab w' b vn' vm' ns' ∧ Keeps (Foot b vn vm) w w' ∧ (∀ i, Foot b vn' vm' i → Foot b vn vm i ∨ w.heap.size ≤ i) ∧
    ((∃ bF, r = .returned (.tuple #[.int .i64 0, faultV bF]) ∧ ns' = ns) ∨ (s ≠ tauB ∧ Lx.nameZ true s = true ∧ ∃ k : Nat, r = .returned (.tuple #[.int .i64 k, .nilIface]) ∧ ns'[k]? = some s ∧ k ≤ ns.length ∧ ns'.length = max ns.length (k + 1) ∧ (ns' = ns ∨ ns' = ns ++ [s])))
theorem AddOut.bad {b : Nat} {vn vm : Value} {ns : List ByteArray} {s : ByteArray} {w w' : World} {bF : Nat} (hT : Tab w b vn vm ns) (hb : Below w.heap.size w w') : AddOut b vn vm ns s w (.returned (.tuple #[.int .i64 0, faultV bF])) w' :=
  ⟨vn, vm, ns, hT.below hb, .of_below hb, fun _ h => .inl h, .inl ⟨bF, rfl, rfl⟩⟩
theorem nameZ_le {s : ByteArray} (h : Lx.nameZ true s = true) : s.size ≤ 32 := by
  unfold Lx.nameZ at h
  split at h
  · simp at h; exact h.1.1
  · cases h
theorem add_any (b : Nat) (vn vm : Value) (ns : List ByteArray) (s : ByteArray) (aA aL aI aW aU aS : Addr) (w : World) (hT : Tab w b vn vm ns) (hs : s.size ≤ maxLen) (hE : Six w aA aL aI aW aU aS) :
    Calls Tryd.prog 21 #[.pointer (some ⟨b, 0, none⟩), .string s] w fun r w' => AddOut b vn vm ns s w r w' := by
  by_cases ht : s = tauB
  · subst ht
    refine (add_tau b _ _ w hE.S.1).mono ?_
    rintro r w' ⟨rfl, hF, hb⟩
    exact .bad hT hb
  · cases hn : Lx.nameZ true s with
    | false =>
      refine (add_word b s _ _ w hs ht hn hE.W.1).mono ?_
      rintro r w' ⟨rfl, hF, hb⟩
      exact .bad hT hb
    | true =>
      by_cases hm : s ∈ ns
      · obtain ⟨i, hi, rfl⟩ := List.getElem_of_mem hm
        refine (add_yes b vn vm ns _ i _ w hT (List.getElem?_eq_getElem hi) ht hn hE.U.1).mono ?_
        rintro r w' ⟨rfl, rfl⟩
        exact ⟨vn, vm, ns, hT, Keeps.refl _ _, fun _ h => .inl h, .inr ⟨ht, hn, i, rfl, List.getElem?_eq_getElem hi, by omega, by omega, .inl rfl⟩⟩
      · by_cases hl : ns.length < 100
        · refine (add_new b vn vm ns s aU w hT hm ht hn (nameZ_le hn) hl hE.U.1).mono ?_
          rintro r w' ⟨rfl, vn', vm', hT', hK, hf⟩
          exact ⟨vn', vm', _, hT', hK, hf, .inr ⟨ht, hn, ns.length, rfl, by simp, Nat.le_refl _, by simp, .inr rfl⟩⟩
        · refine (add_full b vn vm ns s aU _ _ w hT hm ht hn (nameZ_le hn) (by omega) hE.U.1 hE.L.1).mono ?_
          rintro r w' ⟨bF, rfl, hF, hb⟩
          exact .bad hT hb
theorem size_any (b : Nat) (vn vm : Value) (ns : List ByteArray) (w : World) (hT : Tab w b vn vm ns) : Calls Tryd.prog 27 #[.pointer (some ⟨b, 0, none⟩)] w fun r w' => r = .returned (.int .i64 ns.length) ∧ w' = w := by
  obtain ⟨ao, cap, rfl⟩ := row_form hT.row
  obtain ⟨hc0, hc1⟩ := tab_cells hT.cell
  clear hT
  go_enter Tryd.func27, Tryd.ntmps27
  go_wp2
  go_ret
  exact ⟨rfl, rfl⟩
set_option maxRecDepth 100000 in
set_option maxHeartbeats 1000000 in
/-- The table's names in a list of their own. -/
theorem names_any (b : Nat) (vn vm : Value) (ns : List ByteArray) (w : World) (hT : Tab w b vn vm ns) : Calls Tryd.prog 28 #[.pointer (some ⟨b, 0, none⟩)] w fun r w' => ∃ v, r = .returned v ∧ w'.ownsRow w.heap.size 9 1 v ns.length (ns.map Value.string) ∧ Below w.heap.size w w' := by
  obtain ⟨hc0, hc1⟩ := tab_cells hT.cell
  obtain ⟨i0, hi0, hz0, hz1, hz2⟩ := info_parts Tryd.infoS
  have hlen := hT.len
  have hml : 0 + ns.length ≤ maxLen := by unfold maxLen; omega
  have hby : (0 + ns.length) * 16 ≤ 140737488355328 := by omega
  rcases hT.row.2 with ⟨rfl, h0⟩ | ⟨g, cap, cur, rfl, _⟩
  · obtain rfl : ns = [] := List.length_eq_zero_iff.1 h0
    clear hT
    go_enter Tryd.func28, Tryd.ntmps28
    go_wp2
    go_ret
    exact ⟨_, rfl, World.ownsRow_nil _ _ _ _, Below.refl _ _⟩
  · have hnews : ∀ j u, (ns.map Value.string)[j]? = some u → w.cell? ((⟨g, 0, none⟩ : Addr).add j) = some u := hT.row.cells (g := g) rfl
    have hone : ∀ u ∈ ns.map Value.string, u.oneCell' = true := fun u hu => by
      obtain ⟨s, _, rfl⟩ := List.mem_map.1 hu; rfl
    have hl : (ns.map Value.string).length = ns.length * 1 := by simp
    clear hT
    go_enter Tryd.func28, Tryd.ntmps28
    go_wp2_with (at_builtin; refine wpList_append_own_at _ rfl _ _ 46 rfl w.heap.size 9 i0 (.string ⟨#[]⟩) 1 16 Tryd.underlying46 hi0 hz0 hz1 hz2 rfl (by decide) (.slice none 0 0) 0 [] rfl (World.ownsRow_nil _ _ _ _) ⟨g, 0, none⟩ ns.length cap (ns.map Value.string) rfl hl hnews hone hml hby (Nat.le_refl _) ?_; intro v' w2 hown' hgrow hnil hat)
    go_ret
    refine ⟨_, rfl, by simpa using hown', ⟨hgrow.os, hgrow.tape, hgrow.output, hgrow.size, fun k hk => hgrow.block k hk (by simp [Value.ownBlock])⟩⟩
end Go.Proofs.YtebeimjgppidcacDoor
