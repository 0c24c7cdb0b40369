/- Texts of this claim, joined: Label, Add, Text, Alive2, Sent, Errs6. -/
import Derived.Test.YthcboklkejlifaaGreatDoorProg
import Derived.WalkKit
import Derived.WalkSpells
import Derived.Test.YthcboklkejlifaaGreatDoorPart1
import Derived.Test.YthcboklkejlifaaGreatDoorPart2
import Derived.Below
import Derived.OneCell
/- Contracts of package act's Label, NameOf and Co. -/
namespace Go.Proofs.YthcboklkejlifaaGreatDoor
open Go.RowKit
namespace Ac
def isN (c : Int) : Bool := decide (0 ≤ c ∧ c < 100)
def label (n : Int) (co : Bool) : Int := if 0 ≤ n ∧ n < 100 then (if co then 2 * n + 2 else 2 * n + 1) else 0
def named (l : Int) : Bool := decide (0 < l ∧ l < 201)
def nameN (l : Int) : Int := if 0 < l ∧ l < 201 then (l - 1) / 2 else 0
def nameC (l : Int) : Bool := decide (0 < l ∧ l < 201 ∧ l % 2 = 0)
def co (l : Int) : Int := if 0 < l ∧ l < 201 then label (nameN l) (!nameC l) else 0
end Ac
theorem ret_int' {a b : Int} (h : a = b) : Ending.returned (.int .i64 a) = .returned (.int .i64 b) := by rw [h]
theorem actName_any (c : Int) (w : World) : Calls Tryz.prog 134 #[.int .i64 c] w fun e w' => e = .returned (.bool (Ac.isN c)) ∧ w' = w := by
  rcases (show c < 0 ∨ (0 ≤ c ∧ c < 100) ∨ (0 ≤ c ∧ 100 ≤ c) from by omega) with h | ⟨h1, h2⟩ | ⟨h1, h2⟩
  all_goals
    go_enter Tryz.func134, Tryz.ntmps134
    go_wp2
    go_ret
    exact ⟨by simp [Ac.isN]; omega, rfl⟩
theorem label_any (n : Int) (co : Bool) (w : World) : Calls Tryz.prog 110 #[.int .i64 n, .bool co] w fun e w' => e = .returned (.int .i64 (Ac.label n co)) ∧ w' = w := by
  cases h : Ac.isN n with
  | false =>
    have H : Hid (Ac.label n co = 0) := (by unfold Ac.label; rw [if_neg (by simpa [Ac.isN] using h)] : Ac.label n co = 0)
    go_enter Tryz.func110, Tryz.ntmps110
    go_wp2_with (go_at_call 134; refine (actName_any _ _).mono ?_; rintro e w' ⟨rfl, rfl⟩)
    go_ret
    exact ⟨ret_int' H.out.symm, rfl⟩
  | true =>
    have h2 : 0 ≤ n ∧ n < 100 := by simpa [Ac.isN] using h
    obtain ⟨h0, h1⟩ := h2
    cases co with
    | true =>
      have H : Hid (Ac.label n true = 2 * n + 2) := (by unfold Ac.label; rw [if_pos ⟨h0, h1⟩]; rfl : Ac.label n true = 2 * n + 2)
      go_enter Tryz.func110, Tryz.ntmps110
      go_wp2_with (go_at_call 134; refine (actName_any _ _).mono ?_; rintro e w' ⟨rfl, rfl⟩)
      go_ret
      exact ⟨ret_int' H.out.symm, rfl⟩
    | false =>
      have H : Hid (Ac.label n false = 2 * n + 1) := (by unfold Ac.label; rw [if_pos ⟨h0, h1⟩]; rfl : Ac.label n false = 2 * n + 1)
      go_enter Tryz.func110, Tryz.ntmps110
      go_wp2_with (go_at_call 134; refine (actName_any _ _).mono ?_; rintro e w' ⟨rfl, rfl⟩)
      go_ret
      exact ⟨ret_int' H.out.symm, rfl⟩
theorem nameOf_any (l : Int) (w : World) : Calls Tryz.prog 133 #[.int .i64 l] w fun e w' => e = .returned (.tuple #[.int .i64 (Ac.nameN l), .bool (Ac.nameC l), .bool (Ac.named l)]) ∧ w' = w := by
  by_cases h0 : l ≤ 0
  · have H : Hid (Ac.nameN l = 0 ∧ Ac.nameC l = false ∧ Ac.named l = false) := ⟨by unfold Ac.nameN; rw [if_neg (by omega)], by simp [Ac.nameC]; omega, by simp [Ac.named]; omega⟩
    go_enter Tryz.func133, Tryz.ntmps133
    go_wp2
    rw [H.out.1, H.out.2.1, H.out.2.2]
    exact bodyPost_ret (by simp [results, Tryz.results133, go_sem]) rfl ⟨rfl, rfl⟩
  · by_cases h1 : 201 ≤ l
    · have H : Hid (Ac.nameN l = 0 ∧ Ac.nameC l = false ∧ Ac.named l = false) := ⟨by unfold Ac.nameN; rw [if_neg (by omega)], by simp [Ac.nameC]; omega, by simp [Ac.named]; omega⟩
      go_enter Tryz.func133, Tryz.ntmps133
      go_wp2
      rw [H.out.1, H.out.2.1, H.out.2.2]
      exact bodyPost_ret (by simp [results, Tryz.results133, go_sem]) rfl ⟨rfl, rfl⟩
    · obtain ⟨n, rfl⟩ : ∃ n : Nat, l = n := ⟨l.toNat, by omega⟩
      have hq : ((n : Int) - 1).tdiv 2 = ((n : Int) - 1) / 2 := Int.tdiv_eq_ediv_of_nonneg (by omega)
      have hr : (n : Int).tmod 2 = (n : Int) % 2 := Int.tmod_eq_emod_of_nonneg (by omega)
      by_cases h2 : (n : Int) % 2 = 0
      · have H : Hid (Ac.nameN n = ((n : Int) - 1) / 2 ∧ Ac.nameC n = true ∧ Ac.named n = true) := ⟨by unfold Ac.nameN; rw [if_pos (by omega)], by simp [Ac.nameC]; omega, by simp [Ac.named]; omega⟩
        have hb : ((n : Int).tmod 2 == 0) = true := by rw [hr, h2]; rfl
        go_enter Tryz.func133, Tryz.ntmps133
        go_wp2
        rw [H.out.1, H.out.2.1, H.out.2.2, ← hq]
        exact bodyPost_ret (by simp [results, Tryz.results133, go_sem]) rfl ⟨rfl, rfl⟩
      · have H : Hid (Ac.nameN n = ((n : Int) - 1) / 2 ∧ Ac.nameC n = false ∧ Ac.named n = true) := ⟨by unfold Ac.nameN; rw [if_pos (by omega)], by simp [Ac.nameC]; omega, by simp [Ac.named]; omega⟩
        have hb : ((n : Int).tmod 2 == 0) = false := by rw [hr]; simp; omega
        go_enter Tryz.func133, Tryz.ntmps133
        go_wp2
        rw [H.out.1, H.out.2.1, H.out.2.2, ← hq]
        exact bodyPost_ret (by simp [results, Tryz.results133, go_sem]) rfl ⟨rfl, rfl⟩
end Go.Proofs.YthcboklkejlifaaGreatDoor
/- Contracts of the table's Add, Name and Text. -/
namespace Go.Proofs.YthcboklkejlifaaGreatDoor
open Go.RowKit Go.Maps
theorem Tryz.eqNilErr (v : Value) (w : World) : (binOp BinOp.eql 40 .nilIface (.iface 194 v)).run Tryz.prog w = .ok (.bool false) w := by kernel_rfl
set_option maxRecDepth 100000 in
set_option maxHeartbeats 1000000 in
/-- errors.Is(nil, x). -/
theorem is_nil (v : Value) (w : World) : Calls Tryz.prog 85 #[.nilIface, .iface 194 v] w fun e w' => e = .returned (.bool false) ∧ w' = w := by
  have hq := Tryz.eqNilErr v
  go_enter Tryz.func85, Tryz.ntmps85
  go_wp2
  go_ret
  exact ⟨rfl, rfl⟩
def tauB : ByteArray := ⟨#[116, 97, 117]⟩
theorem tau_no {s : ByteArray} (h : s ≠ tauB) : (s.toList == [116, 97, 117]) = false := by
  refine beq_eq_false_iff_ne.2 fun e => h ?_
  rw [ByteArray.toList_eq] at e
  cases s
  simp only [tauB, ByteArray.mk.injEq]
  exact Array.toList_inj.1 e
set_option maxRecDepth 100000 in
set_option maxHeartbeats 1000000 in
theorem add_tau (b : Nat) (T : TypeId) (u : Value) (w : World) (hS : w.cell? ⟨8, 0, none⟩ = some (.iface T u)) :
    Calls Tryz.prog 108 #[.pointer (some ⟨b, 0, none⟩), .string tauB] w fun r w' => r = .returned (.tuple #[.int .i64 0, faultV w.heap.size]) ∧ ActFault w' w.heap.size (.iface T u) ∧ Below w.heap.size w w' := by
  unfold tauB
  go_enter Tryz.func108, Tryz.ntmps108
  go_wp2_with (go_at_call 130; refine (fault_any _ _ _).mono ?_; rintro r w' ⟨rfl, hF, hb⟩)
  go_ret2
  exact ⟨rfl, hF, hb⟩
set_option maxRecDepth 100000 in
set_option maxHeartbeats 1000000 in
theorem add_word (b : Nat) (s : ByteArray) (T : TypeId) (u : Value) (w : World) (hs : s.size ≤ maxLen) (ht : s ≠ tauB) (hn : Lx.nameZ true s = false) (hW : w.cell? ⟨1, 0, none⟩ = some (.iface T u)) :
    Calls Tryz.prog 108 #[.pointer (some ⟨b, 0, none⟩), .string s] w fun r w' => r = .returned (.tuple #[.int .i64 0, faultV w.heap.size]) ∧ ActFault w' w.heap.size (.iface T u) ∧ Below w.heap.size w w' := by
  have hC := isName_any s w hs
  rw [hn] at hC
  have hq := tau_no ht
  clear ht
  go_enter Tryz.func108, Tryz.ntmps108
  go_wp2_with (first | (go_at_call 130; refine (fault_any _ _ _).mono ?_; rintro r w' ⟨rfl, hF, hb⟩) | (go_at_call 131; refine hC.mono ?_; rintro r w' ⟨rfl, rfl⟩))
  go_ret2
  exact ⟨rfl, hF, hb⟩
set_option maxRecDepth 100000 in
set_option maxHeartbeats 1000000 in
/-- Add of a name that is there. -/
theorem add_yes (b : Nat) (vn vm : Value) (ns : List ByteArray) (s : ByteArray) (i : Nat) (v : Value) (w : World) (hT : Tab w b vn vm ns) (hi : ns[i]? = some s) (ht : s ≠ tauB) (hn : Lx.nameZ true s = true) (hU : w.cell? ⟨7, 0, none⟩ = some (.iface 194 v)) :
    Calls Tryz.prog 108 #[.pointer (some ⟨b, 0, none⟩), .string s] w fun r w' => r = .returned (.tuple #[.int .i64 i, .nilIface]) ∧ w' = w := by
  have hC := isName_any s w (by have := hT.strs s (List.mem_of_getElem? hi); unfold maxLen; omega)
  rw [hn] at hC
  have hF := find_yes b vn vm ns s i w hT hi
  have hq := tau_no ht
  clear ht hT hi hn
  go_enter Tryz.func108, Tryz.ntmps108
  go_wp2_with (first | (go_at_call 115; refine hF.mono ?_; rintro r w' ⟨rfl, rfl⟩) | (go_at_call 131; refine hC.mono ?_; rintro r w' ⟨rfl, rfl⟩) | (go_at_call 85; refine (is_nil _ _).mono ?_; rintro r w' ⟨rfl, rfl⟩))
  go_ret2
  exact ⟨rfl, rfl⟩
theorem actFault_err {w : World} {b : Nat} {e : Value} (h : ActFault w b e) : w.cell? ⟨b, 3, none⟩ = some e := by
  unfold ActFault at h
  simp [World.cell?, h]
set_option maxRecDepth 100000 in
set_option maxHeartbeats 1000000 in
/-- Add of a new name where there is room. -/
theorem add_new (b : Nat) (vn vm : Value) (ns : List ByteArray) (s : ByteArray) (a : Addr) (w : World) (hT : Tab w b vn vm ns) (hi : s ∉ ns) (ht : s ≠ tauB) (hn : Lx.nameZ true s = true) (hs : s.size ≤ 32) (hl : ns.length < 100) (hU : w.cell? ⟨7, 0, none⟩ = some (.iface 194 (.pointer (some a)))) :
    Calls Tryz.prog 108 #[.pointer (some ⟨b, 0, none⟩), .string s] w fun r w' => r = .returned (.tuple #[.int .i64 ns.length, .nilIface]) ∧ ∃ vn' vm', Tab w' b vn' vm' (ns ++ [s]) ∧ Keeps (Foot b vn vm) w w' ∧ (∀ i, Foot b vn' vm' i → Foot b vn vm i ∨ w.heap.size ≤ i) := by
  have hC := isName_any s w (by unfold maxLen; omega)
  rw [hn] at hC
  have hF := find_no b vn vm ns s _ _ w hT hi (by unfold maxLen; omega) hU
  have hq := tau_no ht
  obtain ⟨ao, cap, rfl⟩ := row_form hT.row
  have HT : Hid (Tab w b (.slice ao ns.length cap) vm ns ∧ s ∉ ns) := ⟨hT, hi⟩
  clear ht hT hi hn
  go_enter Tryz.func108, Tryz.ntmps108
  go_wp2_with (go_at_call 131; refine hC.mono ?_; rintro r w' ⟨rfl, hw⟩; obtain rfl := hw.symm)
  refine hF.mono ?_
  rintro r w1 ⟨rfl, hA, hb1⟩
  have hT1 := HT.out.1.below hb1
  have hU1 : w1.cell? ⟨7, 0, none⟩ = some (.iface 194 (.pointer (some a))) := (hb1.cell (World.block_lt_of_cell? w _ hU)).trans hU
  have hE := actFault_err hA
  obtain ⟨d0, d1⟩ := tab_cells hT1.cell
  have H1 : Hid (Tab w1 b (.slice ao ns.length cap) vm ns ∧ Below w.heap.size w w1) := ⟨hT1, hb1⟩
  clear hT1 hA hb1 hC hF
  unfold faultV
  have hl9 : ((ns.length : Nat) : Int) < 100 := by omega
  go_wp2_with (go_at_call 85; refine (is_fault_same _ a _ hE).mono ?_; rintro r w' ⟨rfl, hw⟩; obtain rfl := hw.symm)
  rcases H1.out.1.map with ⟨rfl, rfl⟩ | ⟨bm, D, rfl, ho, hm⟩
  · refine (put_none b _ s w1 H1.out.1 hs).mono ?_
    rintro r w2 ⟨rfl, vn', hT2, hK, hat⟩
    have H2 : Hid (∃ vn' vm', Tab w2 b vn' vm' ([] ++ [s]) ∧ Keeps (Foot b (.slice ao ([] : List ByteArray).length cap) (.map none)) w w2 ∧ (∀ i, Foot b vn' vm' i → Foot b (.slice ao ([] : List ByteArray).length cap) (.map none) i ∨ w.heap.size ≤ i)) := ⟨vn', _, hT2, (Keeps.of_below H1.out.2).trans hK, fun i hf => by
      have hsz := H1.out.2.size
      rcases hf with hf | hf | hf
      · exact .inl (.inl hf)
      · rcases hat with e | ⟨g, e, hg⟩
        · exact .inl (.inr (.inl (e ▸ hf)))
        · rw [e] at hf; cases hf; exact .inr (by omega)
      · injection hf with hf; injection hf with hf; exact .inr (by omega)⟩
    clear hT2 hK hat
    go_wp2
    go_ret2
    exact ⟨rfl, H2.out⟩
  · refine (put_some b bm _ D ns s w1 H1.out.1 ho hm HT.out.2 hs hl).mono ?_
    rintro r w2 ⟨rfl, vn', hT2, hK, hat⟩
    have H2 : Hid (∃ vn' vm', Tab w2 b vn' vm' (ns ++ [s]) ∧ Keeps (Foot b (.slice ao ns.length cap) (.map (some bm))) w w2 ∧ (∀ i, Foot b vn' vm' i → Foot b (.slice ao ns.length cap) (.map (some bm)) i ∨ w.heap.size ≤ i)) := ⟨vn', _, hT2, (Keeps.of_below H1.out.2).trans hK, fun i hf => by
      have hsz := H1.out.2.size
      rcases hf with hf | hf | hf
      · exact .inl (.inl hf)
      · rcases hat with e | ⟨g, e, hg⟩
        · exact .inl (.inr (.inl (e ▸ hf)))
        · rw [e] at hf; cases hf; exact .inr (by omega)
      · exact .inl (.inr (.inr hf))⟩
    clear hT2 hK hat ho hm
    go_wp2
    go_ret2
    exact ⟨rfl, H2.out⟩
end Go.Proofs.YthcboklkejlifaaGreatDoor
/- Contracts of the table's Name and Text. -/
namespace Go.Proofs.YthcboklkejlifaaGreatDoor
open Go.RowKit Go.Maps
theorem Tab.name {w : World} {b : Nat} {vn vm : Value} {ns : List ByteArray} (h : Tab w b vn vm ns) {i : Nat} {s : ByteArray} (hi : ns[i]? = some s) : ∃ g cap, vn = .slice (some ⟨g, 0, none⟩) ns.length cap ∧ w.cell? ⟨g, i, none⟩ = some (.string s) := by
  have hlt := (List.getElem?_eq_some_iff.1 hi).1
  rcases h.row.2 with ⟨_, h0⟩ | ⟨g, cap, cur, rfl, _⟩
  · omega
  · refine ⟨g, cap, rfl, ?_⟩
    rw [h.row.cellAt i (by omega), List.getElem?_map, hi]
    rfl
set_option maxRecDepth 100000 in
set_option maxHeartbeats 1000000 in
theorem name_yes (b : Nat) (vn vm : Value) (ns : List ByteArray) (s : ByteArray) (i : Nat) (w : World) (hT : Tab w b vn vm ns) (hi : ns[i]? = some s) :
    Calls Tryz.prog 117 #[.pointer (some ⟨b, 0, none⟩), .int .i64 i] w fun r w' => r = .returned (.tuple #[.string s, .nilIface]) ∧ w' = w := by
  have hlt := (List.getElem?_eq_some_iff.1 hi).1
  obtain ⟨g, cap, rfl, hg⟩ := hT.name hi
  obtain ⟨hc0, hc1⟩ := tab_cells hT.cell
  have hlen := hT.len
  have q0 : (0 : Int) ≤ (i : Int) := by omega
  have q1 : (i : Int) < (ns.length : Int) := by omega
  clear hT hi
  go_enter Tryz.func117, Tryz.ntmps117
  go_wp2
  go_ret2
  exact ⟨rfl, rfl⟩
set_option maxRecDepth 100000 in
set_option maxHeartbeats 1000000 in
theorem name_no (b : Nat) (vn vm : Value) (ns : List ByteArray) (i : Int) (T : TypeId) (u : Value) (w : World) (hT : Tab w b vn vm ns) (hi : i < 0 ∨ (ns.length : Int) ≤ i) (hI : w.cell? ⟨3, 0, none⟩ = some (.iface T u)) :
    Calls Tryz.prog 117 #[.pointer (some ⟨b, 0, none⟩), .int .i64 i] w fun r w' => r = .returned (.tuple #[.string ⟨#[]⟩, faultV w.heap.size]) ∧ ActFault w' w.heap.size (.iface T u) ∧ Below w.heap.size w w' := by
  obtain ⟨ao, cap, rfl⟩ := row_form hT.row
  obtain ⟨hc0, hc1⟩ := tab_cells hT.cell
  clear hT
  by_cases h0 : i < 0
  · clear hi
    go_enter Tryz.func117, Tryz.ntmps117
    go_wp2_with (go_at_call 130; refine (fault_any _ _ _).mono ?_; rintro r w' ⟨rfl, hF, hb⟩)
    go_ret2
    exact ⟨rfl, hF, hb⟩
  · have h1 : (ns.length : Int) ≤ i := hi.resolve_left h0
    clear hi
    go_enter Tryz.func117, Tryz.ntmps117
    go_wp2_with (go_at_call 130; refine (fault_any _ _ _).mono ?_; rintro r w' ⟨rfl, hF, hb⟩)
    go_ret2
    exact ⟨rfl, hF, hb⟩
def coB (co : Bool) (s : ByteArray) : ByteArray := if co then (⟨#[39]⟩ : ByteArray) ++ s else s
set_option maxRecDepth 100000 in
set_option maxHeartbeats 1000000 in
theorem text_tau (b : Nat) (w : World) : Calls Tryz.prog 109 #[.pointer (some ⟨b, 0, none⟩), .int .i64 0] w fun r w' => r = .returned (.tuple #[.string tauB, .nilIface]) ∧ w' = w := by
  go_enter Tryz.func109, Tryz.ntmps109
  go_wp2
  go_ret2
  exact ⟨rfl, rfl⟩
set_option maxRecDepth 100000 in
set_option maxHeartbeats 1000000 in
theorem text_yes (b : Nat) (vn vm : Value) (ns : List ByteArray) (s : ByteArray) (l : Int) (i : Nat) (w : World) (hT : Tab w b vn vm ns) (hn : Ac.named l = true) (hl : Ac.nameN l = i) (hi : ns[i]? = some s) :
    Calls Tryz.prog 109 #[.pointer (some ⟨b, 0, none⟩), .int .i64 l] w fun r w' => r = .returned (.tuple #[.string (coB (Ac.nameC l) s), .nilIface]) ∧ w' = w := by
  have hN := name_yes b vn vm ns s i w hT hi
  have hC := nameOf_any l w
  rw [hn, hl] at hC
  have hsz := hT.strs s (List.mem_of_getElem? hi)
  have h0 : (l == 0) = false := by
    have : 0 < l := by simp [Ac.named] at hn; omega
    simp; omega
  clear hT hn hl hi
  cases hco : Ac.nameC l with
  | true =>
    rw [hco] at hC
    clear hco
    go_enter Tryz.func109, Tryz.ntmps109
    go_wp2_with (first | (go_at_call 133; refine hC.mono ?_; rintro r w' ⟨rfl, hw⟩; obtain rfl := hw.symm) | (go_at_call 117; refine hN.mono ?_; rintro r w' ⟨rfl, hw⟩; obtain rfl := hw.symm))
    go_ret2
    exact ⟨rfl, rfl⟩
  | false =>
    rw [hco] at hC
    clear hco
    go_enter Tryz.func109, Tryz.ntmps109
    go_wp2_with (first | (go_at_call 133; refine hC.mono ?_; rintro r w' ⟨rfl, hw⟩; obtain rfl := hw.symm) | (go_at_call 117; refine hN.mono ?_; rintro r w' ⟨rfl, hw⟩; obtain rfl := hw.symm))
    go_ret2
    exact ⟨rfl, rfl⟩
set_option maxRecDepth 100000 in
set_option maxHeartbeats 1000000 in
theorem text_no (b : Nat) (vn vm : Value) (ns : List ByteArray) (l : Int) (T : TypeId) (u : Value) (w : World) (hT : Tab w b vn vm ns) (h0 : l ≠ 0) (hn : Ac.named l = false ∨ (ns.length : Int) ≤ Ac.nameN l) (hI : w.cell? ⟨3, 0, none⟩ = some (.iface T u)) :
    Calls Tryz.prog 109 #[.pointer (some ⟨b, 0, none⟩), .int .i64 l] w fun r w' => r = .returned (.tuple #[.string ⟨#[]⟩, faultV w.heap.size]) ∧ ActFault w' w.heap.size (.iface T u) ∧ Below w.heap.size w w' := by
  have hC := nameOf_any l w
  have h0' : (l == 0) = false := by simpa using h0
  clear h0
  cases hnm : Ac.named l with
  | false =>
    rw [hnm] at hC
    clear hnm hn hT
    go_enter Tryz.func109, Tryz.ntmps109
    go_wp2_with (first | (go_at_call 133; refine hC.mono ?_; rintro r w' ⟨rfl, hw⟩; obtain rfl := hw.symm) | (go_at_call 130; refine (fault_any _ _ _).mono ?_; rintro r w' ⟨rfl, hF, hb⟩))
    go_ret2
    exact ⟨rfl, hF, hb⟩
  | true =>
    have h2 : (ns.length : Int) ≤ Ac.nameN l := hn.resolve_left (by rw [hnm]; simp)
    have hN := name_no b vn vm ns (Ac.nameN l) T u w hT (.inr h2) hI
    rw [hnm] at hC
    clear hnm hn hT h2
    unfold faultV at hN ⊢
    go_enter Tryz.func109, Tryz.ntmps109
    go_wp2_with (first | (go_at_call 133; refine hC.mono ?_; rintro r w' ⟨rfl, hw⟩; obtain rfl := hw.symm) | (go_at_call 117; refine hN.mono ?_; rintro r w' ⟨rfl, hF, hb⟩))
    go_ret2
    exact ⟨rfl, hF, hb⟩
end Go.Proofs.YthcboklkejlifaaGreatDoor
/- Contract of the second chapter's helper alive: it returns true, and nothing that was there has turned. -/
namespace Go.Proofs.YthcboklkejlifaaGreatDoor
open Go.RowKit Go.Maps
theorem name_a : Lx.nameZ true ⟨#[97]⟩ = true := by kernel_rfl
theorem name_b : Lx.nameZ true ⟨#[98]⟩ = true := by kernel_rfl
theorem a_tau : (⟨#[97]⟩ : ByteArray) ≠ tauB := by decide
theorem b_tau : (⟨#[98]⟩ : ByteArray) ≠ tauB := by decide
theorem foot_ge {w : World} {b : Nat} {vn vm vn' vm' : Value} {B : Nat} (h : ∀ i, Foot b vn vm i → B ≤ i) (hB : B ≤ w.heap.size) (hf : ∀ i, Foot b vn' vm' i → Foot b vn vm i ∨ w.heap.size ≤ i) : ∀ i, Foot b vn' vm' i → B ≤ i := fun i hi => by
  rcases hf i hi with h1 | h1
  · exact h i h1
  · omega
theorem foot_new (B : Nat) : ∀ i, Foot B (.slice none 0 0) (.map none) i → B ≤ i := fun i hi => by
  rcases hi with rfl | hi | hi
  · exact Nat.le_refl _
  · cases hi
  · cases hi
set_option maxRecDepth 100000 in
set_option maxHeartbeats 1000000 in
theorem alive2_any (a : Addr) (w : World) (hU : w.cell? ⟨7, 0, none⟩ = some (.iface 194 (.pointer (some a)))) :
    Calls Tryz.prog 76 #[] w fun e w' => e = .returned (.bool true) ∧ Below w.heap.size w w' := by
  have hul := World.block_lt_of_cell? w _ hU
  go_enter Tryz.func76, Tryz.ntmps76
  go_wp2_with fail
  refine (new_any _).mono ?_
  rintro r w1 ⟨rfl, hT1, hb1⟩
  have hU1 : w1.cell? ⟨7, 0, none⟩ = some (.iface 194 (.pointer (some a))) := (hb1.cell hul).trans hU
  have H1 : Hid (Tab w1 w.heap.size (.slice none 0 0) (.map none) [] ∧ Below w.heap.size w w1) := ⟨hT1, hb1⟩
  clear hT1 hb1
  go_wp2_with fail
  refine (add_new w.heap.size _ _ [] ⟨#[97]⟩ a w1 H1.out.1 (by simp) a_tau name_a (by decide) (by decide) hU1).mono ?_
  rintro r w2 ⟨rfl, vn2, vm2, hT2, hK2, hf2⟩
  have hb2 : Below w.heap.size w1 w2 := hK2.below H1.out.2.size (foot_new _)
  have hg2 := foot_ge (foot_new w.heap.size) H1.out.2.size hf2
  have hU2 : w2.cell? ⟨7, 0, none⟩ = some (.iface 194 (.pointer (some a))) := (hb2.cell hul).trans hU1
  have H2 : Hid (Tab w2 w.heap.size vn2 vm2 [⟨#[97]⟩] ∧ Below w.heap.size w w2 ∧ ∀ i, Foot w.heap.size vn2 vm2 i → w.heap.size ≤ i) := ⟨hT2, H1.out.2.trans hb2, hg2⟩
  clear hT2 hK2 hf2 hb2 hg2 H1 hU1
  go_wp2_with fail
  refine (add_new w.heap.size _ _ [⟨#[97]⟩] ⟨#[98]⟩ a w2 H2.out.1 (by rw [List.mem_singleton]; decide) b_tau name_b (by decide) (by decide) hU2).mono ?_
  rintro r w3 ⟨rfl, vn3, vm3, hT3, hK3, hf3⟩
  have hb3 : Below w.heap.size w2 w3 := hK3.below H2.out.2.1.size H2.out.2.2
  have H3 : Hid (Tab w3 w.heap.size vn3 vm3 [⟨#[97]⟩, ⟨#[98]⟩] ∧ Below w.heap.size w w3) := ⟨hT3, H2.out.2.1.trans hb3⟩
  clear hT3 hK3 hf3 hb3 H2 hU2
  go_wp2_with fail
  refine (text_yes w.heap.size _ _ [⟨#[97]⟩, ⟨#[98]⟩] ⟨#[98]⟩ 4 1 w3 H3.out.1 (by decide) (by decide) rfl).mono ?_
  rintro r w4 ⟨rfl, hw⟩
  obtain rfl := hw.symm
  have e1 : coB (Ac.nameC 4) ⟨#[98]⟩ = ⟨#[39, 98]⟩ := by kernel_rfl
  have e2 : Ac.label 1 true = 4 := by decide
  rw [e1]
  have hL := label_any 1 true w3
  rw [e2] at hL
  go_wp2_with (go_at_call 110; refine hL.mono ?_; rintro r w' ⟨rfl, hw⟩; obtain rfl := hw.symm)
  go_ret
  exact ⟨rfl, H3.out.2⟩
end Go.Proofs.YthcboklkejlifaaGreatDoor
/- What a statement knows of one of api's errors in memory. -/
namespace Go.Proofs.YthcboklkejlifaaGreatDoor
open Go.RowKit
/-- The package variable number g holds the error at a, which lies in memory. -/
def Sent (w : World) (g : Nat) (a : Addr) : Prop := w.cell? ⟨g, 0, none⟩ = some (.iface 194 (.pointer (some a))) ∧ ∃ c t, w.heap[a.block]? = some (.cells c t (0, 0))
theorem Sent.below {w w1 : World} {g : Nat} {a : Addr} (h : Sent w g a) (hb : Below w.heap.size w w1) : Sent w1 g a := by
  obtain ⟨h1, c, t, h2⟩ := h
  exact ⟨(hb.cell (World.block_lt_of_cell? w _ h1)).trans h1, c, t, by rw [hb.block _ (lt_of_block h2)]; exact h2⟩
end Go.Proofs.YthcboklkejlifaaGreatDoor
/- Api's errors in memory, each at an address of its own. -/
namespace Go.Proofs.YthcboklkejlifaaGreatDoor
open Go.RowKit
/-- Six of api's errors, all unlike. -/
structure Six (w : World) (aA aL aI aW aU aS : Addr) : Prop where
  A : Sent w 2 aA
  L : Sent w 0 aL
  I : Sent w 3 aI
  W : Sent w 1 aW
  U : Sent w 7 aU
  S : Sent w 8 aS
  ne : [aA, aL, aI, aW, aU, aS].Pairwise (· ≠ ·)
theorem Six.below {w w1 : World} {aA aL aI aW aU aS : Addr} (h : Six w aA aL aI aW aU aS) (hb : Below w.heap.size w w1) : Six w1 aA aL aI aW aU aS :=
  ⟨h.A.below hb, h.L.below hb, h.I.below hb, h.W.below hb, h.U.below hb, h.S.below hb, h.ne⟩
/-- Nine of api's errors, all unlike. -/
structure Nine (w : World) (aA aL aI aW aY aD aT aU aS : Addr) : Prop where
  A : Sent w 2 aA
  L : Sent w 0 aL
  I : Sent w 3 aI
  W : Sent w 1 aW
  Y : Sent w 4 aY
  D : Sent w 5 aD
  T : Sent w 6 aT
  U : Sent w 7 aU
  S : Sent w 8 aS
  ne : [aA, aL, aI, aW, aY, aD, aT, aU, aS].Pairwise (· ≠ ·)
theorem Nine.below {w w1 : World} {aA aL aI aW aY aD aT aU aS : Addr} (h : Nine w aA aL aI aW aY aD aT aU aS) (hb : Below w.heap.size w w1) : Nine w1 aA aL aI aW aY aD aT aU aS :=
  ⟨h.A.below hb, h.L.below hb, h.I.below hb, h.W.below hb, h.Y.below hb, h.D.below hb, h.T.below hb, h.U.below hb, h.S.below hb, h.ne⟩
theorem Nine.six {w : World} {aA aL aI aW aY aD aT aU aS : Addr} (h : Nine w aA aL aI aW aY aD aT aU aS) : Six w aA aL aI aW aU aS := by
  refine ⟨h.A, h.L, h.I, h.W, h.U, h.S, ?_⟩
  have hne := h.ne
  simp only [List.pairwise_cons, List.mem_cons, List.not_mem_nil, or_false, forall_eq_or_imp, forall_eq, List.Pairwise.nil, and_true, false_implies, implies_true] at hne ⊢
  obtain ⟨⟨n1, n2, n3, _, _, _, n4, n5⟩, ⟨n6, n7, _, _, _, n8, n9⟩, ⟨n10, _, _, _, n11, n12⟩, ⟨_, _, _, n13, n14⟩, _, _, _, n15⟩ := hne
  exact ⟨⟨n1, n2, n3, n4, n5⟩, ⟨n6, n7, n8, n9⟩, ⟨n10, n11, n12⟩, ⟨n13, n14⟩, n15⟩
end Go.Proofs.YthcboklkejlifaaGreatDoor
