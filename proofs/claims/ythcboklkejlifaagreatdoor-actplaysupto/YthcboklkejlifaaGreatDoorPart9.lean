/- Texts of this claim, joined: Co0, Reads, Texts0, Ref2. -/
import Derived.Test.YthcboklkejlifaaGreatDoorPart3
import Derived.Test.YthcboklkejlifaaGreatDoorPart8
/- Labels and co-labels: plain. -/
namespace Go.Proofs.YthcboklkejlifaaGreatDoor
open Go.RowKit
theorem nameN_in (l : Int) (h0 : 0 < l) (h1 : l < 201) : Ac.nameN l = (l - 1) / 2 := by unfold Ac.nameN; rw [if_pos ⟨h0, h1⟩]
theorem nameC_even (l : Int) (h0 : 0 < l) (h1 : l < 201) (h : l % 2 = 0) : Ac.nameC l = true := by unfold Ac.nameC; exact decide_eq_true ⟨h0, h1, h⟩
theorem nameC_odd (l : Int) (h : ¬ l % 2 = 0) : Ac.nameC l = false := by unfold Ac.nameC; exact decide_eq_false fun e => h e.2.2
theorem label_f (n : Int) (h0 : 0 ≤ n) (h1 : n < 100) : Ac.label n false = 2 * n + 1 := by unfold Ac.label; rw [if_pos ⟨h0, h1⟩]; rfl
theorem label_t (n : Int) (h0 : 0 ≤ n) (h1 : n < 100) : Ac.label n true = 2 * n + 2 := by unfold Ac.label; rw [if_pos ⟨h0, h1⟩]; rfl
theorem co_pos (l : Int) (h0 : 0 < l) (h1 : l < 201) : Ac.co l = if l % 2 = 0 then l - 1 else l + 1 := by
  unfold Ac.co
  rw [if_pos ⟨h0, h1⟩, nameN_in l h0 h1]
  by_cases h : l % 2 = 0
  · rw [nameC_even l h0 h1 h, if_pos h, Bool.not_true, label_f _ (by omega) (by omega)]; omega
  · rw [nameC_odd l h, if_neg h, Bool.not_false, label_t _ (by omega) (by omega)]; omega
theorem co_zero : Ac.co 0 = 0 := by decide
theorem co_co (l : Int) (h0 : 0 < l) (h1 : l < 201) : Ac.co (Ac.co l) = l := by
  rw [co_pos l h0 h1]
  split
  · rw [co_pos _ (by omega) (by omega), if_neg (by omega)]; omega
  · rw [co_pos _ (by omega) (by omega), if_pos (by omega)]; omega
theorem co_ne (l : Int) (h0 : 0 < l) (h1 : l < 201) : (Ac.co l == l) = false := by
  rw [co_pos l h0 h1]
  split <;> simp <;> omega
theorem label_back (l : Int) (h0 : 0 < l) (h1 : l < 201) : Ac.label (Ac.nameN l) (Ac.nameC l) = l := by
  rw [nameN_in l h0 h1]
  by_cases h : l % 2 = 0
  · rw [nameC_even l h0 h1 h, label_t _ (by omega) (by omega)]; omega
  · rw [nameC_odd l h, label_f _ (by omega) (by omega)]; omega
theorem co_f (n : Int) (h0 : 0 ≤ n) (h1 : n < 100) : Ac.co (2 * n + 1) = 2 * n + 2 := by rw [co_pos _ (by omega) (by omega), if_neg (by omega)]; omega
theorem co_t (n : Int) (h0 : 0 ≤ n) (h1 : n < 100) : Ac.co (2 * n + 2) = 2 * n + 1 := by rw [co_pos _ (by omega) (by omega), if_pos (by omega)]; omega
theorem label_out (n : Int) (h : n < 0 ∨ 100 ≤ n) (co : Bool) : Ac.label n co = 0 := by unfold Ac.label; rw [if_neg (by omega)]
theorem named_in (l : Int) (h0 : 0 < l) (h1 : l < 201) : Ac.named l = true := by unfold Ac.named; exact decide_eq_true ⟨h0, h1⟩
theorem zero_facts : Ac.nameN 0 = 0 ∧ Ac.nameC 0 = false ∧ Ac.named 0 = false := by decide
end Go.Proofs.YthcboklkejlifaaGreatDoor
/- Contracts of the table's Read; and of api.Code at a fault of act that wraps ErrUnknown. -/
namespace Go.Proofs.YthcboklkejlifaaGreatDoor
open Go.RowKit Go.Maps
set_option maxRecDepth 100000 in
theorem read_tau (b : Nat) (w : World) : Calls Tryz.prog 119 #[.pointer (some ⟨b, 0, none⟩), .string tauB] w fun r w' => r = .returned (.tuple #[.int .i64 0, .nilIface]) ∧ w' = w := by
  unfold tauB
  go_enter Tryz.func119, Tryz.ntmps119
  go_wp2
  go_ret2
  exact ⟨rfl, rfl⟩
set_option maxRecDepth 100000 in
theorem read_yes (b : Nat) (vn vm : Value) (ns : List ByteArray) (x : ByteArray) (co : Bool) (i : Nat) (w : World) (hT : Tab w b vn vm ns) (hi : ns[i]? = some x) (ht : coB co x ≠ tauB) (hn : co = false → NoCo x) :
    Calls Tryz.prog 119 #[.pointer (some ⟨b, 0, none⟩), .string (coB co x)] w fun r w' => r = .returned (.tuple #[.int .i64 (Ac.label i co), .nilIface]) ∧ w' = w := by
  have hC := cut_any co x w (by
    have h9 := hT.strs x (List.mem_of_getElem? hi)
    cases co with
    | true => rw [coB_size]; unfold maxLen; omega
    | false => show x.size ≤ maxLen; unfold maxLen; omega) hn
  have hF := find_yes b vn vm ns x i w hT hi
  have hL := label_any i co w
  have hq := tau_no ht
  clear ht hT hi hn
  generalize coB co x = s at hC hq
  go_enter Tryz.func119, Tryz.ntmps119
  go_wp2_with (first | (go_at_call 139; refine hC.mono ?_; rintro r w' ⟨rfl, hw⟩; obtain rfl := hw.symm) | (go_at_call 115; refine hF.mono ?_; rintro r w' ⟨rfl, hw⟩; obtain rfl := hw.symm) | (go_at_call 110; refine hL.mono ?_; rintro r w' ⟨rfl, hw⟩; obtain rfl := hw.symm))
  go_ret2
  exact ⟨rfl, rfl⟩
set_option maxRecDepth 100000 in
theorem read_no (b : Nat) (vn vm : Value) (ns : List ByteArray) (x : ByteArray) (co : Bool) (T : TypeId) (u : Value) (w : World) (hT : Tab w b vn vm ns) (hi : x ∉ ns) (ht : coB co x ≠ tauB) (hn : co = false → NoCo x) (hs : (coB co x).size ≤ maxLen) (hU : w.cell? ⟨7, 0, none⟩ = some (.iface T u)) :
    Calls Tryz.prog 119 #[.pointer (some ⟨b, 0, none⟩), .string (coB co x)] w fun r w' => r = .returned (.tuple #[.int .i64 0, faultV w.heap.size]) ∧ ActFault w' w.heap.size (.iface T u) ∧ Below w.heap.size w w' := by
  have hC := cut_any co x w hs hn
  have hF := find_no b vn vm ns x T u w hT hi (by
    cases co with
    | true => rw [coB_size] at hs; omega
    | false => exact hs) hU
  have hq := tau_no ht
  clear ht hT hi hn hs
  generalize coB co x = s at hC hq
  unfold faultV at hF ⊢
  go_enter Tryz.func119, Tryz.ntmps119
  go_wp2_with (first | (go_at_call 139; refine hC.mono ?_; rintro r w' ⟨rfl, hw⟩; obtain rfl := hw.symm) | (go_at_call 115; refine hF.mono ?_; rintro r w' ⟨rfl, hA, hb⟩))
  go_ret2
  exact ⟨rfl, hA, hb⟩
set_option maxRecDepth 100000 in
set_option maxHeartbeats 2000000 in
theorem code_unknown (pb : Nat) (aA aL aI aW aY aD aT aU aS : Addr) (w : World) (hE : Nine w aA aL aI aW aY aD aT aU aS) (h1 : w.cell? ⟨pb, 3, none⟩ = some (.iface 194 (.pointer (some aU)))) :
    Calls Tryz.prog 29 #[.iface 58 (.pointer (some ⟨pb, 0, none⟩))] w fun e w' => e = .returned (.int .i64 8) ∧ w' = w := by
  obtain ⟨⟨gA, cA, tA, bA⟩, ⟨gL, cL, tL, bL⟩, ⟨gI, cI, tI, bI⟩, ⟨gW, cW, tW, bW⟩, ⟨gY, cY, tY, bY⟩, ⟨gD, cD, tD, bD⟩, ⟨gT, cT, tT, bT⟩, ⟨gU, cU, tU, bU⟩, _, hne⟩ := hE
  simp only [List.pairwise_cons, List.mem_cons, List.not_mem_nil, or_false, forall_eq_or_imp, forall_eq, List.Pairwise.nil, and_true, false_implies, implies_true] at hne
  obtain ⟨⟨_, _, _, _, _, _, nA, _⟩, ⟨_, _, _, _, _, nL, _⟩, ⟨_, _, _, _, nI, _⟩, ⟨_, _, _, nW, _⟩, ⟨_, _, nY, _⟩, ⟨_, nD, _⟩, ⟨nT, _⟩, _⟩ := hne
  go_enter Tryz.func29, Tryz.ntmps29
  go_wp2_with fail
  refine (is_fault_other pb aA aU cU cA tU tA _ h1 (fun e => nA e.symm) bU bA).mono ?_
  rintro e w' ⟨rfl, hw⟩; obtain rfl := hw.symm
  go_wp2_with fail
  refine (is_fault_other pb aL aU cU cL tU tL _ h1 (fun e => nL e.symm) bU bL).mono ?_
  rintro e w' ⟨rfl, hw⟩; obtain rfl := hw.symm
  go_wp2_with fail
  refine (is_fault_other pb aI aU cU cI tU tI _ h1 (fun e => nI e.symm) bU bI).mono ?_
  rintro e w' ⟨rfl, hw⟩; obtain rfl := hw.symm
  go_wp2_with fail
  refine (is_fault_other pb aW aU cU cW tU tW _ h1 (fun e => nW e.symm) bU bW).mono ?_
  rintro e w' ⟨rfl, hw⟩; obtain rfl := hw.symm
  go_wp2_with fail
  refine (is_fault_other pb aY aU cU cY tU tY _ h1 (fun e => nY e.symm) bU bY).mono ?_
  rintro e w' ⟨rfl, hw⟩; obtain rfl := hw.symm
  go_wp2_with fail
  refine (is_fault_other pb aD aU cU cD tU tD _ h1 (fun e => nD e.symm) bU bD).mono ?_
  rintro e w' ⟨rfl, hw⟩; obtain rfl := hw.symm
  go_wp2_with fail
  refine (is_fault_other pb aT aU cU cT tU tT _ h1 (fun e => nT e.symm) bU bT).mono ?_
  rintro e w' ⟨rfl, hw⟩; obtain rfl := hw.symm
  go_wp2_with fail
  refine (is_fault_same pb aU _ h1).mono ?_
  rintro e w' ⟨rfl, hw⟩; obtain rfl := hw.symm
  go_wp2_with fail
  go_ret
  exact ⟨rfl, rfl⟩
end Go.Proofs.YthcboklkejlifaaGreatDoor
/- Contracts of Text and Read at any table. -/
namespace Go.Proofs.YthcboklkejlifaaGreatDoor
open Go.RowKit Go.Maps
theorem co_tau (x : ByteArray) : coB true x ≠ tauB := fun h => by
  have h1 := congrArg (fun s : ByteArray => s.data.toList) h
  simp only [coB_list] at h1
  have h2 : tauB.data.toList = [116, 97, 117] := rfl
  rw [h2] at h1
  injection h1 with h3 _
  revert h3; decide
theorem nameZ_noCo {s : ByteArray} (h : Lx.nameZ true s = true) : NoCo s := fun h0 h1 => by
  unfold Lx.nameZ at h
  rw [dif_pos h0] at h
  simp [h1] at h
  exact absurd h.2 (by decide)
theorem label_name (i : Nat) (hi : i < 100) (co : Bool) : Ac.named (Ac.label i co) = true ∧ Ac.nameN (Ac.label i co) = i ∧ Ac.nameC (Ac.label i co) = co := by
  cases co with
  | true =>
    rw [label_t i (by omega) (by omega)]
    exact ⟨named_in _ (by omega) (by omega), by rw [nameN_in _ (by omega) (by omega)]; omega, nameC_even _ (by omega) (by omega) (by omega)⟩
  | false =>
    rw [label_f i (by omega) (by omega)]
    exact ⟨named_in _ (by omega) (by omega), by rw [nameN_in _ (by omega) (by omega)]; omega, nameC_odd _ (by omega)⟩
/-- What the table knows of its names. -/
def Named (ns : List ByteArray) : Prop := ∀ s ∈ ns, s ≠ tauB ∧ Lx.nameZ true s = true
/-- What Text of a label answers: an error, or a text that Read tells as the label. -/
theorem text_any (b : Nat) (vn vm : Value) (ns : List ByteArray) (l : Int) (T : TypeId) (u : Value) (w : World) (hT : Tab w b vn vm ns) (hI : w.cell? ⟨3, 0, none⟩ = some (.iface T u)) :
    Calls Tryz.prog 109 #[.pointer (some ⟨b, 0, none⟩), .int .i64 l] w fun r w' => (∃ v bF, r = .returned (.tuple #[v, faultV bF]) ∧ Below w.heap.size w w') ∨ (∃ s, r = .returned (.tuple #[.string s, .nilIface]) ∧ w' = w ∧ ((s = tauB ∧ l = 0) ∨ ∃ co x i, s = coB co x ∧ ns[i]? = some x ∧ l = Ac.label (i : Nat) co)) := by
  by_cases h0 : l = 0
  · subst h0
    refine (text_tau b w).mono ?_
    rintro r w' ⟨rfl, rfl⟩
    exact .inr ⟨_, rfl, rfl, .inl ⟨rfl, rfl⟩⟩
  · cases hn : Ac.named l with
    | false =>
      refine (text_no b vn vm ns l T u w hT h0 (.inl hn) hI).mono ?_
      rintro r w' ⟨rfl, _, hb⟩
      exact .inl ⟨_, _, rfl, hb⟩
    | true =>
      have hl : 0 < l ∧ l < 201 := by simpa [Ac.named] using hn
      by_cases h1 : (ns.length : Int) ≤ Ac.nameN l
      · refine (text_no b vn vm ns l T u w hT h0 (.inr h1) hI).mono ?_
        rintro r w' ⟨rfl, _, hb⟩
        exact .inl ⟨_, _, rfl, hb⟩
      · have hN := nameN_in l hl.1 hl.2
        obtain ⟨i, hi⟩ : ∃ i : Nat, Ac.nameN l = i := ⟨(Ac.nameN l).toNat, by omega⟩
        have hlt : i < ns.length := by omega
        refine (text_yes b vn vm ns ns[i] l i w hT hn hi (List.getElem?_eq_getElem hlt)).mono ?_
        rintro r w' ⟨rfl, rfl⟩
        refine .inr ⟨_, rfl, rfl, .inr ⟨_, _, i, rfl, List.getElem?_eq_getElem hlt, ?_⟩⟩
        rw [← hi]; exact (label_back l hl.1 hl.2).symm
/-- What Read of a text answers: ErrUnknown, or a label whose Text it is. -/
theorem read_any (b : Nat) (vn vm : Value) (ns : List ByteArray) (s : ByteArray) (T : TypeId) (u : Value) (w : World) (hT : Tab w b vn vm ns) (hs : s.size ≤ maxLen) (hU : w.cell? ⟨7, 0, none⟩ = some (.iface T u)) :
    Calls Tryz.prog 119 #[.pointer (some ⟨b, 0, none⟩), .string s] w fun r w' => (∃ bF, r = .returned (.tuple #[.int .i64 0, faultV bF]) ∧ ActFault w' bF (.iface T u) ∧ Below w.heap.size w w') ∨ (∃ l : Int, r = .returned (.tuple #[.int .i64 l, .nilIface]) ∧ w' = w ∧ ((s = tauB ∧ l = 0) ∨ ∃ co x i, s = coB co x ∧ ns[i]? = some x ∧ l = Ac.label (i : Nat) co)) := by
  by_cases ht : s = tauB
  · subst ht
    refine (read_tau b w).mono ?_
    rintro r w' ⟨rfl, rfl⟩
    exact .inr ⟨0, rfl, rfl, .inl ⟨rfl, rfl⟩⟩
  · obtain ⟨co, x, rfl, hn, hx⟩ := co_split s
    by_cases hm : x ∈ ns
    · obtain ⟨i, hi, rfl⟩ := List.getElem_of_mem hm
      refine (read_yes b vn vm ns _ co i w hT (List.getElem?_eq_getElem hi) ht hn).mono ?_
      rintro r w' ⟨rfl, rfl⟩
      exact .inr ⟨_, rfl, rfl, .inr ⟨co, _, i, rfl, List.getElem?_eq_getElem hi, rfl⟩⟩
    · refine (read_no b vn vm ns x co T u w hT hm ht hn hs hU).mono ?_
      rintro r w' ⟨rfl, hF, hb⟩
      exact .inl ⟨_, rfl, hF, hb⟩
theorem named_new {ns : List ByteArray} {s : ByteArray} (h : Named ns) (h1 : s ≠ tauB) (h2 : Lx.nameZ true s = true) : Named (ns ++ [s]) := fun t ht => by
  rcases List.mem_append.1 ht with ht | ht
  · exact h t ht
  · rw [List.mem_singleton.1 ht]; exact ⟨h1, h2⟩
end Go.Proofs.YthcboklkejlifaaGreatDoor
/- Contracts of the document's table: find, Add, Find, Text, Read. -/
namespace Go.Proofs.YthcboklkejlifaaGreatDoor
open Go.RowKit Go.Maps
attribute [local go_sem ↓] Go.wp_at_zero Go.wp_at_succ
theorem BTexts.Has.cell {w : World} {ao : Option Addr} {n cap : Nat} {ns : List ByteArray} (h : BTexts.Has w (.slice ao n cap) ns) {i : Nat} {s : ByteArray} (hi : ns[i]? = some s) : ∃ a, ao = some a ∧ w.cell? (a.add i) = some (.string s) := by
  obtain ⟨ao', cap', hv, h2⟩ := h
  injection hv with e1 e2 e3
  subst e1
  have h3 := BTexts.C_at ns i s hi 0 (by decide)
  obtain ⟨a, ha, hc⟩ := h2 (i * 1 + 0) _ (h3.trans rfl)
  exact ⟨a, ha, by simpa using hc⟩
theorem BTexts.Has.len {w : World} {ao : Option Addr} {n cap : Nat} {ns : List ByteArray} (h : BTexts.Has w (.slice ao n cap) ns) : n = ns.length := by
  obtain ⟨ao', cap', hv, h2⟩ := h
  injection hv
/-- Where a text stands first, or -1. -/
def Fnd (ns : List ByteArray) (s : ByteArray) (z : Int) : Prop := (z = -1 ∧ s ∉ ns) ∨ ∃ i : Nat, z = i ∧ ns[i]? = some s ∧ ∀ j, j < i → ns[j]? ≠ some s
theorem str_ne2 {x y : ByteArray} (h : x ≠ y) : (x.toList == y.toList) = false := by
  rw [beq_eq_false_iff_ne]
  intro e
  apply h
  cases x; cases y
  simp only [ByteArray.toList_eq] at e
  simp at e
  simp [e]
set_option maxRecDepth 100000 in
set_option maxHeartbeats 1000000 in
theorem rfind_any (v : Value) (ns : List ByteArray) (s : ByteArray) (w : World) (hH : BTexts.Has w v ns) (hn : ns.length ≤ 1000) :
    Calls Tryz.prog 137 #[v, .string s] w fun e w' => ∃ z, e = .returned (.int .i64 z) ∧ Fnd ns s z ∧ w' = w := by
  obtain ⟨ao, cap, rfl, _⟩ := id hH
  obtain ⟨n, hN⟩ : ∃ n, n = ns.length := ⟨_, rfl⟩
  rw [← hN] at hH hn ⊢
  have HH : Hid _ := And.intro hH hN
  clear hH hN
  go_enter Tryz.func137, Tryz.ntmps137
  go_wp2_with fail
  go_loopg [5] n (fun g iv wr => ∃ j : Nat, g = n - j ∧ j ≤ n ∧ iv = .int .i64 j ∧ (∀ q, q < j → ns[q]? ≠ some s) ∧ w = wr)
  case atStart => exact ⟨0, rfl, Nat.zero_le _, rfl, fun q hq => by omega, rfl⟩
  case round =>
    obtain ⟨j, rfl, hj, rfl, hR, rfl⟩ := hrel
    by_cases hlt : j < n
    · obtain ⟨x, hx⟩ : ∃ x, ns[j]? = some x := ⟨ns[j]'(by have := HH.out.2; omega), List.getElem?_eq_getElem _⟩
      obtain ⟨a, rfl, c0⟩ := HH.out.1.cell hx
      have q0 : (0 : Int) ≤ (j : Int) := by omega
      have q1 : (j : Int) < (n : Int) := by omega
      by_cases hs : x = s
      · subst hs
        have HF : Hid (Fnd ns x j) := .inr ⟨j, rfl, hx, hR⟩
        clear hR hx
        go_wp2_with fail
        go_ret
        exact ⟨_, rfl, HF.out, rfl⟩
      · have hne := str_ne2 hs
        have HF : Hid (∀ q, q < j + 1 → ns[q]? ≠ some s) := fun q hq e => by
          rcases Nat.lt_or_ge q j with h | h
          · exact hR q h e
          · obtain rfl : q = j := by omega
            rw [hx] at e
            exact hs (Option.some.inj e)
        clear hR hx hs
        go_wp2_with fail
        go_roundg (n - (j + 1))
        case measure => omega
        case rel => exact ⟨j + 1, rfl, by omega, by go_num, HF.out, rfl⟩
    · obtain rfl : j = n := by omega
      have q1 : ¬ (j : Int) < (j : Int) := by omega
      have HF : Hid (Fnd ns s (-1)) := .inl ⟨rfl, fun hm => by
        obtain ⟨k, hk, rfl⟩ := List.getElem_of_mem hm
        exact hR k (by have := HH.out.2; omega) (List.getElem?_eq_getElem hk)⟩
      clear hR
      go_wp2_with fail
      go_ret
      exact ⟨_, rfl, HF.out, rfl⟩
theorem rFind_any (v : Value) (ns : List ByteArray) (s : ByteArray) (w : World) (hH : BTexts.Has w v ns) (hn : ns.length ≤ 1000) :
    Calls Tryz.prog 116 #[.agg #[v], .string s] w fun e w' => ∃ z, e = .returned (.int .i64 z) ∧ Fnd ns s z ∧ Below w.heap.size w w' := by
  have hC := fun W (hb : Below w.heap.size w W) => rfind_any v ns s W (hH.below hb) hn
  clear hH
  go_enter Tryz.func116, Tryz.ntmps116
  go_wp2_with (go_at_call 137; refine (hC _ (by repeat (first | exact Below.refl _ _ | assumption | refine Below.drew ?_ | refine Below.setCell ?_ (by simp) _ | refine Below.alloc ?_ (by simp) _))).mono ?_; rintro r w' ⟨z, rfl, hF, hw⟩; obtain rfl := hw.symm; have HF : Hid _ := hF; clear hF)
  go_ret
  exact ⟨z, rfl, HF.out, (Below.refl _ _).alloc (Nat.le_refl _) _⟩
end Go.Proofs.YthcboklkejlifaaGreatDoor
