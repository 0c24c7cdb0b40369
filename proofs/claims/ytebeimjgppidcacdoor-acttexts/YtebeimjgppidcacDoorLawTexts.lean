/- The statement ActTexts as a call: on any arguments it returns true, and nothing that was there has turned. -/
import Derived.Test.YtebeimjgppidcacDoorLawOnce
import Derived.Test.YtebeimjgppidcacDoorReads
namespace Go.Proofs.YtebeimjgppidcacDoor
open Go.RowKit Go.Maps
theorem co_tau (x : ByteArray) : coB true x ≠ tauB := fun h => by
  have h1 := congrArg (fun s : ByteArray => s.data.toList) h
  simp only [coB_list] at h1
  have h2 : tauB.data.toList = [116, 97, 117] := rfl
  rw [h2] at h1
  injection h1 with h3 _
  revert h3; decide
theorem nameZ_noCo {s : ByteArray} (h : Lx.nameZ true s = true) : NoCo s := fun h0 h1 => by
  unfold Lx.nameZ at h
  rw [dif_pos h0] at h
  simp [h1] at h
  exact absurd h.2 (by decide)
theorem label_name (i : Nat) (hi : i < 100) (co : Bool) : Ac.named (Ac.label i co) = true ∧ Ac.nameN (Ac.label i co) = i ∧ Ac.nameC (Ac.label i co) = co := by
  cases co with
  | true =>
    rw [label_t i (by omega) (by omega)]
    exact ⟨named_in _ (by omega) (by omega), by rw [nameN_in _ (by omega) (by omega)]; omega, nameC_even _ (by omega) (by omega) (by omega)⟩
  | false =>
    rw [label_f i (by omega) (by omega)]
    exact ⟨named_in _ (by omega) (by omega), by rw [nameN_in _ (by omega) (by omega)]; omega, nameC_odd _ (by omega)⟩
/-- What the table knows of its names. -/
def Named (ns : List ByteArray) : Prop := ∀ s ∈ ns, s ≠ tauB ∧ Lx.nameZ true s = true
structure TextSt (B : Nat) (w : World) (aA aL aI aW aY aD aT aU aS : Addr) (vn vm : Value) (ns : List ByteArray) (wr : World) : Prop where
  tab : Tab wr B vn vm ns
  foot : ∀ i, Foot B vn vm i → B ≤ i
  bl : Below B w wr
  nine : Nine wr aA aL aI aW aY aD aT aU aS
  nm : Named ns
theorem TextSt.below {B : Nat} {w wr w1 : World} {aA aL aI aW aY aD aT aU aS : Addr} {vn vm : Value} {ns : List ByteArray} (h : TextSt B w aA aL aI aW aY aD aT aU aS vn vm ns wr) (hB : w.heap.size = B) (hb : Below wr.heap.size wr w1) : TextSt B w aA aL aI aW aY aD aT aU aS vn vm ns w1 :=
  ⟨h.tab.below hb, h.foot, h.bl.trans (hb.mono (by rw [← hB]; exact h.bl.size)), h.nine.below hb, h.nm⟩
/-- What Text of a label answers: an error, or a text that Read tells as the label. -/
theorem text_any (b : Nat) (vn vm : Value) (ns : List ByteArray) (l : Int) (T : TypeId) (u : Value) (w : World) (hT : Tab w b vn vm ns) (hI : w.cell? ⟨5, 0, none⟩ = some (.iface T u)) :
    Calls Tryd.prog 24 #[.pointer (some ⟨b, 0, none⟩), .int .i64 l] w fun r w' => (∃ v bF, r = .returned (.tuple #[v, faultV bF]) ∧ Below w.heap.size w w') ∨ (∃ s, r = .returned (.tuple #[.string s, .nilIface]) ∧ w' = w ∧ ((s = tauB ∧ l = 0) ∨ ∃ co x i, s = coB co x ∧ ns[i]? = some x ∧ l = Ac.label (i : Nat) co)) := by
  by_cases h0 : l = 0
  · subst h0
    refine (text_tau b w).mono ?_
    rintro r w' ⟨rfl, rfl⟩
    exact .inr ⟨_, rfl, rfl, .inl ⟨rfl, rfl⟩⟩
  · cases hn : Ac.named l with
    | false =>
      refine (text_no b vn vm ns l T u w hT h0 (.inl hn) hI).mono ?_
      rintro r w' ⟨rfl, _, hb⟩
      exact .inl ⟨_, _, rfl, hb⟩
    | true =>
      have hl : 0 < l ∧ l < 201 := by simpa [Ac.named] using hn
      by_cases h1 : (ns.length : Int) ≤ Ac.nameN l
      · refine (text_no b vn vm ns l T u w hT h0 (.inr h1) hI).mono ?_
        rintro r w' ⟨rfl, _, hb⟩
        exact .inl ⟨_, _, rfl, hb⟩
      · have hN := nameN_in l hl.1 hl.2
        obtain ⟨i, hi⟩ : ∃ i : Nat, Ac.nameN l = i := ⟨(Ac.nameN l).toNat, by omega⟩
        have hlt : i < ns.length := by omega
        refine (text_yes b vn vm ns ns[i] l i w hT hn hi (List.getElem?_eq_getElem hlt)).mono ?_
        rintro r w' ⟨rfl, rfl⟩
        refine .inr ⟨_, rfl, rfl, .inr ⟨_, _, i, rfl, List.getElem?_eq_getElem hlt, ?_⟩⟩
        rw [← hi]; exact (label_back l hl.1 hl.2).symm
/-- What Read of a text answers: ErrUnknown, or a label whose Text it is. -/
theorem read_any (b : Nat) (vn vm : Value) (ns : List ByteArray) (s : ByteArray) (T : TypeId) (u : Value) (w : World) (hT : Tab w b vn vm ns) (hs : s.size ≤ maxLen) (hU : w.cell? ⟨3, 0, none⟩ = some (.iface T u)) :
    Calls Tryd.prog 25 #[.pointer (some ⟨b, 0, none⟩), .string s] w fun r w' => (∃ bF, r = .returned (.tuple #[.int .i64 0, faultV bF]) ∧ ActFault w' bF (.iface T u) ∧ Below w.heap.size w w') ∨ (∃ l : Int, r = .returned (.tuple #[.int .i64 l, .nilIface]) ∧ w' = w ∧ ((s = tauB ∧ l = 0) ∨ ∃ co x i, s = coB co x ∧ ns[i]? = some x ∧ l = Ac.label (i : Nat) co)) := by
  by_cases ht : s = tauB
  · subst ht
    refine (read_tau b w).mono ?_
    rintro r w' ⟨rfl, rfl⟩
    exact .inr ⟨0, rfl, rfl, .inl ⟨rfl, rfl⟩⟩
  · obtain ⟨co, x, rfl, hn, hx⟩ := co_split s
    by_cases hm : x ∈ ns
    · obtain ⟨i, hi, rfl⟩ := List.getElem_of_mem hm
      refine (read_yes b vn vm ns _ co i w hT (List.getElem?_eq_getElem hi) ht hn).mono ?_
      rintro r w' ⟨rfl, rfl⟩
      exact .inr ⟨_, rfl, rfl, .inr ⟨co, _, i, rfl, List.getElem?_eq_getElem hi, rfl⟩⟩
    · refine (read_no b vn vm ns x co T u w hT hm ht hn hs hU).mono ?_
      rintro r w' ⟨rfl, hF, hb⟩
      exact .inl ⟨_, rfl, hF, hb⟩
theorem named_new {ns : List ByteArray} {s : ByteArray} (h : Named ns) (h1 : s ≠ tauB) (h2 : Lx.nameZ true s = true) : Named (ns ++ [s]) := fun t ht => by
  rcases List.mem_append.1 ht with ht | ht
  · exact h t ht
  · rw [List.mem_singleton.1 ht]; exact ⟨h1, h2⟩
/-- A text is a label's. -/
def TextOf (ns : List ByteArray) (s : ByteArray) (l : Int) : Prop := (s = tauB ∧ l = 0) ∨ ∃ co x i, s = coB co x ∧ ns[i]? = some x ∧ l = Ac.label (i : Nat) co
theorem text_back (b : Nat) (vn vm : Value) (ns : List ByteArray) (s : ByteArray) (l : Int) (w : World) (hT : Tab w b vn vm ns) (h : TextOf ns s l) :
    Calls Tryd.prog 24 #[.pointer (some ⟨b, 0, none⟩), .int .i64 l] w fun r w' => r = .returned (.tuple #[.string s, .nilIface]) ∧ w' = w := by
  rcases h with ⟨rfl, rfl⟩ | ⟨co, x, i, rfl, hi, rfl⟩
  · exact text_tau b w
  · have hlt := (List.getElem?_eq_some_iff.1 hi).1
    have hlen := hT.len
    obtain ⟨h1, h2, h3⟩ := label_name i (by omega) co
    have := text_yes b vn vm ns x _ i w hT h1 h2 hi
    rw [h3] at this
    exact this
theorem read_back (b : Nat) (vn vm : Value) (ns : List ByteArray) (s : ByteArray) (l : Int) (w : World) (hT : Tab w b vn vm ns) (hN : Named ns) (h : TextOf ns s l) :
    Calls Tryd.prog 25 #[.pointer (some ⟨b, 0, none⟩), .string s] w fun r w' => r = .returned (.tuple #[.int .i64 l, .nilIface]) ∧ w' = w := by
  rcases h with ⟨rfl, rfl⟩ | ⟨co, x, i, rfl, hi, rfl⟩
  · exact read_tau b w
  · obtain ⟨h1, h2⟩ := hN x (List.mem_of_getElem? hi)
    refine read_yes b vn vm ns x co i w hT hi ?_ (fun _ => nameZ_noCo h2)
    cases co with
    | true => exact co_tau x
    | false => exact h1
set_option maxRecDepth 100000 in
set_option maxHeartbeats 4000000 in
theorem lawTexts_in (v : Value) (ss : List ByteArray) (l : Int) (x : ByteArray) (aA aL aI aW aY aD aT aU aS : Addr) (w : World) (hH : HasS w v ss) (hn : ss.length ≤ 150) (hx : x.size ≤ maxLen) (hE : Nine w aA aL aI aW aY aD aT aU aS) :
    Calls Tryd.prog 6 #[v, .int .i64 l, .string x] w fun e w' => e = .returned (.bool true) ∧ Below w.heap.size w w' := by
  obtain ⟨ao, cap, rfl, hcells⟩ := hH.form
  obtain ⟨n, hN⟩ : ∃ n, n = ss.length := ⟨_, rfl⟩
  obtain ⟨B, hB⟩ : ∃ B, w.heap.size = B := ⟨_, rfl⟩
  have HH : Hid (HasS w (.slice ao n cap) ss ∧ (∀ i s, ss[i]? = some s → ∃ a, ao = some a ∧ w.cell? (a.add i) = some (.string s)) ∧ n = ss.length ∧ Nine w aA aL aI aW aY aD aT aU aS ∧ w.heap.size = B) := ⟨by rw [hN]; exact hH, hcells, hN, hE, hB⟩
  rw [← hN] at hn ⊢
  clear hcells hN hH hE
  have hn9 : ¬ (150 : Int) < (n : Int) := by omega
  rw [hB]
  go_enter Tryd.func6, Tryd.ntmps6
  go_wp2_with fail
  refine (new_any _).mono ?_
  rintro r w1 ⟨rfl, hT1, hb1⟩
  rw [hB] at hT1 hb1 ⊢
  have H1 : Hid (TextSt B w aA aL aI aW aY aD aT aU aS (.slice none 0 0) (.map none) [] w1) := ⟨hT1, foot_new B, hb1, HH.out.2.2.2.1.below (by rw [hB]; exact hb1), fun s hs => by simp at hs⟩
  clear hT1 hb1
  go_wp2_with fail
  go_loopg [8] n (fun g i wr => ∃ (j : Nat) (vn vm : Value) (ns : List ByteArray), g = n - j ∧ j ≤ n ∧ i = .int .i64 j ∧ TextSt B w aA aL aI aW aY aD aT aU aS vn vm ns wr)
  case atStart => exact ⟨0, _, _, _, rfl, Nat.zero_le _, rfl, H1.out⟩
  case round =>
    obtain ⟨j, vn, vm, ns, rfl, hj, rfl, hst⟩ := hrel
    have HS : Hid (TextSt B w aA aL aI aW aY aD aT aU aS vn vm ns wr) := hst
    clear hst
    by_cases hlt : j < n
    · obtain ⟨s, hs⟩ : ∃ s, ss[j]? = some s := ⟨ss[j]'(by have := HH.out.2.2.1; omega), List.getElem?_eq_getElem _⟩
      obtain ⟨a, rfl, hc⟩ := HH.out.2.1 j s hs
      have hsz := HH.out.1.size s (List.mem_of_getElem? hs)
      have hc' : wr.cell? (a.add j) = some (.string s) := (HS.out.bl.cell (by rw [← hB]; exact World.block_lt_of_cell? w _ hc)).trans hc
      have q0 : (0 : Int) ≤ (j : Int) := by omega
      have q1 : (j : Int) < (n : Int) := by omega
      clear hc hs
      go_wp2_with fail
      refine (add_any B vn vm ns s aA aL aI aW aU aS _ HS.out.tab hsz HS.out.nine.six).mono ?_
      rintro r w2 ⟨vn2, vm2, ns2, hT2, hK2, hf2, hcase⟩
      have hBw : B ≤ wr.heap.size := by rw [← hB]; exact HS.out.bl.size
      have hb2 : Below B w w2 := HS.out.bl.trans (hK2.below hBw HS.out.foot)
      have H2 : Hid ((∃ y, r = .returned (.tuple y)) ∧ TextSt B w aA aL aI aW aY aD aT aU aS vn2 vm2 ns2 w2) := (by
        have base : Named ns2 → TextSt B w aA aL aI aW aY aD aT aU aS vn2 vm2 ns2 w2 := fun hnm => ⟨hT2, foot_ge HS.out.foot hBw hf2, hb2, HH.out.2.2.2.1.below (by rw [hB]; exact hb2), hnm⟩
        rcases hcase with ⟨bF, rfl, rfl⟩ | ⟨ht, hnm, k, rfl, _, _, _, rfl | rfl⟩
        · exact ⟨⟨_, rfl⟩, base HS.out.nm⟩
        · exact ⟨⟨_, rfl⟩, base HS.out.nm⟩
        · exact ⟨⟨_, rfl⟩, base (named_new HS.out.nm ht hnm)⟩)
      clear hcase hT2 hK2 hf2 hb2 hBw HS hc'
      obtain ⟨y, rfl⟩ := H2.out.1
      go_wp2_with fail
      go_roundg (n - (j + 1))
      case measure => omega
      case rel => exact ⟨j + 1, _, _, _, rfl, by omega, by go_num, H2.out.2⟩
    · have q1 : ¬ (j : Int) < (n : Int) := by omega
      go_wp2_with fail
      refine (text_any B vn vm ns l _ _ _ HS.out.tab HS.out.nine.I.1).mono ?_
      rintro r w2 hout
      have H2 : Hid (∃ v e, r = .returned (.tuple #[v, e]) ∧ TextSt B w aA aL aI aW aY aD aT aU aS vn vm ns w2 ∧ ((∃ bF, e = faultV bF) ∨ (e = .nilIface ∧ ∃ s, v = .string s ∧ ((s = tauB ∧ l = 0) ∨ ∃ co x i, s = coB co x ∧ ns[i]? = some x ∧ l = Ac.label (i : Nat) co)))) := (by
        rcases hout with ⟨v, bF, rfl, hb⟩ | ⟨s, rfl, rfl, hs⟩
        · exact ⟨v, _, rfl, HS.out.below hB hb, .inl ⟨bF, rfl⟩⟩
        · exact ⟨_, _, rfl, HS.out, .inr ⟨rfl, s, rfl, hs⟩⟩)
      clear hout HS
      obtain ⟨v2, e2, rfl, hst2, hcase⟩ := H2.out
      have HS2 : Hid (TextSt B w aA aL aI aW aY aD aT aU aS vn vm ns w2) := hst2
      clear hst2 H2
      have hz : ((l : Int) != l) = false := by simp
      rcases hcase with ⟨bF, rfl⟩ | ⟨rfl, s, rfl, hs⟩
      · unfold faultV
        go_wp2_with fail
        refine (read_any B vn vm ns x _ _ w2 HS2.out.tab hx HS2.out.nine.U.1).mono ?_
        rintro r w3 hout3
        have H3 : Hid (∃ k e, r = .returned (.tuple #[.int .i64 k, e]) ∧ TextSt B w aA aL aI aW aY aD aT aU aS vn vm ns w3 ∧ ((∃ bF, e = faultV bF ∧ ActFault w3 bF (.iface 103 (.pointer (some aU)))) ∨ (e = .nilIface ∧ TextOf ns x k))) := (by
          rcases hout3 with ⟨bF, rfl, hF, hb⟩ | ⟨k, rfl, rfl, hs⟩
          · exact ⟨0, _, rfl, HS2.out.below hB hb, .inl ⟨bF, rfl, hF⟩⟩
          · exact ⟨k, _, rfl, HS2.out, .inr ⟨rfl, hs⟩⟩)
        clear hout3 HS2
        obtain ⟨k3, e3, rfl, hst3, hcase3⟩ := H3.out
        have HS3 : Hid (TextSt B w aA aL aI aW aY aD aT aU aS vn vm ns w3) := hst3
        clear hst3 H3
        rcases hcase3 with ⟨bF3, rfl, hF3⟩ | ⟨rfl, hs3⟩
        · unfold faultV
          go_wp2_with fail
          refine (alive2_any aU w3 HS3.out.nine.U.1).mono ?_
          rintro r w9 ⟨rfl, hb9⟩
          have hE9 := HS3.out.nine.below hb9
          have hF9 := actFault_err (show ActFault w9 bF3 _ from (hb9.block bF3 (tab_lt hF3)).trans hF3)
          have HS9 : Hid (Below B w w9) := (HS3.out.below hB hb9).bl
          clear hb9 hF3
          go_wp2_with (go_at_call 35; refine (code_unknown bF3 aA aL aI aW aY aD aT aU aS _ hE9 hF9).mono ?_; rintro r w' ⟨rfl, hw⟩; obtain rfl := hw.symm)
          go_ret
          exact ⟨rfl, HS9.out⟩
        · have hTx := text_back B vn vm ns x k3 w3 HS3.out.tab hs3
          clear hs3
          go_wp2_with (go_at_call 24; refine hTx.mono ?_; rintro r w' ⟨rfl, hw⟩; obtain rfl := hw.symm)
          refine (alive2_any aU w3 HS3.out.nine.U.1).mono ?_
          rintro r w9 ⟨rfl, hb9⟩
          have HS9 : Hid (Below B w w9) := (HS3.out.below hB hb9).bl
          have hxx : (x.toList == x.toList) = true := by simp
          clear hb9
          go_wp2_with fail
          go_ret
          exact ⟨rfl, HS9.out⟩
      · have hR := read_back B vn vm ns s l w2 HS2.out.tab HS2.out.nm hs
        clear hs
        go_wp2_with fail
        refine hR.mono ?_
        rintro r w8 ⟨rfl, hw⟩
        obtain rfl := hw.symm
        clear hR
        go_wp2_with fail
        refine (read_any B vn vm ns x _ _ w2 HS2.out.tab hx HS2.out.nine.U.1).mono ?_
        rintro r w3 hout3
        have H3 : Hid (∃ k e, r = .returned (.tuple #[.int .i64 k, e]) ∧ TextSt B w aA aL aI aW aY aD aT aU aS vn vm ns w3 ∧ ((∃ bF, e = faultV bF ∧ ActFault w3 bF (.iface 103 (.pointer (some aU)))) ∨ (e = .nilIface ∧ TextOf ns x k))) := (by
          rcases hout3 with ⟨bF, rfl, hF, hb⟩ | ⟨k, rfl, rfl, hs⟩
          · exact ⟨0, _, rfl, HS2.out.below hB hb, .inl ⟨bF, rfl, hF⟩⟩
          · exact ⟨k, _, rfl, HS2.out, .inr ⟨rfl, hs⟩⟩)
        clear hout3 HS2
        obtain ⟨k3, e3, rfl, hst3, hcase3⟩ := H3.out
        have HS3 : Hid (TextSt B w aA aL aI aW aY aD aT aU aS vn vm ns w3) := hst3
        clear hst3 H3
        rcases hcase3 with ⟨bF3, rfl, hF3⟩ | ⟨rfl, hs3⟩
        · unfold faultV
          go_wp2_with fail
          refine (alive2_any aU w3 HS3.out.nine.U.1).mono ?_
          rintro r w9 ⟨rfl, hb9⟩
          have hE9 := HS3.out.nine.below hb9
          have hF9 := actFault_err (show ActFault w9 bF3 _ from (hb9.block bF3 (tab_lt hF3)).trans hF3)
          have HS9 : Hid (Below B w w9) := (HS3.out.below hB hb9).bl
          clear hb9 hF3
          go_wp2_with (go_at_call 35; refine (code_unknown bF3 aA aL aI aW aY aD aT aU aS _ hE9 hF9).mono ?_; rintro r w' ⟨rfl, hw⟩; obtain rfl := hw.symm)
          go_ret
          exact ⟨rfl, HS9.out⟩
        · have hTx := text_back B vn vm ns x k3 w3 HS3.out.tab hs3
          clear hs3
          go_wp2_with (go_at_call 24; refine hTx.mono ?_; rintro r w' ⟨rfl, hw⟩; obtain rfl := hw.symm)
          refine (alive2_any aU w3 HS3.out.nine.U.1).mono ?_
          rintro r w9 ⟨rfl, hb9⟩
          have HS9 : Hid (Below B w w9) := (HS3.out.below hB hb9).bl
          have hxx : (x.toList == x.toList) = true := by simp
          clear hb9
          go_wp2_with fail
          go_ret
          exact ⟨rfl, HS9.out⟩
set_option maxRecDepth 100000 in
theorem lawTexts_out (ao : Option Addr) (n cap : Nat) (l : Int) (x : ByteArray) (a : Addr) (w : World) (hn : 150 < n) (hU : w.cell? ⟨3, 0, none⟩ = some (.iface 103 (.pointer (some a)))) :
    Calls Tryd.prog 6 #[.slice ao n cap, .int .i64 l, .string x] w fun e w' => e = .returned (.bool true) ∧ Below w.heap.size w w' := by
  have h9 : (150 : Int) < (n : Int) := by omega
  have hul := World.block_lt_of_cell? w _ hU
  go_enter Tryd.func6, Tryd.ntmps6
  go_wp2_with fail
  refine (new_any _).mono ?_
  rintro r w1 ⟨rfl, _, hb1⟩
  have hU1 : w1.cell? ⟨3, 0, none⟩ = some (.iface 103 (.pointer (some a))) := (hb1.cell hul).trans hU
  have HB1 : Hid (Below w.heap.size w w1) := hb1
  clear hb1
  go_wp2_with (go_at_call 9; refine (alive2_any a w1 hU1).mono ?_; rintro r w' ⟨rfl, hb⟩)
  go_ret
  exact ⟨rfl, HB1.out.trans (hb.mono HB1.out.size)⟩
theorem lawTexts_any (v : Value) (ss : List ByteArray) (l : Int) (x : ByteArray) (aA aL aI aW aY aD aT aU aS : Addr) (w : World) (hH : HasS w v ss) (hx : x.size ≤ maxLen) (hE : Nine w aA aL aI aW aY aD aT aU aS) :
    Calls Tryd.prog 6 #[v, .int .i64 l, .string x] w fun e w' => e = .returned (.bool true) ∧ Below w.heap.size w w' := by
  by_cases hn : ss.length ≤ 150
  · exact lawTexts_in v ss l x aA aL aI aW aY aD aT aU aS w hH hn hx hE
  · obtain ⟨ao, cap, rfl, _⟩ := hH.form
    exact lawTexts_out ao _ cap l x aU w (by omega) hE.U.1
end Go.Proofs.YtebeimjgppidcacDoor
