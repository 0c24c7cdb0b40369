/- The statement ActOnce as a call: on any list of texts it returns true, and nothing that was there has turned. -/
import Derived.Test.YtebeimjgppidcacDoorAdds
import Derived.Deep.QuietTactic
import Derived.BigQuiet
import Derived.WalkSmall
import Derived.Deep.LoopGhost
namespace Go.Proofs.YtebeimjgppidcacDoor
open Go.RowKit Go.Maps
/-- The value is a list of these texts. -/
structure HasS (w : World) (v : Value) (ss : List ByteArray) : Prop where
  form : ∃ ao cap, v = .slice ao ss.length cap ∧ ∀ i s, ss[i]? = some s → ∃ a, ao = some a ∧ w.cell? (a.add i) = some (.string s)
  size : ∀ s ∈ ss, s.size ≤ maxLen
theorem HasS.below {w w' : World} {v : Value} {ss : List ByteArray} {B : Nat} (h : HasS w v ss) (hB : w.heap.size = B) (hb : Below B w w') : HasS w' v ss := by
  obtain ⟨ao, cap, h1, h2⟩ := h.form
  refine ⟨⟨ao, cap, h1, fun i s hi => ?_⟩, h.size⟩
  obtain ⟨a, ha, hc⟩ := h2 i s hi
  exact ⟨a, ha, (hb.cell (by rw [← hB]; exact World.block_lt_of_cell? w _ hc)).trans hc⟩
/-- Where the first loop stands. -/
structure OnceSt (B : Nat) (w : World) (aA aL aI aW aU aS : Addr) (vn vm : Value) (ns : List ByteArray) (wr : World) : Prop where
  tab : Tab wr B vn vm ns
  foot : ∀ i, Foot B vn vm i → B ≤ i
  bl : Below B w wr
  six : Six wr aA aL aI aW aU aS
theorem OnceSt.step {B : Nat} {w w1 : World} {aA aL aI aW aU aS : Addr} {vn vm vn' vm' : Value} {ns ns' : List ByteArray} {wr : World} (h : OnceSt B w aA aL aI aW aU aS vn vm ns wr) (hB : w.heap.size = B) (hE : Six w aA aL aI aW aU aS) (hT : Tab w1 B vn' vm' ns') (hK : Keeps (Foot B vn vm) wr w1) (hf : ∀ i, Foot B vn' vm' i → Foot B vn vm i ∨ wr.heap.size ≤ i) : OnceSt B w aA aL aI aW aU aS vn' vm' ns' w1 := by
  have hBw : B ≤ wr.heap.size := by rw [← hB]; exact h.bl.size
  have hb : Below B w w1 := h.bl.trans (hK.below hBw h.foot)
  exact ⟨hT, foot_ge h.foot hBw hf, hb, hE.below (by rw [hB]; exact hb)⟩
theorem nodup_tab {w : World} {b : Nat} {vn vm : Value} {ns : List ByteArray} (h : Tab w b vn vm ns) {i j : Nat} {s : ByteArray} (hi : ns[i]? = some s) (hj : ns[j]? = some s) : i = j := by
  rcases h.map with ⟨_, rfl⟩ | ⟨bm, D, _, _, hm⟩
  · simp at hi
  · exact hm.nodup hi hj
theorem row_at {w : World} {base : Nat} {e : TypeId} {ao : Option Addr} {n cap : Nat} {ns : List ByteArray} (h : w.ownsRow base e 1 (.slice ao n cap) n (ns.map Value.string)) {i : Nat} {s : ByteArray} (hi : ns[i]? = some s) : ∃ g, ao = some ⟨g, 0, none⟩ ∧ w.cell? ⟨g, i, none⟩ = some (.string s) := by
  have hlt := (List.getElem?_eq_some_iff.1 hi).1
  have hl := h.1
  simp at hl
  rcases h.2 with ⟨_, h0⟩ | ⟨g, cap', cur, he, _⟩
  · omega
  · injection he with h1 _ h3
    subst h1
    subst h3
    refine ⟨g, rfl, ?_⟩
    rw [h.cellAt i (by omega), List.getElem?_map, hi]; rfl
theorem str_ne {x y : ByteArray} (h : x ≠ y) : (x.toList == y.toList) = false := by
  refine beq_eq_false_iff_ne.2 fun e => h ?_
  rw [ByteArray.toList_eq, ByteArray.toList_eq] at e
  cases x; cases y
  simp at e; simp [e]
set_option maxRecDepth 100000 in
set_option maxHeartbeats 4000000 in
theorem lawOnce_in (v : Value) (ss : List ByteArray) (aA aL aI aW aU aS : Addr) (w : World) (hH : HasS w v ss) (hn : ss.length ≤ 150) (hE : Six w aA aL aI aW aU aS) :
    Calls Tryd.prog 8 #[v] w fun e w' => e = .returned (.bool true) ∧ Below w.heap.size w w' := by
  obtain ⟨ao, cap, rfl, hcells⟩ := hH.form
  obtain ⟨n, hN⟩ : ∃ n, n = ss.length := ⟨_, rfl⟩
  obtain ⟨B, hB⟩ : ∃ B, w.heap.size = B := ⟨_, rfl⟩
  have HH : Hid (HasS w (.slice ao n cap) ss ∧ (∀ i s, ss[i]? = some s → ∃ a, ao = some a ∧ w.cell? (a.add i) = some (.string s)) ∧ n = ss.length ∧ Six w aA aL aI aW aU aS ∧ w.heap.size = B) := ⟨by rw [hN]; exact hH, hcells, hN, hE, hB⟩
  rw [← hN] at hn ⊢
  clear hcells hN hH hE
  have hn9 : ¬ (150 : Int) < (n : Int) := by omega
  rw [hB]
  go_enter Tryd.func8, Tryd.ntmps8
  go_wp2_with fail
  refine (new_any _).mono ?_
  rintro r w1 ⟨rfl, hT1, hb1⟩
  rw [hB] at hT1 hb1 ⊢
  have H1 : Hid (OnceSt B w aA aL aI aW aU aS (.slice none 0 0) (.map none) [] w1) := ⟨hT1, foot_new B, hb1, HH.out.2.2.2.1.below (by rw [hB]; exact hb1)⟩
  clear hT1 hb1
  go_wp2_with fail
  go_loopg [4] n (fun g i wr => ∃ (j : Nat) (vn vm : Value) (ns : List ByteArray), g = n - j ∧ j ≤ n ∧ i = .int .i64 j ∧ OnceSt B w aA aL aI aW aU aS vn vm ns wr)
  case atStart => exact ⟨0, _, _, _, rfl, Nat.zero_le _, rfl, H1.out⟩
  case round =>
    obtain ⟨j, vn, vm, ns, rfl, hj, rfl, hst⟩ := hrel
    have HS : Hid (OnceSt B w aA aL aI aW aU aS vn vm ns wr) := hst
    clear hst
    by_cases hlt : j < n
    · obtain ⟨s, hs⟩ : ∃ s, ss[j]? = some s := ⟨ss[j]'(by have := HH.out.2.2.1; omega), List.getElem?_eq_getElem _⟩
      obtain ⟨a, rfl, hc⟩ := HH.out.2.1 j s hs
      have hsz := HH.out.1.size s (List.mem_of_getElem? hs)
      have HCELL : Hid ((a.add j).block < B ∧ w.cell? (a.add j) = some (.string s)) := ⟨by rw [← hB]; exact World.block_lt_of_cell? w _ hc, hc⟩
      have hc' : wr.cell? (a.add j) = some (.string s) := (HS.out.bl.cell HCELL.out.1).trans hc
      have q0 : (0 : Int) ≤ (j : Int) := by omega
      have q1 : (j : Int) < (n : Int) := by omega
      clear hc hs
      go_wp2_with (go_at_call 27; refine (size_any B vn vm ns _ HS.out.tab).mono ?_; rintro r w' ⟨rfl, hw⟩; obtain rfl := hw.symm)
      refine (add_any B vn vm ns s aA aL aI aW aU aS _ HS.out.tab hsz HS.out.six).mono ?_
      rintro r w2 ⟨vn2, vm2, ns2, hT2, hK2, hf2, hcase⟩
      have hst2 := HS.out.step HH.out.2.2.2.2 HH.out.2.2.2.1 hT2 hK2 hf2
      have HS2 : Hid (OnceSt B w aA aL aI aW aU aS vn2 vm2 ns2 w2) := hst2
      rcases hcase with ⟨bF, rfl, rfl⟩ | ⟨ht, hnm, k, rfl, hk, hk2, hlen, _⟩
      · clear hT2 hK2 hf2 hst2 hc' HS
        have q2 : ((ns2.length : Int) != (ns2.length : Int)) = false := by simp
        unfold faultV
        go_wp2_with (go_at_call 27; refine (size_any B vn2 vm2 ns2 _ HS2.out.tab).mono ?_; rintro r w' ⟨rfl, hw⟩; obtain rfl := hw.symm)
        go_roundg (n - (j + 1))
        case measure => omega
        case rel => exact ⟨j + 1, _, _, _, rfl, by omega, by go_num, HS2.out⟩
      · have hc2 : w2.cell? (a.add j) = some (.string s) := (HS2.out.bl.cell HCELL.out.1).trans HCELL.out.2
        have hA2 := add_yes B vn2 vm2 ns2 s k _ w2 hT2 hk ht hnm HS2.out.six.U.1
        have hF2 := find_yes B vn2 vm2 ns2 s k w2 hT2 hk
        have hS2 := size_any B vn2 vm2 ns2 w2 hT2
        have hl9 := hT2.len
        have p1 : ((k : Int) != (k : Int)) = false := by simp
        have p2 : (k : Int) ≤ (ns.length : Int) := by omega
        have p3 : ((ns2.length : Nat) : Int) = max (ns.length : Int) ((k : Int) + 1) := by omega
        have p4 : (ns.length : Int) ≤ 200 := by omega
        clear hT2 hK2 hf2 hst2 hc' HS hlen hk ht hnm
        go_wp2_with (first | (go_at_call 27; refine hS2.mono ?_; rintro r w' ⟨rfl, hw⟩; obtain rfl := hw.symm) | (go_at_call 22; refine hF2.mono ?_; rintro r w' ⟨rfl, hw⟩; obtain rfl := hw.symm) | (go_at_call 21; refine hA2.mono ?_; rintro r w' ⟨rfl, hw⟩; obtain rfl := hw.symm))
        go_roundg (n - (j + 1))
        case measure => omega
        case rel => exact ⟨j + 1, _, _, _, rfl, by omega, by go_num, HS2.out⟩
    · have q1 : ¬ (j : Int) < (n : Int) := by omega
      go_wp2_with fail
      refine (names_any B vn vm ns _ HS.out.tab).mono ?_
      rintro r w3 ⟨vl, rfl, hown, hb3⟩
      have HW : Hid (Six w3 aA aL aI aW aU aS ∧ Below B w w3 ∧ w3.ownsRow wr.heap.size 9 1 vl ns.length (ns.map Value.string) ∧ (∀ i j s, ns[i]? = some s → ns[j]? = some s → i = j)) := ⟨HS.out.six.below hb3, HS.out.bl.trans (hb3.mono (by rw [← hB]; exact HS.out.bl.size)), hown, fun i j s hi hj => nodup_tab HS.out.tab hi hj⟩
      have hl9 := HS.out.tab.len
      obtain ⟨ao3, cap3, rfl⟩ := row_form hown
      obtain ⟨m, hM⟩ : ∃ m, m = ns.length := ⟨_, rfl⟩
      have HM : Hid (m = ns.length) := hM
      rw [← hM] at hl9 ⊢
      clear hown hb3 HS hM
      go_wp2_with fail
      go_loopg [13] m (fun g i wr => ∃ j q : Nat, g = m - j ∧ j ≤ m ∧ i = .int .i64 j ∧ wr = w3.drewN q)
      case atStart => exact ⟨0, 0, rfl, Nat.zero_le _, rfl, rfl⟩
      case round =>
        obtain ⟨i, q, rfl, hi, rfl, rfl⟩ := hrel
        by_cases hlt2 : i < m
        · have q2 : (i : Int) < (m : Int) := by omega
          go_wp2_with fail
          go_loopg [14] i (fun g x wr => ∃ k q : Nat, g = i - k ∧ k ≤ i ∧ x = .int .i64 k ∧ wr = w3.drewN q)
          case atStart => exact ⟨0, q, rfl, Nat.zero_le _, rfl, rfl⟩
          case round =>
            obtain ⟨k, q', rfl, hk, rfl, rfl⟩ := hrel
            by_cases hlt3 : k < i
            · have q3 : (k : Int) < (i : Int) := by omega
              have hmn := HM.out
              obtain ⟨x, hx⟩ : ∃ x, ns[i]? = some x := ⟨ns[i]'(by omega), List.getElem?_eq_getElem _⟩
              obtain ⟨y, hy⟩ : ∃ y, ns[k]? = some y := ⟨ns[k]'(by omega), List.getElem?_eq_getElem _⟩
              obtain ⟨g, hg, cx⟩ := row_at HW.out.2.2.1 hx
              obtain ⟨g', hg', cy⟩ := row_at HW.out.2.2.1 hy
              obtain rfl : g = g' := by rw [hg] at hg'; injection hg' with e; injection e
              subst hg
              have hxy := str_ne (x := x) (y := y) (fun e => by
                have := HW.out.2.2.2 i k x hx (by rw [e]; exact hy)
                omega)
              have r0 : (0 : Int) ≤ (i : Int) := by omega
              have r1 : (0 : Int) ≤ (k : Int) := by omega
              have r2 : (k : Int) < (m : Int) := by omega
              clear hx hy hg' hmn
              go_wp2_with fail
              go_quiet (fail)
              go_wp2
              go_roundg (i - (k + 1))
              case measure => omega
              case rel => exact ⟨k + 1, _, rfl, by omega, by go_num, by first | rfl | exact World.drewN_drewN _ _ _⟩
            · have q3 : ¬ (k : Int) < (i : Int) := by omega
              go_wp2
              go_roundg (m - (i + 1))
              case measure => omega
              case rel => exact ⟨i + 1, q', rfl, by omega, by go_num, rfl⟩
        · have q2 : ¬ (i : Int) < (m : Int) := by omega
          have hm9 : (m : Int) ≤ 100 := by omega
          go_wp2_with fail
          refine (alive2_any aU _ (show (w3.drewN q).cell? ⟨3, 0, none⟩ = _ from HW.out.1.U.1)).mono ?_
          rintro r w4 ⟨rfl, hb4⟩
          have HB4 : Hid (Below B w w4) := (below_drewN HW.out.2.1 q).trans (hb4.mono (by
            have := (below_drewN HW.out.2.1 q).size
            rw [← hB]; exact this))
          clear hb4
          go_wp2_with fail
          go_ret
          exact ⟨rfl, HB4.out⟩
set_option maxRecDepth 100000 in
theorem lawOnce_out (ao : Option Addr) (n cap : Nat) (a : Addr) (w : World) (hn : 150 < n) (hU : w.cell? ⟨3, 0, none⟩ = some (.iface 103 (.pointer (some a)))) :
    Calls Tryd.prog 8 #[.slice ao n cap] w fun e w' => e = .returned (.bool true) ∧ Below w.heap.size w w' := by
  have h9 : (150 : Int) < (n : Int) := by omega
  go_enter Tryd.func8, Tryd.ntmps8
  go_wp2_with (go_at_call 9; refine (alive2_any a w hU).mono ?_; rintro r w' ⟨rfl, hb⟩)
  go_ret
  exact ⟨rfl, hb⟩
theorem lawOnce_any (v : Value) (ss : List ByteArray) (aA aL aI aW aU aS : Addr) (w : World) (hH : HasS w v ss) (hE : Six w aA aL aI aW aU aS) :
    Calls Tryd.prog 8 #[v] w fun e w' => e = .returned (.bool true) ∧ Below w.heap.size w w' := by
  by_cases hn : ss.length ≤ 150
  · exact lawOnce_in v ss aA aL aI aW aU aS w hH hn hE
  · obtain ⟨ao, cap, rfl, _⟩ := hH.form
    exact lawOnce_out ao _ cap aU w (by omega) hE.U.1
end Go.Proofs.YtebeimjgppidcacDoor
