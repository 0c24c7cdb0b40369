/- The statement ActSets as a call: on any arguments it returns true, and nothing that was there has turned. -/
import Derived.Test.YtebeimjgppidcacDoorBookPairs
import Derived.Test.YtebeimjgppidcacDoorRefPairs
import Derived.Test.YtebeimjgppidcacDoorRefIn
import Derived.Test.YtebeimjgppidcacDoorAlive2
namespace Go.Proofs.YtebeimjgppidcacDoor
open Go.RowKit
def pCells (ps : List (Int × Int)) : List Value := (ps.map fun p => [Value.int .i64 p.1, Value.int .i64 p.2]).flatten
theorem pCells_length (ps : List (Int × Int)) : (pCells ps).length = ps.length * 2 := by
  induction ps with
  | nil => rfl
  | cons p r ih =>
    have : pCells (p :: r) = [Value.int .i64 p.1, Value.int .i64 p.2] ++ pCells r := by simp [pCells]
    rw [this, List.length_append, ih]; simp; omega
theorem pCells_at (ps : List (Int × Int)) : ∀ (k : Nat) (p : Int × Int), ps[k]? = some p → (pCells ps)[k * 2]? = some (.int .i64 p.1) ∧ (pCells ps)[k * 2 + 1]? = some (.int .i64 p.2) := by
  induction ps with
  | nil => intro k p h; simp at h
  | cons q r ih =>
    intro k p h
    have e : pCells (q :: r) = [Value.int .i64 q.1, Value.int .i64 q.2] ++ pCells r := by simp [pCells]
    rw [e]
    cases k with
    | zero => simp at h; subst h; exact ⟨rfl, rfl⟩
    | succ k =>
      obtain ⟨c0, c1⟩ := ih k p (by simpa using h)
      refine ⟨?_, ?_⟩
      · rw [List.getElem?_append_right (by simp; omega)]; simpa [Nat.succ_mul] using c0
      · rw [List.getElem?_append_right (by simp; omega)]
        have : (k + 1) * 2 + 1 - [Value.int .i64 q.1, Value.int .i64 q.2].length = k * 2 + 1 := by simp; omega
        rw [this]; exact c1
theorem pCells_inv (ps : List (Int × Int)) (j : Nat) (u : Value) (h : (pCells ps)[j]? = some u) : ∃ p, ps[j / 2]? = some p ∧ u = if j % 2 = 0 then .int .i64 p.1 else .int .i64 p.2 := by
  have hl : j < ps.length * 2 := by rw [← pCells_length]; exact (List.getElem?_eq_some_iff.1 h).1
  have hk : j / 2 < ps.length := by omega
  have he : ps[j / 2]? = some ps[j / 2] := List.getElem?_eq_getElem hk
  obtain ⟨c0, c1⟩ := pCells_at ps (j / 2) _ he
  refine ⟨_, he, ?_⟩
  by_cases h2 : j % 2 = 0
  · rw [if_pos h2]
    have : j / 2 * 2 = j := by omega
    rw [this, h] at c0
    exact Option.some.inj c0
  · rw [if_neg h2]
    have : j / 2 * 2 + 1 = j := by omega
    rw [this, h] at c1
    exact Option.some.inj c1
theorem pCells_one (ps : List (Int × Int)) : ∀ u ∈ pCells ps, u.oneCell' = true := fun u hu => by
  simp only [pCells, List.mem_flatten, List.mem_map] at hu
  obtain ⟨l, ⟨p, _, rfl⟩, hu⟩ := hu
  simp only [List.mem_cons, List.not_mem_nil, or_false] at hu
  rcases hu with rfl | rfl <;> rfl
theorem pCells_news {w : World} {a : Addr} {ps : List (Int × Int)} (h : ∀ (i : Nat) (p : Int × Int), ps[i]? = some p → w.cell? (a.add (i * 2)) = some (.int .i64 p.1) ∧ w.cell? (a.add (i * 2 + 1)) = some (.int .i64 p.2)) : ∀ j u, (pCells ps)[j]? = some u → w.cell? (a.add j) = some u := by
  intro j u hu
  obtain ⟨p, hp, rfl⟩ := pCells_inv ps j u hu
  obtain ⟨c0, c1⟩ := h _ p hp
  by_cases h2 : j % 2 = 0
  · rw [if_pos h2]; have : j / 2 * 2 = j := by omega
    rw [this] at c0; exact c0
  · rw [if_neg h2]; have : j / 2 * 2 + 1 = j := by omega
    rw [this] at c1; exact c1
theorem pCells_snoc (ps : List (Int × Int)) (p : Int × Int) : pCells (ps ++ [p]) = pCells ps ++ [.int .i64 p.1, .int .i64 p.2] := by simp [pCells]
/-- Pairs that are lent: a mark lies behind them. -/
def LentP (w : World) (v : Value) (ps : List (Int × Int)) : Prop := ∃ g cap, v = .slice (some ⟨g, 0, none⟩) ps.length cap ∧ ps.length + 1 ≤ cap ∧ ∀ (i : Nat) (p : Int × Int), (ps ++ [(-77, 0)])[i]? = some p → w.cell? ⟨g, i * 2, none⟩ = some (.int .i64 p.1) ∧ w.cell? ⟨g, i * 2 + 1, none⟩ = some (.int .i64 p.2)
theorem LentP.below {w w' : World} {v : Value} {ps : List (Int × Int)} (h : LentP w v ps) (hb : Below w.heap.size w w') : LentP w' v ps := by
  obtain ⟨g, cap, h1, h2, h3⟩ := h
  refine ⟨g, cap, h1, h2, fun i z hi => ?_⟩
  obtain ⟨c0, c1⟩ := h3 i z hi
  exact ⟨(hb.cell (World.block_lt_of_cell? w _ c0)).trans c0, (hb.cell (World.block_lt_of_cell? w _ c1)).trans c1⟩
theorem add_plain0 (g i : Nat) : (⟨g, 0, none⟩ : Addr).add i = ⟨g, i, none⟩ := by unfold Addr.add; split <;> simp_all
theorem LentP.has {w : World} {v : Value} {ps : List (Int × Int)} (h : LentP w v ps) : HasP w v ps := by
  obtain ⟨g, cap, h1, h2, h3⟩ := h
  refine ⟨_, cap, h1, fun i z hi => ⟨_, rfl, ?_⟩⟩
  have hlt := (List.getElem?_eq_some_iff.1 hi).1
  rw [add_plain0, add_plain0]
  exact h3 i z (by rw [List.getElem?_append_left hlt]; exact hi)
theorem Tryd.infoP : (Tryd.prog.info? 27).map (fun i => (i.zero, i.size, i.bytes)) = some (some (.agg #[.int .i64 0, .int .i64 0]), 2, 16) := by kernel_rfl
/-- The end of the pairs' lending. -/
theorem lentP_fin {w w1 w2 : World} {v1 : Value} {ps : List (Int × Int)} {g cap : Nat} {o : Obj} (hb : Below w.heap.size w w1) (h1 : w1.ownsRow w.heap.size 27 2 v1 ps.length (pCells ps)) (hg : (w1.alloc o).grownBy w2 v1.ownBlock)
    (h2 : w2.ownsRow w.heap.size 27 2 (.slice (some ⟨g, 0, none⟩) (ps.length + 1) cap) (ps.length + 1) (pCells ps ++ [.int .i64 (-77), .int .i64 0])) :
    LentP w2 (.slice (some ⟨g, 0, none⟩) ps.length cap) ps ∧ Below w.heap.size w w2 := by
  refine ⟨⟨g, cap, rfl, (slice_cap h2).2, fun i z hi => ?_⟩, ?_⟩
  · have hlt := (List.getElem?_eq_some_iff.1 hi).1
    simp at hlt
    have e := pCells_snoc ps (-77, 0)
    obtain ⟨c0, c1⟩ := pCells_at (ps ++ [(-77, 0)]) i z hi
    rw [e] at c0 c1
    exact ⟨by rw [h2.cellAt (i * 2) (by omega)]; exact c0, by rw [h2.cellAt (i * 2 + 1) (by omega)]; exact c1⟩
  · exact (hb.alloc hb.size o).grown hg (by have := hb.size; simp; omega) (fun k hk => (h1.lt k hk).1)
theorem pair_marks : ∀ u ∈ [Value.int .i64 (-77), Value.int .i64 0], u.oneCell' = true := marks_one _ _
/-- Where the statement stands. -/
structure SetSt (w0 : World) (vn u vp p : Value) (zs : List Int) (ps : List (Int × Int)) (a : Addr) (w : World) : Prop where
  hn : HasI w vn zs
  ln : LentI w u zs
  hp : HasP w vp ps
  lp : LentP w p ps
  un : w.cell? ⟨3, 0, none⟩ = some (.iface 103 (.pointer (some a)))
  bl : Below w0.heap.size w0 w
theorem SetSt.below {w0 w w' : World} {vn u vp p : Value} {zs : List Int} {ps : List (Int × Int)} {a : Addr} (h : SetSt w0 vn u vp p zs ps a w) (hb : Below w.heap.size w w') : SetSt w0 vn u vp p zs ps a w' :=
  ⟨h.hn.below hb, h.ln.below hb, h.hp.below hb, h.lp.below hb, (hb.cell (World.block_lt_of_cell? w _ h.un)).trans h.un, h.bl.trans (hb.mono h.bl.size)⟩
theorem mark_at {w : World} {g n m cap : Nat} {ps : List (Int × Int)} (hm : m = ps.length) (h : LentP w (.slice (some ⟨g, 0, none⟩) n cap) ps) : w.cell? ⟨g, m * 2, none⟩ = some (.int .i64 (-77)) := by
  obtain ⟨g', cap', he, _, h3⟩ := h
  injection he with h1 _ _
  injection h1 with h1
  injection h1 with h1
  subst h1
  rw [hm]
  exact (h3 ps.length (-77, 0) (by simp)).1
theorem lentP_cap {w : World} {g n cap : Nat} {ps : List (Int × Int)} (h : LentP w (.slice (some ⟨g, 0, none⟩) n cap) ps) : ps.length + 1 ≤ cap := by
  obtain ⟨g', cap', he, h2, _⟩ := h
  injection he with _ _ h3
  omega
theorem pairs_cells {w : World} {ao : Option Addr} {n cap : Nat} {ps : List (Int × Int)} (h : HasP w (.slice ao n cap) ps) : ∀ (i : Nat) (p : Int × Int), ps[i]? = some p → ∃ a, ao = some a ∧ w.cell? (a.add (i * 2)) = some (.int .i64 p.1) ∧ w.cell? (a.add (i * 2 + 1)) = some (.int .i64 p.2) := by
  obtain ⟨ao', cap', he, hc⟩ := h
  injection he with e1 e2 e3
  subst e1
  exact hc
set_option maxRecDepth 100000 in
set_option maxHeartbeats 4000000 in
theorem lawSets_in (vn vp : Value) (zs : List Int) (ps : List (Int × Int)) (l : Int) (a : Addr) (w : World) (hA : HasI w vn zs) (hP : HasP w vp ps) (hz : zs.length ≤ 2000) (hp : ps.length ≤ 2000) (hU : w.cell? ⟨3, 0, none⟩ = some (.iface 103 (.pointer (some a)))) :
    Calls Tryd.prog 3 #[vn, vp, .int .i64 l] w fun e w' => e = .returned (.bool true) ∧ Below w.heap.size w w' := by
  have hz9 : zs.length ≤ 1000000 := by omega
  have hp9 : ps.length ≤ 1000000 := by omega
  have hp9m : ps.length ≤ maxLen := by unfold maxLen; omega
  obtain ⟨i0, hi0, hz0, hz1, hz2⟩ := info_parts Tryd.infoP
  have hL := lentInts_any vn zs w hz9 hA
  obtain ⟨nz, hnz⟩ : ∃ n, n = zs.length := ⟨_, rfl⟩
  obtain ⟨np, hnp⟩ : ∃ n, n = ps.length := ⟨_, rfl⟩
  have HNP : Hid (np = ps.length) := hnp
  have hA' := hA
  have hP' := hP
  obtain ⟨ao, cap, rfl, _⟩ := hA
  obtain ⟨bo, capb, rfl, hcp⟩ := hP
  rw [← hnz] at hz hA' hL ⊢
  rw [← hnp] at hp hP' ⊢
  have HW0 : Hid (HasI w (.slice ao nz cap) zs ∧ HasP w (.slice bo np capb) ps ∧ w.cell? ⟨3, 0, none⟩ = some (.iface 103 (.pointer (some a))) ∧ nz = zs.length) := ⟨hA', hP', hU, hnz⟩
  have hzz : ¬ (2000 : Int) < (nz : Int) := by omega
  have hpp : ¬ (2000 : Int) < (np : Int) := by omega
  have hml : 0 + np ≤ maxLen := by unfold maxLen; omega
  have hby : (0 + np) * 16 ≤ 140737488355328 := by omega
  have hml2 : np + 1 ≤ maxLen := by unfold maxLen; omega
  have hby2 : (np + 1) * 16 ≤ 140737488355328 := by omega
  have hpl : (pCells ps).length = np * 2 := by rw [pCells_length, hnp]
  clear hA' hP' hU hnz hnp
  go_enter Tryd.func3, Tryd.ntmps3
  go_wp2_with fail
  refine hL.mono ?_
  rintro r w1 ⟨vu, rfl, hlent, hb1⟩
  have HW1 : Hid (LentI w1 vu zs ∧ HasI w1 (.slice ao nz cap) zs ∧ HasP w1 (.slice bo np capb) ps ∧ w1.cell? ⟨3, 0, none⟩ = some (.iface 103 (.pointer (some a))) ∧ Below w.heap.size w w1) := ⟨hlent, HW0.out.1.below hb1, HW0.out.2.1.below hb1, (hb1.cell (World.block_lt_of_cell? w _ HW0.out.2.2.1)).trans HW0.out.2.2.1, hb1⟩
  have HP0 : Hid (∀ (i : Nat) (p : Int × Int), ps[i]? = some p → ∃ a, bo = some a ∧ w1.cell? (a.add (i * 2)) = some (.int .i64 p.1) ∧ w1.cell? (a.add (i * 2 + 1)) = some (.int .i64 p.2)) := pairs_cells HW1.out.2.2.1
  clear hlent hb1 hL hcp
  cases bo with
  | none =>
    obtain rfl : np = 0 := by
      have h9 := HNP.out
      cases ps with
      | nil => exact h9
      | cons z r => obtain ⟨a, h, _⟩ := HP0.out 0 z rfl; cases h
    obtain rfl : ps = [] := List.length_eq_zero_iff.1 HNP.out.symm
    go_wp2_with (at_builtin; refine wpList_append_own_at _ rfl _ _ 23 rfl w1.heap.size 27 i0 (.agg #[.int .i64 0, .int .i64 0]) 2 16 Tryd.underlying23 hi0 hz0 hz1 hz2 rfl (by decide) (.slice none 0 0) 0 [] rfl (World.ownsRow_nil _ _ _ _) ⟨w1.heap.size, 0, none⟩ 1 1 [.int .i64 (-77), .int .i64 0] rfl rfl (cells_two_new _ _ _ _) pair_marks (by decide) (by decide) (by simp) ?_; intro v' w3 hown' hgrow hnil hat; obtain ⟨gg, cap', rfl, _, _⟩ := hown'.form (by decide); have hcp := (slice_cap hown').2; have hcp2 : (0 : Int) ≤ (cap' : Int) := (by omega); have H2 : Hid _ := And.intro hown' hgrow; clear hown' hgrow hat hnil)
    have H3 : Hid (SetSt w (.slice ao nz cap) vu (.slice none 0 capb) (.slice (some ⟨gg, 0, none⟩) 0 cap') zs [] a w3) := (by
      obtain ⟨r1, r2⟩ := lentP_fin (ps := []) (Below.refl _ _) (World.ownsRow_nil _ _ _ _) H2.out.2 H2.out.1
      exact ⟨HW1.out.2.1.below r2, HW1.out.1.below r2, HW1.out.2.2.1.below r2, r1, (r2.cell (World.block_lt_of_cell? w1 _ HW1.out.2.2.2.1)).trans HW1.out.2.2.2.1, HW1.out.2.2.2.2.trans (r2.mono HW1.out.2.2.2.2.size)⟩ : SetSt w (.slice ao nz cap) vu (.slice none 0 capb) (.slice (some ⟨gg, 0, none⟩) 0 cap') zs [] a w3)
    have H1 : Hid True := trivial
    clear H2 H1 HW1 HP0
    obtain ⟨ri, hri⟩ : ∃ x, x = Ac.rising (-1) zs := ⟨_, rfl⟩
    obtain ⟨ii, hii⟩ : ∃ x, x = Ac.isIn zs l := ⟨_, rfl⟩
    obtain ⟨pi, hpi⟩ : ∃ x, x = Ac.pairs (-1) [] := ⟨_, rfl⟩
    obtain ⟨ni, hni⟩ : ∃ x, x = Ac.rename [] l := ⟨_, rfl⟩
    have HE : Hid (ri = Ac.rising (-1) zs ∧ ii = Ac.isIn zs l ∧ pi = Ac.pairs (-1) [] ∧ ni = Ac.rename [] l) := ⟨hri, hii, hpi, hni⟩
    have y1 : (ri != ri) = false := by simp
    have y2 : (ii != ii) = false := by simp
    have y3 : (pi != pi) = false := by simp
    have y4 : (ni != ni) = false := by simp
    clear hri hii hpi hni
    refine (rising_any _ zs w3 H3.out.ln.has hz9).mono ?_
    rw [← HE.out.1]
    rintro r w' ⟨rfl, hw⟩
    obtain rfl := hw.symm
    go_wp2_with fail
    refine (refRising_any _ zs w3 H3.out.hn hz9).mono ?_
    rw [← HE.out.1]
    rintro r w4 ⟨rfl, hb4⟩
    have H4 : Hid (SetSt w (.slice ao nz cap) vu (.slice none 0 capb) (.slice (some ⟨gg, 0, none⟩) 0 cap') zs [] a w4) := H3.out.below hb4
    clear hb4 H3
    go_wp2_with fail
    refine (in_any _ zs l w4 H4.out.ln.has hz9).mono ?_
    rw [← HE.out.2.1]
    rintro r w' ⟨rfl, hw⟩
    obtain rfl := hw.symm
    go_wp2_with fail
    refine (refIn_any _ zs l w4 H4.out.hn hz9).mono ?_
    rw [← HE.out.2.1]
    rintro r w' ⟨rfl, hw⟩
    obtain rfl := hw.symm
    go_wp2_with fail
    refine (pairs_any _ [] w4 H4.out.lp.has hp9m).mono ?_
    rw [← HE.out.2.2.1]
    rintro r w5 ⟨rfl, hb5⟩
    have H5 : Hid (SetSt w (.slice ao nz cap) vu (.slice none 0 capb) (.slice (some ⟨gg, 0, none⟩) 0 cap') zs [] a w5) := H4.out.below hb5
    clear hb5 H4
    go_wp2_with fail
    refine (refPairs_any _ [] w5 H5.out.hp hp9).mono ?_
    rw [← HE.out.2.2.1]
    rintro r w6 ⟨rfl, hb6⟩
    have H6 : Hid (SetSt w (.slice ao nz cap) vu (.slice none 0 capb) (.slice (some ⟨gg, 0, none⟩) 0 cap') zs [] a w6) := H5.out.below hb6
    clear hb6 H5
    go_wp2_with fail
    refine (rename_any _ [] l w6 H6.out.lp.has hp9).mono ?_
    rw [← HE.out.2.2.2]
    rintro r w7 ⟨rfl, hb7⟩
    have H7 : Hid (SetSt w (.slice ao nz cap) vu (.slice none 0 capb) (.slice (some ⟨gg, 0, none⟩) 0 cap') zs [] a w7) := H6.out.below hb7
    clear hb7 H6
    go_wp2_with fail
    refine (refRename_any _ [] l w7 H7.out.hp hp9).mono ?_
    rw [← HE.out.2.2.2]
    rintro r w' ⟨rfl, hw⟩
    obtain rfl := hw.symm
    go_wp2_with fail
    refine (alive2_any a w7 H7.out.un).mono ?_
    rintro r w8 ⟨rfl, hb8⟩
    have H8 : Hid (SetSt w (.slice ao nz cap) vu (.slice none 0 capb) (.slice (some ⟨gg, 0, none⟩) 0 cap') zs [] a w8) := H7.out.below hb8
    clear hb8 H7
    go_wp2_with fail
    refine (staysInts_any _ _ zs w8 hz9 H8.out.ln H8.out.hn).mono ?_
    rintro r w9 ⟨rfl, hb9⟩
    have H9 : Hid (SetSt w (.slice ao nz cap) vu (.slice none 0 capb) (.slice (some ⟨gg, 0, none⟩) 0 cap') zs [] a w9) := H8.out.below hb9
    clear hb9 H8
    go_wp2_with fail
    refine (samePairs_any _ _ [] w9 hp9 H9.out.lp.has H9.out.hp).mono ?_
    rintro r w10 ⟨rfl, hb10⟩
    have H10 : Hid (SetSt w (.slice ao nz cap) vu (.slice none 0 capb) (.slice (some ⟨gg, 0, none⟩) 0 cap') zs [] a w10) := H9.out.below hb10
    clear hb10 H9
    have cm : w10.cell? ⟨gg, 0, none⟩ = some (.int .i64 (-77)) := mark_at (m := 0) rfl H10.out.lp
    have p1 : (1 : Int) ≤ (cap' : Int) := by omega
    go_wp2_with fail
    go_ret
    exact ⟨rfl, H10.out.bl⟩
  | some b =>
    have hnews : ∀ j u, (pCells ps)[j]? = some u → w1.cell? (b.add j) = some u := pCells_news fun i p hi => by
      obtain ⟨b', hb', c0, c1⟩ := HP0.out i p hi
      cases hb'
      exact ⟨c0, c1⟩
    have H0 : Hid (w1.ownsRow w1.heap.size 27 2 (.slice none 0 0) 0 []) := World.ownsRow_nil _ _ _ _
    go_wp2_with (first
      | (at_builtin; refine wpList_append_own_at _ rfl _ _ 23 rfl w1.heap.size 27 i0 (.agg #[.int .i64 0, .int .i64 0]) 2 16 Tryd.underlying23 hi0 hz0 hz1 hz2 rfl (by decide) (.slice none 0 0) 0 [] rfl (World.ownsRow_nil _ _ _ _) b np capb (pCells ps) rfl hpl hnews (pCells_one ps) hml hby (Nat.le_refl _) ?_; intro v1 w2 hown1 hgrow1 hnil1 hat1; have hown1' := lent_row hown1; have hb1 := below_grown0 hgrow1; have H1 : Hid (w2.ownsRow w1.heap.size 27 2 v1 np (pCells ps) ∧ Below w1.heap.size w1 w2) := ⟨hown1', hb1⟩; have hws : w1.heap.size ≤ (w2.alloc (.cells #[.int .i64 (-77), .int .i64 0] 27)).heap.size := lent_size hb1; clear hown1 hgrow1 hnil1 hat1 hown1' hb1)
      | (at_builtin; refine wpList_append_own_at _ rfl _ _ 23 rfl w1.heap.size 27 i0 (.agg #[.int .i64 0, .int .i64 0]) 2 16 Tryd.underlying23 hi0 hz0 hz1 hz2 rfl (by decide) v1 np (pCells ps) rfl (H1.out.1.alloc _) ⟨w2.heap.size, 0, none⟩ 1 1 [.int .i64 (-77), .int .i64 0] rfl rfl (cells_two_new _ _ _ _) pair_marks hml2 hby2 hws ?_; intro v' w3 hown' hgrow hnil hat; obtain ⟨gg, cap', rfl, _, _⟩ := hown'.form (Nat.succ_pos _); have hcp := (slice_cap hown').2; have hcp1 : (0 : Int) ≤ (np : Int) := (by omega); have hcp2 : (np : Int) ≤ (cap' : Int) := (by omega); have H2 : Hid _ := And.intro hown' hgrow; clear hown' hgrow hat hnil))
    have H3 : Hid (SetSt w (.slice ao nz cap) vu (.slice (some b) np capb) (.slice (some ⟨gg, 0, none⟩) np cap') zs ps a w3) := (by
      have h9 := HNP.out
      obtain ⟨r1, r2⟩ := lentP_fin (ps := ps) H1.out.2 (by rw [← h9]; exact H1.out.1) H2.out.2 (by rw [← h9]; exact H2.out.1)
      rw [← h9] at r1
      exact ⟨HW1.out.2.1.below r2, HW1.out.1.below r2, HW1.out.2.2.1.below r2, r1, (r2.cell (World.block_lt_of_cell? w1 _ HW1.out.2.2.2.1)).trans HW1.out.2.2.2.1, HW1.out.2.2.2.2.trans (r2.mono HW1.out.2.2.2.2.size)⟩ : SetSt w (.slice ao nz cap) vu (.slice (some b) np capb) (.slice (some ⟨gg, 0, none⟩) np cap') zs ps a w3)
    clear H2 H1 HW1 HP0
    obtain ⟨ri, hri⟩ : ∃ x, x = Ac.rising (-1) zs := ⟨_, rfl⟩
    obtain ⟨ii, hii⟩ : ∃ x, x = Ac.isIn zs l := ⟨_, rfl⟩
    obtain ⟨pi, hpi⟩ : ∃ x, x = Ac.pairs (-1) ps := ⟨_, rfl⟩
    obtain ⟨ni, hni⟩ : ∃ x, x = Ac.rename ps l := ⟨_, rfl⟩
    have HE : Hid (ri = Ac.rising (-1) zs ∧ ii = Ac.isIn zs l ∧ pi = Ac.pairs (-1) ps ∧ ni = Ac.rename ps l) := ⟨hri, hii, hpi, hni⟩
    have y1 : (ri != ri) = false := by simp
    have y2 : (ii != ii) = false := by simp
    have y3 : (pi != pi) = false := by simp
    have y4 : (ni != ni) = false := by simp
    clear hri hii hpi hni
    refine (rising_any _ zs w3 H3.out.ln.has hz9).mono ?_
    rw [← HE.out.1]
    rintro r w' ⟨rfl, hw⟩
    obtain rfl := hw.symm
    go_wp2_with fail
    refine (refRising_any _ zs w3 H3.out.hn hz9).mono ?_
    rw [← HE.out.1]
    rintro r w4 ⟨rfl, hb4⟩
    have H4 : Hid (SetSt w (.slice ao nz cap) vu (.slice (some b) np capb) (.slice (some ⟨gg, 0, none⟩) np cap') zs ps a w4) := H3.out.below hb4
    clear hb4 H3
    go_wp2_with fail
    refine (in_any _ zs l w4 H4.out.ln.has hz9).mono ?_
    rw [← HE.out.2.1]
    rintro r w' ⟨rfl, hw⟩
    obtain rfl := hw.symm
    go_wp2_with fail
    refine (refIn_any _ zs l w4 H4.out.hn hz9).mono ?_
    rw [← HE.out.2.1]
    rintro r w' ⟨rfl, hw⟩
    obtain rfl := hw.symm
    go_wp2_with fail
    refine (pairs_any _ ps w4 H4.out.lp.has hp9m).mono ?_
    rw [← HE.out.2.2.1]
    rintro r w5 ⟨rfl, hb5⟩
    have H5 : Hid (SetSt w (.slice ao nz cap) vu (.slice (some b) np capb) (.slice (some ⟨gg, 0, none⟩) np cap') zs ps a w5) := H4.out.below hb5
    clear hb5 H4
    go_wp2_with fail
    refine (refPairs_any _ ps w5 H5.out.hp hp9).mono ?_
    rw [← HE.out.2.2.1]
    rintro r w6 ⟨rfl, hb6⟩
    have H6 : Hid (SetSt w (.slice ao nz cap) vu (.slice (some b) np capb) (.slice (some ⟨gg, 0, none⟩) np cap') zs ps a w6) := H5.out.below hb6
    clear hb6 H5
    go_wp2_with fail
    refine (rename_any _ ps l w6 H6.out.lp.has hp9).mono ?_
    rw [← HE.out.2.2.2]
    rintro r w7 ⟨rfl, hb7⟩
    have H7 : Hid (SetSt w (.slice ao nz cap) vu (.slice (some b) np capb) (.slice (some ⟨gg, 0, none⟩) np cap') zs ps a w7) := H6.out.below hb7
    clear hb7 H6
    go_wp2_with fail
    refine (refRename_any _ ps l w7 H7.out.hp hp9).mono ?_
    rw [← HE.out.2.2.2]
    rintro r w' ⟨rfl, hw⟩
    obtain rfl := hw.symm
    go_wp2_with fail
    refine (alive2_any a w7 H7.out.un).mono ?_
    rintro r w8 ⟨rfl, hb8⟩
    have H8 : Hid (SetSt w (.slice ao nz cap) vu (.slice (some b) np capb) (.slice (some ⟨gg, 0, none⟩) np cap') zs ps a w8) := H7.out.below hb8
    clear hb8 H7
    go_wp2_with fail
    refine (staysInts_any _ _ zs w8 hz9 H8.out.ln H8.out.hn).mono ?_
    rintro r w9 ⟨rfl, hb9⟩
    have H9 : Hid (SetSt w (.slice ao nz cap) vu (.slice (some b) np capb) (.slice (some ⟨gg, 0, none⟩) np cap') zs ps a w9) := H8.out.below hb9
    clear hb9 H8
    go_wp2_with fail
    refine (samePairs_any _ _ ps w9 hp9 H9.out.lp.has H9.out.hp).mono ?_
    rintro r w10 ⟨rfl, hb10⟩
    have H10 : Hid (SetSt w (.slice ao nz cap) vu (.slice (some b) np capb) (.slice (some ⟨gg, 0, none⟩) np cap') zs ps a w10) := H9.out.below hb10
    clear hb10 H9
    have cm : w10.cell? ⟨gg, np * 2, none⟩ = some (.int .i64 (-77)) := mark_at HNP.out H10.out.lp
    have p1 : (np : Int) + 1 ≤ (cap' : Int) := by omega
    have p2 : (0 : Int) ≤ (np : Int) + 1 := by omega
    have p3 : (np : Int) < (np : Int) + 1 := by omega
    have p4 : (0 : Int) ≤ (np : Int) := by omega
    go_wp2_with fail
    go_ret
    exact ⟨rfl, H10.out.bl⟩
set_option maxRecDepth 100000 in
theorem lawSets_out (ao bo : Option Addr) (n m cap capb : Nat) (l : Int) (a : Addr) (w : World) (hn : 2000 < n ∨ 2000 < m) (hU : w.cell? ⟨3, 0, none⟩ = some (.iface 103 (.pointer (some a)))) :
    Calls Tryd.prog 3 #[.slice ao n cap, .slice bo m capb, .int .i64 l] w fun e w' => e = .returned (.bool true) ∧ Below w.heap.size w w' := by
  by_cases h : 2000 < n
  · have h9 : (2000 : Int) < (n : Int) := by omega
    clear hn
    go_enter Tryd.func3, Tryd.ntmps3
    go_wp2_with (go_at_call 9; refine (alive2_any a w hU).mono ?_; rintro r w' ⟨rfl, hb⟩)
    go_ret
    exact ⟨rfl, hb⟩
  · have h8 : ¬ (2000 : Int) < (n : Int) := by omega
    have h9 : (2000 : Int) < (m : Int) := by omega
    clear hn
    go_enter Tryd.func3, Tryd.ntmps3
    go_wp2_with (go_at_call 9; refine (alive2_any a w hU).mono ?_; rintro r w' ⟨rfl, hb⟩)
    go_ret
    exact ⟨rfl, hb⟩
theorem lawSets_any (vn vp : Value) (zs : List Int) (ps : List (Int × Int)) (l : Int) (a : Addr) (w : World) (hA : HasI w vn zs) (hP : HasP w vp ps) (hU : w.cell? ⟨3, 0, none⟩ = some (.iface 103 (.pointer (some a)))) :
    Calls Tryd.prog 3 #[vn, vp, .int .i64 l] w fun e w' => e = .returned (.bool true) ∧ Below w.heap.size w w' := by
  by_cases h : zs.length ≤ 2000 ∧ ps.length ≤ 2000
  · exact lawSets_in vn vp zs ps l a w hA hP h.1 h.2 hU
  · obtain ⟨ao, cap, rfl, _⟩ := hA
    obtain ⟨bo, capb, rfl, _⟩ := hP
    exact lawSets_out ao bo _ _ cap capb l a w (by omega) hU
end Go.Proofs.YtebeimjgppidcacDoor
