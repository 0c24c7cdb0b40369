/- Contracts of the book's LentInts and StaysInts. -/
import Derived.Test.YtcjeijmphgpecaaDoorBSame
import Derived.Test.YtcjeijmphgpecaaDoorCopy
namespace Go.Proofs.YtcjeijmphgpecaaDoor
open Go.RowKit Go.Maps
attribute [local go_sem ↓] Go.wp_at_zero Go.wp_at_succ
/-- Numbers with two marks behind them. -/
def Lent (w : World) (B g cap : Nat) (zs : List Int) : Prop := w.ownsRow B 3 1 (.slice (some ⟨g, 0, none⟩) (zs.length + 2) cap) (zs.length + 2) (iC zs ++ [.int .i64 (-77), .int .i64 (-78)])
theorem Lent.at {w w' : World} {B g cap : Nat} {zs : List Int} (h : Lent w B g cap zs) (hb : w'.heap[g]? = w.heap[g]?) : Lent w' B g cap zs := trow_at h fun i hi => by
  simp only [Value.ownBlock, Option.some.injEq] at hi
  subst hi; exact hb
theorem Lent.lt {w : World} {B g cap : Nat} {zs : List Int} (h : Lent w B g cap zs) : B ≤ g ∧ g < w.heap.size := World.ownsRow.lt h g rfl
theorem Lent.cap {w : World} {B g cap : Nat} {zs : List Int} (h : Lent w B g cap zs) : zs.length + 2 ≤ cap ∧ cap ≤ maxLen := by
  rcases h.2 with ⟨h1, _⟩ | ⟨g', cap', cur, h1, _, _, h2, h3, _⟩
  · cases h1
  · injection h1 with e1 e2 e3
    subst e3; exact ⟨h2, h3⟩
theorem Lent.blk {w : World} {B g cap : Nat} {zs : List Int} (h : Lent w B g cap zs) : ∃ c, w.heap[g]? = some (.cells c 3 (0, 0)) := row_cells h rfl
theorem Lent.has {w : World} {B g cap : Nat} {zs : List Int} (h : Lent w B g cap zs) : HasI w (.slice (some ⟨g, 0, none⟩) zs.length cap) zs := by
  refine ⟨_, cap, rfl, fun i z hi => ⟨_, rfl, ?_⟩⟩
  have hlt := (List.getElem?_eq_some_iff.1 hi).1
  rw [addz, World.ownsRow.cellAt h i (by omega), List.getElem?_append_left (by simp [iC]; omega)]
  simp [iC, hi]
theorem Lent.marks {w : World} {B g cap : Nat} {zs : List Int} (h : Lent w B g cap zs) : w.cell? ⟨g, zs.length, none⟩ = some (.int .i64 (-77)) ∧ w.cell? ⟨g, zs.length + 1, none⟩ = some (.int .i64 (-78)) := by
  constructor
  · rw [World.ownsRow.cellAt h _ (by omega), List.getElem?_append_right (by simp [iC])]; simp [iC]
  · rw [World.ownsRow.cellAt h _ (by omega), List.getElem?_append_right (by simp [iC])]; simp [iC]
theorem two_one (a b : Int) : ∀ x ∈ [Value.int .i64 a, .int .i64 b], x.oneCell' = true := fun x hx => by
  simp only [List.mem_cons, List.not_mem_nil, or_false] at hx
  rcases hx with rfl | rfl <;> rfl
set_option maxRecDepth 100000 in
set_option maxHeartbeats 1000000 in
theorem lent_any (v : Value) (zs : List Int) (w : World) (hH : HasI w v zs) (hn : zs.length * 8 ≤ 140737488351232) :
    Calls Tryd.prog 15 #[v] w fun r w' => ∃ g cap, r = .returned (.slice (some ⟨g, 0, none⟩) zs.length cap) ∧ Lent w' w.heap.size g cap zs ∧ Below w.heap.size w w' := by
  obtain ⟨i0, hi0, hz0, hz1, hz2⟩ := info_parts Tryd.infoI3
  obtain ⟨ao, c, rfl, _⟩ := id hH
  have HC : Hid _ := hasI_copy hH
  have ln : zs.length ≤ maxLen := by unfold maxLen; omega
  have ln8 : zs.length * 8 ≤ 140737488355328 := by omega
  have ln2 : zs.length + 2 ≤ maxLen := by unfold maxLen; omega
  have ln82 : (zs.length + 2) * 8 ≤ 140737488355328 := by omega
  clear hH
  go_enter Tryd.func15, Tryd.ntmps15
  go_wp2_with (first | (at_builtin; refine wpList_copy_at _ rfl _ _ 38 rfl w.heap.size 3 i0 (.int .i64 0) 1 8 Tryd.underlying38 hi0 hz0 hz1 hz2 rfl (by decide) rfl ao zs.length c (iC zs) rfl HC.out.1 (iC_length _) HC.out.2 (iC_one _) ln ln8 (Nat.le_refl _) ?_; intro v1 w1 hown1 hgrow1 hat1; have H1 : Hid _ := And.intro hown1 (tgrown0 hgrow1); clear hown1 hgrow1 hat1 HC) | (at_builtin; refine wpList_append_own_at _ rfl _ _ 38 rfl w.heap.size 3 i0 (.int .i64 0) 1 8 Tryd.underlying38 hi0 hz0 hz1 hz2 rfl (by decide) v1 zs.length (iC zs) rfl (H1.out.1.alloc _) ⟨w1.heap.size, 0, none⟩ 2 2 [.int .i64 (-77), .int .i64 (-78)] rfl rfl (World.news_of_block (cs := #[.int .i64 (-77), .int .i64 (-78)]) (t := 3) (fr := (0, 0)) (heap_alloc_new w1 _)) (two_one _ _) ln2 ln82 (by have := H1.out.2.size; simp; omega) ?_; intro v2 w2 hown2 hgrow2 hnil2 hat2; obtain ⟨g, cap, rfl, _, hcap⟩ := hown2.form (by omega); have hL : Lent w2 w.heap.size g cap zs := hown2; have hcp := hL.cap; have hcp1 : (0 : Int) ≤ (zs.length : Int) := (by omega); have hcp2 : (zs.length : Int) ≤ (cap : Int) := (by omega); have H2 : Hid _ := And.intro hL (lines_belowI H1.out.1 H1.out.2 hgrow2); clear hown2 hgrow2 hnil2 hat2 hL))
  go_ret
  exact ⟨g, cap, rfl, H2.out.1, H2.out.2⟩
set_option maxRecDepth 100000 in
set_option maxHeartbeats 1000000 in
theorem stays_lent (B g cap : Nat) (vb : Value) (zs : List Int) (w : World) (hn : zs.length ≤ 1000000000000000) (hA : Lent w B g cap zs) (hB : HasI w vb zs) :
    Calls Tryd.prog 23 #[.slice (some ⟨g, 0, none⟩) zs.length cap, vb] w fun e w' => e = .returned (.bool true) ∧ Below w.heap.size w w' := by
  have hS := sameInts_b _ vb zs zs w hn hn hA.has hB
  rw [beq_self_eq_true] at hS
  obtain ⟨c0, c1⟩ := hA.marks
  have hcap := hA.cap.1
  clear hA
  obtain ⟨ao, cap', rfl, _⟩ := hB
  obtain ⟨n, hN⟩ : ∃ n, n = zs.length := ⟨_, rfl⟩
  rw [← hN] at hn hcap hS c0 c1 ⊢
  clear hN
  have p1 : (n : Int) + 2 ≤ (cap : Int) := by omega
  have p2 : (0 : Int) ≤ (n : Int) + 2 := by omega
  have p3 : (n : Int) < (n : Int) + 2 := by omega
  have p4 : (n : Int) + 1 < (n : Int) + 2 := by omega
  have p5 : (0 : Int) ≤ (n : Int) := by omega
  have p6 : (0 : Int) ≤ (n : Int) + 1 := by omega
  go_enter Tryd.func23, Tryd.ntmps23
  go_wp2_with fail
  refine hS.mono ?_
  rintro r w1 ⟨rfl, hb⟩
  have d0 := (hb.cell (World.block_lt_of_cell? w _ c0)).trans c0
  have d1 := (hb.cell (World.block_lt_of_cell? w _ c1)).trans c1
  have HB : Hid (Below w.heap.size w w1) := hb
  clear hb c0 c1 hS
  go_wp2_with fail
  go_ret
  exact ⟨rfl, HB.out⟩
end Go.Proofs.YtcjeijmphgpecaaDoor
