/- Texts of this claim, joined: SyNrm, SyTab, SyGr, SyNew, RoOf, RoLoop, RoIter, RoAll, RoDNext0, RoDNext. -/
import Derived.Test.YtkiapldehlnndaaGreatDoorPart3
import Derived.Test.YtkiapldehlnndaaGreatDoorPart1
import Derived.Test.YtkiapldehlnndaaGreatDoorPart0
import Derived.Deep.DeepCutAuto
import Derived.Deep.RegionHeld3
import Derived.RangeFuncNested
import Derived.RangeFuncBound
import Derived.RangeFuncCalls
import Derived.RangeFuncLeaves
import Derived.RangeFuncBox
import Derived.RangeFuncWrites
import Derived.Shelf.Abstract
import Derived.Shelf.RegionOpen
import Derived.WalkKit
import Derived.OwnWalkIn
import Derived.TacticsInMore
import Derived.LoopNIn
import Derived.LoopIn
import Derived.Maps.AppendAt
/- Contract of the program's Normal. -/
namespace Go.Proofs.YtkiapldehlnndaaGreatDoor
open Go.RowKit Go.Maps
attribute [local go_sem ↓] Go.wp_at_zero Go.wp_at_succ
set_option maxRecDepth 100000 in
theorem compactNil_any (w : World) : Calls Tryz.prog 143 #[.slice none 0 0] w fun r w' => r = .returned (.slice none 0 0) ∧ w' = w := by
 go_enter Tryz.func143, Tryz.ntmps143
 go_wp2
 go_ret
 exact ⟨rfl, rfl⟩
theorem compactO_any (u : Value) (os : List Sy.Ed) (w0 w : World) (hO : BEdges.Own w w0.heap.size u os) (hb : Below w0.heap.size w0 w) (hn : os.length ≤ 1000000) :
 Calls Tryz.prog 143 #[u] w fun r w' => ∃ u', r = .returned u' ∧ BEdges.Own w' w0.heap.size u' (ddup os) ∧ Below w0.heap.size w0 w' := by
 rcases hO.2 with ⟨rfl, h0⟩ | ⟨g, cap, cur, rfl, hg⟩
 ·obtain rfl := List.eq_nil_of_length_eq_zero h0
  refine (compactNil_any w).mono fun r w' ⟨hr, hw⟩ => ⟨_, hr, ?_, by rw [hw]; exact hb⟩
  exact World.ownsRow_nil _ _ _ _
 ·obtain ⟨rest, hR, _, h3, h4, h5⟩ := row_of_own hO hb
  refine (compact_any g cap os rest w0 w hR h3 h4 hn).mono fun r w' ⟨rest', hr, hR', hr'⟩ => ⟨_, hr, ?_, hR'.bl⟩
  have hl := ddup_len os
  have h := own_of_row (cap := cap) hR' (by simpa using hr') (by simp; omega) h5
  simpa using h
def st4 (w : World) (b : Nat) (x0 x1 x2 x3 : Value) : World := (((w.setCell ⟨b, 0, none⟩ x0).setCell ⟨b, 1, none⟩ x1).setCell ⟨b, 2, none⟩ x2).setCell ⟨b, 3, none⟩ x3
theorem st4_other (w : World) (b i : Nat) (x0 x1 x2 x3 : Value) (h : i ≠ b) : (st4 w b x0 x1 x2 x3).heap[i]? = w.heap[i]? := by
 unfold st4
 rw [set_other _ _ _ _ _ h, set_other _ _ _ _ _ h, set_other _ _ _ _ _ h, set_other _ _ _ _ _ h]
theorem chain_st4 {w : World} {a : Addr} {x : Value} {b : Nat} {cs : Array Value} (h : Chain w 0 0 a [sysB] x) (hb : w.heap[b]? = some (.cells cs 24 (0, 0))) (x0 x1 x2 x3 : Value) : Chain (st4 w b x0 x1 x2 x3) 0 0 a [sysB] x := by
 obtain ⟨c, u, h1, h2, h3⟩ := h
 refine ⟨c, u, h1, ?_, h3⟩
 rw [st4_other _ _ _ _ _ _ _ fun e => by rw [e, hb] at h2; exact absurd h2 (by simp)]
 exact h2
set_option maxRecDepth 100000 in
set_option maxHeartbeats 4000000 in
theorem normal_any {M : Nat} (hS : SortOk M) (n k s : Int) (v : Value) (es : List Sy.Ed) (a : Addr) (w : World) (hA : Sent w 0 a) (hv : BEdges.Has w v es) (hM : es.length ≤ M) (hm : es.length ≤ 1000000) :
 Calls Tryz.prog 98 #[sysV n k s v] w fun r w' => ∃ x u, r = .returned (.tuple #[if Sy.right n k s es = true then sysV n k s u else sysV 0 0 0 (.slice none 0 0), x]) ∧ SErr a w' (Sy.right n k s es) x ∧ (Sy.right n k s es = true → BEdges.Own w' w.heap.size u (Sy.nf es)) ∧ Below w.heap.size w w' := by
 obtain ⟨w1, hw1⟩ : ∃ w1, w1 = (w.alloc (.cells #[.int .i64 n, .int .i64 k, .int .i64 s, v] 24)).alloc (.cells #[.int .i64 0, .int .i64 0, .int .i64 0, .slice none 0 0] 24) := ⟨_, rfl⟩
 have hb1 : Below w.heap.size w w1 := by rw [hw1]; exact ((Below.refl _ _).alloc (Nat.le_refl _) _).alloc (by simp) _
 have hg : w1.heap[w.heap.size + 1]? = some (.cells #[.int .i64 0, .int .i64 0, .int .i64 0, .slice none 0 0] 24 (0, 0)) := by rw [hw1]; exact two_alloc w _ _
 have hg0 : w1.heap[w.heap.size]? = some (.cells #[.int .i64 n, .int .i64 k, .int .i64 s, v] 24 (0, 0)) := by rw [hw1, Below.heap_alloc _ _ _ (by simp)]; exact heap_alloc_new w _
 have hC := check_any n k s v es a w1 (hA.below hb1) (hv.below hb1)
 have hv0 := hv
 obtain ⟨ao, cap, rfl, _⟩ := hv0
 obtain ⟨m, hmm⟩ : ∃ m, m = es.length := ⟨_, rfl⟩
 have H1 : Hid _ := And.intro hC (And.intro hb1 (And.intro hg (And.intro hg0 (And.intro hw1 (And.intro hv hS)))))
 rw [← hmm] at H1 ⊢
 have HM : Hid _ := hmm
 unfold sysV at H1 ⊢
 cases hq : Sy.right n k s es with
 | false =>
   rw [hq] at H1
   clear hC hb1 hg hg0 hw1 hv hS hA hq hmm
   go_enter Tryz.func98, Tryz.ntmps98
   go_wp2_with fail
   rw [← H1.out.2.2.2.2.1]
   refine Calls.mono H1.out.1 ?_
   rintro r w2 ⟨x, rfl, hx, hb2⟩
   have hch : Chain w2 0 0 a [sysB] x := by simpa [SErr] using hx
   obtain ⟨T, u, rfl⟩ := hch.iface
   have hg2 := (hb2.block _ (t_lt H1.out.2.2.1)).trans H1.out.2.2.1
   obtain ⟨y0, y1, y2, y3⟩ := four_cells hg2
   have z0 := blk_free hg2 0
   have z1 := blk_free hg2 1
   have z2 := blk_free hg2 2
   have z3 := blk_free hg2 3
   have hbw := H1.out.2.1.trans (hb2.mono H1.out.2.1.size)
   have H2 : Hid _ := And.intro hch (And.intro hbw hg2)
   clear hb2 hg2 hbw hch hx
   go_wp2_with fail
   have hgf := four_set (a0 := .int .i64 0) (a1 := .int .i64 0) (a2 := .int .i64 0) (a3 := .slice none 0 0) H2.out.2.2
   have hbf := four_below H2.out.2.1 (b := w.heap.size + 1) (by omega) (.int .i64 0) (.int .i64 0) (.int .i64 0) (.slice none 0 0)
   have hcf := chain_st4 H2.out.1 H2.out.2.2 (.int .i64 0) (.int .i64 0) (.int .i64 0) (.slice none 0 0)
   unfold st4 at hcf
   generalize ((((w2.setCell ⟨w.heap.size + 1, 0, none⟩ (.int .i64 0)).setCell ⟨w.heap.size + 1, 1, none⟩ (.int .i64 0)).setCell ⟨w.heap.size + 1, 2, none⟩ (.int .i64 0)).setCell ⟨w.heap.size + 1, 3, none⟩ (.slice none 0 0)) = wf at hgf hbf hcf ⊢
   clear y0 y1 y2 y3 z0 z1 z2 z3
   obtain ⟨c0, c1, c2, c3⟩ := four_cells hgf
   exact bodyPost_ret (v := .tuple #[.agg #[.int .i64 0, .int .i64 0, .int .i64 0, .slice none 0 0], .iface T u]) (by simp [results, Tryz.results98, go_sem, c0, c1, c2, c3]) rfl (by first | exact ⟨.iface T u, rfl, by simpa [SErr] using hcf, hbf⟩ | exact ⟨.iface T u, rfl, by simpa [SErr] using hcf, .slice none 0 0, fun h => by cases h, hbf⟩ | exact ⟨.iface T u, .slice none 0 0, rfl, by simpa [SErr] using hcf, fun h => by cases h, hbf⟩)
 | true =>
   rw [hq] at H1
   clear hC hb1 hg hg0 hw1 hv hS hA hq hmm
   go_enter Tryz.func98, Tryz.ntmps98
   go_wp2_with fail
   rw [← H1.out.2.2.2.2.1]
   refine Calls.mono H1.out.1 ?_
   rintro r w2 ⟨x, rfl, hx, hb2⟩
   obtain rfl : x = .nilIface := by simpa [SErr] using hx
   have hg2 := (hb2.block _ (t_lt H1.out.2.2.1)).trans H1.out.2.2.1
   have hg3 := (hb2.block _ (t_lt H1.out.2.2.2.1)).trans H1.out.2.2.2.1
   obtain ⟨x0, x1, x2, x3⟩ := four_cells hg3
   have hbw := H1.out.2.1.trans (hb2.mono H1.out.2.1.size)
   have hO := ordered_any H1.out.2.2.2.2.2.2 _ _ forward_at (.slice ao m cap) es w2 (by omega) hm (H1.out.2.2.2.2.2.1.below hbw)
   have H2 : Hid _ := And.intro hO (And.intro hbw (And.intro hg2 hg3))
   clear hb2 hg2 hg3 hbw hx hO
   go_wp2_with fail
   refine Calls.mono H2.out.1 ?_
   rintro r w3 ⟨u3, os, rfl, hio, hO3, hb3⟩
   have hlo : os.length = es.length := hio.1.length_eq
   have hCp := compactO_any u3 os w2 w3 hO3 hb3 (by omega)
   rw [ddup_nf hio] at hCp
   have H3 : Hid _ := hCp
   obtain ⟨a3, c3, rfl⟩ := row_shape hO3
   clear hio hO3 hb3 hCp hlo hM hm
   go_wp2_with fail
   refine Calls.mono H3.out ?_
   rintro r w4 ⟨u4, rfl, hO4, hb4⟩
   obtain ⟨a4, c4, rfl⟩ := row_shape hO4
   have hg2 := (hb4.block _ (t_lt H2.out.2.2.1)).trans H2.out.2.2.1
   have hg3 := (hb4.block _ (t_lt H2.out.2.2.2)).trans H2.out.2.2.2
   obtain ⟨y0, y1, y2, y3⟩ := four_cells hg2
   clear x0 x1 x2 x3
   obtain ⟨x0, x1, x2, x3⟩ := four_cells hg3
   have z0 := blk_free hg2 0
   have z1 := blk_free hg2 1
   have z2 := blk_free hg2 2
   have z3 := blk_free hg2 3
   have z4 := blk_free hg3 3
   have nn : ¬ w.heap.size + 1 = w.heap.size := by omega
   have nn2 : ¬ w.heap.size = w.heap.size + 1 := by omega
   have hbw := H2.out.2.1.trans (hb4.mono H2.out.2.1.size)
   have H4 : Hid _ := And.intro hO4 (And.intro hbw (And.intro hg2 (And.intro hg3 H2.out.2.1.size)))
   clear hO4 hb4 hg2 hg3 hbw
   go_wp2_with fail
   have hgm : (w4.setCell ⟨w.heap.size, 3, none⟩ (.slice a4 (Sy.nf es).length c4)).heap[w.heap.size + 1]? = some (.cells #[.int .i64 0, .int .i64 0, .int .i64 0, .slice none 0 0] 24 (0, 0)) := (set_other _ _ _ _ _ nn).trans H4.out.2.2.1
   have hbm : Below w.heap.size w (w4.setCell ⟨w.heap.size, 3, none⟩ (.slice a4 (Sy.nf es).length c4)) := H4.out.2.1.setCell (Nat.le_refl _) _
   have hgf := four_set (a0 := .int .i64 n) (a1 := .int .i64 k) (a2 := .int .i64 s) (a3 := .slice a4 (Sy.nf es).length c4) hgm
   have hbf := four_below hbm (b := w.heap.size + 1) (by omega) (.int .i64 n) (.int .i64 k) (.int .i64 s) (.slice a4 (Sy.nf es).length c4)
   have hOf : BEdges.Own (((((w4.setCell ⟨w.heap.size, 3, none⟩ (.slice a4 (Sy.nf es).length c4)).setCell ⟨w.heap.size + 1, 0, none⟩ (.int .i64 n)).setCell ⟨w.heap.size + 1, 1, none⟩ (.int .i64 k)).setCell ⟨w.heap.size + 1, 2, none⟩ (.int .i64 s)).setCell ⟨w.heap.size + 1, 3, none⟩ (.slice a4 (Sy.nf es).length c4)) w.heap.size (.slice a4 (Sy.nf es).length c4) (Sy.nf es) := row_base (trow_at H4.out.1 fun b hb => by
    have h1 := own_bk H4.out.1 H4.out.2.2.1 (by decide)
    have h2 := own_bk H4.out.1 H4.out.2.2.2.1 (by decide)
    have n1 : b ≠ w.heap.size + 1 := fun e => h1 (e ▸ hb)
    have n2 : b ≠ w.heap.size := fun e => h2 (e ▸ hb)
    rw [set_other _ _ _ _ _ n1, set_other _ _ _ _ _ n1, set_other _ _ _ _ _ n1, set_other _ _ _ _ _ n1, set_other _ _ _ _ _ n2]) H4.out.2.2.2.2
   generalize (((((w4.setCell ⟨w.heap.size, 3, none⟩ (.slice a4 (Sy.nf es).length c4)).setCell ⟨w.heap.size + 1, 0, none⟩ (.int .i64 n)).setCell ⟨w.heap.size + 1, 1, none⟩ (.int .i64 k)).setCell ⟨w.heap.size + 1, 2, none⟩ (.int .i64 s)).setCell ⟨w.heap.size + 1, 3, none⟩ (.slice a4 (Sy.nf es).length c4)) = wf at hgf hbf hOf ⊢
   clear y0 y1 y2 y3 z0 z1 z2 z3 z4 x0 x1 x2 x3
   obtain ⟨c0, c1, c2, c3⟩ := four_cells hgf
   exact bodyPost_ret (v := .tuple #[.agg #[.int .i64 n, .int .i64 k, .int .i64 s, .slice a4 (Sy.nf es).length c4], .nilIface]) (by simp [results, Tryz.results98, go_sem, c0, c1, c2, c3]) rfl ⟨.nilIface, .slice a4 (Sy.nf es).length c4, rfl, by simp [SErr], hOf, hbf⟩
end Go.Proofs.YtkiapldehlnndaaGreatDoor
/- Contract of the program's tableOf. -/
namespace Go.Proofs.YtkiapldehlnndaaGreatDoor
open Go.RowKit Go.Maps
attribute [local go_sem ↓] Go.wp_at_zero Go.wp_at_succ
theorem Tryz.infoSt8 : (Tryz.prog.info? 142).map (fun i => (i.zero, i.size, i.bytes)) = some (some (.agg #[.int .i64 0, .int .i64 0]), 2, 16) := by kernel_rfl
def madeSt (m : Nat) : Array Value := madeCells #[.int .i64 0, .int .i64 0] (m * 2)
theorem madeSt_eq (m : Nat) : (madeSt m).toList = BSteps.C (List.replicate m (0, 0)) := by
 apply List.ext_getElem?
 intro j
 by_cases hj : j < m * 2
 ·have h1 := BSteps.C_at (List.replicate m (0, 0)) (j / 2) (0, 0) (by rw [List.getElem?_replicate, if_pos (by omega)]) (j % 2) (Nat.mod_lt _ (by decide))
  rw [show j / 2 * 2 + j % 2 = j by omega] at h1
  rw [h1, Array.getElem?_toList]
  unfold madeSt madeCells
  have h2 : j % 2 = 0 ∨ j % 2 = 1 := by omega
  rcases h2 with e | e <;> simp [hj, e, BSteps.enc]
 ·rw [List.getElem?_eq_none (by simp [madeSt, madeCells]; omega), List.getElem?_eq_none (by rw [BSteps.C_len, List.length_replicate]; omega)]
theorem makeS2 (m : Nat) (hm : m ≤ 1000000) (w : World) : (Instr.makeSlice 132 (.int .i64 (m : Int)) (.int .i64 (m : Int))).run Tryz.prog w = .ok (.slice (some ⟨w.heap.size, 0, none⟩) m m) (w.alloc (.cells (madeSt m) 142)) := by
 obtain ⟨i0, hi0, hz0, hz1, hz2⟩ := info_parts Tryz.infoSt8
 have h := run_makeSlice (P := Tryz.prog) w 132 142 i0 _ Tryz.underlying132 hi0 hz0 .i64 .i64 (m : Int) (m : Int) (by omega) (Int.le_refl _) (by rw [hz1]; omega) (by rw [hz2]; omega) (by omega)
 rw [h, hz1]
 simp [madeSt, Value.cells]
structure TbAt (w wx : World) (bt bs bb m nb : Nat) (ss : List BSteps.El) (cs : List Int) : Prop where
 box : wx.heap[bt]? = some (.cells #[.slice (some ⟨bs, 0, none⟩) m m, .slice (some ⟨bb, 0, none⟩) nb nb] 134 (0, 0))
 up : w.heap.size < bt
 res : wx.heap[w.heap.size]? = some (.cells #[.slice none 0 0, .slice none 0 0] 134 (0, 0))
 steps : Arr 142 w wx bs (BSteps.C ss)
 nums : Arr 3 w wx bb (iC cs)
 ls : ss.length = m
 ln : cs.length = nb
theorem TbAt.below {w wx w' : World} {bt bs bb m nb : Nat} {ss : List BSteps.El} {cs : List Int} (h : TbAt w wx bt bs bb m nb ss cs) (hb : Below wx.heap.size wx w') : TbAt w w' bt bs bb m nb ss cs :=
 ⟨(hb.block _ (t_lt h.box)).trans h.box, h.up, (hb.block _ (t_lt h.res)).trans h.res, h.steps.below hb, h.nums.below hb, h.ls, h.ln⟩
theorem TbAt.cells {w wx : World} {bt bs bb m nb : Nat} {ss : List BSteps.El} {cs : List Int} (h : TbAt w wx bt bs bb m nb ss cs) : wx.cell? ⟨bt, 0, none⟩ = some (.slice (some ⟨bs, 0, none⟩) m m) ∧ wx.cell? ⟨bt, 1, none⟩ = some (.slice (some ⟨bb, 0, none⟩) nb nb) := ⟨cell0_of h.box rfl, cell0_of h.box rfl⟩
theorem arr_ne {t1 t2 : TypeId} {w wx : World} {g1 g2 : Nat} {v1 v2 : List Value} (h1 : Arr t1 w wx g1 v1) (h2 : Arr t2 w wx g2 v2) (hne : t1 ≠ t2) : g1 ≠ g2 := fun e => by
 obtain ⟨c1, a1, _⟩ := h1.ids
 obtain ⟨c2, a2, _⟩ := h2.ids
 rw [e, a2] at a1
 injection a1 with a1
 injection a1 with _ a1
 exact hne a1.symm
theorem arr_bk {t1 t2 : TypeId} {w wx : World} {g1 b : Nat} {v1 : List Value} {cs : Array Value} (h1 : Arr t1 w wx g1 v1) (h2 : wx.heap[b]? = some (.cells cs t2 (0, 0))) (hne : t1 ≠ t2) : b ≠ g1 := fun e => by
 obtain ⟨c1, a1, _⟩ := h1.ids
 rw [e, a1] at h2
 injection h2 with a1
 injection a1 with _ a1
 exact hne a1
theorem TbAt.num {w wx : World} {bt bs bb m nb : Nat} {ss : List BSteps.El} {cs : List Int} (h : TbAt w wx bt bs bb m nb ss cs) (i : Nat) (z : Int) : TbAt w (wx.setCell ⟨bb, i, none⟩ (.int .i64 z)) bt bs bb m nb ss (cs.set i z) := by
 refine ⟨(set_other _ _ _ _ _ (arr_bk h.nums h.box (by decide))).trans h.box, h.up, (set_other _ _ _ _ _ (arr_bk h.nums h.res (by decide))).trans h.res, ?_, ?_, h.ls, by rw [List.length_set]; exact h.ln⟩
 ·exact h.steps.kept (Kept.setCell _ _ _ _) fun b e => by subst e; exact ⟨h.nums.gu, arr_ne h.nums h.steps (by decide)⟩
 ·have h1 := h.nums.set i (.int .i64 z)
  unfold iC at h1 ⊢
  rw [List.map_set]
  exact h1
theorem TbAt.step {w wx : World} {bt bs bb m nb : Nat} {ss : List BSteps.El} {cs : List Int} (h : TbAt w wx bt bs bb m nb ss cs) {i : Nat} (hi : i < m) (z : BSteps.El) : TbAt w ((wx.setCell ⟨bs, i * 2, none⟩ (.int .i64 z.1)).setCell ⟨bs, i * 2 + 1, none⟩ (.int .i64 z.2)) bt bs bb m nb (ss.set i z) cs := by
 have hx := arr_bk h.steps h.box (by decide)
 have hy := arr_bk h.steps h.res (by decide)
 refine ⟨(set_other _ _ _ _ _ hx).trans ((set_other _ _ _ _ _ hx).trans h.box), h.up, (set_other _ _ _ _ _ hy).trans ((set_other _ _ _ _ _ hy).trans h.res), ?_, ?_, by rw [List.length_set]; exact h.ls, h.ln⟩
 ·have h1 := (h.steps.set (i * 2) (.int .i64 z.1)).set (i * 2 + 1) (.int .i64 z.2)
  rw [← BSteps.C_set ss (by rw [h.ls]; exact hi) z] at h1
  exact h1
 ·exact (h.nums.kept (Kept.setCell _ _ _ _) fun b e => by subst e; exact ⟨h.steps.gu, arr_ne h.steps h.nums (by decide)⟩).kept (Kept.setCell _ _ _ _) fun b e => by subst e; exact ⟨h.steps.gu, arr_ne h.steps h.nums (by decide)⟩
def stp (e : Sy.Ed) : BSteps.El := (e.2.1, e.2.2)
theorem step_done {l : List Sy.Ed} {i m : Nat} {x : Sy.Ed} (hx : l[i]? = some x) (hm : l.length = m) : ((l.take i).map stp ++ List.replicate (m - i) (0, 0)).set i (stp x) = (l.take (i + 1)).map stp ++ List.replicate (m - (i + 1)) (0, 0) := by
 have hi := (List.getElem?_eq_some_iff.1 hx).1
 have hl : ((l.take i).map stp).length = i := by rw [List.length_map, List.length_take]; omega
 have e : m - i = (m - (i + 1)) + 1 := by omega
 rw [List.set_append_right _ _ (by omega), hl, Nat.sub_self, e, List.replicate_succ, List.set_cons_zero, take_succ_of hx, List.map_append, List.append_assoc]
 rfl
theorem al_b (w : World) (a b c d : Obj) : Below w.heap.size w (((w.alloc a).alloc b).alloc c |>.alloc d).drew := (((((Below.refl _ w).alloc (Nat.le_refl _) a).alloc (by simp) b).alloc (by simp; omega) c).alloc (by simp; omega) d).drew
theorem sz1 (w : World) (a : Obj) : (w.alloc a).heap.size = w.heap.size + 1 := by simp
theorem al3 (w : World) (a b c d : Obj) : (((w.alloc a).alloc b).alloc c |>.alloc d).drew.heap[w.heap.size + 1 + 1 + 1]? = some d := by
 have h := heap_alloc_new (((w.alloc a).alloc b).alloc c) d
 rw [sz1, sz1, sz1] at h
 exact h
theorem al2 (w : World) (a b c d : Obj) : (((w.alloc a).alloc b).alloc c |>.alloc d).drew.heap[w.heap.size + 1 + 1]? = some c := by
 have h := heap_alloc_new ((w.alloc a).alloc b) c
 rw [sz1, sz1] at h
 exact (Below.heap_alloc _ _ _ (by rw [sz1, sz1, sz1]; omega)).trans h
theorem al1 (w : World) (a b c d : Obj) : (((w.alloc a).alloc b).alloc c |>.alloc d).drew.heap[w.heap.size + 1]? = some b := by
 have h := heap_alloc_new (w.alloc a) b
 rw [sz1] at h
 exact (Below.heap_alloc _ _ _ (by rw [sz1, sz1, sz1]; omega)).trans ((Below.heap_alloc _ _ _ (by rw [sz1, sz1]; omega)).trans h)
theorem al0 (w : World) (a b c d : Obj) : (((w.alloc a).alloc b).alloc c |>.alloc d).drew.heap[w.heap.size]? = some a :=
 (Below.heap_alloc _ _ _ (by rw [sz1, sz1, sz1]; omega)).trans ((Below.heap_alloc _ _ _ (by rw [sz1, sz1]; omega)).trans ((Below.heap_alloc _ _ _ (by rw [sz1]; omega)).trans (heap_alloc_new w a)))
theorem iC_rep (n : Nat) : List.replicate n (Value.int .i64 0) = iC (List.replicate n 0) := by simp [iC]
theorem tb_start {w wx : World} {bt bs bb m n : Nat} (hbt : wx.heap[bt]? = some (.cells #[.slice (some ⟨bs, 0, none⟩) m m, .slice (some ⟨bb, 0, none⟩) (n + 1) (n + 1)] 134 (0, 0))) (hup : w.heap.size < bt) (hres : wx.heap[w.heap.size]? = some (.cells #[.slice none 0 0, .slice none 0 0] 134 (0, 0)))
 (hb : Below w.heap.size w wx) (hs : wx.heap[bs]? = some (.cells (madeSt m) 142 (0, 0))) (gs : w.heap.size ≤ bs) (hn : wx.heap[bb]? = some (.cells (madeV (.int .i64 0) (n + 1)) 3 (0, 0))) (gn : w.heap.size ≤ bb) (l : List Sy.Ed) : TbAt w wx bt bs bb m (n + 1) ((l.take 0).map stp ++ List.replicate (m - 0) (0, 0)) (Sy.bndL n (l.take 0)) := by
 rw [List.take_zero, Sy.bnd_zero, List.map_nil, List.nil_append, Nat.sub_zero]
 refine ⟨hbt, hup, hres, ⟨hb, ⟨_, hs, madeSt_eq m⟩, gs⟩, ⟨hb, ⟨_, hn, ?_⟩, gn⟩, by simp, by simp⟩
 rw [madeV_eq _ rfl, iC_rep]
set_option maxRecDepth 100000 in
set_option maxHeartbeats 8000000 in
theorem tableOf_any (f : Nat) (vw : Sy.Ed → Sy.Ed) (hV : ViewAt f vw) (n : Nat) (v : Value) (os : List Sy.Ed) (w : World) (hn : n ≤ 100000) (hm : os.length ≤ 100000) (hv : BEdges.Has w v os) (hr : ∀ e ∈ os.map vw, 0 ≤ e.1 ∧ e.1 < (n : Int)) (hs : Sy.Rows (os.map vw)) :
 Calls Tryz.prog 99 #[.int .i64 n, v, .func (.func f) #[] #[]] w fun r w' => ∃ bs bb, r = .returned (.agg #[.slice (some ⟨bs, 0, none⟩) os.length os.length, .slice (some ⟨bb, 0, none⟩) (n + 1) (n + 1)]) ∧ Arr 142 w w' bs (BSteps.C ((os.map vw).map stp)) ∧ Arr 3 w w' bb (iC (Sy.bounds n (os.map vw))) := by
 obtain ⟨he, hV⟩ := hV
 obtain ⟨av, cv, rfl, _⟩ := _root_.id hv
 obtain ⟨m, hM⟩ : ∃ m, m = os.length := ⟨_, rfl⟩
 obtain ⟨l, hl⟩ : ∃ l, l = os.map vw := ⟨_, rfl⟩
 rw [← hl] at hr hs ⊢
 rw [← hM] at hv hm ⊢
 have hll : l.length = m := by rw [hl, List.length_map, hM]
 have HV : Hid _ := And.intro hv (And.intro hV (And.intro hl (And.intro hll (And.intro hr (And.intro hs hM)))))
 have hmk := makeS2 m (by omega)
 have hmi := makeI (n + 1) (by omega)
 have hwr : IntKind.i64.wrap ((n : Int) + 1) = (n : Int) + 1 := by rw [IntKind.wrap_i64]; omega
 have hcast : (((n + 1 : Nat)) : Int) = (n : Int) + 1 := by omega
 rw [hcast] at hmi
 clear hv hV hl hll hr hs hM hcast
 go_enter Tryz.func99, Tryz.ntmps99
 go_upto_region 1 with fail
 go_cut [7] (fun s7 wx => ∃ bt bs bb, s7 = .pointer (some ⟨bt, 0, none⟩) ∧ TbAt w wx bt bs bb m (n + 1) ((l.take 0).map stp ++ List.replicate (m - 0) (0, 0)) (Sy.bndL n (l.take 0)))
 case first =>
  go_region
  all_goals go_wp2_with fail
  all_goals (go_meet; case rel => first | exact ⟨_, _, _, rfl, tb_start (al1 w _ _ _ _) (by omega) (al0 w _ _ _ _) (al_b w _ _ _ _) (al2 w _ _ _ _) (by omega) (al3 w _ _ _ _) (by omega) l⟩ | exact ⟨_, _, _, rfl, tb_start (al1 w _ _ _ _) (by omega) (al0 w _ _ _ _) (al_b w _ _ _ _) (al3 w _ _ _ _) (by omega) (al2 w _ _ _ _) (by omega) l⟩ | exact ⟨_, _, _, rfl, tb_start (al2 w _ _ _ _) (by omega) (al0 w _ _ _ _) (al_b w _ _ _ _) (al1 w _ _ _ _) (by omega) (al3 w _ _ _ _) (by omega) l⟩ | exact ⟨_, _, _, rfl, tb_start (al2 w _ _ _ _) (by omega) (al0 w _ _ _ _) (al_b w _ _ _ _) (al3 w _ _ _ _) (by omega) (al1 w _ _ _ _) (by omega) l⟩ | exact ⟨_, _, _, rfl, tb_start (al3 w _ _ _ _) (by omega) (al0 w _ _ _ _) (al_b w _ _ _ _) (al1 w _ _ _ _) (by omega) (al2 w _ _ _ _) (by omega) l⟩ | exact ⟨_, _, _, rfl, tb_start (al3 w _ _ _ _) (by omega) (al0 w _ _ _ _) (al_b w _ _ _ _) (al2 w _ _ _ _) (by omega) (al1 w _ _ _ _) (by omega) l⟩)
 case rest =>
  obtain ⟨bt, bs, bb, rfl, hT⟩ := hcut
  have HT : Hid _ := hT
  clear hT hmk hmi
  go_wp2_with fail
  go_loopg [22] m (fun q iv wr => ∃ i : Nat, q = m - i ∧ i ≤ m ∧ iv = .int .i64 i ∧ TbAt w wr bt bs bb m (n + 1) ((l.take i).map stp ++ List.replicate (m - i) (0, 0)) (Sy.bndL n (l.take i)))
  case atStart => exact ⟨0, rfl, Nat.zero_le _, rfl, HT.out⟩
  case round =>
   obtain ⟨i, rfl, hi, rfl, hTi⟩ := hrel
   by_cases hlt : i < m
   ·obtain ⟨e, hx⟩ : ∃ e, os[i]? = some e := ⟨os[i]'(by have := HV.out.2.2.2.2.2.2; omega), List.getElem?_eq_getElem _⟩
    have hlx : l[i]? = some (vw e) := by rw [HV.out.2.2.1, List.getElem?_map, hx]; rfl
    obtain ⟨a, rfl, z0, z1, z2⟩ := edge_at (HV.out.1.below hTi.steps.bl) hx
    have q0 : (0 : Int) ≤ (i : Int) := by omega
    have q1 : (i : Int) < (m : Int) := by omega
    obtain ⟨hr1, hr2⟩ := HV.out.2.2.2.2.1 (vw e) (List.mem_of_getElem? hlx)
    obtain ⟨q, hq⟩ : ∃ q : Nat, (vw e).1 = (q : Int) := ⟨(vw e).1.toNat, by omega⟩
    have hqn : q < n := by omega
    have hvw := HV.out.2.1 e
    obtain ⟨e0, e1, e2⟩ := e
    obtain ⟨p, hp⟩ : ∃ p, p = vw (e0, e1, e2) := ⟨_, rfl⟩
    rw [← hp] at hvw hlx hq
    obtain ⟨p0, p1, p2⟩ := p
    simp only at hq hvw z0 z1 z2
    subst hq
    unfold edV at hvw
    have HI : Hid _ := And.intro hTi (And.intro hlx hvw)
    clear hTi hlx hx hvw hp hr1 hr2
    go_wp2_with fail
    refine Calls.mono (HI.out.2.2 _) ?_
    rintro r w2 ⟨rfl, hb2⟩
    obtain ⟨w3, hw3⟩ : ∃ w3, w3 = w2.alloc (.cells #[.int .i64 p1, .int .i64 p2] 142) := ⟨_, rfl⟩
    have hb3 : Below wr.heap.size wr w3 := by
     rw [hw3]
     exact (((Below.refl _ wr).alloc (Nat.le_refl _) _).trans (hb2.mono (by simp))).alloc (by have := hb2.size; simp at this; omega) _
    have hg3 : w3.heap[w2.heap.size]? = some (.cells #[.int .i64 p1, .int .i64 p2] 142 (0, 0)) := by rw [hw3]; exact heap_alloc_new w2 _
    have hT3 := HI.out.1.below hb3
    obtain ⟨c0, c1⟩ := hT3.cells
    have s0 : w3.cell? ⟨w2.heap.size, 0, none⟩ = some (.int .i64 p1) := cell0_of hg3 rfl
    have s1 : w3.cell? ⟨w2.heap.size, 1, none⟩ = some (.int .i64 p2) := cell0_of hg3 rfl
    have f0 := hT3.steps.free (i * 2)
    have f1 := hT3.steps.free (i * 2 + 1)
    have f2 := hT3.nums.free (q + 1)
    have hn1 : ¬ bt = bs := arr_bk hT3.steps hT3.box (by decide)
    have hn2 : ¬ bb = bs := fun h => arr_ne hT3.steps hT3.nums (by decide) h.symm
    obtain ⟨o0, ho0⟩ : ∃ o, ((l.take i).map stp ++ List.replicate (m - i) (0, 0))[i]? = some o := ⟨_, List.getElem?_eq_getElem (by rw [hT3.ls]; exact hlt)⟩
    have d0 : w3.cell? ⟨bs, i * 2, none⟩ = some (.int .i64 o0.1) := hT3.steps.cell ((BSteps.C_at _ i o0 ho0 0 (by decide)).trans rfl)
    have d1 : w3.cell? ⟨bs, i * 2 + 1, none⟩ = some (.int .i64 o0.2) := hT3.steps.cell ((BSteps.C_at _ i o0 ho0 1 (by decide)).trans rfl)
    obtain ⟨o1, ho1⟩ : ∃ o, (Sy.bndL n (l.take i))[q + 1]? = some o := ⟨_, List.getElem?_eq_getElem (by rw [hT3.ln]; omega)⟩
    have d2 := hT3.nums.cell (i := q + 1) (x := .int .i64 o1) (by unfold iC; rw [List.getElem?_map, ho1]; rfl)
    have r0 : (0 : Int) ≤ (q : Int) + 1 := by omega
    have r1 : (q : Int) + 1 < (n : Int) + 1 := by omega
    have r2 : ((q : Int) + 1).toNat = q + 1 := by omega
    have r3 : IntKind.i64.wrap ((q : Int) + 1) = (q : Int) + 1 := by rw [IntKind.wrap_i64]; omega
    have r4 : IntKind.i64.wrap ((i : Int) + 1) = (i : Int) + 1 := by rw [IntKind.wrap_i64]; omega
    have H3 : Hid _ := And.intro hT3 hw3
    clear hb2 hb3 hg3 hT3 hw3 ho0 ho1
    go_upto_region 6 with fail
    rw [← H3.out.2]
    go_wp2_with fail
    go_roundg (m - (i + 1))
    case measure => omega
    case rel =>
     have h9 := (H3.out.1.step hlt (p1, p2)).num (q + 1) ((i : Int) + 1)
     rw [show (p1, p2) = stp ((q : Int), p1, p2) from rfl, step_done HI.out.2.1 HV.out.2.2.2.1, Sy.bnd_step HI.out.2.1 rfl] at h9
     exact ⟨i + 1, rfl, by omega, by go_num, h9⟩
   ·obtain rfl : i = m := by omega
    have hTm : TbAt w wr bt bs bb i (n + 1) (l.map stp) (Sy.mixL n l 0) := by
     have h9 := hTi
     have hli := HV.out.2.2.2.1
     rw [Nat.sub_self, List.replicate_zero, List.append_nil, List.take_of_length_le (by omega)] at h9
     rw [Sy.mix_zero fun e he => (HV.out.2.2.2.2.1 e he).1]
     exact h9
    have HTm : Hid _ := hTm
    clear hTi hTm
    have q1 : ¬ (i : Int) < (i : Int) := by omega
    go_wp2_with fail
    go_loopg [47] n (fun q iv wr => ∃ st : Nat, q = n - st ∧ st ≤ n ∧ iv = .int .i64 st ∧ TbAt w wr bt bs bb i (n + 1) (l.map stp) (Sy.mixL n l st))
    case atStart => exact ⟨0, rfl, Nat.zero_le _, rfl, HTm.out⟩
    case round =>
     obtain ⟨st, rfl, hst, rfl, hTs⟩ := hrel
     by_cases hlt2 : st < n
     ·obtain ⟨c0, c1⟩ := hTs.cells
      have x1 := hTs.nums.cell (i := st + 1) (x := .int .i64 (Sy.lastOf l (st : Int) : Nat)) (by
       unfold iC
       rw [List.getElem?_map, Sy.mix_at (by omega), if_neg (by omega), show ((st + 1 : Nat) : Int) - 1 = (st : Int) by omega]
       rfl)
      have x0 := hTs.nums.cell (i := st) (x := .int .i64 (Sy.cnt l (st : Int) : Nat)) (by
       unfold iC
       rw [List.getElem?_map, Sy.mix_at (by omega), if_pos (Nat.le_refl _)]
       rfl)
      have f1 := hTs.nums.free (st + 1)
      have hms := Sy.mix_step (n := n) (st := st) HV.out.2.2.2.2.2.1
      obtain ⟨A, hA⟩ : ∃ A, A = Sy.lastOf l (st : Int) := ⟨_, rfl⟩
      obtain ⟨B, hB⟩ : ∃ B, B = Sy.cnt l (st : Int) := ⟨_, rfl⟩
      rw [← hA, ← hB] at hms
      rw [← hA] at x1
      rw [← hB] at x0
      have r0 : (0 : Int) ≤ (st : Int) + 1 := by omega
      have r1 : (st : Int) + 1 < (n : Int) + 1 := by omega
      have r2 : ((st : Int) + 1).toNat = st + 1 := by omega
      have r3 : IntKind.i64.wrap ((st : Int) + 1) = (st : Int) + 1 := by rw [IntKind.wrap_i64]; omega
      have r5 : (0 : Int) ≤ (st : Int) := by omega
      have r6 : (st : Int) < (n : Int) + 1 := by omega
      have r7 : (st : Int) < (n : Int) := by omega
      have HS : Hid _ := And.intro hTs hms
      clear hTs hms hA hB c0
      go_wp2_with fail
      go_region
      all_goals go_wp2_with fail
      go_roundg (n - (st + 1))
      case measure => omega
      case rel =>
       refine ⟨st + 1, rfl, by omega, by go_num, ?_⟩
       have h9 := (HS.out.1.num (st + 1) ((max A B : Nat) : Int)).below (Below.refl _ _).drew
       rw [HS.out.2] at h9
       have e9 : max (A : Int) (B : Int) = ((max A B : Nat) : Int) := by omega
       rw [e9]
       exact h9
     ·obtain rfl : st = n := by omega
      obtain ⟨c0, c1⟩ := hTs.cells
      have d0 : wr.cell? ⟨w.heap.size, 0, none⟩ = some (.slice none 0 0) := cell0_of hTs.res rfl
      have d1 : wr.cell? ⟨w.heap.size, 1, none⟩ = some (.slice none 0 0) := cell0_of hTs.res rfl
      have f0 := blk_free hTs.res 0
      have f1 := blk_free hTs.res 1
      have HS : Hid _ := hTs
      clear hTs
      have r7 : ¬ (st : Int) < (st : Int) := by omega
      go_wp2_with fail
      have hres := HS.out.res
      have g1 : ((wr.setCell ⟨w.heap.size, 0, none⟩ (.slice (some ⟨bs, 0, none⟩) i i)).setCell ⟨w.heap.size, 1, none⟩ (.slice (some ⟨bb, 0, none⟩) (st + 1) (st + 1))).heap[w.heap.size]? = some (.cells #[.slice (some ⟨bs, 0, none⟩) i i, .slice (some ⟨bb, 0, none⟩) (st + 1) (st + 1)] 134 (0, 0)) := heap_setCell_same _ _ 1 _ _ _ (heap_setCell_same _ _ 0 _ _ _ hres)
      have k1 := Kept.setCell wr w.heap.size 0 (.slice (some ⟨bs, 0, none⟩) i i)
      have k2 := Kept.setCell (wr.setCell ⟨w.heap.size, 0, none⟩ (.slice (some ⟨bs, 0, none⟩) i i)) w.heap.size 1 (.slice (some ⟨bb, 0, none⟩) (st + 1) (st + 1))
      have n1 := arr_bk HS.out.steps hres (by decide)
      have n2 := arr_bk HS.out.nums hres (by decide)
      have hs9 := (HS.out.steps.kept k1 fun b e => by subst e; exact ⟨Nat.le_refl _, n1⟩).kept k2 fun b e => by subst e; exact ⟨Nat.le_refl _, n1⟩
      have hn9 := (HS.out.nums.kept k1 fun b e => by subst e; exact ⟨Nat.le_refl _, n2⟩).kept k2 fun b e => by subst e; exact ⟨Nat.le_refl _, n2⟩
      rw [Sy.mix_full] at hn9
      generalize ((wr.setCell ⟨w.heap.size, 0, none⟩ (.slice (some ⟨bs, 0, none⟩) i i)).setCell ⟨w.heap.size, 1, none⟩ (.slice (some ⟨bb, 0, none⟩) (st + 1) (st + 1))) = wf at g1 hs9 hn9 ⊢
      have y0 : wf.cell? ⟨w.heap.size, 0, none⟩ = some (.slice (some ⟨bs, 0, none⟩) i i) := cell0_of g1 rfl
      have y1 : wf.cell? ⟨w.heap.size, 1, none⟩ = some (.slice (some ⟨bb, 0, none⟩) (st + 1) (st + 1)) := cell0_of g1 rfl
      clear c0 c1 d0 d1 f0 f1
      exact bodyPost_ret (v := .agg #[.slice (some ⟨bs, 0, none⟩) i i, .slice (some ⟨bb, 0, none⟩) (st + 1) (st + 1)]) (by simp [results, Tryz.results99, go_sem, y0, y1]) rfl ⟨bs, bb, rfl, hs9, hn9⟩
end Go.Proofs.YtkiapldehlnndaaGreatDoor
/- A graph in memory; contracts of the program's row, States, Out, In. -/
namespace Go.Proofs.YtkiapldehlnndaaGreatDoor
open Go.RowKit Go.Maps
attribute [local go_sem ↓] Go.wp_at_zero Go.wp_at_succ
def Blk (ty : TypeId) (B : Nat) (w : World) (g : Nat) (vs : List Value) : Prop := (∃ cs, w.heap[g]? = some (.cells cs ty (0, 0)) ∧ cs.toList = vs) ∧ B ≤ g
theorem Blk.of_arr {ty : TypeId} {w wr : World} {g : Nat} {vs : List Value} (h : Arr ty w wr g vs) : Blk ty w.heap.size wr g vs := ⟨h.ids, h.gu⟩
theorem Blk.lt {ty : TypeId} {B : Nat} {w : World} {g : Nat} {vs : List Value} (h : Blk ty B w g vs) : g < w.heap.size := by
 obtain ⟨⟨cs, hc, _⟩, _⟩ := h
 exact t_lt hc
theorem Blk.at {ty : TypeId} {B : Nat} {w w' : World} {g : Nat} {vs : List Value} (h : Blk ty B w g vs) (hb : w'.heap[g]? = w.heap[g]?) : Blk ty B w' g vs := by
 obtain ⟨⟨cs, hc, hx⟩, hg⟩ := h
 exact ⟨⟨cs, hb.trans hc, hx⟩, hg⟩
theorem Blk.below {ty : TypeId} {B : Nat} {w w' : World} {g : Nat} {vs : List Value} (h : Blk ty B w g vs) (hb : Below w.heap.size w w') : Blk ty B w' g vs := h.at (hb.block _ h.lt)
theorem Blk.cell {ty : TypeId} {B : Nat} {w : World} {g : Nat} {vs : List Value} (h : Blk ty B w g vs) {i : Nat} {x : Value} (hi : vs[i]? = some x) : w.cell? ⟨g, i, none⟩ = some x := by
 obtain ⟨⟨cs, hc, hx⟩, _⟩ := h
 refine cell0_of hc ?_
 rw [← Array.getElem?_toList, hx]
 exact hi
theorem Blk.base {ty : TypeId} {B B' : Nat} {w : World} {g : Nat} {vs : List Value} (h : Blk ty B w g vs) (hb : B' ≤ B) : Blk ty B' w g vs := ⟨h.1, Nat.le_trans hb h.2⟩
def tabV (bs bb m n : Nat) : Value := .agg #[.slice (some ⟨bs, 0, none⟩) m m, .slice (some ⟨bb, 0, none⟩) (n + 1) (n + 1)]
structure Tb (w : World) (B bs bb n : Nat) (l : List Sy.Ed) : Prop where
 steps : Blk 142 B w bs (BSteps.C (l.map stp))
 nums : Blk 3 B w bb (iC (Sy.bounds n l))
theorem Tb.below {w w' : World} {B bs bb n : Nat} {l : List Sy.Ed} (h : Tb w B bs bb n l) (hb : Below w.heap.size w w') : Tb w' B bs bb n l := ⟨h.steps.below hb, h.nums.below hb⟩
def Sy.rowOf (n : Nat) (l : List Sy.Ed) (i : Int) : List BSteps.El := if 0 ≤ i ∧ i < (n : Int) then Sy.steps l i else []
theorem map_stp (l : List Sy.Ed) (i : Int) (h : Sy.Rows l) : Sy.steps l i = ((l.map stp).drop (Sy.cnt l i)).take (Sy.cnt l (i + 1) - Sy.cnt l i) := by
 unfold Sy.steps
 rw [Sy.row_piece h i, List.map_take, List.map_drop]
 rfl
theorem rowOf_len (n : Nat) (l : List Sy.Ed) (i : Int) : (Sy.rowOf n l i).length ≤ l.length := by
 unfold Sy.rowOf
 split
 ·exact Sy.steps_len l i
 ·simp
theorem hasS_nil (w : World) (c : Nat) : BSteps.Has w (.slice none 0 c) [] := ⟨none, c, rfl, fun j u h => by simp [BSteps.C] at h⟩
theorem hasS_none (w : World) (a : Option Addr) (c : Nat) : BSteps.Has w (.slice a 0 c) [] := ⟨a, c, rfl, fun j u h => by simp [BSteps.C] at h⟩
theorem piece_has {w : World} {B bs : Nat} {zs : List BSteps.El} (h : Blk 142 B w bs (BSteps.C zs)) (i k c : Nat) (hk : i + k ≤ zs.length) : BSteps.Has w (.slice (some ⟨bs, i * 2, none⟩) k c) ((zs.drop i).take k) := by
 have hl : ((zs.drop i).take k).length = k := by rw [List.length_take, List.length_drop]; omega
 refine ⟨some ⟨bs, i * 2, none⟩, c, by rw [hl], fun j u hj => ⟨_, rfl, ?_⟩⟩
 have hj2 : j < k * 2 := by have := (List.getElem?_eq_some_iff.1 hj).1; rw [BSteps.C_len, hl] at this; exact this
 obtain ⟨z, hz⟩ : ∃ z, ((zs.drop i).take k)[j / 2]? = some z := ⟨_, List.getElem?_eq_getElem (by rw [hl]; omega)⟩
 have h1 := BSteps.C_at _ (j / 2) z hz (j % 2) (Nat.mod_lt _ (by decide))
 rw [show j / 2 * 2 + j % 2 = j by omega, hj] at h1
 have hz2 : zs[i + j / 2]? = some z := by
  rw [List.getElem?_take_of_lt (by omega), List.getElem?_drop] at hz
  exact hz
 have h2 := BSteps.C_at _ (i + j / 2) z hz2 (j % 2) (Nat.mod_lt _ (by decide))
 rw [← h1] at h2
 have h3 := h.cell h2
 rw [show (i + j / 2) * 2 + j % 2 = i * 2 + j by omega] at h3
 rw [Addr.add_lit]
 exact h3
set_option maxRecDepth 100000 in
set_option maxHeartbeats 4000000 in
theorem row_any (bs bb m n B : Nat) (l : List Sy.Ed) (i : Int) (w : World) (hn : n ≤ 100000) (hl : l.length = m) (hs : Sy.Rows l) (hT : Tb w B bs bb n l) :
 Calls Tryz.prog 149 #[tabV bs bb m n, .int .i64 i] w fun r w' => ∃ v, r = .returned v ∧ (∀ W, Tb W B bs bb n l → BSteps.Has W v (Sy.rowOf n l i)) ∧ Below w.heap.size w w' := by
 obtain ⟨w1, hw1⟩ : ∃ w1, w1 = w.alloc (.cells #[.slice (some ⟨bs, 0, none⟩) m m, .slice (some ⟨bb, 0, none⟩) (n + 1) (n + 1)] 134) := ⟨_, rfl⟩
 have hb1 : Below w.heap.size w w1 := by rw [hw1]; exact (Below.refl _ _).alloc (Nat.le_refl _) _
 have hg1 : w1.heap[w.heap.size]? = some (.cells #[.slice (some ⟨bs, 0, none⟩) m m, .slice (some ⟨bb, 0, none⟩) (n + 1) (n + 1)] 134 (0, 0)) := by rw [hw1]; exact heap_alloc_new w _
 have hT1 := hT.below hb1
 have hB := fun W => below_any i (n : Int) W
 have HB : Hid _ := hB
 have r0 : IntKind.i64.wrap ((n : Int) + 1 - 1) = (n : Int) := by rw [IntKind.wrap_i64]; omega
 unfold tabV Sy.rowOf
 by_cases hi : 0 ≤ i ∧ i < (n : Int)
 ·rw [if_pos hi]
  rw [decide_eq_true hi] at HB
  obtain ⟨q, rfl⟩ : ∃ q : Nat, i = (q : Int) := ⟨i.toNat, by omega⟩
  have hqn : q < n := by omega
  have c0 : w1.cell? ⟨w.heap.size, 0, none⟩ = some (.slice (some ⟨bs, 0, none⟩) m m) := cell0_of hg1 rfl
  have c1 : w1.cell? ⟨w.heap.size, 1, none⟩ = some (.slice (some ⟨bb, 0, none⟩) (n + 1) (n + 1)) := cell0_of hg1 rfl
  have x0 := hT1.nums.cell (i := q) (x := .int .i64 (Sy.cnt l (q : Int) : Nat)) (by unfold iC; rw [List.getElem?_map, Sy.bounds_at (by omega)]; rfl)
  have x1 := hT1.nums.cell (i := q + 1) (x := .int .i64 (Sy.cnt l ((q : Int) + 1) : Nat)) (by unfold iC; rw [List.getElem?_map, Sy.bounds_at (by omega)]; rfl)
  have hle := Sy.cnt_mono l (q : Int)
  have hlm := Sy.cnt_le l ((q : Int) + 1)
  have hpc : ∀ W, Tb W B bs bb n l → BSteps.Has W (.slice (some ⟨bs, Sy.cnt l (q : Int) * 2, none⟩) (Sy.cnt l ((q : Int) + 1) - Sy.cnt l (q : Int)) (Sy.cnt l ((q : Int) + 1) - Sy.cnt l (q : Int))) (Sy.steps l q) := fun W hW => by
   rw [map_stp l q hs]
   exact piece_has hW.steps (Sy.cnt l (q : Int)) (Sy.cnt l ((q : Int) + 1) - Sy.cnt l (q : Int)) (Sy.cnt l ((q : Int) + 1) - Sy.cnt l (q : Int)) (by rw [List.length_map]; omega)
  have hz : Sy.cnt l ((q : Int) + 1) - Sy.cnt l (q : Int) = 0 → Sy.steps l q = [] := fun e => by rw [map_stp l q hs, e]; simp
  generalize Sy.cnt l (q : Int) = b at x0 hle hpc hz
  generalize Sy.cnt l ((q : Int) + 1) = e at x1 hle hlm hpc hz
  have r1 : (0 : Int) ≤ (q : Int) := by omega
  have r2 : (q : Int) < (n : Int) + 1 := by omega
  have r3 : (0 : Int) ≤ (q : Int) + 1 := by omega
  have r4 : (q : Int) + 1 < (n : Int) + 1 := by omega
  have r5 : ((q : Int) + 1).toNat = q + 1 := by omega
  have r6 : IntKind.i64.wrap ((q : Int) + 1) = (q : Int) + 1 := by rw [IntKind.wrap_i64]; omega
  have r7 : (0 : Int) ≤ (b : Int) := by omega
  have r8 : (b : Int) ≤ (e : Int) := by omega
  have r9 : (e : Int) ≤ (m : Int) := by omega
  have H1 : Hid _ := And.intro hw1 (And.intro hb1 (And.intro hpc hz))
  clear hw1 hb1 hg1 hT1 hT hB hpc hz hs hl hi
  go_enter Tryz.func149, Tryz.ntmps149
  go_upto_region 1 with fail
  rw [← H1.out.1]
  go_wp2_with (go_at_call 175; refine (HB.out _).mono ?_; rintro r w2 ⟨rfl, hw2⟩; obtain rfl := hw2.symm)
  go_quiet (fail)
  go_wp2_with fail
  ·go_ret
   refine ⟨_, rfl, fun W _ => ?_, below_drewN H1.out.2.1 _⟩
   rw [H1.out.2.2.2 (by omega)]
   exact hasS_none _ _ _
  ·go_ret
   exact ⟨_, rfl, H1.out.2.2.1, below_drewN H1.out.2.1 _⟩
 ·rw [if_neg hi]
  rw [decide_eq_false hi] at HB
  have c1 : w1.cell? ⟨w.heap.size, 1, none⟩ = some (.slice (some ⟨bb, 0, none⟩) (n + 1) (n + 1)) := cell0_of hg1 rfl
  have H1 : Hid _ := And.intro hw1 hb1
  clear hw1 hb1 hg1 hT1 hT hB hs hl hi
  go_enter Tryz.func149, Tryz.ntmps149
  go_upto_region 1 with fail
  rw [← H1.out.1]
  go_wp2_with (go_at_call 175; refine (HB.out _).mono ?_; rintro r w2 ⟨rfl, hw2⟩; obtain rfl := hw2.symm)
  go_ret
  exact ⟨_, rfl, fun W _ => hasS_nil _ _, H1.out.2⟩
structure Gr (w : World) (B g bs bb cs cb n : Nat) (k s : Int) (es : List Sy.Ed) : Prop where
 box : w.heap[g]? = some (.cells #[.int .i64 n, .int .i64 k, .int .i64 s, .slice (some ⟨bs, 0, none⟩) (Sy.nf es).length (Sy.nf es).length, .slice (some ⟨bb, 0, none⟩) (n + 1) (n + 1), .slice (some ⟨cs, 0, none⟩) (Sy.nf es).length (Sy.nf es).length, .slice (some ⟨cb, 0, none⟩) (n + 1) (n + 1)] 139 (0, 0))
 up : B ≤ g
 out : Tb w B bs bb n (Sy.nf es)
 inn : Tb w B cs cb n (Sy.nf ((Sy.nf es).map Sy.turn))
 right : Sy.right n k s es = true
theorem Gr.below {w w' : World} {B g bs bb cs cb n : Nat} {k s : Int} {es : List Sy.Ed} (h : Gr w B g bs bb cs cb n k s es) (hb : Below w.heap.size w w') : Gr w' B g bs bb cs cb n k s es :=
 ⟨(hb.block _ (t_lt h.box)).trans h.box, h.up, h.out.below hb, h.inn.below hb, h.right⟩
theorem right_parts {n k s : Int} {es : List Sy.Ed} (h : Sy.right n k s es = true) : (0 ≤ n ∧ n ≤ 1000) ∧ (1 ≤ k ∧ k ≤ 201) ∧ es.length ≤ 10000 ∧ (n = 0 → s = 0) ∧ (0 < n → 0 ≤ s ∧ s < n) ∧ ∀ e ∈ es, 0 ≤ e.1 ∧ e.1 < n ∧ 0 ≤ e.2.2 ∧ e.2.2 < n ∧ 0 ≤ e.2.1 ∧ e.2.1 < k := by
 unfold Sy.right at h
 simp only [Bool.and_eq_true, decide_eq_true_eq, List.all_eq_true] at h
 obtain ⟨⟨h1, h2⟩, h3⟩ := h
 exact ⟨⟨h1.1, h1.2.1⟩, ⟨h1.2.2.1, h1.2.2.2.1⟩, h1.2.2.2.2, h2.1, h2.2, h3⟩
theorem str_rows {l : List Sy.Ed} (h : Sy.Str l) : Sy.Rows l := by
 induction l with
 | nil => exact .nil
 | cons a r ih =>
   refine List.pairwise_cons.2 ⟨fun b hb => ?_, ih h.tail⟩
   have h1 := h.head b hb
   rw [Sy.lt_iff] at h1
   omega
theorem nf_rows (l : List Sy.Ed) : Sy.Rows (Sy.nf l) := str_rows (Sy.nf_str l)
theorem turn_turn (e : Sy.Ed) : Sy.turn (Sy.turn e) = e := rfl
theorem nf_turn_len (l : List Sy.Ed) : (Sy.nf ((Sy.nf l).map Sy.turn)).length = (Sy.nf l).length := by
 apply Nat.le_antisymm
 ·have h := Sy.nf_len ((Sy.nf l).map Sy.turn)
  rw [List.length_map] at h
  exact h
 ·have h := Sy.str_len (m := Sy.nf l) (l := (Sy.nf ((Sy.nf l).map Sy.turn)).map Sy.turn) (Sy.nf_str l) (fun x hx => by
   refine List.mem_map.2 ⟨Sy.turn x, ?_, turn_turn x⟩
   rw [Sy.nf_mem]
   exact List.mem_map.2 ⟨x, hx, rfl⟩)
  rw [List.length_map] at h
  exact h
theorem Gr.sizes {w : World} {B g bs bb cs cb n : Nat} {k s : Int} {es : List Sy.Ed} (h : Gr w B g bs bb cs cb n k s es) : n ≤ 1000 ∧ (Sy.nf es).length ≤ 10000 := by
 obtain ⟨⟨_, h1⟩, _, h2, _⟩ := right_parts h.right
 have := Sy.nf_len es
 exact ⟨by omega, by omega⟩
theorem Gr.cells {w : World} {B g bs bb cs cb n : Nat} {k s : Int} {es : List Sy.Ed} (h : Gr w B g bs bb cs cb n k s es) :
 w.cell? ⟨g, 0, none⟩ = some (.int .i64 n) ∧ w.cell? ⟨g, 1, none⟩ = some (.int .i64 k) ∧ w.cell? ⟨g, 2, none⟩ = some (.int .i64 s) ∧ (w.cell? ⟨g, 3, none⟩ = some (.slice (some ⟨bs, 0, none⟩) (Sy.nf es).length (Sy.nf es).length) ∧ w.cell? ⟨g, 4, none⟩ = some (.slice (some ⟨bb, 0, none⟩) (n + 1) (n + 1))) ∧ w.cell? ⟨g, 5, none⟩ = some (.slice (some ⟨cs, 0, none⟩) (Sy.nf es).length (Sy.nf es).length) ∧ w.cell? ⟨g, 6, none⟩ = some (.slice (some ⟨cb, 0, none⟩) (n + 1) (n + 1)) :=
 ⟨cell0_of h.box rfl, cell0_of h.box rfl, cell0_of h.box rfl, ⟨cell0_of h.box rfl, cell0_of h.box rfl⟩, cell0_of h.box rfl, cell0_of h.box rfl⟩
theorem Tryz.eqG (g : Nat) (w : World) : (binOp BinOp.eql 66 (.pointer (some ⟨g, 0, none⟩)) (.pointer none)).run Tryz.prog w = .ok (.bool false) w := by kernel_rfl
theorem Gr.row {w : World} {B g bs bb cs cb n : Nat} {k s : Int} {es : List Sy.Ed} (h : Gr w B g bs bb cs cb n k s es) (i : Int) : Calls Tryz.prog 149 #[.agg #[.slice (some ⟨bs, 0, none⟩) (Sy.nf es).length (Sy.nf es).length, .slice (some ⟨bb, 0, none⟩) (n + 1) (n + 1)], .int .i64 i] w fun r w' => ∃ v, r = .returned v ∧ (∀ W, Tb W B bs bb n (Sy.nf es) → BSteps.Has W v (Sy.rowOf n (Sy.nf es) i)) ∧ Below w.heap.size w w' := by
 obtain ⟨h1, h2⟩ := h.sizes
 exact row_any bs bb (Sy.nf es).length n B (Sy.nf es) i w (by omega) rfl (nf_rows _) h.out
theorem Gr.rowIn {w : World} {B g bs bb cs cb n : Nat} {k s : Int} {es : List Sy.Ed} (h : Gr w B g bs bb cs cb n k s es) (i : Int) : Calls Tryz.prog 149 #[.agg #[.slice (some ⟨cs, 0, none⟩) (Sy.nf es).length (Sy.nf es).length, .slice (some ⟨cb, 0, none⟩) (n + 1) (n + 1)], .int .i64 i] w fun r w' => ∃ v, r = .returned v ∧ (∀ W, Tb W B cs cb n (Sy.nf ((Sy.nf es).map Sy.turn)) → BSteps.Has W v (Sy.rowOf n (Sy.nf ((Sy.nf es).map Sy.turn)) i)) ∧ Below w.heap.size w w' := by
 obtain ⟨h1, h2⟩ := h.sizes
 exact row_any cs cb (Sy.nf es).length n B (Sy.nf ((Sy.nf es).map Sy.turn)) i w (by omega) (nf_turn_len es) (nf_rows _) h.inn
set_option maxRecDepth 100000 in
theorem states_any {B g bs bb cs cb n : Nat} {k s : Int} {es : List Sy.Ed} (w : World) (h : Gr w B g bs bb cs cb n k s es) : Calls Tryz.prog 155 #[.pointer (some ⟨g, 0, none⟩)] w fun r w' => r = .returned (.int .i64 n) ∧ w' = w := by
 obtain ⟨c0, _, _, _, _, _⟩ := h.cells
 have hq := Tryz.eqG g
 clear h
 go_enter Tryz.func155, Tryz.ntmps155
 go_wp2
 go_ret
 exact ⟨rfl, rfl⟩
set_option maxRecDepth 100000 in
set_option maxHeartbeats 1000000 in
theorem in_any {B g bs bb cs cb n : Nat} {k s : Int} {es : List Sy.Ed} (i : Int) (w : World) (h : Gr w B g bs bb cs cb n k s es) : Calls Tryz.prog 159 #[.pointer (some ⟨g, 0, none⟩), .int .i64 i] w fun r w' => ∃ u, r = .returned u ∧ BSteps.Own w' w.heap.size u (Sy.rowOf n (Sy.nf ((Sy.nf es).map Sy.turn)) i) ∧ Below w.heap.size w w' := by
 obtain ⟨_, _, _, _, c0, c1⟩ := h.cells
 have hq := Tryz.eqG g
 have hR := h.rowIn i
 have hTb := h.inn
 have hl := rowOf_len n (Sy.nf ((Sy.nf es).map Sy.turn)) i
 have hs := h.sizes
 have hs2 := nf_turn_len es
 have HR : Hid _ := And.intro hR (And.intro hl (And.intro hs (And.intro hs2 hTb)))
 obtain ⟨L, hL⟩ : ∃ L, L = (Sy.nf es).length := ⟨_, rfl⟩
 rw [← hL] at c0 HR
 clear h hR hL hl hs hs2 hTb
 go_enter Tryz.func159, Tryz.ntmps159
 go_wp2_with fail
 refine Calls.mono HR.out.1 ?_
 rintro r w1 ⟨v, rfl, hvW, hb⟩
 have hv := hvW w1 (HR.out.2.2.2.2.below hb)
 clear hvW
 have hC := cloneSteps_any v _ w1 (by have := HR.out.2; omega) hv
 have HC : Hid _ := And.intro hC hb
 obtain ⟨av, cv, rfl, _⟩ := hv
 clear hC hb
 go_wp2_with fail
 refine Calls.mono HC.out.1 ?_
 rintro r w2 ⟨u, rfl, hO, hb2⟩
 have H2 : Hid _ := And.intro hO hb2
 obtain ⟨au, cu, rfl⟩ := row_shape hO
 clear hO hb2
 go_wp2_with fail
 go_ret
 exact ⟨_, rfl, row_base H2.out.1 HC.out.2.size, HC.out.2.trans (H2.out.2.mono HC.out.2.size)⟩
end Go.Proofs.YtkiapldehlnndaaGreatDoor
/- Contract of the program's New: a graph of the system's one form. -/
namespace Go.Proofs.YtkiapldehlnndaaGreatDoor
open Go.RowKit Go.Maps
attribute [local go_sem ↓] Go.wp_at_zero Go.wp_at_succ
theorem inOrder_turn {es os : List Sy.Ed} (h : InOrder Sy.turn (Sy.nf es) os) : os.map Sy.turn = Sy.nf ((Sy.nf es).map Sy.turn) := by
 refine Sy.nf_of ?_ fun x => ?_
 ·have hnd : os.Nodup := by
   rw [h.1.nodup_iff]
   have hs := Sy.nf_str es
   generalize Sy.nf es = l at hs
   induction l with
   | nil => exact List.nodup_nil
   | cons a r ih =>
     refine List.nodup_cons.2 ⟨fun ha => ?_, ih hs.tail⟩
     have h1 := hs.head a ha
     rw [Sy.lt_irrefl] at h1
     cases h1
  have hp := h.2
  clear h
  induction os with
  | nil => trivial
  | cons a r ih =>
    obtain ⟨h1, h2⟩ := List.pairwise_cons.1 hp
    obtain ⟨h3, h4⟩ := List.nodup_cons.1 hnd
    rw [List.map_cons]
    refine Sy.Str.cons (ih h4 h2) fun x hx => ?_
    obtain ⟨b, hb, rfl⟩ := List.mem_map.1 hx
    have h5 := h1 b hb
    cases h6 : Sy.lt (Sy.turn a) (Sy.turn b) with
    | true => rfl
    | false =>
      have h7 := congrArg Sy.turn (Sy.eq_of_not h6 h5)
      rw [turn_turn, turn_turn] at h7
      rw [h7] at h3
      exact absurd hb h3
 ·rw [List.mem_map, List.mem_map]
  constructor
  ·rintro ⟨a, ha, rfl⟩; exact ⟨a, h.1.mem_iff.1 ha, rfl⟩
  ·rintro ⟨a, ha, rfl⟩; exact ⟨a, h.1.mem_iff.2 ha, rfl⟩
theorem rg_up4' {w2 wa wb : World} {a0 a1 a2 a3 : Addr} {x0 x1 x2 x3 : Value} (h : (wa.cell? a0 = some x0 ∧ wa.cell? a1 = some x1 ∧ wa.cell? a2 = some x2 ∧ wa.cell? a3 = some x3) ∧ Hid (Below w2.heap.size w2 wa)) (hb : Below wa.heap.size wa wb) : (wb.cell? a0 = some x0 ∧ wb.cell? a1 = some x1 ∧ wb.cell? a2 = some x2 ∧ wb.cell? a3 = some x3) ∧ Hid (Below w2.heap.size w2 wb) := rg_up4 hb h
def NewAt (a : Addr) (n k s : Int) (es : List Sy.Ed) (w : World) (r : Ending) (w' : World) : Prop :=
 if Sy.right n k s es = true then ∃ (g bs bb cs cb m : Nat), n = (m : Int) ∧ r = .returned (.tuple #[.pointer (some ⟨g, 0, none⟩), .nilIface]) ∧ Gr w' w.heap.size g bs bb cs cb m k s es ∧ Below w.heap.size w w'
 else ∃ x, r = .returned (.tuple #[.pointer none, x]) ∧ Chain w' 0 0 a [sysB] x ∧ Below w.heap.size w w'
set_option maxRecDepth 100000 in
set_option maxHeartbeats 8000000 in
theorem new_any {M : Nat} (hS : SortOk M) (n k s : Int) (v : Value) (es : List Sy.Ed) (a : Addr) (w : World) (hA : Sent w 0 a) (hv : BEdges.Has w v es) (hM : es.length ≤ M) (hm : es.length ≤ 100000) :
 Calls Tryz.prog 28 #[sysV n k s v] w (NewAt a n k s es w) := by
 obtain ⟨w1, hw1⟩ : ∃ w1, w1 = w.alloc (.cells #[.int .i64 n, .int .i64 k, .int .i64 s, v] 24) := ⟨_, rfl⟩
 have hb1 : Below w.heap.size w w1 := by rw [hw1]; exact (Below.refl _ _).alloc (Nat.le_refl _) _
 have hg1 : w1.heap[w.heap.size]? = some (.cells #[.int .i64 n, .int .i64 k, .int .i64 s, v] 24 (0, 0)) := by rw [hw1]; exact heap_alloc_new w _
 have hN := normal_any hS n k s v es a w1 (hA.below hb1) (hv.below hb1) hM (by omega)
 obtain ⟨ao, cap, rfl, _⟩ := hv
 obtain ⟨m0, hm0⟩ : ∃ m0, m0 = es.length := ⟨_, rfl⟩
 rw [← hm0] at hN hg1 hw1 ⊢
 unfold sysV at hN ⊢
 have H1 : Hid _ := And.intro hN (And.intro hb1 (And.intro hg1 (And.intro hw1 hS)))
 have HM : Hid _ := And.intro hM hm
 cases hq : Sy.right n k s es with
 | false =>
   rw [hq] at H1
   unfold NewAt
   rw [hq]
   clear hN hb1 hg1 hw1 hS hA hq hm0 hM hm
   go_enter Tryz.func28, Tryz.ntmps28
   go_wp2_with fail
   rw [← H1.out.2.2.2.1]
   refine Calls.mono H1.out.1 ?_
   rintro r w2 ⟨x, u, rfl, hx, _, hb2⟩
   have hch : Chain w2 0 0 a [sysB] x := by simpa [SErr] using hx
   obtain ⟨T, y, rfl⟩ := hch.iface
   have hg2 := (hb2.block _ (t_lt H1.out.2.2.1)).trans H1.out.2.2.1
   obtain ⟨y0, y1, y2, y3⟩ := four_cells hg2
   have z0 := blk_free hg2 0
   have z1 := blk_free hg2 1
   have z2 := blk_free hg2 2
   have z3 := blk_free hg2 3
   have hbw := H1.out.2.1.trans (hb2.mono H1.out.2.1.size)
   have H2 : Hid _ := And.intro hch (And.intro hbw hg2)
   clear hb2 hg2 hbw hch hx
   go_wp2_with fail
   have hbf := four_below H2.out.2.1 (b := w.heap.size) (Nat.le_refl _) (.int .i64 0) (.int .i64 0) (.int .i64 0) (.slice none 0 0)
   have hcf := chain_st4 H2.out.1 H2.out.2.2 (.int .i64 0) (.int .i64 0) (.int .i64 0) (.slice none 0 0)
   unfold st4 at hcf
   go_ret2
   exact ⟨_, rfl, hcf, hbf⟩
 | true =>
   rw [hq] at H1
   have hrp := right_parts hq
   obtain ⟨q, rfl⟩ : ∃ q : Nat, n = (q : Int) := ⟨n.toNat, by omega⟩
   have HQ : Hid _ := And.intro hq hrp
   unfold NewAt
   rw [hq]
   clear hN hb1 hg1 hw1 hS hA hq hm0 hM hm hrp
   go_enter Tryz.func28, Tryz.ntmps28
   go_wp2_with fail
   rw [← H1.out.2.2.2.1]
   refine Calls.mono H1.out.1 ?_
   rintro r w2 ⟨x, u, rfl, hx, hO, hb2⟩
   have hO := hO trivial
   obtain rfl : x = .nilIface := by simpa [SErr] using hx
   obtain ⟨au, cu, rfl⟩ := row_shape hO
   have hg2 := (hb2.block _ (t_lt H1.out.2.2.1)).trans H1.out.2.2.1
   obtain ⟨y0, y1, y2, y3⟩ := four_cells hg2
   have z0 := blk_free hg2 0
   have z1 := blk_free hg2 1
   have z2 := blk_free hg2 2
   have z3 := blk_free hg2 3
   have hbw := H1.out.2.1.trans (hb2.mono H1.out.2.1.size)
   obtain ⟨L, hL⟩ : ∃ L, L = (Sy.nf es).length := ⟨_, rfl⟩
   obtain ⟨w3, hw3⟩ : ∃ w3, w3 = (((w2.setCell ⟨w.heap.size, 0, none⟩ (.int .i64 q)).setCell ⟨w.heap.size, 1, none⟩ (.int .i64 k)).setCell ⟨w.heap.size, 2, none⟩ (.int .i64 s)).setCell ⟨w.heap.size, 3, none⟩ (.slice au L cu) := ⟨_, rfl⟩
   rw [← hL]
   have hg3 : w3.heap[w.heap.size]? = some (.cells #[.int .i64 q, .int .i64 k, .int .i64 s, .slice au L cu] 24 (0, 0)) := by rw [hw3]; exact four_set hg2
   have hb3 : Below w.heap.size w w3 := by rw [hw3]; exact four_below hbw (Nat.le_refl _) _ _ _ _
   have hO3 : BEdges.Own w3 w.heap.size (.slice au (Sy.nf es).length cu) (Sy.nf es) := by
    rw [hw3]
    refine row_base (trow_at hO fun b hb => ?_) H1.out.2.1.size
    have n1 : b ≠ w.heap.size := fun e => own_bk hO hg2 (by decide) (e ▸ hb)
    rw [set_other _ _ _ _ _ n1, set_other _ _ _ _ _ n1, set_other _ _ _ _ _ n1, set_other _ _ _ _ _ n1]
   have H3 : Hid _ := And.intro hb3 (And.intro hO3 (And.intro hg3 (And.intro hw3 hL)))
   clear hO hb2 hg2 hbw hx hg3 hb3 hO3 hw3 hL
   have hle : L ≤ 10000 := by have := HQ.out.2.2.2.1; have := Sy.nf_len es; have := H3.out.2.2.2.2; omega
   have hqn : q ≤ 1000 := by have := HQ.out.2.1; omega
   have hnr : ∀ e ∈ Sy.nf es, 0 ≤ e.1 ∧ e.1 < (q : Int) ∧ 0 ≤ e.2.2 ∧ e.2.2 < (q : Int) := fun e he => by
    have := HQ.out.2.2.2.2.2.2 e ((Sy.nf_mem es e).1 he)
    exact ⟨this.1, this.2.1, this.2.2.1, this.2.2.2.1⟩
   have hTf : ∀ W, Below w3.heap.size w3 W → Calls Tryz.prog 99 #[.int .i64 q, .slice au L cu, .func (.func 100) #[] #[]] W fun r w' => ∃ bs bb, r = .returned (.agg #[.slice (some ⟨bs, 0, none⟩) L L, .slice (some ⟨bb, 0, none⟩) (q + 1) (q + 1)]) ∧ Tb w' w.heap.size bs bb q (Sy.nf es) ∧ Below W.heap.size W w' := fun W hb => by
    have hLL := H3.out.2.2.2.2
    have hOW : BEdges.Has W (.slice au (Sy.nf es).length cu) (Sy.nf es) := H3.out.2.1.has.below hb
    have h9 := tableOf_any _ _ forward_at q (.slice au (Sy.nf es).length cu) (Sy.nf es) W (by omega) (by omega) hOW (by rw [List.map_id']; exact fun e he => ⟨(hnr e he).1, (hnr e he).2.1⟩) (by rw [List.map_id']; exact nf_rows es)
    rw [List.map_id'] at h9
    rw [← hLL] at h9
    refine h9.mono fun r w' ⟨bs, bb, hr, h1, h2⟩ => ⟨bs, bb, hr, ⟨(Blk.of_arr h1).base ?_, (Blk.of_arr h2).base ?_⟩, h1.bl⟩
    ·have := H3.out.1.size; have := hb.size; omega
    ·have := H3.out.1.size; have := hb.size; omega
   have hOr : ∀ W, Below w3.heap.size w3 W → Calls Tryz.prog 101 #[.slice au L cu, .func (.func 102) #[] #[]] W fun r w' => ∃ u os, r = .returned u ∧ InOrder Sy.turn (Sy.nf es) os ∧ BEdges.Own w' W.heap.size u os ∧ Below W.heap.size W w' := fun W hb => by
    have hLL := H3.out.2.2.2.2
    have hOW : BEdges.Has W (.slice au (Sy.nf es).length cu) (Sy.nf es) := H3.out.2.1.has.below hb
    have h9 := ordered_any H1.out.2.2.2.2 _ _ backward_at (.slice au (Sy.nf es).length cu) (Sy.nf es) W (by have := Sy.nf_len es; have := HM.out.1; omega) (by omega) hOW
    rw [← hLL] at h9
    exact h9
   have hTb : ∀ W u os B, Below w3.heap.size w3 W → InOrder Sy.turn (Sy.nf es) os → BEdges.Own W B u os → Calls Tryz.prog 99 #[.int .i64 q, u, .func (.func 102) #[] #[]] W fun r w' => ∃ bs bb, r = .returned (.agg #[.slice (some ⟨bs, 0, none⟩) L L, .slice (some ⟨bb, 0, none⟩) (q + 1) (q + 1)]) ∧ Tb w' w.heap.size bs bb q (Sy.nf ((Sy.nf es).map Sy.turn)) ∧ Below W.heap.size W w' := fun W u os B hb hI hO => by
    have hLL := H3.out.2.2.2.2
    have hlo := hI.1.length_eq
    have het := inOrder_turn hI
    have h9 := tableOf_any _ _ backward_at q u os W (by omega) (by omega) hO.has (by
     rw [het]
     intro e he
     rw [Sy.nf_mem] at he
     obtain ⟨x, hx, rfl⟩ := List.mem_map.1 he
     exact ⟨(hnr x hx).2.2.1, (hnr x hx).2.2.2⟩) (by rw [het]; exact nf_rows _)
    rw [het, hlo, ← hLL] at h9
    refine h9.mono fun r w' ⟨bs, bb, hr, h1, h2⟩ => ⟨bs, bb, hr, ⟨(Blk.of_arr h1).base ?_, (Blk.of_arr h2).base ?_⟩, h1.bl⟩
    ·have := H3.out.1.size; have := hb.size; omega
    ·have := H3.out.1.size; have := hb.size; omega
   have HT : Hid _ := And.intro hTf (And.intro hOr hTb)
   clear hTf hOr hTb hnr
   go_upto_region 4 with fail
   rw [← H3.out.2.2.2.1]
   clear y0 y1 y2 y3 z0 z1 z2 z3
   obtain ⟨x0, x1, x2, x3⟩ := four_cells H3.out.2.2.1
   go_region_held3 (fun w' => (w'.cell? ⟨w.heap.size, 0, none⟩ = some (.int .i64 q) ∧ w'.cell? ⟨w.heap.size, 1, none⟩ = some (.int .i64 k) ∧ w'.cell? ⟨w.heap.size, 2, none⟩ = some (.int .i64 s) ∧ w'.cell? ⟨w.heap.size, 3, none⟩ = some (.slice au L cu)) ∧ Hid (Below w3.heap.size w3 w')) (first | exact rg_up4' (by assumption) hba | exact rg_up4' (by assumption) hbb | exact rg_up4' (by assumption) hbc | exact rg_up4' (by assumption) ((Below.refl _ _).alloc (Nat.le_refl _) _) | exact ⟨⟨x0, x1, x2, x3⟩, ((Below.refl _ _).drew : Below w3.heap.size w3 w3.drew)⟩ | go_keep)
    ((first
      | (go_at_call_of 99 (Value.slice au L cu); refine (HT.out.1 _ (rg_b (by assumption))).mono ?_; rintro r wa ⟨bs, bb, rfl, hTa, hba⟩)
      | (go_at_call 101; refine (HT.out.2.1 _ (rg_b (by assumption))).mono ?_; rintro r wb ⟨u5, os, rfl, hIo, hOb, hbb⟩)
      | (go_at_call_of 99 u5; refine (HT.out.2.2 _ _ os _ (rg_b (by assumption)) hIo (by first | exact hOb | exact trow_at hOb fun b hb => hba.block _ (hOb.lt b hb).2)).mono ?_; rintro r wc ⟨cs, cb, rfl, hTc, hbc⟩)
      | fail))
   have hal : Below wc.heap.size wc (wc.alloc (.cells #[.int .i64 q, .int .i64 k, .int .i64 s, .slice (some ⟨bs, 0, none⟩) L L, .slice (some ⟨bb, 0, none⟩) (q + 1) (q + 1), .slice (some ⟨cs, 0, none⟩) L L, .slice (some ⟨cb, 0, none⟩) (q + 1) (q + 1)] 139)) := (Below.refl _ _).alloc (Nat.le_refl _) _
   have hbx := heap_alloc_new wc (.cells #[.int .i64 q, .int .i64 k, .int .i64 s, .slice (some ⟨bs, 0, none⟩) L L, .slice (some ⟨bb, 0, none⟩) (q + 1) (q + 1), .slice (some ⟨cs, 0, none⟩) L L, .slice (some ⟨cb, 0, none⟩) (q + 1) (q + 1)] 139)
   have hba' := below_of_drew3 hba
   have hsz : w.heap.size ≤ wc.heap.size := by have := H3.out.1.size; have := hba'.size; have := hbb.size; have := hbc.size; omega
   have hbw : Below w.heap.size w (wc.alloc (.cells #[.int .i64 q, .int .i64 k, .int .i64 s, .slice (some ⟨bs, 0, none⟩) L L, .slice (some ⟨bb, 0, none⟩) (q + 1) (q + 1), .slice (some ⟨cs, 0, none⟩) L L, .slice (some ⟨cb, 0, none⟩) (q + 1) (q + 1)] 139)) :=
    (((H3.out.1.trans (hba'.mono H3.out.1.size)).trans (hbb.mono (by have := H3.out.1.size; have := hba'.size; omega))).trans (hbc.mono (by have := H3.out.1.size; have := hba'.size; have := hbb.size; omega))).trans (hal.mono hsz)
   have hGr : Gr (wc.alloc (.cells #[.int .i64 q, .int .i64 k, .int .i64 s, .slice (some ⟨bs, 0, none⟩) L L, .slice (some ⟨bb, 0, none⟩) (q + 1) (q + 1), .slice (some ⟨cs, 0, none⟩) L L, .slice (some ⟨cb, 0, none⟩) (q + 1) (q + 1)] 139)) w.heap.size wc.heap.size bs bb cs cb q k s es :=
    ⟨by rw [← H3.out.2.2.2.2]; exact hbx, hsz, ((hTa.below hbb).below hbc).below hal, hTc.below hal, HQ.out.1⟩
   have HF : Hid _ := And.intro hGr hbw
   clear hal hbx hba' hbw hGr hba hbb hbc hTa hTc hOb hIo x0 x1 x2 x3
   rename_i hS9
   clear hS9
   go_wp2_with fail
   go_ret2
   exact ⟨_, _, _, _, _, q, rfl, rfl, HF.out.1, HF.out.2⟩
theorem new_ok {M : Nat} (hS : SortOk M) (n k s : Int) (v : Value) (es : List Sy.Ed) (a : Addr) (w : World) (hA : Sent w 0 a) (hv : BEdges.Has w v es) (hM : es.length ≤ M) (hm : es.length ≤ 100000) (hq : Sy.right n k s es = true) :
 Calls Tryz.prog 28 #[sysV n k s v] w fun r w' => ∃ (g bs bb cs cb m : Nat), n = (m : Int) ∧ r = .returned (.tuple #[.pointer (some ⟨g, 0, none⟩), .nilIface]) ∧ Gr w' w.heap.size g bs bb cs cb m k s es ∧ Below w.heap.size w w' :=
 (new_any hS n k s v es a w hA hv hM hm).mono fun r w' h => by unfold NewAt at h; rw [if_pos hq] at h; exact h
theorem new_bad {M : Nat} (hS : SortOk M) (n k s : Int) (v : Value) (es : List Sy.Ed) (a : Addr) (w : World) (hA : Sent w 0 a) (hv : BEdges.Has w v es) (hM : es.length ≤ M) (hm : es.length ≤ 100000) (hq : Sy.right n k s es = false) :
 Calls Tryz.prog 28 #[sysV n k s v] w fun r w' => ∃ x, r = .returned (.tuple #[.pointer none, x]) ∧ Chain w' 0 0 a [sysB] x ∧ Below w.heap.size w w' :=
 (new_any hS n k s v es a w hA hv hM hm).mono fun r w' h => by unfold NewAt at h; rw [if_neg (by rw [hq]; simp)] at h; exact h
end Go.Proofs.YtkiapldehlnndaaGreatDoor
/- Contract of the program's roundsOf: the rows of steps, and the function that tells the rounds. -/
namespace Go.Proofs.YtkiapldehlnndaaGreatDoor
open Go.RowKit Go.Maps
attribute [local go_sem ↓] Go.wp_at_zero Go.wp_at_succ
theorem bel6 {w W w8 : World} (hb : Below W.heap.size W w8) (h : Below w.heap.size w W) : Below w.heap.size w w8 := h.trans (hb.mono h.size)
theorem res_up6 {W w8 : World} {b : Nat} {o : Obj} (hb : Below W.heap.size W w8) (h : W.heap[b]? = some o) : w8.heap[b]? = some o := (hb.block b (t_lt h)).trans h
def rndB : ByteArray := ⟨#[114, 111, 117, 110, 100, 115]⟩
structure StAt (w wr : World) (gs n i : Nat) (us : List Value) (out : Nat → List BSteps.El) : Prop where
 arr : Arr 132 w wr gs us
 len : us.length = n
 row : ∀ j, j < i → ∃ u, us[j]? = some u ∧ BSteps.Own wr w.heap.size u (out j)
def outOf (m : Nat) (es : List Sy.Ed) (i : Nat) : List BSteps.El := Sy.rowOf m (Sy.nf es) i
structure OfAt (w w' : World) (b1 b2 gs m : Nat) (es : List Sy.Ed) : Prop where
 bl : Below w.heap.size w w'
 l1 : b1 < w'.heap.size
 l2 : b2 < w'.heap.size
 c1 : w'.cell? ⟨b1, 0, none⟩ = some (.int .i64 m)
 c2 : w'.cell? ⟨b2, 0, none⟩ = some (.slice (some ⟨gs, 0, none⟩) m m)
 st : Stp w' gs m (outOf m es)
end Go.Proofs.YtkiapldehlnndaaGreatDoor
/- A loop over a function that tells its body what the memory holds of what it hands over. Nothing of the program is in it. -/
namespace Go.Proofs.YtkiapldehlnndaaGreatDoor
open Go.RowKit
def Tells {α : Type} (F : Fence) (n : Nat) (P : Program) (g : Nat) (lb : Array Value) (encs : α → Array Value) (Kp : World → World → Prop) (Good : List α → α → World → Prop) (S Sp : List α → Prop) (w : World) : Prop :=
 ∀ (l : Nat) (J Jx : List α → World → Prop) (W : World), Below w.heap.size w W → AbidesFrom W.heap.size J → AbidesFrom W.heap.size Jx →
  (∀ pre x W1, J pre W1 → Good pre x W1 → YieldAt F (n - 1) P l (encs x) W1 fun e W' =>
    (e = .returned (.bool true) ∧ J (pre ++ [x]) W' ∧ Kp W1 W') ∨ (e = .returned (.bool false) ∧ Jx (pre ++ [x]) W')) →
  J [] W →
  CallsIn F n P g (#[.func (.yield l) #[] #[]] ++ lb) W fun e W' => (∃ v, e = .returned v) ∧ ((∃ xs, S xs ∧ J xs W') ∨ (∃ pre, Sp pre ∧ Jx pre W'))
section
variable {F : Fence} {n : Nat} {P : Program}
def rec5 (fn : FuncId) (a : Act) (ps : Array Tmp) (assign body : Code) (d : Nat) (st : LoopState) (pe : Option Code) : Loop := { state := st, pending := pe, fn, tmps := a.tmps, params := ps, assign, body, defers := d }
end
end Go.Proofs.YtkiapldehlnndaaGreatDoor
/- The function that roundsOf answers tells the rounds, one behind the other. -/
namespace Go.Proofs.YtkiapldehlnndaaGreatDoor
open Go.RowKit Go.Maps Go.Shelf
attribute [local go_sem] Oper.semAt_some
structure KpR (n0 n1 : Nat) (W W' : World) : Prop where
 bl : Below n0 W W'
 ints : ∀ (b : Nat) (cs : Array Value), n1 ≤ b → W.heap[b]? = some (.cells cs 3 (0, 0)) → W'.heap[b]? = some (.cells cs 3 (0, 0))
abbrev Rd : Type := Nat × Nat
def rdV (m : Nat) (x : Rd) : Array Value := #[.int .i64 x.1, .slice (some ⟨x.2, 0, none⟩) m m]
structure GoodR (n1 m : Nat) (out : Nat → List Ro.St) (pre : List Rd) (x : Rd) (W : World) : Prop where
 num : x.1 = pre.length
 small : x.1 < max m 1
 up : ∀ y ∈ pre, y.2 < x.2
 gu : n1 ≤ x.2
 blk : ∃ cs : Array Value, W.heap[x.2]? = some (.cells cs 3 (0, 0)) ∧ cs.toList = natC (Ro.rnd m out x.1)
def Reads (n0 b1 b2 gs m : Nat) (out : Nat → List Ro.St) (w : World) : Prop := ∀ W, Below n0 w W → W.cell? ⟨b1, 0, none⟩ = some (.int .i64 m) ∧ W.cell? ⟨b2, 0, none⟩ = some (.slice (some ⟨gs, 0, none⟩) m m) ∧ Stp W gs m out ∧ Pow W
theorem hasI_blk {W : World} {g m : Nat} {c : List Nat} {cs : Array Value} (hm : c.length = m) (hb : W.heap[g]? = some (.cells cs 3 (0, 0))) (hc : cs.toList = natC c) : HasI W (.slice (some ⟨g, 0, none⟩) m m) (natI c) :=
 ⟨_, m, by rw [show (natI c).length = m by simp [natI, hm]], fun i z hz => ⟨_, rfl, by
  rw [addz]
  refine cell0_of hb ?_
  rw [← Array.getElem?_toList, hc, ← iC_nat]
  unfold iC
  rw [List.getElem?_map, hz]; rfl⟩⟩
structure ItAt (w wr : World) (n0 m : Nat) (out : Nat → List Ro.St) (J : List Rd → World → Prop) (pre : List Rd) (k g : Nat) : Prop where
 len : pre.length = k
 j : J pre wr
 bl : Below n0 w wr
 up : ∀ y ∈ pre, y.2 < g
 gu : w.heap.size ≤ g
 blk : ∃ cs : Array Value, wr.heap[g]? = some (.cells cs 3 (0, 0)) ∧ cs.toList = natC (Ro.rnd m out k)
 ch : ∀ j, j < k → Ro.rnd m out (j + 1) ≠ Ro.rnd m out j
end Go.Proofs.YtkiapldehlnndaaGreatDoor
/- Contract of the program's All: the classes of all rounds. -/
namespace Go.Proofs.YtkiapldehlnndaaGreatDoor
open Go.RowKit Go.Maps Go.Shelf
attribute [local go_sem] Oper.semAt_some
structure RwAt (W : World) (B m : Nat) (out : Nat → List Ro.St) (pre : List Rd) : Prop where
 row : ∀ (j : Nat) (x : Rd), pre[j]? = some x → x.1 = j ∧ B ≤ x.2 ∧ ∃ cs : Array Value, W.heap[x.2]? = some (.cells cs 3 (0, 0)) ∧ cs.toList = natC (Ro.rnd m out j)
 up : pre.Pairwise fun y x => y.2 < x.2
theorem RwAt.keep {W W' : World} {B m : Nat} {out : Nat → List Ro.St} {pre : List Rd} (h : RwAt W B m out pre) (hk : ∀ (b : Nat) (cs : Array Value), B ≤ b → W.heap[b]? = some (.cells cs 3 (0, 0)) → W'.heap[b]? = some (.cells cs 3 (0, 0))) : RwAt W' B m out pre :=
 ⟨fun j x hx => by obtain ⟨h1, h2, cs, h3, h4⟩ := h.row j x hx; exact ⟨h1, h2, cs, hk _ _ h2 h3, h4⟩, h.up⟩
theorem RwAt.base {W : World} {B B' m : Nat} {out : Nat → List Ro.St} {pre : List Rd} (h : RwAt W B m out pre) (hb : B' ≤ B) : RwAt W B' m out pre := ⟨fun j x hx => by obtain ⟨h1, h2, h3⟩ := h.row j x hx; exact ⟨h1, by omega, h3⟩, h.up⟩
def hdr (m : Nat) (x : Rd) : Value := .slice (some ⟨x.2, 0, none⟩) m m
def OwnRs (W : World) (B m : Nat) (v : Value) (xs : List Rd) : Prop := W.ownsRow B 28 1 v xs.length (xs.map (hdr m))
theorem Tryz.infoRI : (Tryz.prog.info? 28).map (fun i => (i.zero, i.size, i.bytes)) = some (some (.slice none 0 0), 1, 24) := by kernel_rfl
theorem steps_fit {m : Nat} {k s : Int} {es : List Sy.Ed} (hq : Sy.right m k s es = true) : Fit m (outOf m es) := fun i hi => by
 have hp := right_parts hq
 have h1 := rowOf_len m (Sy.nf es) i
 have h2 := Sy.nf_len es
 refine ⟨by unfold outOf; omega, fun z hz => ?_⟩
 unfold outOf Sy.rowOf at hz
 rw [if_pos ⟨by omega, by omega⟩] at hz
 unfold Sy.steps at hz
 obtain ⟨e, he, rfl⟩ := List.mem_map.1 hz
 have h3 := hp.2.2.2.2.2 e ((Sy.nf_mem es e).1 (List.mem_filter.1 he).1)
 show (0 ≤ e.2.1 ∧ e.2.1 ≤ 300) ∧ 0 ≤ e.2.2 ∧ e.2.2 < (m : Int)
 omega
end Go.Proofs.YtkiapldehlnndaaGreatDoor
/- What the document's Next has in memory. -/
namespace Go.Proofs.YtkiapldehlnndaaGreatDoor
open Go.RowKit Go.Maps
def Ro.keys (n : Nat) (out : Nat → List Ro.St) (c : List Nat) : List (Int × List Int) := (List.range n).map (Ro.key out c)
def Ro.sgn (out : Nat → List Ro.St) (c : List Nat) (j : Nat) : List Int := Ro.sd (Ro.ends 1001 c (out j))
theorem Ro.keys_len (n : Nat) (out : Nat → List Ro.St) (c : List Nat) : (Ro.keys n out c).length = n := by simp [Ro.keys]
theorem Ro.keys_at {n i : Nat} (out : Nat → List Ro.St) (c : List Nat) (h : i < n) : (Ro.keys n out c)[i]? = some (Ro.key out c i) := Ro.key_at out c h
theorem Ro.keys_nx (n : Nat) (out : Nat → List Ro.St) (c : List Nat) : Ro.num (Ro.keys n out c) = Ro.nx n out c := rfl
theorem sgn_len (out : Nat → List Ro.St) (c : List Nat) (j : Nat) : (Ro.sgn out c j).length ≤ (out j).length := by
 have h1 := Ro.sd_len (Ro.ends 1001 c (out j))
 have h2 : (Ro.ends 1001 c (out j)).length = (out j).length := by simp [Ro.ends]
 unfold Ro.sgn
 omega
theorem makeRI (n : Nat) (hn : n ≤ 1000000) (w : World) : (Instr.makeSlice 40 (.int .i64 (n : Int)) (.int .i64 (n : Int))).run Tryz.prog w = .ok (.slice (some ⟨w.heap.size, 0, none⟩) n n) (w.alloc (.cells (madeV (.slice none 0 0) n) 28)) := make_of _ _ _ 24 Tryz.underlying40 Tryz.infoRI n hn (by decide) w
structure NxAt (w wr : World) (n i r : Nat) (out : Nat → List Ro.St) (c : List Nat) (fv : Value) (Fn : List Nat) : Prop where
 cls : Arr 3 w wr w.heap.size (natC (Ro.num ((Ro.keys n out c).take i)) ++ List.replicate (n - i) (.int .i64 0))
 sg : ∃ vs, Arr 28 w wr (w.heap.size + 1) vs ∧ vs.length = n ∧ ∀ j, j < r → ∃ u, vs[j]? = some u ∧ OwnI wr (w.heap.size + 2) u (Ro.sgn out c j) ∧ ∀ b, u.ownBlock = some b → fv.ownBlock ≠ some b
 fst : OwnI wr (w.heap.size + 2) fv (natI Fn)
theorem NxAt.big {w wr : World} {n i r : Nat} {out : Nat → List Ro.St} {c : List Nat} {fv : Value} {Fn : List Nat} (h : NxAt w wr n i r out c fv Fn) : w.heap.size + 2 ≤ wr.heap.size := by
 obtain ⟨vs, h1, _⟩ := h.sg
 have := h1.lt
 omega
theorem NxAt.below {w wr w' : World} {n i r : Nat} {out : Nat → List Ro.St} {c : List Nat} {fv : Value} {Fn : List Nat} (h : NxAt w wr n i r out c fv Fn) (hb : Below wr.heap.size wr w') : NxAt w w' n i r out c fv Fn := by
 obtain ⟨vs, h1, h2, h3⟩ := h.sg
 refine ⟨h.cls.below hb, ⟨vs, h1.below hb, h2, fun j hj => ?_⟩, trow_at h.fst fun b e => hb.block b (h.fst.lt b e).2⟩
 obtain ⟨u, h4, h5, h6⟩ := h3 j hj
 exact ⟨u, h4, trow_at h5 fun b e => hb.block b (h5.lt b e).2, h6⟩
theorem NxAt.new (w : World) (n : Nat) (out : Nat → List Ro.St) (c : List Nat) : NxAt w ((w.alloc (.cells (madeV (.int .i64 0) n) 3)).alloc (.cells (madeV (.slice none 0 0) n) 28)) n 0 0 out c (.slice none 0 0) [] := by
 have hb : Below w.heap.size w (w.alloc (.cells (madeV (.int .i64 0) n) 3)) := (Below.refl _ _).alloc (Nat.le_refl _) _
 have h1 := arr_new 3 (.int .i64 0) rfl n w
 have h2 := arr_new 28 (.slice none 0 0) rfl n (w.alloc (.cells (madeV (.int .i64 0) n) 3))
 have h3 := h1.below ((Below.refl _ _).alloc (Nat.le_refl _) (.cells (madeV (.slice none 0 0) n) 28))
 have h4 := h2.back hb
 rw [show (w.alloc (.cells (madeV (.int .i64 0) n) 3)).heap.size = w.heap.size + 1 by simp] at h4
 exact ⟨by simpa [Ro.num, natC] using h3, ⟨List.replicate n (.slice none 0 0), h4, List.length_replicate, fun j hj => by omega⟩, World.ownsRow_nil _ _ _ _⟩
theorem NxAt.sig {w wr w2 : World} {n i : Nat} {out : Nat → List Ro.St} {c : List Nat} {fv u : Value} {Fn : List Nat} (h : NxAt w wr n i i out c fv Fn) (hi : i < n) (hb : Below wr.heap.size wr w2) (hu : OwnI w2 wr.heap.size u (Ro.sgn out c i)) : NxAt w (w2.setCell ⟨w.heap.size + 1, i, none⟩ u) n i (i + 1) out c fv Fn := by
 have hbig := h.big
 have h0 := h.below hb
 obtain ⟨vs, h1, h2, h3⟩ := h.sg
 have far : ∀ {v : Value} {zs : List Int}, OwnI w2 (w.heap.size + 2) v zs → OwnI (w2.setCell ⟨w.heap.size + 1, i, none⟩ u) (w.heap.size + 2) v zs := fun {v zs} hv =>
  trow_at hv fun b e => set_other _ _ _ _ _ (by have := (hv.lt b e).1; omega)
 refine ⟨h0.cls.kept (Kept.setCell _ _ _ _) (fun b e => ⟨by omega, by omega⟩), ⟨vs.set i u, (h1.below hb).set i u, by simp [h2], fun j hj => ?_⟩, far h0.fst⟩
 rcases Nat.lt_or_ge j i with hji | hji
 ·obtain ⟨v, h4, h5, h6⟩ := h3 j hji
  exact ⟨v, by rw [List.getElem?_set_ne (by omega)]; exact h4, far (trow_at h5 fun b e => hb.block b (h5.lt b e).2), h6⟩
 ·obtain rfl : j = i := by omega
  exact ⟨u, by rw [List.getElem?_set_self (by omega)], far (row_base hu hbig), fun b e e2 => by have := (hu.lt b e).1; have := (h.fst.lt b e2).2; omega⟩
theorem NxAt.app {w wr w5 : World} {n i r M : Nat} {out : Nat → List Ro.St} {c : List Nat} {fv v5 : Value} {Fn : List Nat} {tmp : Obj} (h : NxAt w wr n i r out c fv Fn) (hM : M = Fn.length) (hO : w5.ownsRow (w.heap.size + 2) 3 1 v5 (M + 1) (iC (natI Fn) ++ [.int .i64 i])) (hg : (wr.alloc tmp).grownBy w5 fv.ownBlock) (hat : v5.ownBlock = fv.ownBlock ∨ v5.ownBlock = some (wr.alloc tmp).heap.size) : NxAt w w5 n i r out c v5 (Fn ++ [i]) := by
 have hk := grown_alloc hg
 obtain ⟨vs, h1, h2, h3⟩ := h.sg
 have hF : ∀ b, fv.ownBlock = some b → w.heap.size + 2 ≤ b := fun b e => (h.fst.lt b e).1
 refine ⟨h.cls.kept hk (fun b e => ⟨by have := hF b e; omega, by have := hF b e; omega⟩), ⟨vs, h1.kept hk (fun b e => ⟨by have := hF b e; omega, by have := hF b e; omega⟩), h2, fun j hj => ?_⟩, ?_⟩
 ·obtain ⟨u, h4, h5, h6⟩ := h3 j hj
  refine ⟨u, h4, trow_at h5 fun b e => hk.block b (h5.lt b e).2 (h6 b e), fun b e e2 => ?_⟩
  rcases hat with h7 | h7
  ·exact h6 b e (h7 ▸ e2)
  ·rw [h7] at e2
   have := (h5.lt b e).2
   simp at e2
   omega
 ·have e1 : natI (Fn ++ [i]) = natI Fn ++ [(i : Int)] := by simp [natI]
  unfold OwnI
  rw [e1, iC_snoc, List.length_append, show (natI Fn).length = M by simp [natI, hM]]
  exact hO
theorem NxAt.put {w wr : World} {n i r k : Nat} {out : Nat → List Ro.St} {c : List Nat} {fv : Value} {Fn : List Nat} (h : NxAt w wr n i r out c fv Fn) (hi : i < n) (hk : k = Ro.place (Ro.key out c i) (Ro.dd ((Ro.keys n out c).take i))) : NxAt w (wr.setCell ⟨w.heap.size, i, none⟩ (.int .i64 k)) n (i + 1) r out c fv Fn := by
 obtain ⟨vs, h1, h2, h3⟩ := h.sg
 have far : ∀ {v : Value} {zs : List Int}, OwnI wr (w.heap.size + 2) v zs → OwnI (wr.setCell ⟨w.heap.size, i, none⟩ (.int .i64 k)) (w.heap.size + 2) v zs := fun {v zs} hv =>
  trow_at hv fun b e => set_other _ _ _ _ _ (by have := (hv.lt b e).1; omega)
 refine ⟨?_, ⟨vs, h1.kept (Kept.setCell _ _ _ _) (fun b e => ⟨by omega, by omega⟩), h2, fun j hj => ?_⟩, far h.fst⟩
 ·have hC : (Ro.num ((Ro.keys n out c).take i)).length = i := by rw [Ro.num_len, List.length_take, Ro.keys_len]; omega
  have hAs := h.cls.set i (.int .i64 (k : Int))
  rw [natC_step _ n i k hC hi] at hAs
  rw [take_succ_of (Ro.keys_at out c hi), Ro.num_snoc, ← hk]
  exact hAs
 ·obtain ⟨u, h4, h5, h6⟩ := h3 j hj
  exact ⟨u, h4, far h5, h6⟩
structure FsAt (n i : Nat) (out : Nat → List Ro.St) (c : List Nat) (Fn : List Nat) : Prop where
 fe : Ro.dd ((Ro.keys n out c).take i) = Fn.map (Ro.key out c)
 fl : ∀ f ∈ Fn, f < i
theorem FsAt.len {n i : Nat} {out : Nat → List Ro.St} {c : List Nat} {Fn : List Nat} (h : FsAt n i out c Fn) : Fn.length ≤ i := by
 have h1 := Ro.dd_le ((Ro.keys n out c).take i)
 rw [h.fe, List.length_map, List.length_take] at h1
 omega
theorem FsAt.old {n i k f : Nat} {out : Nat → List Ro.St} {c : List Nat} {Fn : List Nat} (h : FsAt n i out c Fn) (hi : i < n) (hk : Fn[k]? = some f) (he : Ro.key out c f = Ro.key out c i) : FsAt n (i + 1) out c Fn := by
 refine ⟨?_, fun g hg => by have := h.fl g hg; omega⟩
 rw [take_succ_of (Ro.keys_at out c hi), Ro.dd_snoc]
 unfold Ro.more
 rw [if_pos (by rw [h.fe, ← he]; exact List.mem_map.2 ⟨f, List.mem_of_getElem? hk, rfl⟩), h.fe]
theorem FsAt.new {n i : Nat} {out : Nat → List Ro.St} {c : List Nat} {Fn : List Nat} (h : FsAt n i out c Fn) (hi : i < n) (hno : ∀ f ∈ Fn, Ro.key out c f ≠ Ro.key out c i) : FsAt n (i + 1) out c (Fn ++ [i]) ∧ Fn.length = Ro.place (Ro.key out c i) (Ro.dd ((Ro.keys n out c).take i)) := by
 have hn : Ro.key out c i ∉ Ro.dd ((Ro.keys n out c).take i) := fun hm => by
  rw [h.fe] at hm
  obtain ⟨f, hf, e⟩ := List.mem_map.1 hm
  exact hno f hf e
 refine ⟨⟨?_, fun g hg => ?_⟩, by rw [Ro.place_no hn, h.fe, List.length_map]⟩
 ·rw [take_succ_of (Ro.keys_at out c hi), Ro.dd_snoc]
  unfold Ro.more
  rw [if_neg hn, h.fe, List.map_append]
  rfl
 ·rcases List.mem_append.1 hg with hg | hg
  ·have := h.fl g hg; omega
  ·rw [List.mem_singleton.1 hg]; omega
theorem place_first {K : Type} [DecidableEq K] {x : K} : ∀ {l : List K} {k : Nat}, l[k]? = some x → (∀ y ∈ l.take k, y ≠ x) → Ro.place x l = k
 | [], k, h, _ => by simp at h
 | a :: r, 0, h, _ => by simp at h; simp [Ro.place, h]
 | a :: r, k + 1, h, hn => by
   have ha : a ≠ x := hn a (by simp)
   rw [List.getElem?_cons_succ] at h
   simp only [Ro.place, if_neg ha]
   rw [place_first h fun y hy => hn y (by simp [hy])]
theorem FsAt.at {n i k f : Nat} {out : Nat → List Ro.St} {c : List Nat} {Fn : List Nat} (h : FsAt n i out c Fn) (hk : Fn[k]? = some f) (he : Ro.key out c f = Ro.key out c i) (hno : ∀ g ∈ Fn.take k, Ro.key out c g ≠ Ro.key out c i) : k = Ro.place (Ro.key out c i) (Ro.dd ((Ro.keys n out c).take i)) := by
 rw [h.fe]
 refine (place_first (by rw [List.getElem?_map, hk, ← he]; rfl) fun y hy => ?_).symm
 rw [← List.map_take] at hy
 obtain ⟨g, hg, rfl⟩ := List.mem_map.1 hy
 exact hno g hg
end Go.Proofs.YtkiapldehlnndaaGreatDoor
/- Contract of the document's Next: the classes of the round behind one. -/
namespace Go.Proofs.YtkiapldehlnndaaGreatDoor
open Go.RowKit Go.Maps
attribute [local go_sem ↓] Go.wp_at_zero Go.wp_at_succ
theorem key_eq {out : Nat → List Ro.St} {c : List Nat} {i j x y : Nat} (hx : c[i]? = some x) (hy : c[j]? = some y) : Ro.key out c i = Ro.key out c j ↔ x = y ∧ Ro.sgn out c i = Ro.sgn out c j := by
 unfold Ro.key Ro.sgn
 rw [Prod.mk.injEq, hx, hy]
 simp only [Option.getD_some]
 constructor
 ·rintro ⟨h1, h2⟩; exact ⟨by omega, h2⟩
 ·rintro ⟨h1, h2⟩; exact ⟨by omega, h2⟩
set_option maxRecDepth 100000 in
set_option maxHeartbeats 8000000 in
theorem docNext_any (gs n : Nat) (out : Nat → List Ro.St) (c : List Nat) (vc : Value) (w : World) (hn : n ≤ 1000) (hc : c.length = n) (hcl : ∀ u ∈ c, u < n) (hF : Fit n out) (hS : Stp w gs n out) (hv : HasI w vc (natI c)) :
 Calls Tryz.prog 109 #[.slice (some ⟨gs, 0, none⟩) n n, vc] w fun r w' => ∃ g, r = .returned (.slice (some ⟨g, 0, none⟩) n n) ∧ Arr 3 w w' g (natC (Ro.nx n out c)) := by
 obtain ⟨i0, hi0, hz0, hz1, hz2⟩ := info_parts Tryz.infoI4
 have hv0 := hv
 obtain ⟨ac, cc, rfl, hcs⟩ := hv
 have hcn : (natI c).length = n := by simp [natI, hc]
 rw [hcn] at hv0 ⊢
 have HH : Hid _ := And.intro hcs (And.intro hv0 (And.intro hc (And.intro hcl (And.intro hF hS))))
 clear hcs hc hcl hF hS hv0 hcn
 have hmk := makeI n (by omega) w
 have hmk2 := makeRI n (by omega) (w.alloc (.cells (madeV (.int .i64 0) n) 3))
 go_enter Tryz.func109, Tryz.ntmps109
 go_wp2_with fail
 clear hmk hmk2
 have hN0 := NxAt.new w n out c
 obtain ⟨w0, hw0⟩ : ∃ w0, w0 = (w.alloc (.cells (madeV (.int .i64 0) n) 3)).alloc (.cells (madeV (.slice none 0 0) n) 28) := ⟨_, rfl⟩
 rw [← hw0] at hN0 ⊢
 have HN0 : Hid _ := hN0
 clear hw0 hN0
 go_loopg [5, 8] n (fun q fv iv wr => ∃ (i : Nat) (Fn : List Nat), q = n - i ∧ i ≤ n ∧ iv = .int .i64 i ∧ NxAt w wr n i i out c fv Fn ∧ FsAt n i out c Fn)
 case atStart => exact ⟨0, [], rfl, Nat.zero_le _, rfl, HN0.out, by simp [Ro.dd], fun f hf => by simp at hf⟩
 case round =>
  obtain ⟨i, Fn, rfl, hi, rfl, hX, hFs⟩ := hrel
  obtain ⟨w1, rfl⟩ : ∃ w1, w1 = wr := ⟨_, rfl⟩
  by_cases hlt : i < n
  ·obtain ⟨x, hx⟩ : ∃ x, c[i]? = some x := ⟨c[i]'(by have := HH.out.2.2.1; omega), List.getElem?_eq_getElem _⟩
   obtain ⟨a, rfl, c0⟩ := HH.out.1 i (x : Int) (by simp [natI, hx])
   obtain ⟨ar, cr, cs, hrow⟩ := (HH.out.2.2.2.2.2.below hX.cls.bl).row i hlt
   have hfit := HH.out.2.2.2.2.1 i hlt
   have hSg := docSig_any n c (out i) _ _ w1 hn HH.out.2.2.1 HH.out.2.2.2.1 hfit.2 hfit.1 hrow (HH.out.2.1.below hX.cls.bl)
   obtain ⟨Lr, hLr⟩ : ∃ Lr, Lr = (out i).length := ⟨_, rfl⟩
   rw [← hLr] at hSg cs
   have q0 : (0 : Int) ≤ (i : Int) := by omega
   have q1 : (i : Int) < (n : Int) := by omega
   obtain ⟨vs, hA, hvl, _⟩ := hX.sg
   obtain ⟨y0, hy0⟩ : ∃ y, vs[i]? = some y := ⟨vs[i]'(by omega), List.getElem?_eq_getElem _⟩
   have hft := hX.fst
   obtain ⟨au, cu, hu⟩ := row_shape hft
   obtain ⟨M, hM⟩ : ∃ M, M = Fn.length := ⟨_, rfl⟩
   rw [show (natI Fn).length = M by simp [natI, hM]] at hu
   obtain rfl := hu
   have hMi : M ≤ i := by have := hFs.len; omega
   have HS : Hid _ := And.intro hSg (And.intro hX (And.intro hFs (And.intro hx (And.intro hM (And.intro c0 (And.intro hA hy0))))))
   clear hSg hX hFs hx hM hrow hfit hLr c0 hA hy0 hvl hft
   go_wp2_with (go_at_call 152; refine Calls.mono HS.out.1 ?_; rintro r w2 ⟨u2, rfl, hO2, hb2⟩; obtain ⟨b2, c2, rfl⟩ := row_shape hO2; have cg := (HS.out.2.2.2.2.2.2.1.below hb2).cell HS.out.2.2.2.2.2.2.2; have cf := (HS.out.2.2.2.2.2.2.1.below hb2).free i; have HB2 : Hid _ := And.intro hO2 hb2; clear hO2 hb2)
   have hX2 := HS.out.2.1.sig hlt HB2.out.2 HB2.out.1
   obtain ⟨w3, hw3⟩ : ∃ w3, w3 = w2.setCell ⟨w.heap.size + 1, i, none⟩ (.slice b2 (Ro.sd (Ro.ends 1001 c (out i))).length c2) := ⟨_, rfl⟩
   rw [← hw3] at hX2 ⊢
   have HX : Hid _ := hX2
   clear hw3 hX2 cg cf cs
   go_loopg [9] M (fun q kv wr => ∃ (k d : Nat), q = M - k ∧ k ≤ M ∧ kv = .int .i64 k ∧ wr = w3.drewN d ∧ ∀ f ∈ Fn.take k, Ro.key out c f ≠ Ro.key out c i)
   case atStart => exact ⟨0, 0, rfl, Nat.zero_le _, rfl, rfl, fun f hf => by simp at hf⟩
   case round =>
    obtain ⟨k, d, rfl, hk, rfl, rfl, hno⟩ := hrel
    have HNo : Hid (∀ f ∈ Fn.take k, Ro.key out c f ≠ Ro.key out c i) := hno
    clear hno
    have hXd := HX.out
    by_cases hkM : k < M
    ·obtain ⟨f, hf⟩ : ∃ f, Fn[k]? = some f := ⟨Fn[k]'(by have := HS.out.2.2.2.2.1; omega), List.getElem?_eq_getElem _⟩
     have hfi := HS.out.2.2.1.fl f (List.mem_of_getElem? hf)
     obtain ⟨xf, hxf⟩ : ∃ x, c[f]? = some x := ⟨c[f]'(by have := HH.out.2.2.1; omega), List.getElem?_eq_getElem _⟩
     obtain ⟨a9, ha9, cf0⟩ := HH.out.1 f (xf : Int) (by simp [natI, hxf])
     obtain rfl := Option.some.inj ha9
     have cx : w3.cell? (a.add i) = some (.int .i64 x) := (hXd.cls.bl.cell (World.block_lt_of_cell? w _ HS.out.2.2.2.2.2.1)).trans HS.out.2.2.2.2.2.1
     have cxf : w3.cell? (a.add f) = some (.int .i64 xf) := (hXd.cls.bl.cell (World.block_lt_of_cell? w _ cf0)).trans cf0
     obtain ⟨ao2, cap2, hv2, hc2⟩ := hXd.fst.has
     injection hv2 with e1 e2 e3
     subst e1
     obtain ⟨b, rfl, ck⟩ := hc2 k (f : Int) (by simp [natI, hf])
     have p0 : (0 : Int) ≤ (k : Int) := by omega
     have p1 : (k : Int) < (M : Int) := by omega
     have p2 : decide ((k : Int) < (M : Int)) = true := decide_eq_true p1
     have p3 : (0 : Int) ≤ (f : Int) := by omega
     have p4 : (f : Int) < (n : Int) := by omega
     have hkey := key_eq (out := out) hxf HS.out.2.2.2.1
     have HY : Hid _ := And.intro hf hkey
     clear hf hkey hc2 e2 e3 ha9 cf0 hxf
     by_cases hxe : xf = x
     ·have g1 : ((xf : Int) != (x : Int)) = false := by simp [hxe]
      obtain ⟨vs3, hA3, hvl3, hrows⟩ := hXd.sg
      obtain ⟨uf, hvf, hOf, _⟩ := hrows f (by omega)
      obtain ⟨ui, hvi, hOi, _⟩ := hrows i (by omega)
      have cuf := hA3.cell hvf
      have cui := hA3.cell hvi
      have hSm : ∀ e9, Calls Tryz.prog 153 #[uf, ui] (w3.drewN (d + e9)) fun e w' => e = .returned (.bool (Ro.sgn out c f == Ro.sgn out c i)) ∧ ∃ m, w' = w3.drewN (d + m) := fun e9 =>
       (refSame_any uf ui _ _ _ (by have h1 := sgn_len out c f; have h2 := (HH.out.2.2.2.2.1 f (by omega)).1; omega) (by have h1 := sgn_len out c i; have h2 := (HH.out.2.2.2.2.1 i (by omega)).1; omega) (hOf.has.below (below_drewN (Below.refl _ _) _)) (hOi.has.below (below_drewN (Below.refl _ _) _))).mono fun _ _ ⟨he, m, hm⟩ => ⟨he, e9 + m, by rw [hm, World.drewN_drewN, Nat.add_assoc]⟩
      obtain ⟨auf, cuf0, rfl⟩ := row_shape hOf
      obtain ⟨aui, cui0, rfl⟩ := row_shape hOi
      have HA : Hid _ := And.intro hSm hxe
      clear hSm hxe hA3 hvl3 hrows hvf hvi hOf hOi
      by_cases hse : Ro.sgn out c f = Ro.sgn out c i
      ·have g2 : (Ro.sgn out c f == Ro.sgn out c i) = true := by simp [hse]
       rw [g2] at HA
       have HE : Hid _ := hse
       clear hse g2 hXd
       have g3 : ((k : Int) == (M : Int)) = false := by simp; omega
       go_wp2_with fail
       go_quiet ((go_at_call 153; exact HA.out.1 _))
       rename Nat => nq
       rw [World.drewN_drewN]
       have hXz := HX.out.below (below_drewN (Below.refl _ _) (d + nq))
       have cz := hXz.cls.cell (i := i) (x := .int .i64 0) (by rw [List.getElem?_append_right (by rw [natC_len, Ro.num_len, List.length_take]; omega), natC_len, Ro.num_len, List.length_take, Ro.keys_len, List.getElem?_replicate, if_pos (by omega)])
       have cfz := hXz.cls.free i
       have HZ : Hid _ := hXz
       clear hXz
       go_wp2_with fail
       go_roundg (n - (i + 1))
       case measure => omega
       case rel =>
        have hke : Ro.key out c f = Ro.key out c i := HY.out.2.2 ⟨HA.out.2, HE.out⟩
        exact ⟨i + 1, Fn, rfl, by omega, by go_num, HZ.out.put hlt (HS.out.2.2.1.at HY.out.1 hke HNo.out), HS.out.2.2.1.old hlt HY.out.1 hke⟩
      ·have g2 : (Ro.sgn out c f == Ro.sgn out c i) = false := by simp [hse]
       rw [g2] at HA
       have HE : Hid _ := hse
       clear hse g2 hXd
       go_wp2_with fail
       go_quiet ((go_at_call 153; exact HA.out.1 _))
       rename Nat => nq
       rw [World.drewN_drewN]
       go_wp2_with fail
       go_roundg (M - (k + 1))
       case measure => omega
       case rel =>
        exact ⟨k + 1, _, rfl, by omega, by go_num, rfl, fun g hg => by
         rw [take_succ_of HY.out.1] at hg
         rcases List.mem_append.1 hg with hg | hg
         ·exact HNo.out g hg
         ·rw [List.mem_singleton.1 hg]; exact fun e => HE.out (HY.out.2.1 e).2⟩
     ·have g1 : ((xf : Int) != (x : Int)) = true := by simp; omega
      have HE : Hid _ := hxe
      clear hxe hXd
      go_wp2_with fail
      go_quiet (fail)
      rename Nat => nq
      rw [World.drewN_drewN]
      go_wp2_with fail
      go_roundg (M - (k + 1))
      case measure => omega
      case rel =>
       exact ⟨k + 1, _, rfl, by omega, by go_num, rfl, fun g hg => by
        rw [take_succ_of HY.out.1] at hg
        rcases List.mem_append.1 hg with hg | hg
        ·exact HNo.out g hg
        ·rw [List.mem_singleton.1 hg]; exact fun e => HE.out (HY.out.2.1 e).1⟩
    ·obtain rfl : k = M := by omega
     have p1 : ¬ (k : Int) < (k : Int) := by omega
     have p2 : decide ((k : Int) < (k : Int)) = false := decide_eq_false p1
     have p3 : ((k : Int) == (k : Int)) = true := by simp
     clear hXd
     go_wp2_with fail
     go_quiet (fail)
     rename Nat => nq
     rw [World.drewN_drewN]
     have hXz := HX.out.below (below_drewN (Below.refl _ _) (d + nq))
     obtain ⟨wz, hwz⟩ : ∃ wz, wz = w3.drewN (d + nq) := ⟨_, rfl⟩
     rw [← hwz] at hXz ⊢
     have hOz : wz.ownsRow (w.heap.size + 2) 3 1 (.slice au k cu) k (iC (natI Fn)) := by have h1 := hXz.fst; unfold OwnI at h1; rw [show (natI Fn).length = k by simp [natI, HS.out.2.2.2.2.1]] at h1; exact h1
     have hml : k + 1 ≤ maxLen := by unfold maxLen; omega
     have hby : (k + 1) * 8 ≤ 140737488355328 := by omega
     have hle : w.heap.size + 2 ≤ (wz.alloc (.cells #[.int .i64 i] 3)).heap.size := by have := hXz.big; simp; omega
     have HZ : Hid _ := And.intro hOz hXz
     clear hwz hOz hXz
     have hcx : ((natC (Ro.num ((Ro.keys n out c).take i)) ++ List.replicate (n - i) (Value.int .i64 0)))[i]? = some (.int .i64 0) := by
      rw [List.getElem?_append_right (by rw [natC_len, Ro.num_len, List.length_take]; omega), natC_len, Ro.num_len, List.length_take, Ro.keys_len, List.getElem?_replicate, if_pos (by omega)]
     have HCX : Hid _ := hcx
     clear hcx
     go_wp2_with (at_builtin; refine wpList_append_own_at _ rfl _ _ 28 rfl (w.heap.size + 2) 3 i0 (.int .i64 0) 1 8 Tryz.underlying28 hi0 hz0 hz1 hz2 rfl (by decide) (.slice au k cu) k (iC (natI Fn)) rfl (HZ.out.1.alloc _) ⟨wz.heap.size, 0, none⟩ 1 1 [.int .i64 i] rfl rfl (World.news_of_block (cs := #[.int .i64 i]) (t := 3) (fr := (0, 0)) (heap_alloc_new wz _)) (by simp [Value.oneCell']) hml hby hle ?_; intro v5 w5 hO5 hg5 hnil5 hat5; have hX5 := HZ.out.2.app HS.out.2.2.2.2.1 hO5 hg5 hat5; have cx := hX5.cls.cell HCX.out; have cf := hX5.cls.free i; have H5 : Hid _ := hX5; clear hO5 hg5 hnil5 hat5 hX5)
     go_roundg (n - (i + 1))
     case measure => omega
     case rel =>
      have hno := HNo.out
      rw [List.take_of_length_le (by have := HS.out.2.2.2.2.1; omega)] at hno
      obtain ⟨hF1, hp1⟩ := HS.out.2.2.1.new hlt hno
      exact ⟨i + 1, Fn ++ [i], rfl, by omega, by go_num, H5.out.put hlt (by rw [HS.out.2.2.2.2.1]; exact hp1), hF1⟩
  ·obtain rfl : i = n := by omega
   have q1 : ¬ (i : Int) < (i : Int) := by omega
   have HA : Hid _ := hX.cls
   clear hX hFs
   go_wp2_with fail
   go_ret
   have h1 := HA.out
   rw [Nat.sub_self, List.replicate_zero, List.append_nil, List.take_of_length_le (by rw [Ro.keys_len]; exact Nat.le_refl _), Ro.keys_nx] at h1
   exact ⟨_, rfl, h1⟩
end Go.Proofs.YtkiapldehlnndaaGreatDoor
