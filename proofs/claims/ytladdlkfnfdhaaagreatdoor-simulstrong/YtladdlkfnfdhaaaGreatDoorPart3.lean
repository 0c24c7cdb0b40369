/- Texts of this claim, joined: SyNrm, SyTab, SyGr, SyRow2, SyBin, SyOut, SyBack, SyReach0, SyEnds, SyTen, SmUn0. -/
import Derived.Test.YtladdlkfnfdhaaaGreatDoorPart2
import Derived.Test.YtladdlkfnfdhaaaGreatDoorPart1
import Derived.Deep.DeepCutAuto
import Derived.Test.YtladdlkfnfdhaaaGreatDoorPart0
import Derived.Deep.AppendLies
import Derived.DataElems
namespace Go.Proofs.YtladdlkfnfdhaaaGreatDoor
section
open Go.RowKit Go.Maps
attribute [local go_sem ↓] Go.wp_at_zero Go.wp_at_succ
set_option maxRecDepth 100000 in
theorem compactNil_any (w : World) : Calls Tryz.prog 155 #[.slice none 0 0] w fun r w' => r = .returned (.slice none 0 0) /\ w' = w := by
 go_enter Tryz.func155, Tryz.ntmps155
 go_wp2
 go_ret
 exact ⟨rfl, rfl⟩
theorem compactO_any (u : Value) (os : List Sy.Ed) (w0 w : World) (hO : BEdges.Own w w0.heap.size u os) (hb : Below w0.heap.size w0 w) (hn : os.length <= 1000000) :
 Calls Tryz.prog 155 #[u] w fun r w' => ∃ u', r = .returned u' /\ BEdges.Own w' w0.heap.size u' (ddup os) /\ Below w0.heap.size w0 w' := by
 rcases hO.2 with ⟨rfl, h0⟩ | ⟨g, cap, cur, rfl, hg⟩
 ·obtain rfl := List.eq_nil_of_length_eq_zero h0
  refine (compactNil_any w).mono fun r w' ⟨hr, hw⟩ => ⟨_, hr, ?_, by rw [hw]; exact hb⟩
  exact World.ownsRow_nil _ _ _ _
 ·obtain ⟨rest, hR, _, h3, h4, h5⟩ := row_of_own hO hb
  refine (compact_any g cap os rest w0 w hR h3 h4 hn).mono fun r w' ⟨rest', hr, hR', hr'⟩ => ⟨_, hr, ?_, hR'.bl⟩
  have hl := ddup_len os
  have h := own_of_row (cap := cap) hR' (by simpa using hr') (by simp; omega) h5
  simpa using h
def st4 (w : World) (b : Nat) (x0 x1 x2 x3 : Value) : World := (((w.setCell ⟨b, 0, none⟩ x0).setCell ⟨b, 1, none⟩ x1).setCell ⟨b, 2, none⟩ x2).setCell ⟨b, 3, none⟩ x3
theorem st4_other (w : World) (b i : Nat) (x0 x1 x2 x3 : Value) (h : i ≠ b) : (st4 w b x0 x1 x2 x3).heap[i]? = w.heap[i]? := by
 unfold st4
 rw [set_other _ _ _ _ _ h, set_other _ _ _ _ _ h, set_other _ _ _ _ _ h, set_other _ _ _ _ _ h]
theorem chain_st4 {w : World} {a : Addr} {x : Value} {b : Nat} {cs : Array Value} (h : Chain w 0 0 a [sysB] x) (hb : w.heap[b]? = some (.cells cs 24 (0, 0))) (x0 x1 x2 x3 : Value) : Chain (st4 w b x0 x1 x2 x3) 0 0 a [sysB] x := by
 obtain ⟨c, u, h1, h2, h3⟩ := h
 refine ⟨c, u, h1, ?_, h3⟩
 rw [st4_other _ _ _ _ _ _ _ fun e => by rw [e, hb] at h2; exact absurd h2 (by simp)]
 exact h2
set_option maxRecDepth 100000 in
set_option maxHeartbeats 4000000 in
theorem normal_any {M : Nat} (hS : SortOk M) (n k s : Int) (v : Value) (es : List Sy.Ed) (a : Addr) (w : World) (hA : Sent w 1 a) (hv : BEdges.Has w v es) (hM : es.length <= M) (hm : es.length <= 1000000) :
 Calls Tryz.prog 131 #[sysV n k s v] w fun r w' => ∃ x u, r = .returned (.tuple #[if Sy.right n k s es = true then sysV n k s u else sysV 0 0 0 (.slice none 0 0), x]) /\ SErr a w' (Sy.right n k s es) x /\ (Sy.right n k s es = true -> BEdges.Own w' w.heap.size u (Sy.nf es)) /\ Below w.heap.size w w' := by
 obtain ⟨w1, hw1⟩ : ∃ w1, w1 = (w.alloc (.cells #[.int .i64 n, .int .i64 k, .int .i64 s, v] 24)).alloc (.cells #[.int .i64 0, .int .i64 0, .int .i64 0, .slice none 0 0] 24) := ⟨_, rfl⟩
 have hb1 : Below w.heap.size w w1 := by rw [hw1]; exact ((Below.refl _ _).alloc (Nat.le_refl _) _).alloc (by simp) _
 have hg : w1.heap[w.heap.size + 1]? = some (.cells #[.int .i64 0, .int .i64 0, .int .i64 0, .slice none 0 0] 24 (0, 0)) := by rw [hw1]; exact two_alloc w _ _
 have hg0 : w1.heap[w.heap.size]? = some (.cells #[.int .i64 n, .int .i64 k, .int .i64 s, v] 24 (0, 0)) := by rw [hw1, Below.heap_alloc _ _ _ (by simp)]; exact heap_alloc_new w _
 have hC := check_any n k s v es a w1 (hA.below hb1) (hv.below hb1)
 have hv0 := hv
 obtain ⟨ao, cap, rfl, _⟩ := hv0
 obtain ⟨m, hmm⟩ : ∃ m, m = es.length := ⟨_, rfl⟩
 have H1 : Hid _ := And.intro hC (And.intro hb1 (And.intro hg (And.intro hg0 (And.intro hw1 (And.intro hv hS)))))
 rw [<- hmm] at H1 ⊢
 have HM : Hid _ := hmm
 unfold sysV at H1 ⊢
 cases hq : Sy.right n k s es with
 | false =>
   rw [hq] at H1
   clear hC hb1 hg hg0 hw1 hv hS hA hq hmm
   go_enter Tryz.func131, Tryz.ntmps131
   go_wp2_with fail
   rw [<- H1.out.2.2.2.2.1]
   refine Calls.mono H1.out.1 ?_
   rintro r w2 ⟨x, rfl, hx, hb2⟩
   have hch : Chain w2 0 0 a [sysB] x := by simpa [SErr] using hx
   obtain ⟨T, u, rfl⟩ := hch.iface
   have hg2 := (hb2.block _ (t_lt H1.out.2.2.1)).trans H1.out.2.2.1
   obtain ⟨y0, y1, y2, y3⟩ := four_cells hg2
   have z0 := blk_free hg2 0
   have z1 := blk_free hg2 1
   have z2 := blk_free hg2 2
   have z3 := blk_free hg2 3
   have hbw := H1.out.2.1.trans (hb2.mono H1.out.2.1.size)
   have H2 : Hid _ := And.intro hch (And.intro hbw hg2)
   clear hb2 hg2 hbw hch hx
   go_wp2_with fail
   have hgf := four_set (a0 := .int .i64 0) (a1 := .int .i64 0) (a2 := .int .i64 0) (a3 := .slice none 0 0) H2.out.2.2
   have hbf := four_below H2.out.2.1 (b := w.heap.size + 1) (by omega) (.int .i64 0) (.int .i64 0) (.int .i64 0) (.slice none 0 0)
   have hcf := chain_st4 H2.out.1 H2.out.2.2 (.int .i64 0) (.int .i64 0) (.int .i64 0) (.slice none 0 0)
   unfold st4 at hcf
   generalize ((((w2.setCell ⟨w.heap.size + 1, 0, none⟩ (.int .i64 0)).setCell ⟨w.heap.size + 1, 1, none⟩ (.int .i64 0)).setCell ⟨w.heap.size + 1, 2, none⟩ (.int .i64 0)).setCell ⟨w.heap.size + 1, 3, none⟩ (.slice none 0 0)) = wf at hgf hbf hcf ⊢
   clear y0 y1 y2 y3 z0 z1 z2 z3
   obtain ⟨c0, c1, c2, c3⟩ := four_cells hgf
   exact bodyPost_ret (v := .tuple #[.agg #[.int .i64 0, .int .i64 0, .int .i64 0, .slice none 0 0], .iface T u]) (by simp [results, Tryz.results131, go_sem, c0, c1, c2, c3]) rfl (by first | exact ⟨.iface T u, rfl, by simpa [SErr] using hcf, hbf⟩ | exact ⟨.iface T u, rfl, by simpa [SErr] using hcf, .slice none 0 0, fun h => by cases h, hbf⟩ | exact ⟨.iface T u, .slice none 0 0, rfl, by simpa [SErr] using hcf, fun h => by cases h, hbf⟩)
 | true =>
   rw [hq] at H1
   clear hC hb1 hg hg0 hw1 hv hS hA hq hmm
   go_enter Tryz.func131, Tryz.ntmps131
   go_wp2_with fail
   rw [<- H1.out.2.2.2.2.1]
   refine Calls.mono H1.out.1 ?_
   rintro r w2 ⟨x, rfl, hx, hb2⟩
   obtain rfl : x = .nilIface := by simpa [SErr] using hx
   have hg2 := (hb2.block _ (t_lt H1.out.2.2.1)).trans H1.out.2.2.1
   have hg3 := (hb2.block _ (t_lt H1.out.2.2.2.1)).trans H1.out.2.2.2.1
   obtain ⟨x0, x1, x2, x3⟩ := four_cells hg3
   have hbw := H1.out.2.1.trans (hb2.mono H1.out.2.1.size)
   have hO := ordered_any H1.out.2.2.2.2.2.2 _ _ forward_at (.slice ao m cap) es w2 (by omega) hm (H1.out.2.2.2.2.2.1.below hbw)
   have H2 : Hid _ := And.intro hO (And.intro hbw (And.intro hg2 hg3))
   clear hb2 hg2 hg3 hbw hx hO
   go_wp2_with fail
   refine Calls.mono H2.out.1 ?_
   rintro r w3 ⟨u3, os, rfl, hio, hO3, hb3⟩
   have hlo : os.length = es.length := hio.1.length_eq
   have hCp := compactO_any u3 os w2 w3 hO3 hb3 (by omega)
   rw [ddup_nf hio] at hCp
   have H3 : Hid _ := hCp
   obtain ⟨a3, c3, rfl⟩ := row_shape hO3
   clear hio hO3 hb3 hCp hlo hM hm
   go_wp2_with fail
   refine Calls.mono H3.out ?_
   rintro r w4 ⟨u4, rfl, hO4, hb4⟩
   obtain ⟨a4, c4, rfl⟩ := row_shape hO4
   have hg2 := (hb4.block _ (t_lt H2.out.2.2.1)).trans H2.out.2.2.1
   have hg3 := (hb4.block _ (t_lt H2.out.2.2.2)).trans H2.out.2.2.2
   obtain ⟨y0, y1, y2, y3⟩ := four_cells hg2
   clear x0 x1 x2 x3
   obtain ⟨x0, x1, x2, x3⟩ := four_cells hg3
   have z0 := blk_free hg2 0
   have z1 := blk_free hg2 1
   have z2 := blk_free hg2 2
   have z3 := blk_free hg2 3
   have z4 := blk_free hg3 3
   have nn : ¬ w.heap.size + 1 = w.heap.size := by omega
   have nn2 : ¬ w.heap.size = w.heap.size + 1 := by omega
   have hbw := H2.out.2.1.trans (hb4.mono H2.out.2.1.size)
   have H4 : Hid _ := And.intro hO4 (And.intro hbw (And.intro hg2 (And.intro hg3 H2.out.2.1.size)))
   clear hO4 hb4 hg2 hg3 hbw
   go_wp2_with fail
   have hgm : (w4.setCell ⟨w.heap.size, 3, none⟩ (.slice a4 (Sy.nf es).length c4)).heap[w.heap.size + 1]? = some (.cells #[.int .i64 0, .int .i64 0, .int .i64 0, .slice none 0 0] 24 (0, 0)) := (set_other _ _ _ _ _ nn).trans H4.out.2.2.1
   have hbm : Below w.heap.size w (w4.setCell ⟨w.heap.size, 3, none⟩ (.slice a4 (Sy.nf es).length c4)) := H4.out.2.1.setCell (Nat.le_refl _) _
   have hgf := four_set (a0 := .int .i64 n) (a1 := .int .i64 k) (a2 := .int .i64 s) (a3 := .slice a4 (Sy.nf es).length c4) hgm
   have hbf := four_below hbm (b := w.heap.size + 1) (by omega) (.int .i64 n) (.int .i64 k) (.int .i64 s) (.slice a4 (Sy.nf es).length c4)
   have hOf : BEdges.Own (((((w4.setCell ⟨w.heap.size, 3, none⟩ (.slice a4 (Sy.nf es).length c4)).setCell ⟨w.heap.size + 1, 0, none⟩ (.int .i64 n)).setCell ⟨w.heap.size + 1, 1, none⟩ (.int .i64 k)).setCell ⟨w.heap.size + 1, 2, none⟩ (.int .i64 s)).setCell ⟨w.heap.size + 1, 3, none⟩ (.slice a4 (Sy.nf es).length c4)) w.heap.size (.slice a4 (Sy.nf es).length c4) (Sy.nf es) := row_base (trow_at H4.out.1 fun b hb => by
    have h1 := own_bk H4.out.1 H4.out.2.2.1 (by decide)
    have h2 := own_bk H4.out.1 H4.out.2.2.2.1 (by decide)
    have n1 : b ≠ w.heap.size + 1 := fun e => h1 (e ▸ hb)
    have n2 : b ≠ w.heap.size := fun e => h2 (e ▸ hb)
    rw [set_other _ _ _ _ _ n1, set_other _ _ _ _ _ n1, set_other _ _ _ _ _ n1, set_other _ _ _ _ _ n1, set_other _ _ _ _ _ n2]) H4.out.2.2.2.2
   generalize (((((w4.setCell ⟨w.heap.size, 3, none⟩ (.slice a4 (Sy.nf es).length c4)).setCell ⟨w.heap.size + 1, 0, none⟩ (.int .i64 n)).setCell ⟨w.heap.size + 1, 1, none⟩ (.int .i64 k)).setCell ⟨w.heap.size + 1, 2, none⟩ (.int .i64 s)).setCell ⟨w.heap.size + 1, 3, none⟩ (.slice a4 (Sy.nf es).length c4)) = wf at hgf hbf hOf ⊢
   clear y0 y1 y2 y3 z0 z1 z2 z3 z4 x0 x1 x2 x3
   obtain ⟨c0, c1, c2, c3⟩ := four_cells hgf
   exact bodyPost_ret (v := .tuple #[.agg #[.int .i64 n, .int .i64 k, .int .i64 s, .slice a4 (Sy.nf es).length c4], .nilIface]) (by simp [results, Tryz.results131, go_sem, c0, c1, c2, c3]) rfl ⟨.nilIface, .slice a4 (Sy.nf es).length c4, rfl, by simp [SErr], hOf, hbf⟩
end
section
open Go.RowKit Go.Maps
attribute [local go_sem ↓] Go.wp_at_zero Go.wp_at_succ
theorem Tryz.infoSt8 : (Tryz.prog.info? 126).map (fun i => (i.zero, i.size, i.bytes)) = some (some (.agg #[.int .i64 0, .int .i64 0]), 2, 16) := by kernel_rfl
def madeSt (m : Nat) : Array Value := madeCells #[.int .i64 0, .int .i64 0] (m * 2)
theorem madeSt_eq (m : Nat) : (madeSt m).toList = BSteps.C (List.replicate m (0, 0)) := by
 apply List.ext_getElem?
 intro j
 by_cases hj : j < m * 2
 ·have h1 := BSteps.C_at (List.replicate m (0, 0)) (j / 2) (0, 0) (by rw [List.getElem?_replicate, if_pos (by omega)]) (j % 2) (Nat.mod_lt _ (by decide))
  rw [show j / 2 * 2 + j % 2 = j by omega] at h1
  rw [h1, Array.getElem?_toList]
  unfold madeSt madeCells
  have h2 : j % 2 = 0 \/ j % 2 = 1 := by omega
  rcases h2 with e | e <;> simp [hj, e, BSteps.enc]
 ·rw [List.getElem?_eq_none (by simp [madeSt, madeCells]; omega), List.getElem?_eq_none (by rw [BSteps.C_len, List.length_replicate]; omega)]
theorem makeS2 (m : Nat) (hm : m <= 1000000) (w : World) : (Instr.makeSlice 124 (.int .i64 (m : Int)) (.int .i64 (m : Int))).run Tryz.prog w = .ok (.slice (some ⟨w.heap.size, 0, none⟩) m m) (w.alloc (.cells (madeSt m) 126)) := by
 obtain ⟨i0, hi0, hz0, hz1, hz2⟩ := info_parts Tryz.infoSt8
 have h := run_makeSlice (P := Tryz.prog) w 124 126 i0 _ Tryz.underlying124 hi0 hz0 .i64 .i64 (m : Int) (m : Int) (by omega) (Int.le_refl _) (by rw [hz1]; omega) (by rw [hz2]; omega) (by omega)
 rw [h, hz1]
 simp [madeSt, Value.cells]
structure TbAt (w wx : World) (bt bs bb m nb : Nat) (ss : List BSteps.El) (cs : List Int) : Prop where
 box : wx.heap[bt]? = some (.cells #[.slice (some ⟨bs, 0, none⟩) m m, .slice (some ⟨bb, 0, none⟩) nb nb] 190 (0, 0))
 up : w.heap.size < bt
 res : wx.heap[w.heap.size]? = some (.cells #[.slice none 0 0, .slice none 0 0] 190 (0, 0))
 steps : Arr 126 w wx bs (BSteps.C ss)
 nums : Arr 3 w wx bb (iC cs)
 ls : ss.length = m
 ln : cs.length = nb
theorem TbAt.below {w wx w' : World} {bt bs bb m nb : Nat} {ss : List BSteps.El} {cs : List Int} (h : TbAt w wx bt bs bb m nb ss cs) (hb : Below wx.heap.size wx w') : TbAt w w' bt bs bb m nb ss cs :=
 ⟨(hb.block _ (t_lt h.box)).trans h.box, h.up, (hb.block _ (t_lt h.res)).trans h.res, h.steps.below hb, h.nums.below hb, h.ls, h.ln⟩
theorem TbAt.cells {w wx : World} {bt bs bb m nb : Nat} {ss : List BSteps.El} {cs : List Int} (h : TbAt w wx bt bs bb m nb ss cs) : wx.cell? ⟨bt, 0, none⟩ = some (.slice (some ⟨bs, 0, none⟩) m m) /\ wx.cell? ⟨bt, 1, none⟩ = some (.slice (some ⟨bb, 0, none⟩) nb nb) := ⟨cell0_of h.box rfl, cell0_of h.box rfl⟩
theorem arr_ne {t1 t2 : TypeId} {w wx : World} {g1 g2 : Nat} {v1 v2 : List Value} (h1 : Arr t1 w wx g1 v1) (h2 : Arr t2 w wx g2 v2) (hne : t1 ≠ t2) : g1 ≠ g2 := fun e => by
 obtain ⟨c1, a1, _⟩ := h1.ids
 obtain ⟨c2, a2, _⟩ := h2.ids
 rw [e, a2] at a1
 injection a1 with a1
 injection a1 with _ a1
 exact hne a1.symm
theorem arr_bk {t1 t2 : TypeId} {w wx : World} {g1 b : Nat} {v1 : List Value} {cs : Array Value} (h1 : Arr t1 w wx g1 v1) (h2 : wx.heap[b]? = some (.cells cs t2 (0, 0))) (hne : t1 ≠ t2) : b ≠ g1 := fun e => by
 obtain ⟨c1, a1, _⟩ := h1.ids
 rw [e, a1] at h2
 injection h2 with a1
 injection a1 with _ a1
 exact hne a1
theorem TbAt.num {w wx : World} {bt bs bb m nb : Nat} {ss : List BSteps.El} {cs : List Int} (h : TbAt w wx bt bs bb m nb ss cs) (i : Nat) (z : Int) : TbAt w (wx.setCell ⟨bb, i, none⟩ (.int .i64 z)) bt bs bb m nb ss (cs.set i z) := by
 refine ⟨(set_other _ _ _ _ _ (arr_bk h.nums h.box (by decide))).trans h.box, h.up, (set_other _ _ _ _ _ (arr_bk h.nums h.res (by decide))).trans h.res, ?_, ?_, h.ls, by rw [List.length_set]; exact h.ln⟩
 ·exact h.steps.kept (Kept.setCell _ _ _ _) fun b e => by subst e; exact ⟨h.nums.gu, arr_ne h.nums h.steps (by decide)⟩
 ·have h1 := h.nums.set i (.int .i64 z)
  unfold iC at h1 ⊢
  rw [List.map_set]
  exact h1
theorem TbAt.step {w wx : World} {bt bs bb m nb : Nat} {ss : List BSteps.El} {cs : List Int} (h : TbAt w wx bt bs bb m nb ss cs) {i : Nat} (hi : i < m) (z : BSteps.El) : TbAt w ((wx.setCell ⟨bs, i * 2, none⟩ (.int .i64 z.1)).setCell ⟨bs, i * 2 + 1, none⟩ (.int .i64 z.2)) bt bs bb m nb (ss.set i z) cs := by
 have hx := arr_bk h.steps h.box (by decide)
 have hy := arr_bk h.steps h.res (by decide)
 refine ⟨(set_other _ _ _ _ _ hx).trans ((set_other _ _ _ _ _ hx).trans h.box), h.up, (set_other _ _ _ _ _ hy).trans ((set_other _ _ _ _ _ hy).trans h.res), ?_, ?_, by rw [List.length_set]; exact h.ls, h.ln⟩
 ·have h1 := (h.steps.set (i * 2) (.int .i64 z.1)).set (i * 2 + 1) (.int .i64 z.2)
  rw [<- BSteps.C_set ss (by rw [h.ls]; exact hi) z] at h1
  exact h1
 ·exact (h.nums.kept (Kept.setCell _ _ _ _) fun b e => by subst e; exact ⟨h.steps.gu, arr_ne h.steps h.nums (by decide)⟩).kept (Kept.setCell _ _ _ _) fun b e => by subst e; exact ⟨h.steps.gu, arr_ne h.steps h.nums (by decide)⟩
def stp (e : Sy.Ed) : BSteps.El := (e.2.1, e.2.2)
theorem step_done {l : List Sy.Ed} {i m : Nat} {x : Sy.Ed} (hx : l[i]? = some x) (hm : l.length = m) : ((l.take i).map stp ++ List.replicate (m - i) (0, 0)).set i (stp x) = (l.take (i + 1)).map stp ++ List.replicate (m - (i + 1)) (0, 0) := by
 have hi := (List.getElem?_eq_some_iff.1 hx).1
 have hl : ((l.take i).map stp).length = i := by rw [List.length_map, List.length_take]; omega
 have e : m - i = (m - (i + 1)) + 1 := by omega
 rw [List.set_append_right _ _ (by omega), hl, Nat.sub_self, e, List.replicate_succ, List.set_cons_zero, take_succ_of hx, List.map_append, List.append_assoc]
 rfl
theorem al_b (w : World) (a b c d : Obj) : Below w.heap.size w (((w.alloc a).alloc b).alloc c |>.alloc d).drew := (((((Below.refl _ w).alloc (Nat.le_refl _) a).alloc (by simp) b).alloc (by simp; omega) c).alloc (by simp; omega) d).drew
theorem sz1 (w : World) (a : Obj) : (w.alloc a).heap.size = w.heap.size + 1 := by simp
theorem al3 (w : World) (a b c d : Obj) : (((w.alloc a).alloc b).alloc c |>.alloc d).drew.heap[w.heap.size + 1 + 1 + 1]? = some d := by
 have h := heap_alloc_new (((w.alloc a).alloc b).alloc c) d
 rw [sz1, sz1, sz1] at h
 exact h
theorem al2 (w : World) (a b c d : Obj) : (((w.alloc a).alloc b).alloc c |>.alloc d).drew.heap[w.heap.size + 1 + 1]? = some c := by
 have h := heap_alloc_new ((w.alloc a).alloc b) c
 rw [sz1, sz1] at h
 exact (Below.heap_alloc _ _ _ (by rw [sz1, sz1, sz1]; omega)).trans h
theorem al1 (w : World) (a b c d : Obj) : (((w.alloc a).alloc b).alloc c |>.alloc d).drew.heap[w.heap.size + 1]? = some b := by
 have h := heap_alloc_new (w.alloc a) b
 rw [sz1] at h
 exact (Below.heap_alloc _ _ _ (by rw [sz1, sz1, sz1]; omega)).trans ((Below.heap_alloc _ _ _ (by rw [sz1, sz1]; omega)).trans h)
theorem al0 (w : World) (a b c d : Obj) : (((w.alloc a).alloc b).alloc c |>.alloc d).drew.heap[w.heap.size]? = some a :=
 (Below.heap_alloc _ _ _ (by rw [sz1, sz1, sz1]; omega)).trans ((Below.heap_alloc _ _ _ (by rw [sz1, sz1]; omega)).trans ((Below.heap_alloc _ _ _ (by rw [sz1]; omega)).trans (heap_alloc_new w a)))
theorem iC_rep (n : Nat) : List.replicate n (Value.int .i64 0) = iC (List.replicate n 0) := by simp [iC]
theorem tb_start {w wx : World} {bt bs bb m n : Nat} (hbt : wx.heap[bt]? = some (.cells #[.slice (some ⟨bs, 0, none⟩) m m, .slice (some ⟨bb, 0, none⟩) (n + 1) (n + 1)] 190 (0, 0))) (hup : w.heap.size < bt) (hres : wx.heap[w.heap.size]? = some (.cells #[.slice none 0 0, .slice none 0 0] 190 (0, 0)))
 (hb : Below w.heap.size w wx) (hs : wx.heap[bs]? = some (.cells (madeSt m) 126 (0, 0))) (gs : w.heap.size <= bs) (hn : wx.heap[bb]? = some (.cells (madeV (.int .i64 0) (n + 1)) 3 (0, 0))) (gn : w.heap.size <= bb) (l : List Sy.Ed) : TbAt w wx bt bs bb m (n + 1) ((l.take 0).map stp ++ List.replicate (m - 0) (0, 0)) (Sy.bndL n (l.take 0)) := by
 rw [List.take_zero, Sy.bnd_zero, List.map_nil, List.nil_append, Nat.sub_zero]
 refine ⟨hbt, hup, hres, ⟨hb, ⟨_, hs, madeSt_eq m⟩, gs⟩, ⟨hb, ⟨_, hn, ?_⟩, gn⟩, by simp, by simp⟩
 rw [madeV_eq _ rfl, iC_rep]
set_option maxRecDepth 100000 in
set_option maxHeartbeats 8000000 in
theorem tableOf_any (f : Nat) (vw : Sy.Ed -> Sy.Ed) (hV : ViewAt f vw) (n : Nat) (v : Value) (os : List Sy.Ed) (w : World) (hn : n <= 100000) (hm : os.length <= 100000) (hv : BEdges.Has w v os) (hr : ∀ e ∈ os.map vw, 0 <= e.1 /\ e.1 < (n : Int)) (hs : Sy.Rows (os.map vw)) :
 Calls Tryz.prog 132 #[.int .i64 n, v, .func (.func f) #[] #[]] w fun r w' => ∃ bs bb, r = .returned (.agg #[.slice (some ⟨bs, 0, none⟩) os.length os.length, .slice (some ⟨bb, 0, none⟩) (n + 1) (n + 1)]) /\ Arr 126 w w' bs (BSteps.C ((os.map vw).map stp)) /\ Arr 3 w w' bb (iC (Sy.bounds n (os.map vw))) := by
 obtain ⟨he, hV⟩ := hV
 obtain ⟨av, cv, rfl, _⟩ := _root_.id hv
 obtain ⟨m, hM⟩ : ∃ m, m = os.length := ⟨_, rfl⟩
 obtain ⟨l, hl⟩ : ∃ l, l = os.map vw := ⟨_, rfl⟩
 rw [<- hl] at hr hs ⊢
 rw [<- hM] at hv hm ⊢
 have hll : l.length = m := by rw [hl, List.length_map, hM]
 have HV : Hid _ := And.intro hv (And.intro hV (And.intro hl (And.intro hll (And.intro hr (And.intro hs hM)))))
 have hmk := makeS2 m (by omega)
 have hmi := makeI (n + 1) (by omega)
 have hwr : IntKind.i64.wrap ((n : Int) + 1) = (n : Int) + 1 := by rw [IntKind.wrap_i64]; omega
 have hcast : (((n + 1 : Nat)) : Int) = (n : Int) + 1 := by omega
 rw [hcast] at hmi
 clear hv hV hl hll hr hs hM hcast
 go_enter Tryz.func132, Tryz.ntmps132
 go_upto_region 1 with fail
 go_cut [7] (fun s7 wx => ∃ bt bs bb, s7 = .pointer (some ⟨bt, 0, none⟩) /\ TbAt w wx bt bs bb m (n + 1) ((l.take 0).map stp ++ List.replicate (m - 0) (0, 0)) (Sy.bndL n (l.take 0)))
 case first =>
  go_region
  all_goals go_wp2_with fail
  all_goals (go_meet; case rel => first | exact ⟨_, _, _, rfl, tb_start (al1 w _ _ _ _) (by omega) (al0 w _ _ _ _) (al_b w _ _ _ _) (al2 w _ _ _ _) (by omega) (al3 w _ _ _ _) (by omega) l⟩ | exact ⟨_, _, _, rfl, tb_start (al1 w _ _ _ _) (by omega) (al0 w _ _ _ _) (al_b w _ _ _ _) (al3 w _ _ _ _) (by omega) (al2 w _ _ _ _) (by omega) l⟩ | exact ⟨_, _, _, rfl, tb_start (al2 w _ _ _ _) (by omega) (al0 w _ _ _ _) (al_b w _ _ _ _) (al1 w _ _ _ _) (by omega) (al3 w _ _ _ _) (by omega) l⟩ | exact ⟨_, _, _, rfl, tb_start (al2 w _ _ _ _) (by omega) (al0 w _ _ _ _) (al_b w _ _ _ _) (al3 w _ _ _ _) (by omega) (al1 w _ _ _ _) (by omega) l⟩ | exact ⟨_, _, _, rfl, tb_start (al3 w _ _ _ _) (by omega) (al0 w _ _ _ _) (al_b w _ _ _ _) (al1 w _ _ _ _) (by omega) (al2 w _ _ _ _) (by omega) l⟩ | exact ⟨_, _, _, rfl, tb_start (al3 w _ _ _ _) (by omega) (al0 w _ _ _ _) (al_b w _ _ _ _) (al2 w _ _ _ _) (by omega) (al1 w _ _ _ _) (by omega) l⟩)
 case rest =>
  obtain ⟨bt, bs, bb, rfl, hT⟩ := hcut
  have HT : Hid _ := hT
  clear hT hmk hmi
  go_wp2_with fail
  go_loopg [22] m (fun q iv wr => ∃ i : Nat, q = m - i /\ i <= m /\ iv = .int .i64 i /\ TbAt w wr bt bs bb m (n + 1) ((l.take i).map stp ++ List.replicate (m - i) (0, 0)) (Sy.bndL n (l.take i)))
  case atStart => exact ⟨0, rfl, Nat.zero_le _, rfl, HT.out⟩
  case round =>
   obtain ⟨i, rfl, hi, rfl, hTi⟩ := hrel
   by_cases hlt : i < m
   ·obtain ⟨e, hx⟩ : ∃ e, os[i]? = some e := ⟨os[i]'(by have := HV.out.2.2.2.2.2.2; omega), List.getElem?_eq_getElem _⟩
    have hlx : l[i]? = some (vw e) := by rw [HV.out.2.2.1, List.getElem?_map, hx]; rfl
    obtain ⟨a, rfl, z0, z1, z2⟩ := edge_at (HV.out.1.below hTi.steps.bl) hx
    have q0 : (0 : Int) <= (i : Int) := by omega
    have q1 : (i : Int) < (m : Int) := by omega
    obtain ⟨hr1, hr2⟩ := HV.out.2.2.2.2.1 (vw e) (List.mem_of_getElem? hlx)
    obtain ⟨q, hq⟩ : ∃ q : Nat, (vw e).1 = (q : Int) := ⟨(vw e).1.toNat, by omega⟩
    have hqn : q < n := by omega
    have hvw := HV.out.2.1 e
    obtain ⟨e0, e1, e2⟩ := e
    obtain ⟨p, hp⟩ : ∃ p, p = vw (e0, e1, e2) := ⟨_, rfl⟩
    rw [<- hp] at hvw hlx hq
    obtain ⟨p0, p1, p2⟩ := p
    simp only at hq hvw z0 z1 z2
    subst hq
    unfold edV at hvw
    have HI : Hid _ := And.intro hTi (And.intro hlx hvw)
    clear hTi hlx hx hvw hp hr1 hr2
    go_wp2_with fail
    refine Calls.mono (HI.out.2.2 _) ?_
    rintro r w2 ⟨rfl, hb2⟩
    obtain ⟨w3, hw3⟩ : ∃ w3, w3 = w2.alloc (.cells #[.int .i64 p1, .int .i64 p2] 126) := ⟨_, rfl⟩
    have hb3 : Below wr.heap.size wr w3 := by
     rw [hw3]
     exact (((Below.refl _ wr).alloc (Nat.le_refl _) _).trans (hb2.mono (by simp))).alloc (by have := hb2.size; simp at this; omega) _
    have hg3 : w3.heap[w2.heap.size]? = some (.cells #[.int .i64 p1, .int .i64 p2] 126 (0, 0)) := by rw [hw3]; exact heap_alloc_new w2 _
    have hT3 := HI.out.1.below hb3
    obtain ⟨c0, c1⟩ := hT3.cells
    have s0 : w3.cell? ⟨w2.heap.size, 0, none⟩ = some (.int .i64 p1) := cell0_of hg3 rfl
    have s1 : w3.cell? ⟨w2.heap.size, 1, none⟩ = some (.int .i64 p2) := cell0_of hg3 rfl
    have f0 := hT3.steps.free (i * 2)
    have f1 := hT3.steps.free (i * 2 + 1)
    have f2 := hT3.nums.free (q + 1)
    have hn1 : ¬ bt = bs := arr_bk hT3.steps hT3.box (by decide)
    have hn2 : ¬ bb = bs := fun h => arr_ne hT3.steps hT3.nums (by decide) h.symm
    obtain ⟨o0, ho0⟩ : ∃ o, ((l.take i).map stp ++ List.replicate (m - i) (0, 0))[i]? = some o := ⟨_, List.getElem?_eq_getElem (by rw [hT3.ls]; exact hlt)⟩
    have d0 : w3.cell? ⟨bs, i * 2, none⟩ = some (.int .i64 o0.1) := hT3.steps.cell ((BSteps.C_at _ i o0 ho0 0 (by decide)).trans rfl)
    have d1 : w3.cell? ⟨bs, i * 2 + 1, none⟩ = some (.int .i64 o0.2) := hT3.steps.cell ((BSteps.C_at _ i o0 ho0 1 (by decide)).trans rfl)
    obtain ⟨o1, ho1⟩ : ∃ o, (Sy.bndL n (l.take i))[q + 1]? = some o := ⟨_, List.getElem?_eq_getElem (by rw [hT3.ln]; omega)⟩
    have d2 := hT3.nums.cell (i := q + 1) (x := .int .i64 o1) (by unfold iC; rw [List.getElem?_map, ho1]; rfl)
    have r0 : (0 : Int) <= (q : Int) + 1 := by omega
    have r1 : (q : Int) + 1 < (n : Int) + 1 := by omega
    have r2 : ((q : Int) + 1).toNat = q + 1 := by omega
    have r3 : IntKind.i64.wrap ((q : Int) + 1) = (q : Int) + 1 := by rw [IntKind.wrap_i64]; omega
    have r4 : IntKind.i64.wrap ((i : Int) + 1) = (i : Int) + 1 := by rw [IntKind.wrap_i64]; omega
    have H3 : Hid _ := And.intro hT3 hw3
    clear hb2 hb3 hg3 hT3 hw3 ho0 ho1
    go_upto_region 6 with fail
    rw [<- H3.out.2]
    go_wp2_with fail
    go_roundg (m - (i + 1))
    case measure => omega
    case rel =>
     have h9 := (H3.out.1.step hlt (p1, p2)).num (q + 1) ((i : Int) + 1)
     rw [show (p1, p2) = stp ((q : Int), p1, p2) from rfl, step_done HI.out.2.1 HV.out.2.2.2.1, Sy.bnd_step HI.out.2.1 rfl] at h9
     exact ⟨i + 1, rfl, by omega, by go_num, h9⟩
   ·obtain rfl : i = m := by omega
    have hTm : TbAt w wr bt bs bb i (n + 1) (l.map stp) (Sy.mixL n l 0) := by
     have h9 := hTi
     have hli := HV.out.2.2.2.1
     rw [Nat.sub_self, List.replicate_zero, List.append_nil, List.take_of_length_le (by omega)] at h9
     rw [Sy.mix_zero fun e he => (HV.out.2.2.2.2.1 e he).1]
     exact h9
    have HTm : Hid _ := hTm
    clear hTi hTm
    have q1 : ¬ (i : Int) < (i : Int) := by omega
    go_wp2_with fail
    go_loopg [47] n (fun q iv wr => ∃ st : Nat, q = n - st /\ st <= n /\ iv = .int .i64 st /\ TbAt w wr bt bs bb i (n + 1) (l.map stp) (Sy.mixL n l st))
    case atStart => exact ⟨0, rfl, Nat.zero_le _, rfl, HTm.out⟩
    case round =>
     obtain ⟨st, rfl, hst, rfl, hTs⟩ := hrel
     by_cases hlt2 : st < n
     ·obtain ⟨c0, c1⟩ := hTs.cells
      have x1 := hTs.nums.cell (i := st + 1) (x := .int .i64 (Sy.lastOf l (st : Int) : Nat)) (by
       unfold iC
       rw [List.getElem?_map, Sy.mix_at (by omega), if_neg (by omega), show ((st + 1 : Nat) : Int) - 1 = (st : Int) by omega]
       rfl)
      have x0 := hTs.nums.cell (i := st) (x := .int .i64 (Sy.cnt l (st : Int) : Nat)) (by
       unfold iC
       rw [List.getElem?_map, Sy.mix_at (by omega), if_pos (Nat.le_refl _)]
       rfl)
      have f1 := hTs.nums.free (st + 1)
      have hms := Sy.mix_step (n := n) (st := st) HV.out.2.2.2.2.2.1
      obtain ⟨A, hA⟩ : ∃ A, A = Sy.lastOf l (st : Int) := ⟨_, rfl⟩
      obtain ⟨B, hB⟩ : ∃ B, B = Sy.cnt l (st : Int) := ⟨_, rfl⟩
      rw [<- hA, <- hB] at hms
      rw [<- hA] at x1
      rw [<- hB] at x0
      have r0 : (0 : Int) <= (st : Int) + 1 := by omega
      have r1 : (st : Int) + 1 < (n : Int) + 1 := by omega
      have r2 : ((st : Int) + 1).toNat = st + 1 := by omega
      have r3 : IntKind.i64.wrap ((st : Int) + 1) = (st : Int) + 1 := by rw [IntKind.wrap_i64]; omega
      have r5 : (0 : Int) <= (st : Int) := by omega
      have r6 : (st : Int) < (n : Int) + 1 := by omega
      have r7 : (st : Int) < (n : Int) := by omega
      have HS : Hid _ := And.intro hTs hms
      clear hTs hms hA hB c0
      go_wp2_with fail
      go_region
      all_goals go_wp2_with fail
      go_roundg (n - (st + 1))
      case measure => omega
      case rel =>
       refine ⟨st + 1, rfl, by omega, by go_num, ?_⟩
       have h9 := (HS.out.1.num (st + 1) ((max A B : Nat) : Int)).below (Below.refl _ _).drew
       rw [HS.out.2] at h9
       have e9 : max (A : Int) (B : Int) = ((max A B : Nat) : Int) := by omega
       rw [e9]
       exact h9
     ·obtain rfl : st = n := by omega
      obtain ⟨c0, c1⟩ := hTs.cells
      have d0 : wr.cell? ⟨w.heap.size, 0, none⟩ = some (.slice none 0 0) := cell0_of hTs.res rfl
      have d1 : wr.cell? ⟨w.heap.size, 1, none⟩ = some (.slice none 0 0) := cell0_of hTs.res rfl
      have f0 := blk_free hTs.res 0
      have f1 := blk_free hTs.res 1
      have HS : Hid _ := hTs
      clear hTs
      have r7 : ¬ (st : Int) < (st : Int) := by omega
      go_wp2_with fail
      have hres := HS.out.res
      have g1 : ((wr.setCell ⟨w.heap.size, 0, none⟩ (.slice (some ⟨bs, 0, none⟩) i i)).setCell ⟨w.heap.size, 1, none⟩ (.slice (some ⟨bb, 0, none⟩) (st + 1) (st + 1))).heap[w.heap.size]? = some (.cells #[.slice (some ⟨bs, 0, none⟩) i i, .slice (some ⟨bb, 0, none⟩) (st + 1) (st + 1)] 190 (0, 0)) := heap_setCell_same _ _ 1 _ _ _ (heap_setCell_same _ _ 0 _ _ _ hres)
      have k1 := Kept.setCell wr w.heap.size 0 (.slice (some ⟨bs, 0, none⟩) i i)
      have k2 := Kept.setCell (wr.setCell ⟨w.heap.size, 0, none⟩ (.slice (some ⟨bs, 0, none⟩) i i)) w.heap.size 1 (.slice (some ⟨bb, 0, none⟩) (st + 1) (st + 1))
      have n1 := arr_bk HS.out.steps hres (by decide)
      have n2 := arr_bk HS.out.nums hres (by decide)
      have hs9 := (HS.out.steps.kept k1 fun b e => by subst e; exact ⟨Nat.le_refl _, n1⟩).kept k2 fun b e => by subst e; exact ⟨Nat.le_refl _, n1⟩
      have hn9 := (HS.out.nums.kept k1 fun b e => by subst e; exact ⟨Nat.le_refl _, n2⟩).kept k2 fun b e => by subst e; exact ⟨Nat.le_refl _, n2⟩
      rw [Sy.mix_full] at hn9
      generalize ((wr.setCell ⟨w.heap.size, 0, none⟩ (.slice (some ⟨bs, 0, none⟩) i i)).setCell ⟨w.heap.size, 1, none⟩ (.slice (some ⟨bb, 0, none⟩) (st + 1) (st + 1))) = wf at g1 hs9 hn9 ⊢
      have y0 : wf.cell? ⟨w.heap.size, 0, none⟩ = some (.slice (some ⟨bs, 0, none⟩) i i) := cell0_of g1 rfl
      have y1 : wf.cell? ⟨w.heap.size, 1, none⟩ = some (.slice (some ⟨bb, 0, none⟩) (st + 1) (st + 1)) := cell0_of g1 rfl
      clear c0 c1 d0 d1 f0 f1
      exact bodyPost_ret (v := .agg #[.slice (some ⟨bs, 0, none⟩) i i, .slice (some ⟨bb, 0, none⟩) (st + 1) (st + 1)]) (by simp [results, Tryz.results132, go_sem, y0, y1]) rfl ⟨bs, bb, rfl, hs9, hn9⟩
end
section
open Go.RowKit Go.Maps
attribute [local go_sem ↓] Go.wp_at_zero Go.wp_at_succ
def Blk (ty : TypeId) (B : Nat) (w : World) (g : Nat) (vs : List Value) : Prop := (∃ cs, w.heap[g]? = some (.cells cs ty (0, 0)) /\ cs.toList = vs) /\ B <= g
theorem Blk.of_arr {ty : TypeId} {w wr : World} {g : Nat} {vs : List Value} (h : Arr ty w wr g vs) : Blk ty w.heap.size wr g vs := ⟨h.ids, h.gu⟩
theorem Blk.lt {ty : TypeId} {B : Nat} {w : World} {g : Nat} {vs : List Value} (h : Blk ty B w g vs) : g < w.heap.size := by
 obtain ⟨⟨cs, hc, _⟩, _⟩ := h
 exact t_lt hc
theorem Blk.at {ty : TypeId} {B : Nat} {w w' : World} {g : Nat} {vs : List Value} (h : Blk ty B w g vs) (hb : w'.heap[g]? = w.heap[g]?) : Blk ty B w' g vs := by
 obtain ⟨⟨cs, hc, hx⟩, hg⟩ := h
 exact ⟨⟨cs, hb.trans hc, hx⟩, hg⟩
theorem Blk.below {ty : TypeId} {B : Nat} {w w' : World} {g : Nat} {vs : List Value} (h : Blk ty B w g vs) (hb : Below w.heap.size w w') : Blk ty B w' g vs := h.at (hb.block _ h.lt)
theorem Blk.cell {ty : TypeId} {B : Nat} {w : World} {g : Nat} {vs : List Value} (h : Blk ty B w g vs) {i : Nat} {x : Value} (hi : vs[i]? = some x) : w.cell? ⟨g, i, none⟩ = some x := by
 obtain ⟨⟨cs, hc, hx⟩, _⟩ := h
 refine cell0_of hc ?_
 rw [<- Array.getElem?_toList, hx]
 exact hi
theorem Blk.base {ty : TypeId} {B B' : Nat} {w : World} {g : Nat} {vs : List Value} (h : Blk ty B w g vs) (hb : B' <= B) : Blk ty B' w g vs := ⟨h.1, Nat.le_trans hb h.2⟩
def tabV (bs bb m n : Nat) : Value := .agg #[.slice (some ⟨bs, 0, none⟩) m m, .slice (some ⟨bb, 0, none⟩) (n + 1) (n + 1)]
structure Tb (w : World) (B bs bb n : Nat) (l : List Sy.Ed) : Prop where
 steps : Blk 126 B w bs (BSteps.C (l.map stp))
 nums : Blk 3 B w bb (iC (Sy.bounds n l))
theorem Tb.below {w w' : World} {B bs bb n : Nat} {l : List Sy.Ed} (h : Tb w B bs bb n l) (hb : Below w.heap.size w w') : Tb w' B bs bb n l := ⟨h.steps.below hb, h.nums.below hb⟩
def Sy.rowOf (n : Nat) (l : List Sy.Ed) (i : Int) : List BSteps.El := if 0 <= i /\ i < (n : Int) then Sy.steps l i else []
theorem map_stp (l : List Sy.Ed) (i : Int) (h : Sy.Rows l) : Sy.steps l i = ((l.map stp).drop (Sy.cnt l i)).take (Sy.cnt l (i + 1) - Sy.cnt l i) := by
 unfold Sy.steps
 rw [Sy.row_piece h i, List.map_take, List.map_drop]
 rfl
theorem rowOf_len (n : Nat) (l : List Sy.Ed) (i : Int) : (Sy.rowOf n l i).length <= l.length := by
 unfold Sy.rowOf
 split
 ·exact Sy.steps_len l i
 ·simp
theorem hasS_nil (w : World) (c : Nat) : BSteps.Has w (.slice none 0 c) [] := ⟨none, c, rfl, fun j u h => by simp [BSteps.C] at h⟩
theorem hasS_none (w : World) (a : Option Addr) (c : Nat) : BSteps.Has w (.slice a 0 c) [] := ⟨a, c, rfl, fun j u h => by simp [BSteps.C] at h⟩
theorem piece_has {w : World} {B bs : Nat} {zs : List BSteps.El} (h : Blk 126 B w bs (BSteps.C zs)) (i k c : Nat) (hk : i + k <= zs.length) : BSteps.Has w (.slice (some ⟨bs, i * 2, none⟩) k c) ((zs.drop i).take k) := by
 have hl : ((zs.drop i).take k).length = k := by rw [List.length_take, List.length_drop]; omega
 refine ⟨some ⟨bs, i * 2, none⟩, c, by rw [hl], fun j u hj => ⟨_, rfl, ?_⟩⟩
 have hj2 : j < k * 2 := by have := (List.getElem?_eq_some_iff.1 hj).1; rw [BSteps.C_len, hl] at this; exact this
 obtain ⟨z, hz⟩ : ∃ z, ((zs.drop i).take k)[j / 2]? = some z := ⟨_, List.getElem?_eq_getElem (by rw [hl]; omega)⟩
 have h1 := BSteps.C_at _ (j / 2) z hz (j % 2) (Nat.mod_lt _ (by decide))
 rw [show j / 2 * 2 + j % 2 = j by omega, hj] at h1
 have hz2 : zs[i + j / 2]? = some z := by
  rw [List.getElem?_take_of_lt (by omega), List.getElem?_drop] at hz
  exact hz
 have h2 := BSteps.C_at _ (i + j / 2) z hz2 (j % 2) (Nat.mod_lt _ (by decide))
 rw [<- h1] at h2
 have h3 := h.cell h2
 rw [show (i + j / 2) * 2 + j % 2 = i * 2 + j by omega] at h3
 rw [Addr.add_lit]
 exact h3
set_option maxRecDepth 100000 in
set_option maxHeartbeats 4000000 in
theorem row_any (bs bb m n B : Nat) (l : List Sy.Ed) (i : Int) (w : World) (hn : n <= 100000) (hl : l.length = m) (hs : Sy.Rows l) (hT : Tb w B bs bb n l) :
 Calls Tryz.prog 160 #[tabV bs bb m n, .int .i64 i] w fun r w' => ∃ v, r = .returned v /\ (∀ W, Tb W B bs bb n l -> BSteps.Has W v (Sy.rowOf n l i)) /\ Below w.heap.size w w' := by
 obtain ⟨w1, hw1⟩ : ∃ w1, w1 = w.alloc (.cells #[.slice (some ⟨bs, 0, none⟩) m m, .slice (some ⟨bb, 0, none⟩) (n + 1) (n + 1)] 190) := ⟨_, rfl⟩
 have hb1 : Below w.heap.size w w1 := by rw [hw1]; exact (Below.refl _ _).alloc (Nat.le_refl _) _
 have hg1 : w1.heap[w.heap.size]? = some (.cells #[.slice (some ⟨bs, 0, none⟩) m m, .slice (some ⟨bb, 0, none⟩) (n + 1) (n + 1)] 190 (0, 0)) := by rw [hw1]; exact heap_alloc_new w _
 have hT1 := hT.below hb1
 have hB := fun W => below_any i (n : Int) W
 have HB : Hid _ := hB
 have r0 : IntKind.i64.wrap ((n : Int) + 1 - 1) = (n : Int) := by rw [IntKind.wrap_i64]; omega
 unfold tabV Sy.rowOf
 by_cases hi : 0 <= i /\ i < (n : Int)
 ·rw [if_pos hi]
  rw [decide_eq_true hi] at HB
  obtain ⟨q, rfl⟩ : ∃ q : Nat, i = (q : Int) := ⟨i.toNat, by omega⟩
  have hqn : q < n := by omega
  have c0 : w1.cell? ⟨w.heap.size, 0, none⟩ = some (.slice (some ⟨bs, 0, none⟩) m m) := cell0_of hg1 rfl
  have c1 : w1.cell? ⟨w.heap.size, 1, none⟩ = some (.slice (some ⟨bb, 0, none⟩) (n + 1) (n + 1)) := cell0_of hg1 rfl
  have x0 := hT1.nums.cell (i := q) (x := .int .i64 (Sy.cnt l (q : Int) : Nat)) (by unfold iC; rw [List.getElem?_map, Sy.bounds_at (by omega)]; rfl)
  have x1 := hT1.nums.cell (i := q + 1) (x := .int .i64 (Sy.cnt l ((q : Int) + 1) : Nat)) (by unfold iC; rw [List.getElem?_map, Sy.bounds_at (by omega)]; rfl)
  have hle := Sy.cnt_mono l (q : Int)
  have hlm := Sy.cnt_le l ((q : Int) + 1)
  have hpc : ∀ W, Tb W B bs bb n l -> BSteps.Has W (.slice (some ⟨bs, Sy.cnt l (q : Int) * 2, none⟩) (Sy.cnt l ((q : Int) + 1) - Sy.cnt l (q : Int)) (Sy.cnt l ((q : Int) + 1) - Sy.cnt l (q : Int))) (Sy.steps l q) := fun W hW => by
   rw [map_stp l q hs]
   exact piece_has hW.steps (Sy.cnt l (q : Int)) (Sy.cnt l ((q : Int) + 1) - Sy.cnt l (q : Int)) (Sy.cnt l ((q : Int) + 1) - Sy.cnt l (q : Int)) (by rw [List.length_map]; omega)
  have hz : Sy.cnt l ((q : Int) + 1) - Sy.cnt l (q : Int) = 0 -> Sy.steps l q = [] := fun e => by rw [map_stp l q hs, e]; simp
  generalize Sy.cnt l (q : Int) = b at x0 hle hpc hz
  generalize Sy.cnt l ((q : Int) + 1) = e at x1 hle hlm hpc hz
  have r1 : (0 : Int) <= (q : Int) := by omega
  have r2 : (q : Int) < (n : Int) + 1 := by omega
  have r3 : (0 : Int) <= (q : Int) + 1 := by omega
  have r4 : (q : Int) + 1 < (n : Int) + 1 := by omega
  have r5 : ((q : Int) + 1).toNat = q + 1 := by omega
  have r6 : IntKind.i64.wrap ((q : Int) + 1) = (q : Int) + 1 := by rw [IntKind.wrap_i64]; omega
  have r7 : (0 : Int) <= (b : Int) := by omega
  have r8 : (b : Int) <= (e : Int) := by omega
  have r9 : (e : Int) <= (m : Int) := by omega
  have H1 : Hid _ := And.intro hw1 (And.intro hb1 (And.intro hpc hz))
  clear hw1 hb1 hg1 hT1 hT hB hpc hz hs hl hi
  go_enter Tryz.func160, Tryz.ntmps160
  go_upto_region 1 with fail
  rw [<- H1.out.1]
  go_wp2_with (go_at_call 129; refine (HB.out _).mono ?_; rintro r w2 ⟨rfl, hw2⟩; obtain rfl := hw2.symm)
  go_quiet (fail)
  go_wp2_with fail
  ·go_ret
   refine ⟨_, rfl, fun W _ => ?_, below_drewN H1.out.2.1 _⟩
   rw [H1.out.2.2.2 (by omega)]
   exact hasS_none _ _ _
  ·go_ret
   exact ⟨_, rfl, H1.out.2.2.1, below_drewN H1.out.2.1 _⟩
 ·rw [if_neg hi]
  rw [decide_eq_false hi] at HB
  have c1 : w1.cell? ⟨w.heap.size, 1, none⟩ = some (.slice (some ⟨bb, 0, none⟩) (n + 1) (n + 1)) := cell0_of hg1 rfl
  have H1 : Hid _ := And.intro hw1 hb1
  clear hw1 hb1 hg1 hT1 hT hB hs hl hi
  go_enter Tryz.func160, Tryz.ntmps160
  go_upto_region 1 with fail
  rw [<- H1.out.1]
  go_wp2_with (go_at_call 129; refine (HB.out _).mono ?_; rintro r w2 ⟨rfl, hw2⟩; obtain rfl := hw2.symm)
  go_ret
  exact ⟨_, rfl, fun W _ => hasS_nil _ _, H1.out.2⟩
structure Gr (w : World) (B g bs bb cs cb n : Nat) (k s : Int) (es : List Sy.Ed) : Prop where
 box : w.heap[g]? = some (.cells #[.int .i64 n, .int .i64 k, .int .i64 s, .slice (some ⟨bs, 0, none⟩) (Sy.nf es).length (Sy.nf es).length, .slice (some ⟨bb, 0, none⟩) (n + 1) (n + 1), .slice (some ⟨cs, 0, none⟩) (Sy.nf es).length (Sy.nf es).length, .slice (some ⟨cb, 0, none⟩) (n + 1) (n + 1)] 195 (0, 0))
 up : B <= g
 out : Tb w B bs bb n (Sy.nf es)
 inn : Tb w B cs cb n (Sy.nf ((Sy.nf es).map Sy.turn))
 right : Sy.right n k s es = true
theorem Gr.below {w w' : World} {B g bs bb cs cb n : Nat} {k s : Int} {es : List Sy.Ed} (h : Gr w B g bs bb cs cb n k s es) (hb : Below w.heap.size w w') : Gr w' B g bs bb cs cb n k s es :=
 ⟨(hb.block _ (t_lt h.box)).trans h.box, h.up, h.out.below hb, h.inn.below hb, h.right⟩
theorem right_parts {n k s : Int} {es : List Sy.Ed} (h : Sy.right n k s es = true) : (0 <= n /\ n <= 1000) /\ (1 <= k /\ k <= 201) /\ es.length <= 10000 /\ (n = 0 -> s = 0) /\ (0 < n -> 0 <= s /\ s < n) /\ ∀ e ∈ es, 0 <= e.1 /\ e.1 < n /\ 0 <= e.2.2 /\ e.2.2 < n /\ 0 <= e.2.1 /\ e.2.1 < k := by
 unfold Sy.right at h
 simp only [Bool.and_eq_true, decide_eq_true_eq, List.all_eq_true] at h
 obtain ⟨⟨h1, h2⟩, h3⟩ := h
 exact ⟨⟨h1.1, h1.2.1⟩, ⟨h1.2.2.1, h1.2.2.2.1⟩, h1.2.2.2.2, h2.1, h2.2, h3⟩
theorem str_rows {l : List Sy.Ed} (h : Sy.Str l) : Sy.Rows l := by
 induction l with
 | nil => exact .nil
 | cons a r ih =>
   refine List.pairwise_cons.2 ⟨fun b hb => ?_, ih h.tail⟩
   have h1 := h.head b hb
   rw [Sy.lt_iff] at h1
   omega
theorem nf_rows (l : List Sy.Ed) : Sy.Rows (Sy.nf l) := str_rows (Sy.nf_str l)
theorem turn_turn (e : Sy.Ed) : Sy.turn (Sy.turn e) = e := rfl
theorem nf_turn_len (l : List Sy.Ed) : (Sy.nf ((Sy.nf l).map Sy.turn)).length = (Sy.nf l).length := by
 apply Nat.le_antisymm
 ·have h := Sy.nf_len ((Sy.nf l).map Sy.turn)
  rw [List.length_map] at h
  exact h
 ·have h := Sy.str_len (m := Sy.nf l) (l := (Sy.nf ((Sy.nf l).map Sy.turn)).map Sy.turn) (Sy.nf_str l) (fun x hx => by
   refine List.mem_map.2 ⟨Sy.turn x, ?_, turn_turn x⟩
   rw [Sy.nf_mem]
   exact List.mem_map.2 ⟨x, hx, rfl⟩)
  rw [List.length_map] at h
  exact h
theorem Gr.sizes {w : World} {B g bs bb cs cb n : Nat} {k s : Int} {es : List Sy.Ed} (h : Gr w B g bs bb cs cb n k s es) : n <= 1000 /\ (Sy.nf es).length <= 10000 := by
 obtain ⟨⟨_, h1⟩, _, h2, _⟩ := right_parts h.right
 have := Sy.nf_len es
 exact ⟨by omega, by omega⟩
theorem Gr.cells {w : World} {B g bs bb cs cb n : Nat} {k s : Int} {es : List Sy.Ed} (h : Gr w B g bs bb cs cb n k s es) :
 w.cell? ⟨g, 0, none⟩ = some (.int .i64 n) /\ w.cell? ⟨g, 1, none⟩ = some (.int .i64 k) /\ w.cell? ⟨g, 2, none⟩ = some (.int .i64 s) /\ (w.cell? ⟨g, 3, none⟩ = some (.slice (some ⟨bs, 0, none⟩) (Sy.nf es).length (Sy.nf es).length) /\ w.cell? ⟨g, 4, none⟩ = some (.slice (some ⟨bb, 0, none⟩) (n + 1) (n + 1))) /\ w.cell? ⟨g, 5, none⟩ = some (.slice (some ⟨cs, 0, none⟩) (Sy.nf es).length (Sy.nf es).length) /\ w.cell? ⟨g, 6, none⟩ = some (.slice (some ⟨cb, 0, none⟩) (n + 1) (n + 1)) :=
 ⟨cell0_of h.box rfl, cell0_of h.box rfl, cell0_of h.box rfl, ⟨cell0_of h.box rfl, cell0_of h.box rfl⟩, cell0_of h.box rfl, cell0_of h.box rfl⟩
theorem Tryz.eqG (g : Nat) (w : World) : (binOp BinOp.eql 127 (.pointer (some ⟨g, 0, none⟩)) (.pointer none)).run Tryz.prog w = .ok (.bool false) w := by kernel_rfl
theorem Gr.row {w : World} {B g bs bb cs cb n : Nat} {k s : Int} {es : List Sy.Ed} (h : Gr w B g bs bb cs cb n k s es) (i : Int) : Calls Tryz.prog 160 #[.agg #[.slice (some ⟨bs, 0, none⟩) (Sy.nf es).length (Sy.nf es).length, .slice (some ⟨bb, 0, none⟩) (n + 1) (n + 1)], .int .i64 i] w fun r w' => ∃ v, r = .returned v /\ (∀ W, Tb W B bs bb n (Sy.nf es) -> BSteps.Has W v (Sy.rowOf n (Sy.nf es) i)) /\ Below w.heap.size w w' := by
 obtain ⟨h1, h2⟩ := h.sizes
 exact row_any bs bb (Sy.nf es).length n B (Sy.nf es) i w (by omega) rfl (nf_rows _) h.out
theorem Gr.rowIn {w : World} {B g bs bb cs cb n : Nat} {k s : Int} {es : List Sy.Ed} (h : Gr w B g bs bb cs cb n k s es) (i : Int) : Calls Tryz.prog 160 #[.agg #[.slice (some ⟨cs, 0, none⟩) (Sy.nf es).length (Sy.nf es).length, .slice (some ⟨cb, 0, none⟩) (n + 1) (n + 1)], .int .i64 i] w fun r w' => ∃ v, r = .returned v /\ (∀ W, Tb W B cs cb n (Sy.nf ((Sy.nf es).map Sy.turn)) -> BSteps.Has W v (Sy.rowOf n (Sy.nf ((Sy.nf es).map Sy.turn)) i)) /\ Below w.heap.size w w' := by
 obtain ⟨h1, h2⟩ := h.sizes
 exact row_any cs cb (Sy.nf es).length n B (Sy.nf ((Sy.nf es).map Sy.turn)) i w (by omega) (nf_turn_len es) (nf_rows _) h.inn
set_option maxRecDepth 100000 in
theorem states_any {B g bs bb cs cb n : Nat} {k s : Int} {es : List Sy.Ed} (w : World) (h : Gr w B g bs bb cs cb n k s es) : Calls Tryz.prog 136 #[.pointer (some ⟨g, 0, none⟩)] w fun r w' => r = .returned (.int .i64 n) /\ w' = w := by
 obtain ⟨c0, _, _, _, _, _⟩ := h.cells
 have hq := Tryz.eqG g
 clear h
 go_enter Tryz.func136, Tryz.ntmps136
 go_wp2
 go_ret
 exact ⟨rfl, rfl⟩
set_option maxRecDepth 100000 in
set_option maxHeartbeats 1000000 in
theorem in_any {B g bs bb cs cb n : Nat} {k s : Int} {es : List Sy.Ed} (i : Int) (w : World) (h : Gr w B g bs bb cs cb n k s es) : Calls Tryz.prog 161 #[.pointer (some ⟨g, 0, none⟩), .int .i64 i] w fun r w' => ∃ u, r = .returned u /\ BSteps.Own w' w.heap.size u (Sy.rowOf n (Sy.nf ((Sy.nf es).map Sy.turn)) i) /\ Below w.heap.size w w' := by
 obtain ⟨_, _, _, _, c0, c1⟩ := h.cells
 have hq := Tryz.eqG g
 have hR := h.rowIn i
 have hTb := h.inn
 have hl := rowOf_len n (Sy.nf ((Sy.nf es).map Sy.turn)) i
 have hs := h.sizes
 have hs2 := nf_turn_len es
 have HR : Hid _ := And.intro hR (And.intro hl (And.intro hs (And.intro hs2 hTb)))
 obtain ⟨L, hL⟩ : ∃ L, L = (Sy.nf es).length := ⟨_, rfl⟩
 rw [<- hL] at c0 HR
 clear h hR hL hl hs hs2 hTb
 go_enter Tryz.func161, Tryz.ntmps161
 go_wp2_with fail
 refine Calls.mono HR.out.1 ?_
 rintro r w1 ⟨v, rfl, hvW, hb⟩
 have hv := hvW w1 (HR.out.2.2.2.2.below hb)
 clear hvW
 have hC := cloneSteps_any v _ w1 (by have := HR.out.2; omega) hv
 have HC : Hid _ := And.intro hC hb
 obtain ⟨av, cv, rfl, _⟩ := hv
 clear hC hb
 go_wp2_with fail
 refine Calls.mono HC.out.1 ?_
 rintro r w2 ⟨u, rfl, hO, hb2⟩
 have H2 : Hid _ := And.intro hO hb2
 obtain ⟨au, cu, rfl⟩ := row_shape hO
 clear hO hb2
 go_wp2_with fail
 go_ret
 exact ⟨_, rfl, row_base H2.out.1 HC.out.2.size, HC.out.2.trans (H2.out.2.mono HC.out.2.size)⟩
end
section
open Go.RowKit Go.Maps
attribute [local go_sem ↓] Go.wp_at_zero Go.wp_at_succ
set_option maxRecDepth 100000 in
set_option maxHeartbeats 4000000 in
theorem row2_any (bs bb m n B : Nat) (l : List Sy.Ed) (i : Int) (w : World) (hn : n <= 100000) (hl : l.length = m) (hs : Sy.Rows l) (hT : Tb w B bs bb n l) :
 Calls Tryz.prog 160 #[tabV bs bb m n, .int .i64 i] w fun r w' => ∃ v, r = .returned v /\ (∀ W, Tb W B bs bb n l -> BSteps.Has W v (Sy.rowOf n l i)) /\ (∃ a k c, v = .slice a k c /\ k <= c) /\ Below w.heap.size w w' := by
 obtain ⟨w1, hw1⟩ : ∃ w1, w1 = w.alloc (.cells #[.slice (some ⟨bs, 0, none⟩) m m, .slice (some ⟨bb, 0, none⟩) (n + 1) (n + 1)] 190) := ⟨_, rfl⟩
 have hb1 : Below w.heap.size w w1 := by rw [hw1]; exact (Below.refl _ _).alloc (Nat.le_refl _) _
 have hg1 : w1.heap[w.heap.size]? = some (.cells #[.slice (some ⟨bs, 0, none⟩) m m, .slice (some ⟨bb, 0, none⟩) (n + 1) (n + 1)] 190 (0, 0)) := by rw [hw1]; exact heap_alloc_new w _
 have hT1 := hT.below hb1
 have hB := fun W => below_any i (n : Int) W
 have HB : Hid _ := hB
 have r0 : IntKind.i64.wrap ((n : Int) + 1 - 1) = (n : Int) := by rw [IntKind.wrap_i64]; omega
 unfold tabV Sy.rowOf
 by_cases hi : 0 <= i /\ i < (n : Int)
 ·rw [if_pos hi]
  rw [decide_eq_true hi] at HB
  obtain ⟨q, rfl⟩ : ∃ q : Nat, i = (q : Int) := ⟨i.toNat, by omega⟩
  have hqn : q < n := by omega
  have c0 : w1.cell? ⟨w.heap.size, 0, none⟩ = some (.slice (some ⟨bs, 0, none⟩) m m) := cell0_of hg1 rfl
  have c1 : w1.cell? ⟨w.heap.size, 1, none⟩ = some (.slice (some ⟨bb, 0, none⟩) (n + 1) (n + 1)) := cell0_of hg1 rfl
  have x0 := hT1.nums.cell (i := q) (x := .int .i64 (Sy.cnt l (q : Int) : Nat)) (by unfold iC; rw [List.getElem?_map, Sy.bounds_at (by omega)]; rfl)
  have x1 := hT1.nums.cell (i := q + 1) (x := .int .i64 (Sy.cnt l ((q : Int) + 1) : Nat)) (by unfold iC; rw [List.getElem?_map, Sy.bounds_at (by omega)]; rfl)
  have hle := Sy.cnt_mono l (q : Int)
  have hlm := Sy.cnt_le l ((q : Int) + 1)
  have hpc : ∀ W, Tb W B bs bb n l -> BSteps.Has W (.slice (some ⟨bs, Sy.cnt l (q : Int) * 2, none⟩) (Sy.cnt l ((q : Int) + 1) - Sy.cnt l (q : Int)) (Sy.cnt l ((q : Int) + 1) - Sy.cnt l (q : Int))) (Sy.steps l q) := fun W hW => by
   rw [map_stp l q hs]
   exact piece_has hW.steps (Sy.cnt l (q : Int)) (Sy.cnt l ((q : Int) + 1) - Sy.cnt l (q : Int)) (Sy.cnt l ((q : Int) + 1) - Sy.cnt l (q : Int)) (by rw [List.length_map]; omega)
  have hz : Sy.cnt l ((q : Int) + 1) - Sy.cnt l (q : Int) = 0 -> Sy.steps l q = [] := fun e => by rw [map_stp l q hs, e]; simp
  generalize Sy.cnt l (q : Int) = b at x0 hle hpc hz
  generalize Sy.cnt l ((q : Int) + 1) = e at x1 hle hlm hpc hz
  have r1 : (0 : Int) <= (q : Int) := by omega
  have r2 : (q : Int) < (n : Int) + 1 := by omega
  have r3 : (0 : Int) <= (q : Int) + 1 := by omega
  have r4 : (q : Int) + 1 < (n : Int) + 1 := by omega
  have r5 : ((q : Int) + 1).toNat = q + 1 := by omega
  have r6 : IntKind.i64.wrap ((q : Int) + 1) = (q : Int) + 1 := by rw [IntKind.wrap_i64]; omega
  have r7 : (0 : Int) <= (b : Int) := by omega
  have r8 : (b : Int) <= (e : Int) := by omega
  have r9 : (e : Int) <= (m : Int) := by omega
  have H1 : Hid _ := And.intro hw1 (And.intro hb1 (And.intro hpc hz))
  clear hw1 hb1 hg1 hT1 hT hB hpc hz hs hl hi
  go_enter Tryz.func160, Tryz.ntmps160
  go_upto_region 1 with fail
  rw [<- H1.out.1]
  go_wp2_with (go_at_call 129; refine (HB.out _).mono ?_; rintro r w2 ⟨rfl, hw2⟩; obtain rfl := hw2.symm)
  go_quiet (fail)
  go_wp2_with fail
  ·go_ret
   refine ⟨_, rfl, fun W _ => ?_, ⟨_, _, _, rfl, by omega⟩, below_drewN H1.out.2.1 _⟩
   rw [H1.out.2.2.2 (by omega)]
   exact hasS_none _ _ _
  ·go_ret
   exact ⟨_, rfl, H1.out.2.2.1, ⟨_, _, _, rfl, by omega⟩, below_drewN H1.out.2.1 _⟩
 ·rw [if_neg hi]
  rw [decide_eq_false hi] at HB
  have c1 : w1.cell? ⟨w.heap.size, 1, none⟩ = some (.slice (some ⟨bb, 0, none⟩) (n + 1) (n + 1)) := cell0_of hg1 rfl
  have H1 : Hid _ := And.intro hw1 hb1
  clear hw1 hb1 hg1 hT1 hT hB hs hl hi
  go_enter Tryz.func160, Tryz.ntmps160
  go_upto_region 1 with fail
  rw [<- H1.out.1]
  go_wp2_with (go_at_call 129; refine (HB.out _).mono ?_; rintro r w2 ⟨rfl, hw2⟩; obtain rfl := hw2.symm)
  go_ret
  exact ⟨_, rfl, fun W _ => hasS_nil _ _, ⟨_, _, _, rfl, Nat.le_refl _⟩, H1.out.2⟩
end
section
open Go.RowKit Go.Maps
attribute [local go_sem ↓] Go.wp_at_zero Go.wp_at_succ
set_option maxRecDepth 100000 in
theorem ends1_any (a b l : Int) (w : World) : Calls Tryz.prog 223 #[.agg #[.int .i64 a, .int .i64 b], .int .i64 l] w fun r w' => r = .returned (.int .i64 (cmpI a l)) /\ Below w.heap.size w w' := by
 obtain ⟨w1, hw1⟩ : ∃ w1, w1 = w.alloc (.cells #[.int .i64 a, .int .i64 b] 126) := ⟨_, rfl⟩
 have hb1 : Below w.heap.size w w1 := by rw [hw1]; exact (Below.refl _ _).alloc (Nat.le_refl _) _
 have hg1 : w1.heap[w.heap.size]? = some (.cells #[.int .i64 a, .int .i64 b] 126 (0, 0)) := by rw [hw1]; exact heap_alloc_new w _
 have c0 : w1.cell? ⟨w.heap.size, 0, none⟩ = some (.int .i64 a) := cell0_of hg1 rfl
 have H1 : Hid _ := And.intro hw1 (And.intro hb1 (cmpI_any a l w1))
 clear hw1 hb1 hg1
 go_enter Tryz.func223, Tryz.ntmps223
 go_upto_region 1 with fail
 rw [<- H1.out.1]
 go_wp2_with fail
 refine Calls.mono H1.out.2.2 ?_
 rintro r w2 ⟨rfl, hw2⟩
 obtain rfl := hw2.symm
 clear hw2
 go_wp2_with fail
 go_ret
 exact ⟨rfl, H1.out.2.1⟩
theorem cmpI_neg (a b : Int) : cmpI a b < 0 ↔ a < b := by unfold cmpI; split <;> (try split) <;> omega
structure BinAt (zs : List BSteps.El) (l : Int) (i j : Nat) : Prop where
 lo : ∀ (k : Nat) (z : BSteps.El), k < i -> zs[k]? = some z -> z.1 < l
 hi : ∀ (k : Nat) (z : BSteps.El), j <= k -> zs[k]? = some z -> l <= z.1
theorem bin_begin (zs : List BSteps.El) (l : Int) : BinAt zs l 0 zs.length := ⟨fun k z h => by omega, fun k z h hz => by have := (List.getElem?_eq_some_iff.1 hz).1; omega⟩
theorem BinAt.left {zs : List BSteps.El} {l : Int} {i j h : Nat} (hB : BinAt zs l i j) (hs : zs.Pairwise fun x y => x.1 <= y.1) {z : BSteps.El} (hz : zs[h]? = some z) (hl : z.1 < l) : BinAt zs l (h + 1) j := by
 refine ⟨fun k y hk hy => ?_, hB.hi⟩
 by_cases e : k = h
 ·subst e; rw [hz] at hy; cases hy; exact hl
 ·obtain ⟨a1, a2⟩ := List.getElem?_eq_some_iff.1 hy
  obtain ⟨b1, b2⟩ := List.getElem?_eq_some_iff.1 hz
  have := List.pairwise_iff_getElem.1 hs k h a1 b1 (by omega)
  rw [a2, b2] at this
  omega
theorem BinAt.right {zs : List BSteps.El} {l : Int} {i j h : Nat} (hB : BinAt zs l i j) (hs : zs.Pairwise fun x y => x.1 <= y.1) {z : BSteps.El} (hz : zs[h]? = some z) (hl : ¬ z.1 < l) : BinAt zs l i h := by
 refine ⟨hB.lo, fun k y hk hy => ?_⟩
 by_cases e : k = h
 ·subst e; rw [hz] at hy; cases hy; omega
 ·obtain ⟨a1, a2⟩ := List.getElem?_eq_some_iff.1 hy
  obtain ⟨b1, b2⟩ := List.getElem?_eq_some_iff.1 hz
  have := List.pairwise_iff_getElem.1 hs h k b1 a1 (by omega)
  rw [a2, b2] at this
  omega
set_option maxRecDepth 100000 in
set_option maxHeartbeats 4000000 in
theorem bin_any (v : Value) (zs : List BSteps.El) (l : Int) (w : World) (hv : BSteps.Has w v zs) (hs : zs.Pairwise fun x y => x.1 <= y.1) (hn : zs.length <= 100000) :
 Calls Tryz.prog 222 #[v, .int .i64 l, .func (.func 223) #[] #[]] w fun r w' => ∃ (i : Nat) (b : Bool), r = .returned (.tuple #[.int .i64 i, .bool b]) /\ i <= zs.length /\ BinAt zs l i i /\ Below w.heap.size w w' := by
 have hv0 := hv
 obtain ⟨ao, cap, rfl, _⟩ := hv0
 obtain ⟨n, hN⟩ : ∃ n, n = zs.length := ⟨_, rfl⟩
 rw [<- hN] at hn hv ⊢
 have HV : Hid (BSteps.Has w (.slice ao n cap) zs /\ n = zs.length /\ zs.Pairwise (fun x y => x.1 <= y.1) /\ BinAt zs l 0 n) := ⟨hv, hN, hs, by rw [hN]; exact bin_begin zs l⟩
 clear hv hN hs
 go_enter Tryz.func222, Tryz.ntmps222
 go_wp2_with fail
 go_loopg [9, 10] n (fun q iv jv wr => ∃ i j : Nat, q = j - i /\ i <= j /\ j <= n /\ iv = .int .i64 i /\ jv = .int .i64 j /\ BinAt zs l i j /\ Below w.heap.size w wr)
 case atStart => exact ⟨0, n, by omega, Nat.zero_le _, Nat.le_refl _, rfl, rfl, HV.out.2.2.2, Below.refl _ _⟩
 case round =>
  obtain ⟨i, j, rfl, hij, hjn, rfl, rfl, hB, hb⟩ := hrel
  obtain ⟨wq, rfl⟩ : ∃ wq, wq = wr := ⟨_, rfl⟩
  by_cases hlt : i < j
  ·obtain ⟨h, hh⟩ : ∃ h, h = (i + j) / 2 := ⟨_, rfl⟩
   have h1 : i <= h := by omega
   have h2 : h < j := by omega
   have k0 : (i : Int) < (j : Int) := by omega
   have kh : ((i : Int) + (j : Int)) / 2 = (h : Int) := by omega
   obtain ⟨z, hz⟩ : ∃ z, zs[h]? = some z := ⟨zs[h]'(by have := HV.out.2.1; omega), List.getElem?_eq_getElem _⟩
   obtain ⟨a, rfl, d0, d1⟩ := step_at (HV.out.1.below hb) hz
   have k1 : (0 : Int) <= (h : Int) := by omega
   have k2 : (h : Int) < (n : Int) := by omega
   have hB1 := fun (hl : z.1 < l) => hB.left HV.out.2.2.1 hz hl
   have hB2 := fun (hl : ¬ z.1 < l) => hB.right HV.out.2.2.1 hz hl
   obtain ⟨z1, z2⟩ := z
   simp only at d0 d1 hB1 hB2
   have hE := ends1_any z1 z2 l wq
   have hcn := cmpI_neg z1 l
   obtain ⟨c, hc⟩ : ∃ c, c = cmpI z1 l := ⟨_, rfl⟩
   rw [<- hc] at hE hcn
   have HE : Hid _ := And.intro hE (And.intro hb (And.intro hB1 hB2))
   clear hE hb hB1 hB2 hB hz hc hh
   by_cases hcl : c < 0
   ·have HL : Hid (z1 < l) := hcn.1 hcl
    have k3 : decide (c < 0) = true := decide_eq_true hcl
    clear hcn
    go_wp2_with fail
    refine Calls.mono HE.out.1 ?_
    rintro r w2 ⟨rfl, hb2⟩
    have H2 : Hid _ := hb2
    clear hb2
    go_wp2_with fail
    go_roundg (j - (h + 1))
    case measure => omega
    case rel => exact ⟨h + 1, j, rfl, by omega, hjn, by go_num, rfl, HE.out.2.2.1 HL.out, HE.out.2.1.trans (H2.out.mono HE.out.2.1.size)⟩
   ·have HL : Hid (¬ z1 < l) := fun h => hcl (hcn.2 h)
    have k3 : decide (c < 0) = false := decide_eq_false hcl
    clear hcn
    go_wp2_with fail
    refine Calls.mono HE.out.1 ?_
    rintro r w2 ⟨rfl, hb2⟩
    have H2 : Hid _ := hb2
    clear hb2
    go_wp2_with fail
    go_roundg (h - i)
    case measure => omega
    case rel => exact ⟨i, h, rfl, h1, by omega, rfl, rfl, HE.out.2.2.2 HL.out, HE.out.2.1.trans (H2.out.mono HE.out.2.1.size)⟩
  ·obtain rfl : i = j := by omega
   have k0 : ¬ (i : Int) < (i : Int) := by omega
   by_cases hin : i < n
   ·obtain ⟨z, hz⟩ : ∃ z, zs[i]? = some z := ⟨zs[i]'(by have := HV.out.2.1; omega), List.getElem?_eq_getElem _⟩
    obtain ⟨a, rfl, d0, d1⟩ := step_at (HV.out.1.below hb) hz
    have k1 : (0 : Int) <= (i : Int) := by omega
    have k2 : (i : Int) < (n : Int) := by omega
    have k3 : decide ((i : Int) < (n : Int)) = true := decide_eq_true k2
    obtain ⟨z1, z2⟩ := z
    simp only at d0 d1
    have hE := ends1_any z1 z2 l wq
    generalize cmpI z1 l = c at hE
    have HE : Hid _ := And.intro hE (And.intro hb hB)
    clear hE hb hB hz
    go_wp2_with fail
    refine Calls.mono HE.out.1 ?_
    rintro r w2 ⟨rfl, hb2⟩
    have H2 : Hid _ := hb2
    clear hb2
    go_wp2_with fail
    go_ret2
    exact ⟨i, _, rfl, hjn, HE.out.2.2, HE.out.2.1.trans (H2.out.mono HE.out.2.1.size)⟩
   ·have k2 : ¬ (i : Int) < (n : Int) := by omega
    have HE : Hid _ := And.intro hb hB
    clear hb hB
    go_wp2_with fail
    go_ret2
    exact ⟨i, .inl rfl, hjn, HE.out.2, HE.out.1⟩
end
section
open Go.RowKit Go.Maps
attribute [local go_sem ↓] Go.wp_at_zero Go.wp_at_succ
structure Outs (w : World) (B : Nat) (us : List Value) (n : Nat) (f : Nat -> List BSteps.El) : Prop where
 len : us.length = n
 row : ∀ i, i < n -> ∃ u, us[i]? = some u /\ BSteps.Own w B u (f i)
 ap : ∀ (i j : Nat) (u x : Value) (b : Nat), us[i]? = some u -> us[j]? = some x -> i ≠ j -> u.ownBlock = some b -> x.ownBlock ≠ some b
end
section
open Go.RowKit Go.Maps
attribute [local go_sem ↓] Go.wp_at_zero Go.wp_at_succ
structure BackAt (w wr : World) (n k s : Int) (v u : Value) (L : List Sy.Ed) : Prop where
 bl : Below w.heap.size w wr
 box : wr.heap[w.heap.size]? = some (.cells #[.int .i64 n, .int .i64 k, .int .i64 s, v] 24 (0, 0))
 res : wr.heap[w.heap.size + 1]? = some (.cells #[.int .i64 0, .int .i64 0, .int .i64 0, .slice none 0 0] 24 (0, 0))
 own : BEdges.Own wr w.heap.size u L
end
section
open Go.RowKit Go.Maps
structure RcAt (w wr : World) (go gi : Nat) (us : List Value) (n : Nat) (f : Nat -> List BSteps.El) (u : Value) (zs : List Int) (bs : List Bool) : Prop where
 out : Arr 124 w wr go us
 rows : Outs wr w.heap.size us n f
 inn : Arr 4 w wr gi (bC bs)
 lst : OwnI wr w.heap.size u zs
end
section
open Go.RowKit Go.Maps
attribute [local go_sem ↓] Go.wp_at_zero Go.wp_at_succ
def Sy.ends (l : List BSteps.El) (b : Int) : List Int := (l.filter fun x => x.1 == b).map (·.2)
theorem Sy.ends_take {l : List BSteps.El} {j : Nat} {x : BSteps.El} (h : l[j]? = some x) (b : Int) : Sy.ends (l.take (j + 1)) b = if x.1 = b then Sy.ends (l.take j) b ++ [x.2] else Sy.ends (l.take j) b := by
 rw [take_succ_of h]
 unfold Sy.ends
 rw [List.filter_append, List.map_append]
 by_cases e : x.1 = b <;> simp [e]
theorem Sy.ends_len (l : List BSteps.El) (b : Int) : (Sy.ends l b).length <= l.length := by
 unfold Sy.ends
 rw [List.length_map]
 exact List.length_filter_le _ _
end
section
open Go.RowKit Go.Maps
attribute [local go_sem ↓] Go.wp_at_zero Go.wp_at_succ
theorem Sy.str_pair {l : List Sy.Ed} (h : Sy.Str l) : l.Pairwise fun a b => Sy.lt a b = true := by
 induction l with
 | nil => exact .nil
 | cons a r ih => exact List.pairwise_cons.2 ⟨h.head, ih h.tail⟩
theorem hasS_drop {w : World} {av : Option Addr} {M cv : Nat} {zs : List BSteps.El} (h : BSteps.Has w (.slice av M cv) zs) (f c : Nat) (hM : M = zs.length) : BSteps.Has w (.slice (Option.map (fun x => x.add (f * 2)) av) (M - f) c) (zs.drop f) := by
 obtain ⟨ao, cap, he, hc⟩ := h
 injection he with e1 e2 e3
 subst e1
 refine ⟨_, c, by rw [List.length_drop, hM], fun j u hj => ?_⟩
 have hl : j < (zs.drop f).length * 2 := by have := (List.getElem?_eq_some_iff.1 hj).1; rw [BSteps.C_len] at this; exact this
 obtain ⟨z, hz⟩ : ∃ z, (zs.drop f)[j / 2]? = some z := ⟨_, List.getElem?_eq_getElem (by omega)⟩
 have h1 := BSteps.C_at _ (j / 2) z hz (j % 2) (Nat.mod_lt _ (by decide))
 rw [show j / 2 * 2 + j % 2 = j by omega, hj] at h1
 rw [List.getElem?_drop] at hz
 have h2 := BSteps.C_at _ (f + j / 2) z hz (j % 2) (Nat.mod_lt _ (by decide))
 rw [<- h1, show (f + j / 2) * 2 + j % 2 = f * 2 + j by omega] at h2
 obtain ⟨a, rfl, hca⟩ := hc _ _ h2
 exact ⟨_, rfl, by rw [Addr.add_add]; exact hca⟩
theorem Sy.rowOf_rise {l : List Sy.Ed} (h : Sy.Str l) (n : Nat) (i : Int) : (Sy.rowOf n l i).Pairwise fun x y => x.1 <= y.1 := by
 unfold Sy.rowOf
 split
 ·unfold Sy.steps
  rw [List.pairwise_map]
  refine (((Sy.str_pair h).filter _).imp_of_mem ?_)
  intro a b ha hb hl
  have h1 : a.1 = i := by simpa using (List.mem_filter.1 ha).2
  have h2 : b.1 = i := by simpa using (List.mem_filter.1 hb).2
  rw [Sy.lt_iff] at hl
  show a.2.1 <= b.2.1
  omega
 ·exact .nil
theorem bel8 {w W w8 : World} (hb : Below W.heap.size W w8) (h : Below w.heap.size w W) : Below w.heap.size w w8 := h.trans (hb.mono h.size)
theorem Sy.ends_nil_of {zs : List BSteps.El} {b : Int} (h : ∀ z ∈ zs, z.1 ≠ b) : Sy.ends zs b = [] := by
 unfold Sy.ends
 rw [List.filter_eq_nil_iff.2 fun z hz => by simpa using h z hz]
 rfl
theorem Sy.ends_append (xs ys : List BSteps.El) (b : Int) : Sy.ends (xs ++ ys) b = Sy.ends xs b ++ Sy.ends ys b := by simp [Sy.ends]
theorem Sy.ends_cut {zs : List BSteps.El} {b : Int} {i j : Nat} (hs : zs.Pairwise fun x y => x.1 <= y.1) (hB : BinAt zs b i i) (hij : i + j <= zs.length) (hj : ∀ z, zs[i + j]? = some z -> z.1 ≠ b) : Sy.ends zs b = Sy.ends ((zs.drop i).take j) b := by
 have e1 : zs = zs.take i ++ ((zs.drop i).take j ++ (zs.drop i).drop j) := by rw [List.take_append_drop, List.take_append_drop]
 have h1 : Sy.ends (zs.take i) b = [] := Sy.ends_nil_of fun z hz => by
  obtain ⟨k, hk, rfl⟩ := List.mem_iff_getElem.1 hz
  rw [List.length_take] at hk
  have := hB.lo k (zs[k]'(by omega)) (by omega) (List.getElem?_eq_getElem _)
  rw [List.getElem_take]
  omega
 have h2 : Sy.ends ((zs.drop i).drop j) b = [] := Sy.ends_nil_of fun z hz => by
  obtain ⟨k, hk, rfl⟩ := List.mem_iff_getElem.1 hz
  simp only [List.length_drop] at hk
  have h3 := hj (zs[i + j]'(by omega)) (List.getElem?_eq_getElem _)
  have h4 := hB.hi (i + j) (zs[i + j]'(by omega)) (by omega) (List.getElem?_eq_getElem _)
  simp only [List.getElem_drop]
  by_cases e : k = 0
  ·subst e; simpa using h3
  ·have := List.pairwise_iff_getElem.1 hs (i + j) (i + (j + k)) (by omega) (by omega) (by omega)
   omega
 conv => lhs; rw [e1]
 rw [Sy.ends_append, Sy.ends_append, h1, h2]
 simp
set_option maxRecDepth 100000 in
set_option maxHeartbeats 8000000 in
theorem tends_any (bs bb m n B : Nat) (l : List Sy.Ed) (i b : Int) (w : World) (hn : n <= 100000) (hl : l.length = m) (hm : m <= 100000) (hs : Sy.Str l) (hT : Tb w B bs bb n l) :
 Calls Tryz.prog 202 #[tabV bs bb m n, .int .i64 i, .int .i64 b] w fun r w' => ∃ u, r = .returned u /\ OwnI w' w.heap.size u (Sy.ends (Sy.rowOf n l i) b) /\ Below w.heap.size w w' := by
 obtain ⟨i0, hi0, hz0, hz1, hz2⟩ := info_parts Tryz.infoI4
 obtain ⟨w1, hw1⟩ : ∃ w1, w1 = w.alloc (.cells #[.slice (some ⟨bs, 0, none⟩) m m, .slice (some ⟨bb, 0, none⟩) (n + 1) (n + 1)] 190) := ⟨_, rfl⟩
 have hb1 : Below w.heap.size w w1 := by rw [hw1]; exact (Below.refl _ _).alloc (Nat.le_refl _) _
 have hg1 : w1.heap[w.heap.size]? = some (.cells #[.slice (some ⟨bs, 0, none⟩) m m, .slice (some ⟨bb, 0, none⟩) (n + 1) (n + 1)] 190 (0, 0)) := by rw [hw1]; exact heap_alloc_new w _
 have hR := row2_any bs bb m n B l i w1 hn hl (str_rows hs) (hT.below hb1)
 obtain ⟨zs, hzs⟩ : ∃ zs, zs = Sy.rowOf n l i := ⟨_, rfl⟩
 have hrise := Sy.rowOf_rise hs n i
 have hzl := rowOf_len n l i
 rw [<- hzs] at hR hrise hzl ⊢
 have c0 : w1.cell? ⟨w.heap.size, 0, none⟩ = some (.slice (some ⟨bs, 0, none⟩) m m) := cell0_of hg1 rfl
 have c1 : w1.cell? ⟨w.heap.size, 1, none⟩ = some (.slice (some ⟨bb, 0, none⟩) (n + 1) (n + 1)) := cell0_of hg1 rfl
 unfold tabV at hR ⊢
 have H1 : Hid _ := And.intro hw1 (And.intro hb1 (And.intro hR (And.intro hrise (And.intro (hT.below hb1) hzl))))
 have hzm : zs.length <= 100000 := by omega
 have HT0 : Hid _ := hT
 clear hw1 hb1 hg1 hR hT hrise hs hzs hl hzl
 go_enter Tryz.func202, Tryz.ntmps202
 go_upto_region 1 with fail
 rw [<- H1.out.1]
 go_wp2_with fail
 refine Calls.mono H1.out.2.2.1 ?_
 rintro r w2 ⟨v, rfl, hv, hcap, hb2⟩
 have hT2 := H1.out.2.2.2.2.1.below hb2
 obtain ⟨av, cv, rfl, _⟩ := hv w2 hT2
 have hBi := bin_any _ zs b w2 (hv w2 hT2) H1.out.2.2.2.1 hzm
 obtain ⟨M, hM⟩ : ∃ M, M = zs.length := ⟨_, rfl⟩
 rw [<- hM] at hv hBi hzm hcap ⊢
 have hMc : M <= cv := by
  obtain ⟨a', k', c', he, hkc⟩ := hcap
  injection he with e1 e2 e3
  omega
 have H2 : Hid _ := And.intro hBi (And.intro hv (And.intro hT2 (And.intro (bel8 hb2 H1.out.2.1) hM)))
 clear hBi hv hT2 hb2 hM c0 c1 hcap
 go_wp2_with fail
 refine Calls.mono H2.out.1 ?_
 rintro r w3 ⟨f, fb, rfl, hfM, hBA, hb3⟩
 have hf0 : (0 : Int) <= (f : Int) := by omega
 have hf1 : (f : Int) <= (M : Int) := by omega
 have H3 : Hid _ := And.intro hBA (And.intro (H2.out.2.2.1.below hb3) (bel8 hb3 H2.out.2.2.2.1))
 clear hBA hb3
 by_cases hcf : cv = f
 ·obtain rfl : f = M := by omega
  subst hcf
  have z0 : cv - cv = 0 := Nat.sub_self _
  go_wp2_with fail
  go_loopg [10, 26] 0 (fun q uv kv wr => q = 0 /\ kv = .int .i64 0 /\ uv = .slice none 0 0 /\ wr = w3)
  case atStart => exact ⟨rfl, rfl, rfl, rfl⟩
  case round =>
   obtain ⟨rfl, rfl, rfl, rfl⟩ := hrel
   go_wp2_with fail
   go_ret
   refine ⟨_, rfl, ?_, H3.out.2.2⟩
   rw [Sy.ends_cut (j := 0) H1.out.2.2.2.1 H3.out.1 (by have := H2.out.2.2.2.2; omega) (fun z hz => by have := (List.getElem?_eq_some_iff.1 hz).1; have := H2.out.2.2.2.2; omega)]
   exact World.ownsRow_nil _ _ _ _
 ·have hD := fun W (hW : Tb W B bs bb n l) => hasS_drop (H2.out.2.1 W hW) f (cv - f) H2.out.2.2.2.2
  go_wp2_with fail
  obtain ⟨R, hR⟩ : ∃ R, R = M - f := ⟨_, rfl⟩
  obtain ⟨a2, ha2⟩ : ∃ a2, a2 = Option.map (fun (x : Addr) => x.add (f * 2)) av := ⟨_, rfl⟩
  obtain ⟨c2, hc2⟩ : ∃ c2, c2 = cv - f := ⟨_, rfl⟩
  rw [<- hR, <- ha2, <- hc2] at hD
  rw [<- hR, <- ha2, <- hc2]
  have hR2 : f + R = M := by omega
  have H4 : Hid _ := And.intro hD hR2
  clear hD hR ha2 hc2 hR2
  have hRm : R <= 100000 := by have := H4.out.2; omega
  go_loopg [10, 26] R (fun q uv kv wr => ∃ j : Nat, q = R - j /\ j <= R /\ kv = .int .i64 j /\ OwnI wr w.heap.size uv (Sy.ends ((zs.drop f).take j) b) /\ Below w.heap.size w wr)
  case atStart => exact ⟨0, rfl, Nat.zero_le _, rfl, World.ownsRow_nil _ _ _ _, H3.out.2.2⟩
  case round =>
   obtain ⟨j, rfl, hj, rfl, hO, hb⟩ := hrel
   obtain ⟨au, cu, hu⟩ := row_shape hO
   obtain ⟨ys, hys⟩ : ∃ ys, ys = Sy.ends ((zs.drop f).take j) b := ⟨_, rfl⟩
   rw [<- hys] at hO hu
   obtain ⟨N, hN⟩ : ∃ N, N = ys.length := ⟨_, rfl⟩
   rw [<- hN] at hu
   subst hu
   by_cases hlt : j < R
   ·obtain ⟨x, hx⟩ : ∃ x, (zs.drop f)[j]? = some x := ⟨(zs.drop f)[j]'(by have := H4.out.2; have := H2.out.2.2.2.2; rw [List.length_drop]; omega), List.getElem?_eq_getElem _⟩
    obtain ⟨a, rfl, d0, d1⟩ := step_at (H4.out.1 wr (HT0.out.below hb)) hx
    have hst := Sy.ends_take hx b
    have hno := fun (hxb : x.1 ≠ b) => Sy.ends_cut (j := j) H1.out.2.2.2.1 H3.out.1 (by have := H2.out.2.2.2.2; have := H4.out.2; omega) (fun z hz => by rw [List.getElem?_drop] at hx; rw [hx] at hz; cases hz; exact hxb)
    obtain ⟨x1, x2⟩ := x
    simp only at d0 d1 hst hno
    obtain ⟨wb, hwb⟩ : ∃ wb, wb = wr.alloc (.cells #[.int .i64 x1, .int .i64 x2] 126) := ⟨_, rfl⟩
    have hbb : Below wr.heap.size wr wb := by rw [hwb]; exact (Below.refl _ _).alloc (Nat.le_refl _) _
    have hgb : wb.heap[wr.heap.size]? = some (.cells #[.int .i64 x1, .int .i64 x2] 126 (0, 0)) := by rw [hwb]; exact heap_alloc_new wr _
    have f0 : wb.cell? ⟨wr.heap.size, 0, none⟩ = some (.int .i64 x1) := cell0_of hgb rfl
    have f1 : wb.cell? ⟨wr.heap.size, 1, none⟩ = some (.int .i64 x2) := cell0_of hgb rfl
    have hOb : OwnI wb w.heap.size (.slice au N cu) ys := trow_at hO fun b hb => hbb.block b (hO.lt b hb).2
    have hOz : wb.ownsRow w.heap.size 3 1 (.slice au N cu) N (iC ys) := by have h1 := hOb; unfold OwnI at h1; rw [<- hN] at h1; exact h1
    have hbw : Below w.heap.size w wb := hb.trans (hbb.mono hb.size)
    have hle : w.heap.size <= (wb.alloc (.cells #[.int .i64 x2] 3)).heap.size := by have := hbw.size; simp; omega
    have hNl : N <= 100000 := by have := Sy.ends_len ((zs.drop f).take j) b; rw [List.length_take, List.length_drop] at this; rw [hN, hys]; omega
    have hml : N + 1 <= maxLen := by unfold maxLen; omega
    have hby : (N + 1) * 8 <= 140737488355328 := by omega
    have q0 : (0 : Int) <= (j : Int) := by omega
    have q1 : (j : Int) < (R : Int) := by omega
    have HZ : Hid _ := And.intro hOz (And.intro hbw (And.intro hwb (And.intro hys (And.intro hst (And.intro hN (And.intro hOb hno))))))
    clear hO hOb hOz hbw hwb hbb hgb hys hst hN hx hb hno
    by_cases hxb : x1 = b
    ·have e1 : (x1 != b) = false := by simp [hxb]
     have HX : Hid (x1 = b) := hxb
     clear hxb
     go_upto_region 7 with fail
     rw [<- HZ.out.2.2.1]
     go_wp2_with (at_builtin; refine wpList_append_own_at _ rfl _ _ 50 rfl w.heap.size 3 i0 (.int .i64 0) 1 8 Tryz.underlying50 hi0 hz0 hz1 hz2 rfl (by decide) (.slice au N cu) N (iC ys) rfl (HZ.out.1.alloc _) ⟨wb.heap.size, 0, none⟩ 1 1 [.int .i64 x2] rfl rfl (World.news_of_block (cs := #[.int .i64 x2]) (t := 3) (fr := (0, 0)) (heap_alloc_new wb _)) (by simp [Value.oneCell']) hml hby hle ?_; intro v5 w5 hO5 hg5 hnil5 hat5; have H5 : Hid _ := And.intro hO5 hg5; clear hO5 hg5 hnil5 hat5)
     go_roundg (R - (j + 1))
     case measure => omega
     case rel =>
      refine ⟨j + 1, rfl, by omega, by go_num, ?_, ?_⟩
      ·rw [HZ.out.2.2.2.2.1, if_pos HX.out, <- HZ.out.2.2.2.1]
       unfold OwnI
       rw [iC_snoc, List.length_append, <- HZ.out.2.2.2.2.2.1]
       exact H5.out.1
      ·exact HZ.out.2.1.trans ((grown_alloc H5.out.2).below HZ.out.2.1.size fun b hb => (HZ.out.1.lt b hb).1)
    ·have e1 : (x1 != b) = true := by simp [hxb]
     have HX : Hid (x1 ≠ b) := hxb
     clear hxb
     go_upto_region 7 with fail
     rw [<- HZ.out.2.2.1]
     go_wp2_with fail
     go_ret
     refine ⟨_, rfl, ?_, HZ.out.2.1⟩
     rw [HZ.out.2.2.2.2.2.2.2 HX.out, <- HZ.out.2.2.2.1]
     exact HZ.out.2.2.2.2.2.2.1
   ·obtain rfl : j = R := by omega
    have q1 : ¬ (j : Int) < (j : Int) := by omega
    have HO : Hid _ := And.intro hO (And.intro hb hys)
    clear hO hb hys hN
    go_wp2_with fail
    go_ret
    refine ⟨_, rfl, ?_, HO.out.2.1⟩
    rw [Sy.ends_cut (j := j) H1.out.2.2.2.1 H3.out.1 (by have := H2.out.2.2.2.2; have := H4.out.2; omega) (fun z hz => by have := (List.getElem?_eq_some_iff.1 hz).1; have := H2.out.2.2.2.2; have := H4.out.2; omega), <- HO.out.2.2]
    exact HO.out.1
set_option maxRecDepth 100000 in
set_option maxHeartbeats 1000000 in
theorem from_any {B g bs bb cs cb n : Nat} {k s : Int} {es : List Sy.Ed} (i b : Int) (w : World) (h : Gr w B g bs bb cs cb n k s es) : Calls Tryz.prog 181 #[.pointer (some ⟨g, 0, none⟩), .int .i64 i, .int .i64 b] w fun r w' => ∃ u, r = .returned u /\ OwnI w' w.heap.size u (Sy.ends (Sy.rowOf n (Sy.nf ((Sy.nf es).map Sy.turn)) i) b) /\ Below w.heap.size w w' := by
 obtain ⟨_, _, _, _, c0, c1⟩ := h.cells
 have hq := Tryz.eqG g
 have hs := h.sizes
 have hR := tends_any cs cb (Sy.nf es).length n B (Sy.nf ((Sy.nf es).map Sy.turn)) i b w (by omega) (nf_turn_len es) (by omega) (Sy.nf_str _) h.inn
 unfold tabV at hR
 have HR : Hid _ := hR
 obtain ⟨L, hL⟩ : ∃ L, L = (Sy.nf es).length := ⟨_, rfl⟩
 rw [<- hL] at c0 HR
 clear h hR hL hs
 go_enter Tryz.func181, Tryz.ntmps181
 go_wp2_with fail
 refine Calls.mono HR.out ?_
 rintro r w1 ⟨u, rfl, hO, hb⟩
 have H1 : Hid _ := And.intro hO hb
 clear hO hb
 go_wp2_with fail
 go_ret
 exact ⟨_, rfl, H1.out.1, H1.out.2⟩
end
section
open Go.RowKit Go.Maps Go.Shelf
def EE (es : List Sy.Ed) (p a t : Nat) : Prop := ((p : Int), (a : Int), (t : Int)) ∈ es
theorem ez_iff (es : List Sy.Ed) (a p t : Nat) : Ez es a p t = true ↔ EE es p a t := by unfold Ez EE; simp
theorem nf_turn_mem {es : List Sy.Ed} {e : Sy.Ed} : e ∈ Sy.nf ((Sy.nf es).map Sy.turn) ↔ Sy.turn e ∈ es := by
 rw [Sy.nf_mem, List.mem_map]
 constructor
 ·rintro ⟨x, hx, rfl⟩
  exact (Sy.nf_mem es x).1 hx
 ·intro h
  exact ⟨Sy.turn e, (Sy.nf_mem es _).2 h, rfl⟩
theorem ends_mem {zs : List BSteps.El} {b q : Int} : q ∈ Sy.ends zs b ↔ (b, q) ∈ zs := by
 unfold Sy.ends
 rw [List.mem_map]
 constructor
 ·rintro ⟨x, hx, rfl⟩
  obtain ⟨h1, h2⟩ := List.mem_filter.1 hx
  have h3 : x.1 = b := by simpa using h2
  rw [<- h3]
  exact h1
 ·intro h
  exact ⟨(b, q), List.mem_filter.2 ⟨h, by simp⟩, rfl⟩
def froms (n : Nat) (es : List Sy.Ed) (i a : Nat) : List Int := Sy.ends (Sy.rowOf n (Sy.nf ((Sy.nf es).map Sy.turn)) (i : Int)) (a : Int)
theorem froms_mem {n : Nat} {k s : Int} {es : List Sy.Ed} (hq : Sy.right n k s es = true) {i a : Nat} {q : Int} : q ∈ froms n es i a ↔ (q, (a : Int), (i : Int)) ∈ es := by
 unfold froms
 rw [ends_mem]
 unfold Sy.rowOf
 split
 ·rw [Sy.steps_mem, nf_turn_mem]
  exact Iff.rfl
 ·rename_i h
  constructor
  ·intro h2; simp at h2
  ·intro h2
   have h3 := (right_parts hq).2.2.2.2.2 _ h2
   simp only at h3
   exact absurd ⟨by omega, by omega⟩ h
theorem froms_nat {n : Nat} {k s : Int} {es : List Sy.Ed} (hq : Sy.right n k s es = true) {i a j : Nat} {q : Int} (h : (froms n es i a)[j]? = some q) : ∃ x : Nat, q = (x : Int) /\ x < n /\ EE es x a i := by
 have h1 := (froms_mem hq).1 (List.mem_of_getElem? h)
 have h2 := (right_parts hq).2.2.2.2.2 _ h1
 simp only at h2
 refine ⟨q.toNat, by omega, by omega, ?_⟩
 unfold EE
 rw [show ((q.toNat : Nat) : Int) = q by omega]
 exact h1
theorem froms_len {n : Nat} (es : List Sy.Ed) (i a : Nat) : (froms n es i a).length <= es.length := by
 unfold froms
 have h1 := Sy.ends_len (Sy.rowOf n (Sy.nf ((Sy.nf es).map Sy.turn)) (i : Int)) (a : Int)
 have h2 := rowOf_len n (Sy.nf ((Sy.nf es).map Sy.turn)) (i : Int)
 rw [nf_turn_len] at h2
 have h3 := Sy.nf_len es
 omega
def mtS (es : List Sy.Ed) (A : Nat -> Nat -> Bool) (a t0 d q : Nat) : Bool := meetS (Ez es a q) (A t0) (64 * d)
def unS (es : List Sy.Ed) (A : Nat -> Nat -> Bool) (a t0 d : Nat) (pre : List Nat) : Nat -> Bool := fun q => pre.any (fun s => Ez es a q s) && !mtS es A a t0 d q
def unJ (es : List Sy.Ed) (A : Nat -> Nat -> Bool) (a t0 d : Nat) (pre : List Nat) (xs : List Int) : Nat -> Bool := fun q => unS es A a t0 d pre q || xs.contains (q : Int) && !mtS es A a t0 d q
theorem unJ_nil (es : List Sy.Ed) (A : Nat -> Nat -> Bool) (a t0 d : Nat) (pre : List Nat) : unJ es A a t0 d pre [] = unS es A a t0 d pre := by funext q; simp [unJ]
theorem unJ_all {n : Nat} {k s : Int} {es : List Sy.Ed} (hq : Sy.right n k s es = true) (A : Nat -> Nat -> Bool) (a t0 d x : Nat) (pre : List Nat) : unJ es A a t0 d pre (froms n es x a) = unS es A a t0 d (pre ++ [x]) := by
 funext q
 unfold unJ unS
 have h1 : (froms n es x a).contains (q : Int) = Ez es a q x := by
  rw [Bool.eq_iff_iff, List.contains_iff_mem, froms_mem hq, ez_iff]
  exact Iff.rfl
 rw [h1, List.any_append]
 rw [show [x].any (fun s => Ez es a q s) = Ez es a q x by simp]
 cases pre.any (fun s => Ez es a q s) <;> cases Ez es a q x <;> cases mtS es A a t0 d q <;> rfl
theorem take_succ9 {α : Type} {l : List α} {j : Nat} {x : α} (h : l[j]? = some x) : l.take (j + 1) = l.take j ++ [x] := by
 obtain ⟨hl, rfl⟩ := List.getElem?_eq_some_iff.1 h
 exact List.take_succ_eq_append_getElem hl
theorem unJ_yes {es : List Sy.Ed} {A : Nat -> Nat -> Bool} {a t0 d : Nat} {pre : List Nat} {xs : List Int} {j x : Nat} (h : xs[j]? = some (x : Int)) (hm : mtS es A a t0 d x = true) (q : Nat) : unJ es A a t0 d pre (xs.take (j + 1)) q = unJ es A a t0 d pre (xs.take j) q := by
 unfold unJ
 rw [take_succ9 h]
 by_cases e : q = x
 ·subst e; rw [hm]; simp
 ·have : ((q : Int) == (x : Int)) = false := by simp; omega
  have h2 : (xs.take j ++ [(x : Int)]).contains (q : Int) = (xs.take j).contains (q : Int) := by
   rw [Bool.eq_iff_iff, List.contains_iff_mem, List.contains_iff_mem, List.mem_append, List.mem_singleton]
   constructor
   ·rintro (h | h)
    ·exact h
    ·omega
   ·exact .inl
  rw [h2]
theorem unJ_no {es : List Sy.Ed} {A : Nat -> Nat -> Bool} {a t0 d : Nat} {pre : List Nat} {xs : List Int} {j x : Nat} (h : xs[j]? = some (x : Int)) (hm : mtS es A a t0 d x = false) (q : Nat) : unJ es A a t0 d pre (xs.take (j + 1)) q = (unJ es A a t0 d pre (xs.take j) q || decide (q = x)) := by
 unfold unJ
 rw [take_succ9 h]
 by_cases e : q = x
 ·subst e
  have : (xs.take j ++ [(q : Int)]).contains (q : Int) = true := by rw [List.contains_iff_mem]; simp
  rw [hm, this]; simp
 ·have h2 : (xs.take j ++ [(x : Int)]).contains (q : Int) = (xs.take j).contains (q : Int) := by
   rw [Bool.eq_iff_iff, List.contains_iff_mem, List.contains_iff_mem, List.mem_append, List.mem_singleton]
   constructor
   ·rintro (h | h)
    ·exact h
    ·omega
   ·exact .inl
  rw [h2]; simp [e]
theorem unS_una {n : Nat} {k s : Int} {es : List Sy.Ed} (hq : Sy.right n k s es = true) (A : Nat -> Nat -> Bool) (a t0 d : Nat) (hd : n <= 64 * d) (lo : Nat -> Bool) : Sm.Una (EE es) A t0 lo a (unS es A a t0 d (Br.els lo (64 * d))) := by
 have hlt : ∀ p t, EE es p a t -> p < n /\ t < n := fun p t h => by
  have h3 := (right_parts hq).2.2.2.2.2 _ h
  simp only at h3
  omega
 intro q
 unfold unS mtS meetS
 rw [Bool.and_eq_true, List.any_eq_true, Bool.not_eq_true', <- Bool.not_eq_true, List.any_eq_true]
 constructor
 ·rintro ⟨⟨s, hs, h1⟩, h2⟩
  refine ⟨⟨s, (Br.els_mem.1 hs).2, (ez_iff _ _ _ _).1 h1⟩, ?_⟩
  rintro ⟨u, hu, hA⟩
  exact h2 ⟨u, List.mem_range.2 (by have := (hlt q u hu).2; omega), by rw [Bool.and_eq_true]; exact ⟨(ez_iff _ _ _ _).2 hu, hA⟩⟩
 ·rintro ⟨⟨s, hs, h1⟩, h2⟩
  refine ⟨⟨s, Br.els_mem.2 ⟨by have := (hlt q s h1).2; omega, hs⟩, (ez_iff _ _ _ _).2 h1⟩, ?_⟩
  rintro ⟨u, _, hu⟩
  rw [Bool.and_eq_true] at hu
  exact h2 ⟨u, (ez_iff _ _ _ _).1 hu.1, hu.2⟩
end
end Go.Proofs.YtladdlkfnfdhaaaGreatDoor
