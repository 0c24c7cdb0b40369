/- Texts of this claim, joined: SyTab, SyGr, SyNew, RoOf, RoLoop, SyEq, RoIter. -/
import Derived.Test.YtgehimdkdeldaabGreatDoorPart2
import Derived.Test.YtgehimdkdeldaabGreatDoorPart0
import Derived.Deep.DeepCutAuto
import Derived.Deep.RegionHeld3
import Derived.RangeFuncNested
import Derived.RangeFuncBound
import Derived.RangeFuncCalls
import Derived.RangeFuncLeaves
import Derived.RangeFuncBox
import Derived.RangeFuncWrites
import Derived.Deep.LoopGhost
import Derived.Deep.QuietTactic
import Derived.BigQuiet
import Derived.WalkSmall
import Derived.Shelf.Abstract
import Derived.Shelf.RegionOpen
import Derived.WalkKit
import Derived.OwnWalkIn
import Derived.TacticsInMore
import Derived.LoopNIn
import Derived.LoopIn
namespace Go.Proofs.YtgehimdkdeldaabGreatDoor
section
open Go.RowKit Go.Maps
attribute [local go_sem ↓] Go.wp_at_zero Go.wp_at_succ
theorem Tryz.infoSt8 : (Tryz.prog.info? 111).map (fun i => (i.zero, i.size, i.bytes)) = some (some (.agg #[.int .i64 0, .int .i64 0]), 2, 16) := by kernel_rfl
def madeSt (m : Nat) : Array Value := madeCells #[.int .i64 0, .int .i64 0] (m * 2)
theorem madeSt_eq (m : Nat) : (madeSt m).toList = BSteps.C (List.replicate m (0, 0)) := by
 apply List.ext_getElem?
 intro j
 by_cases hj : j < m * 2
 ·have h1 := BSteps.C_at (List.replicate m (0, 0)) (j / 2) (0, 0) (by rw [List.getElem?_replicate, if_pos (by omega)]) (j % 2) (Nat.mod_lt _ (by decide))
  rw [show j / 2 * 2 + j % 2 = j by omega] at h1
  rw [h1, Array.getElem?_toList]
  unfold madeSt madeCells
  have h2 : j % 2 = 0 \/ j % 2 = 1 := by omega
  rcases h2 with e | e <;> simp [hj, e, BSteps.enc]
 ·rw [List.getElem?_eq_none (by simp [madeSt, madeCells]; omega), List.getElem?_eq_none (by rw [BSteps.C_len, List.length_replicate]; omega)]
theorem makeS2 (m : Nat) (hm : m <= 1000000) (w : World) : (Instr.makeSlice 68 (.int .i64 (m : Int)) (.int .i64 (m : Int))).run Tryz.prog w = .ok (.slice (some ⟨w.heap.size, 0, none⟩) m m) (w.alloc (.cells (madeSt m) 111)) := by
 obtain ⟨i0, hi0, hz0, hz1, hz2⟩ := info_parts Tryz.infoSt8
 have h := run_makeSlice (P := Tryz.prog) w 68 111 i0 _ Tryz.underlying68 hi0 hz0 .i64 .i64 (m : Int) (m : Int) (by omega) (Int.le_refl _) (by rw [hz1]; omega) (by rw [hz2]; omega) (by omega)
 rw [h, hz1]
 simp [madeSt, Value.cells]
structure TbAt (w wx : World) (bt bs bb m nb : Nat) (ss : List BSteps.El) (cs : List Int) : Prop where
 box : wx.heap[bt]? = some (.cells #[.slice (some ⟨bs, 0, none⟩) m m, .slice (some ⟨bb, 0, none⟩) nb nb] 90 (0, 0))
 up : w.heap.size < bt
 res : wx.heap[w.heap.size]? = some (.cells #[.slice none 0 0, .slice none 0 0] 90 (0, 0))
 steps : Arr 111 w wx bs (BSteps.C ss)
 nums : Arr 3 w wx bb (iC cs)
 ls : ss.length = m
 ln : cs.length = nb
theorem TbAt.below {w wx w' : World} {bt bs bb m nb : Nat} {ss : List BSteps.El} {cs : List Int} (h : TbAt w wx bt bs bb m nb ss cs) (hb : Below wx.heap.size wx w') : TbAt w w' bt bs bb m nb ss cs :=
 ⟨(hb.block _ (t_lt h.box)).trans h.box, h.up, (hb.block _ (t_lt h.res)).trans h.res, h.steps.below hb, h.nums.below hb, h.ls, h.ln⟩
theorem TbAt.cells {w wx : World} {bt bs bb m nb : Nat} {ss : List BSteps.El} {cs : List Int} (h : TbAt w wx bt bs bb m nb ss cs) : wx.cell? ⟨bt, 0, none⟩ = some (.slice (some ⟨bs, 0, none⟩) m m) /\ wx.cell? ⟨bt, 1, none⟩ = some (.slice (some ⟨bb, 0, none⟩) nb nb) := ⟨cell0_of h.box rfl, cell0_of h.box rfl⟩
theorem arr_ne {t1 t2 : TypeId} {w wx : World} {g1 g2 : Nat} {v1 v2 : List Value} (h1 : Arr t1 w wx g1 v1) (h2 : Arr t2 w wx g2 v2) (hne : t1 ≠ t2) : g1 ≠ g2 := fun e => by
 obtain ⟨c1, a1, _⟩ := h1.ids
 obtain ⟨c2, a2, _⟩ := h2.ids
 rw [e, a2] at a1
 injection a1 with a1
 injection a1 with _ a1
 exact hne a1.symm
theorem arr_bk {t1 t2 : TypeId} {w wx : World} {g1 b : Nat} {v1 : List Value} {cs : Array Value} (h1 : Arr t1 w wx g1 v1) (h2 : wx.heap[b]? = some (.cells cs t2 (0, 0))) (hne : t1 ≠ t2) : b ≠ g1 := fun e => by
 obtain ⟨c1, a1, _⟩ := h1.ids
 rw [e, a1] at h2
 injection h2 with a1
 injection a1 with _ a1
 exact hne a1
theorem TbAt.num {w wx : World} {bt bs bb m nb : Nat} {ss : List BSteps.El} {cs : List Int} (h : TbAt w wx bt bs bb m nb ss cs) (i : Nat) (z : Int) : TbAt w (wx.setCell ⟨bb, i, none⟩ (.int .i64 z)) bt bs bb m nb ss (cs.set i z) := by
 refine ⟨(set_other _ _ _ _ _ (arr_bk h.nums h.box (by decide))).trans h.box, h.up, (set_other _ _ _ _ _ (arr_bk h.nums h.res (by decide))).trans h.res, ?_, ?_, h.ls, by rw [List.length_set]; exact h.ln⟩
 ·exact h.steps.kept (Kept.setCell _ _ _ _) fun b e => by subst e; exact ⟨h.nums.gu, arr_ne h.nums h.steps (by decide)⟩
 ·have h1 := h.nums.set i (.int .i64 z)
  unfold iC at h1 ⊢
  rw [List.map_set]
  exact h1
theorem TbAt.step {w wx : World} {bt bs bb m nb : Nat} {ss : List BSteps.El} {cs : List Int} (h : TbAt w wx bt bs bb m nb ss cs) {i : Nat} (hi : i < m) (z : BSteps.El) : TbAt w ((wx.setCell ⟨bs, i * 2, none⟩ (.int .i64 z.1)).setCell ⟨bs, i * 2 + 1, none⟩ (.int .i64 z.2)) bt bs bb m nb (ss.set i z) cs := by
 have hx := arr_bk h.steps h.box (by decide)
 have hy := arr_bk h.steps h.res (by decide)
 refine ⟨(set_other _ _ _ _ _ hx).trans ((set_other _ _ _ _ _ hx).trans h.box), h.up, (set_other _ _ _ _ _ hy).trans ((set_other _ _ _ _ _ hy).trans h.res), ?_, ?_, by rw [List.length_set]; exact h.ls, h.ln⟩
 ·have h1 := (h.steps.set (i * 2) (.int .i64 z.1)).set (i * 2 + 1) (.int .i64 z.2)
  rw [<- BSteps.C_set ss (by rw [h.ls]; exact hi) z] at h1
  exact h1
 ·exact (h.nums.kept (Kept.setCell _ _ _ _) fun b e => by subst e; exact ⟨h.steps.gu, arr_ne h.steps h.nums (by decide)⟩).kept (Kept.setCell _ _ _ _) fun b e => by subst e; exact ⟨h.steps.gu, arr_ne h.steps h.nums (by decide)⟩
def stp (e : Sy.Ed) : BSteps.El := (e.2.1, e.2.2)
theorem step_done {l : List Sy.Ed} {i m : Nat} {x : Sy.Ed} (hx : l[i]? = some x) (hm : l.length = m) : ((l.take i).map stp ++ List.replicate (m - i) (0, 0)).set i (stp x) = (l.take (i + 1)).map stp ++ List.replicate (m - (i + 1)) (0, 0) := by
 have hi := (List.getElem?_eq_some_iff.1 hx).1
 have hl : ((l.take i).map stp).length = i := by rw [List.length_map, List.length_take]; omega
 have e : m - i = (m - (i + 1)) + 1 := by omega
 rw [List.set_append_right _ _ (by omega), hl, Nat.sub_self, e, List.replicate_succ, List.set_cons_zero, take_succ_of hx, List.map_append, List.append_assoc]
 rfl
theorem al_b (w : World) (a b c d : Obj) : Below w.heap.size w (((w.alloc a).alloc b).alloc c |>.alloc d).drew := (((((Below.refl _ w).alloc (Nat.le_refl _) a).alloc (by simp) b).alloc (by simp; omega) c).alloc (by simp; omega) d).drew
theorem sz1 (w : World) (a : Obj) : (w.alloc a).heap.size = w.heap.size + 1 := by simp
theorem al3 (w : World) (a b c d : Obj) : (((w.alloc a).alloc b).alloc c |>.alloc d).drew.heap[w.heap.size + 1 + 1 + 1]? = some d := by
 have h := heap_alloc_new (((w.alloc a).alloc b).alloc c) d
 rw [sz1, sz1, sz1] at h
 exact h
theorem al2 (w : World) (a b c d : Obj) : (((w.alloc a).alloc b).alloc c |>.alloc d).drew.heap[w.heap.size + 1 + 1]? = some c := by
 have h := heap_alloc_new ((w.alloc a).alloc b) c
 rw [sz1, sz1] at h
 exact (Below.heap_alloc _ _ _ (by rw [sz1, sz1, sz1]; omega)).trans h
theorem al1 (w : World) (a b c d : Obj) : (((w.alloc a).alloc b).alloc c |>.alloc d).drew.heap[w.heap.size + 1]? = some b := by
 have h := heap_alloc_new (w.alloc a) b
 rw [sz1] at h
 exact (Below.heap_alloc _ _ _ (by rw [sz1, sz1, sz1]; omega)).trans ((Below.heap_alloc _ _ _ (by rw [sz1, sz1]; omega)).trans h)
theorem al0 (w : World) (a b c d : Obj) : (((w.alloc a).alloc b).alloc c |>.alloc d).drew.heap[w.heap.size]? = some a :=
 (Below.heap_alloc _ _ _ (by rw [sz1, sz1, sz1]; omega)).trans ((Below.heap_alloc _ _ _ (by rw [sz1, sz1]; omega)).trans ((Below.heap_alloc _ _ _ (by rw [sz1]; omega)).trans (heap_alloc_new w a)))
theorem iC_rep (n : Nat) : List.replicate n (Value.int .i64 0) = iC (List.replicate n 0) := by simp [iC]
theorem tb_start {w wx : World} {bt bs bb m n : Nat} (hbt : wx.heap[bt]? = some (.cells #[.slice (some ⟨bs, 0, none⟩) m m, .slice (some ⟨bb, 0, none⟩) (n + 1) (n + 1)] 90 (0, 0))) (hup : w.heap.size < bt) (hres : wx.heap[w.heap.size]? = some (.cells #[.slice none 0 0, .slice none 0 0] 90 (0, 0)))
 (hb : Below w.heap.size w wx) (hs : wx.heap[bs]? = some (.cells (madeSt m) 111 (0, 0))) (gs : w.heap.size <= bs) (hn : wx.heap[bb]? = some (.cells (madeV (.int .i64 0) (n + 1)) 3 (0, 0))) (gn : w.heap.size <= bb) (l : List Sy.Ed) : TbAt w wx bt bs bb m (n + 1) ((l.take 0).map stp ++ List.replicate (m - 0) (0, 0)) (Sy.bndL n (l.take 0)) := by
 rw [List.take_zero, Sy.bnd_zero, List.map_nil, List.nil_append, Nat.sub_zero]
 refine ⟨hbt, hup, hres, ⟨hb, ⟨_, hs, madeSt_eq m⟩, gs⟩, ⟨hb, ⟨_, hn, ?_⟩, gn⟩, by simp, by simp⟩
 rw [madeV_eq _ rfl, iC_rep]
set_option maxRecDepth 100000 in
set_option maxHeartbeats 8000000 in
theorem tableOf_any (f : Nat) (vw : Sy.Ed -> Sy.Ed) (hV : ViewAt f vw) (n : Nat) (v : Value) (os : List Sy.Ed) (w : World) (hn : n <= 100000) (hm : os.length <= 100000) (hv : BEdges.Has w v os) (hr : ∀ e ∈ os.map vw, 0 <= e.1 /\ e.1 < (n : Int)) (hs : Sy.Rows (os.map vw)) :
 Calls Tryz.prog 31 #[.int .i64 n, v, .func (.func f) #[] #[]] w fun r w' => ∃ bs bb, r = .returned (.agg #[.slice (some ⟨bs, 0, none⟩) os.length os.length, .slice (some ⟨bb, 0, none⟩) (n + 1) (n + 1)]) /\ Arr 111 w w' bs (BSteps.C ((os.map vw).map stp)) /\ Arr 3 w w' bb (iC (Sy.bounds n (os.map vw))) := by
 obtain ⟨he, hV⟩ := hV
 obtain ⟨av, cv, rfl, _⟩ := _root_.id hv
 obtain ⟨m, hM⟩ : ∃ m, m = os.length := ⟨_, rfl⟩
 obtain ⟨l, hl⟩ : ∃ l, l = os.map vw := ⟨_, rfl⟩
 rw [<- hl] at hr hs ⊢
 rw [<- hM] at hv hm ⊢
 have hll : l.length = m := by rw [hl, List.length_map, hM]
 have HV : Hid _ := And.intro hv (And.intro hV (And.intro hl (And.intro hll (And.intro hr (And.intro hs hM)))))
 have hmk := makeS2 m (by omega)
 have hmi := makeI (n + 1) (by omega)
 have hwr : IntKind.i64.wrap ((n : Int) + 1) = (n : Int) + 1 := by rw [IntKind.wrap_i64]; omega
 have hcast : (((n + 1 : Nat)) : Int) = (n : Int) + 1 := by omega
 rw [hcast] at hmi
 clear hv hV hl hll hr hs hM hcast
 go_enter Tryz.func31, Tryz.ntmps31
 go_upto_region 1 with fail
 go_cut [7] (fun s7 wx => ∃ bt bs bb, s7 = .pointer (some ⟨bt, 0, none⟩) /\ TbAt w wx bt bs bb m (n + 1) ((l.take 0).map stp ++ List.replicate (m - 0) (0, 0)) (Sy.bndL n (l.take 0)))
 case first =>
  go_region
  all_goals go_wp2_with fail
  all_goals (go_meet; case rel => first | exact ⟨_, _, _, rfl, tb_start (al1 w _ _ _ _) (by omega) (al0 w _ _ _ _) (al_b w _ _ _ _) (al2 w _ _ _ _) (by omega) (al3 w _ _ _ _) (by omega) l⟩ | exact ⟨_, _, _, rfl, tb_start (al1 w _ _ _ _) (by omega) (al0 w _ _ _ _) (al_b w _ _ _ _) (al3 w _ _ _ _) (by omega) (al2 w _ _ _ _) (by omega) l⟩ | exact ⟨_, _, _, rfl, tb_start (al2 w _ _ _ _) (by omega) (al0 w _ _ _ _) (al_b w _ _ _ _) (al1 w _ _ _ _) (by omega) (al3 w _ _ _ _) (by omega) l⟩ | exact ⟨_, _, _, rfl, tb_start (al2 w _ _ _ _) (by omega) (al0 w _ _ _ _) (al_b w _ _ _ _) (al3 w _ _ _ _) (by omega) (al1 w _ _ _ _) (by omega) l⟩ | exact ⟨_, _, _, rfl, tb_start (al3 w _ _ _ _) (by omega) (al0 w _ _ _ _) (al_b w _ _ _ _) (al1 w _ _ _ _) (by omega) (al2 w _ _ _ _) (by omega) l⟩ | exact ⟨_, _, _, rfl, tb_start (al3 w _ _ _ _) (by omega) (al0 w _ _ _ _) (al_b w _ _ _ _) (al2 w _ _ _ _) (by omega) (al1 w _ _ _ _) (by omega) l⟩)
 case rest =>
  obtain ⟨bt, bs, bb, rfl, hT⟩ := hcut
  have HT : Hid _ := hT
  clear hT hmk hmi
  go_wp2_with fail
  go_loopg [22] m (fun q iv wr => ∃ i : Nat, q = m - i /\ i <= m /\ iv = .int .i64 i /\ TbAt w wr bt bs bb m (n + 1) ((l.take i).map stp ++ List.replicate (m - i) (0, 0)) (Sy.bndL n (l.take i)))
  case atStart => exact ⟨0, rfl, Nat.zero_le _, rfl, HT.out⟩
  case round =>
   obtain ⟨i, rfl, hi, rfl, hTi⟩ := hrel
   by_cases hlt : i < m
   ·obtain ⟨e, hx⟩ : ∃ e, os[i]? = some e := ⟨os[i]'(by have := HV.out.2.2.2.2.2.2; omega), List.getElem?_eq_getElem _⟩
    have hlx : l[i]? = some (vw e) := by rw [HV.out.2.2.1, List.getElem?_map, hx]; rfl
    obtain ⟨a, rfl, z0, z1, z2⟩ := edge_at (HV.out.1.below hTi.steps.bl) hx
    have q0 : (0 : Int) <= (i : Int) := by omega
    have q1 : (i : Int) < (m : Int) := by omega
    obtain ⟨hr1, hr2⟩ := HV.out.2.2.2.2.1 (vw e) (List.mem_of_getElem? hlx)
    obtain ⟨q, hq⟩ : ∃ q : Nat, (vw e).1 = (q : Int) := ⟨(vw e).1.toNat, by omega⟩
    have hqn : q < n := by omega
    have hvw := HV.out.2.1 e
    obtain ⟨e0, e1, e2⟩ := e
    obtain ⟨p, hp⟩ : ∃ p, p = vw (e0, e1, e2) := ⟨_, rfl⟩
    rw [<- hp] at hvw hlx hq
    obtain ⟨p0, p1, p2⟩ := p
    simp only at hq hvw z0 z1 z2
    subst hq
    unfold edV at hvw
    have HI : Hid _ := And.intro hTi (And.intro hlx hvw)
    clear hTi hlx hx hvw hp hr1 hr2
    go_wp2_with fail
    refine Calls.mono (HI.out.2.2 _) ?_
    rintro r w2 ⟨rfl, hb2⟩
    obtain ⟨w3, hw3⟩ : ∃ w3, w3 = w2.alloc (.cells #[.int .i64 p1, .int .i64 p2] 111) := ⟨_, rfl⟩
    have hb3 : Below wr.heap.size wr w3 := by
     rw [hw3]
     exact (((Below.refl _ wr).alloc (Nat.le_refl _) _).trans (hb2.mono (by simp))).alloc (by have := hb2.size; simp at this; omega) _
    have hg3 : w3.heap[w2.heap.size]? = some (.cells #[.int .i64 p1, .int .i64 p2] 111 (0, 0)) := by rw [hw3]; exact heap_alloc_new w2 _
    have hT3 := HI.out.1.below hb3
    obtain ⟨c0, c1⟩ := hT3.cells
    have s0 : w3.cell? ⟨w2.heap.size, 0, none⟩ = some (.int .i64 p1) := cell0_of hg3 rfl
    have s1 : w3.cell? ⟨w2.heap.size, 1, none⟩ = some (.int .i64 p2) := cell0_of hg3 rfl
    have f0 := hT3.steps.free (i * 2)
    have f1 := hT3.steps.free (i * 2 + 1)
    have f2 := hT3.nums.free (q + 1)
    have hn1 : ¬ bt = bs := arr_bk hT3.steps hT3.box (by decide)
    have hn2 : ¬ bb = bs := fun h => arr_ne hT3.steps hT3.nums (by decide) h.symm
    obtain ⟨o0, ho0⟩ : ∃ o, ((l.take i).map stp ++ List.replicate (m - i) (0, 0))[i]? = some o := ⟨_, List.getElem?_eq_getElem (by rw [hT3.ls]; exact hlt)⟩
    have d0 : w3.cell? ⟨bs, i * 2, none⟩ = some (.int .i64 o0.1) := hT3.steps.cell ((BSteps.C_at _ i o0 ho0 0 (by decide)).trans rfl)
    have d1 : w3.cell? ⟨bs, i * 2 + 1, none⟩ = some (.int .i64 o0.2) := hT3.steps.cell ((BSteps.C_at _ i o0 ho0 1 (by decide)).trans rfl)
    obtain ⟨o1, ho1⟩ : ∃ o, (Sy.bndL n (l.take i))[q + 1]? = some o := ⟨_, List.getElem?_eq_getElem (by rw [hT3.ln]; omega)⟩
    have d2 := hT3.nums.cell (i := q + 1) (x := .int .i64 o1) (by unfold iC; rw [List.getElem?_map, ho1]; rfl)
    have r0 : (0 : Int) <= (q : Int) + 1 := by omega
    have r1 : (q : Int) + 1 < (n : Int) + 1 := by omega
    have r2 : ((q : Int) + 1).toNat = q + 1 := by omega
    have r3 : IntKind.i64.wrap ((q : Int) + 1) = (q : Int) + 1 := by rw [IntKind.wrap_i64]; omega
    have r4 : IntKind.i64.wrap ((i : Int) + 1) = (i : Int) + 1 := by rw [IntKind.wrap_i64]; omega
    have H3 : Hid _ := And.intro hT3 hw3
    clear hb2 hb3 hg3 hT3 hw3 ho0 ho1
    go_upto_region 6 with fail
    rw [<- H3.out.2]
    go_wp2_with fail
    go_roundg (m - (i + 1))
    case measure => omega
    case rel =>
     have h9 := (H3.out.1.step hlt (p1, p2)).num (q + 1) ((i : Int) + 1)
     rw [show (p1, p2) = stp ((q : Int), p1, p2) from rfl, step_done HI.out.2.1 HV.out.2.2.2.1, Sy.bnd_step HI.out.2.1 rfl] at h9
     exact ⟨i + 1, rfl, by omega, by go_num, h9⟩
   ·obtain rfl : i = m := by omega
    have hTm : TbAt w wr bt bs bb i (n + 1) (l.map stp) (Sy.mixL n l 0) := by
     have h9 := hTi
     have hli := HV.out.2.2.2.1
     rw [Nat.sub_self, List.replicate_zero, List.append_nil, List.take_of_length_le (by omega)] at h9
     rw [Sy.mix_zero fun e he => (HV.out.2.2.2.2.1 e he).1]
     exact h9
    have HTm : Hid _ := hTm
    clear hTi hTm
    have q1 : ¬ (i : Int) < (i : Int) := by omega
    go_wp2_with fail
    go_loopg [47] n (fun q iv wr => ∃ st : Nat, q = n - st /\ st <= n /\ iv = .int .i64 st /\ TbAt w wr bt bs bb i (n + 1) (l.map stp) (Sy.mixL n l st))
    case atStart => exact ⟨0, rfl, Nat.zero_le _, rfl, HTm.out⟩
    case round =>
     obtain ⟨st, rfl, hst, rfl, hTs⟩ := hrel
     by_cases hlt2 : st < n
     ·obtain ⟨c0, c1⟩ := hTs.cells
      have x1 := hTs.nums.cell (i := st + 1) (x := .int .i64 (Sy.lastOf l (st : Int) : Nat)) (by
       unfold iC
       rw [List.getElem?_map, Sy.mix_at (by omega), if_neg (by omega), show ((st + 1 : Nat) : Int) - 1 = (st : Int) by omega]
       rfl)
      have x0 := hTs.nums.cell (i := st) (x := .int .i64 (Sy.cnt l (st : Int) : Nat)) (by
       unfold iC
       rw [List.getElem?_map, Sy.mix_at (by omega), if_pos (Nat.le_refl _)]
       rfl)
      have f1 := hTs.nums.free (st + 1)
      have hms := Sy.mix_step (n := n) (st := st) HV.out.2.2.2.2.2.1
      obtain ⟨A, hA⟩ : ∃ A, A = Sy.lastOf l (st : Int) := ⟨_, rfl⟩
      obtain ⟨B, hB⟩ : ∃ B, B = Sy.cnt l (st : Int) := ⟨_, rfl⟩
      rw [<- hA, <- hB] at hms
      rw [<- hA] at x1
      rw [<- hB] at x0
      have r0 : (0 : Int) <= (st : Int) + 1 := by omega
      have r1 : (st : Int) + 1 < (n : Int) + 1 := by omega
      have r2 : ((st : Int) + 1).toNat = st + 1 := by omega
      have r3 : IntKind.i64.wrap ((st : Int) + 1) = (st : Int) + 1 := by rw [IntKind.wrap_i64]; omega
      have r5 : (0 : Int) <= (st : Int) := by omega
      have r6 : (st : Int) < (n : Int) + 1 := by omega
      have r7 : (st : Int) < (n : Int) := by omega
      have HS : Hid _ := And.intro hTs hms
      clear hTs hms hA hB c0
      go_wp2_with fail
      go_region
      all_goals go_wp2_with fail
      go_roundg (n - (st + 1))
      case measure => omega
      case rel =>
       refine ⟨st + 1, rfl, by omega, by go_num, ?_⟩
       have h9 := (HS.out.1.num (st + 1) ((max A B : Nat) : Int)).below (Below.refl _ _).drew
       rw [HS.out.2] at h9
       have e9 : max (A : Int) (B : Int) = ((max A B : Nat) : Int) := by omega
       rw [e9]
       exact h9
     ·obtain rfl : st = n := by omega
      obtain ⟨c0, c1⟩ := hTs.cells
      have d0 : wr.cell? ⟨w.heap.size, 0, none⟩ = some (.slice none 0 0) := cell0_of hTs.res rfl
      have d1 : wr.cell? ⟨w.heap.size, 1, none⟩ = some (.slice none 0 0) := cell0_of hTs.res rfl
      have f0 := blk_free hTs.res 0
      have f1 := blk_free hTs.res 1
      have HS : Hid _ := hTs
      clear hTs
      have r7 : ¬ (st : Int) < (st : Int) := by omega
      go_wp2_with fail
      have hres := HS.out.res
      have g1 : ((wr.setCell ⟨w.heap.size, 0, none⟩ (.slice (some ⟨bs, 0, none⟩) i i)).setCell ⟨w.heap.size, 1, none⟩ (.slice (some ⟨bb, 0, none⟩) (st + 1) (st + 1))).heap[w.heap.size]? = some (.cells #[.slice (some ⟨bs, 0, none⟩) i i, .slice (some ⟨bb, 0, none⟩) (st + 1) (st + 1)] 90 (0, 0)) := heap_setCell_same _ _ 1 _ _ _ (heap_setCell_same _ _ 0 _ _ _ hres)
      have k1 := Kept.setCell wr w.heap.size 0 (.slice (some ⟨bs, 0, none⟩) i i)
      have k2 := Kept.setCell (wr.setCell ⟨w.heap.size, 0, none⟩ (.slice (some ⟨bs, 0, none⟩) i i)) w.heap.size 1 (.slice (some ⟨bb, 0, none⟩) (st + 1) (st + 1))
      have n1 := arr_bk HS.out.steps hres (by decide)
      have n2 := arr_bk HS.out.nums hres (by decide)
      have hs9 := (HS.out.steps.kept k1 fun b e => by subst e; exact ⟨Nat.le_refl _, n1⟩).kept k2 fun b e => by subst e; exact ⟨Nat.le_refl _, n1⟩
      have hn9 := (HS.out.nums.kept k1 fun b e => by subst e; exact ⟨Nat.le_refl _, n2⟩).kept k2 fun b e => by subst e; exact ⟨Nat.le_refl _, n2⟩
      rw [Sy.mix_full] at hn9
      generalize ((wr.setCell ⟨w.heap.size, 0, none⟩ (.slice (some ⟨bs, 0, none⟩) i i)).setCell ⟨w.heap.size, 1, none⟩ (.slice (some ⟨bb, 0, none⟩) (st + 1) (st + 1))) = wf at g1 hs9 hn9 ⊢
      have y0 : wf.cell? ⟨w.heap.size, 0, none⟩ = some (.slice (some ⟨bs, 0, none⟩) i i) := cell0_of g1 rfl
      have y1 : wf.cell? ⟨w.heap.size, 1, none⟩ = some (.slice (some ⟨bb, 0, none⟩) (st + 1) (st + 1)) := cell0_of g1 rfl
      clear c0 c1 d0 d1 f0 f1
      exact bodyPost_ret (v := .agg #[.slice (some ⟨bs, 0, none⟩) i i, .slice (some ⟨bb, 0, none⟩) (st + 1) (st + 1)]) (by simp [results, Tryz.results31, go_sem, y0, y1]) rfl ⟨bs, bb, rfl, hs9, hn9⟩
end
section
open Go.RowKit Go.Maps
attribute [local go_sem ↓] Go.wp_at_zero Go.wp_at_succ
def Blk (ty : TypeId) (B : Nat) (w : World) (g : Nat) (vs : List Value) : Prop := (∃ cs, w.heap[g]? = some (.cells cs ty (0, 0)) /\ cs.toList = vs) /\ B <= g
theorem Blk.of_arr {ty : TypeId} {w wr : World} {g : Nat} {vs : List Value} (h : Arr ty w wr g vs) : Blk ty w.heap.size wr g vs := ⟨h.ids, h.gu⟩
theorem Blk.lt {ty : TypeId} {B : Nat} {w : World} {g : Nat} {vs : List Value} (h : Blk ty B w g vs) : g < w.heap.size := by
 obtain ⟨⟨cs, hc, _⟩, _⟩ := h
 exact t_lt hc
theorem Blk.at {ty : TypeId} {B : Nat} {w w' : World} {g : Nat} {vs : List Value} (h : Blk ty B w g vs) (hb : w'.heap[g]? = w.heap[g]?) : Blk ty B w' g vs := by
 obtain ⟨⟨cs, hc, hx⟩, hg⟩ := h
 exact ⟨⟨cs, hb.trans hc, hx⟩, hg⟩
theorem Blk.below {ty : TypeId} {B : Nat} {w w' : World} {g : Nat} {vs : List Value} (h : Blk ty B w g vs) (hb : Below w.heap.size w w') : Blk ty B w' g vs := h.at (hb.block _ h.lt)
theorem Blk.cell {ty : TypeId} {B : Nat} {w : World} {g : Nat} {vs : List Value} (h : Blk ty B w g vs) {i : Nat} {x : Value} (hi : vs[i]? = some x) : w.cell? ⟨g, i, none⟩ = some x := by
 obtain ⟨⟨cs, hc, hx⟩, _⟩ := h
 refine cell0_of hc ?_
 rw [<- Array.getElem?_toList, hx]
 exact hi
theorem Blk.base {ty : TypeId} {B B' : Nat} {w : World} {g : Nat} {vs : List Value} (h : Blk ty B w g vs) (hb : B' <= B) : Blk ty B' w g vs := ⟨h.1, Nat.le_trans hb h.2⟩
def tabV (bs bb m n : Nat) : Value := .agg #[.slice (some ⟨bs, 0, none⟩) m m, .slice (some ⟨bb, 0, none⟩) (n + 1) (n + 1)]
structure Tb (w : World) (B bs bb n : Nat) (l : List Sy.Ed) : Prop where
 steps : Blk 111 B w bs (BSteps.C (l.map stp))
 nums : Blk 3 B w bb (iC (Sy.bounds n l))
theorem Tb.below {w w' : World} {B bs bb n : Nat} {l : List Sy.Ed} (h : Tb w B bs bb n l) (hb : Below w.heap.size w w') : Tb w' B bs bb n l := ⟨h.steps.below hb, h.nums.below hb⟩
def Sy.rowOf (n : Nat) (l : List Sy.Ed) (i : Int) : List BSteps.El := if 0 <= i /\ i < (n : Int) then Sy.steps l i else []
theorem map_stp (l : List Sy.Ed) (i : Int) (h : Sy.Rows l) : Sy.steps l i = ((l.map stp).drop (Sy.cnt l i)).take (Sy.cnt l (i + 1) - Sy.cnt l i) := by
 unfold Sy.steps
 rw [Sy.row_piece h i, List.map_take, List.map_drop]
 rfl
theorem rowOf_len (n : Nat) (l : List Sy.Ed) (i : Int) : (Sy.rowOf n l i).length <= l.length := by
 unfold Sy.rowOf
 split
 ·exact Sy.steps_len l i
 ·simp
theorem hasS_nil (w : World) (c : Nat) : BSteps.Has w (.slice none 0 c) [] := ⟨none, c, rfl, fun j u h => by simp [BSteps.C] at h⟩
theorem hasS_none (w : World) (a : Option Addr) (c : Nat) : BSteps.Has w (.slice a 0 c) [] := ⟨a, c, rfl, fun j u h => by simp [BSteps.C] at h⟩
theorem piece_has {w : World} {B bs : Nat} {zs : List BSteps.El} (h : Blk 111 B w bs (BSteps.C zs)) (i k c : Nat) (hk : i + k <= zs.length) : BSteps.Has w (.slice (some ⟨bs, i * 2, none⟩) k c) ((zs.drop i).take k) := by
 have hl : ((zs.drop i).take k).length = k := by rw [List.length_take, List.length_drop]; omega
 refine ⟨some ⟨bs, i * 2, none⟩, c, by rw [hl], fun j u hj => ⟨_, rfl, ?_⟩⟩
 have hj2 : j < k * 2 := by have := (List.getElem?_eq_some_iff.1 hj).1; rw [BSteps.C_len, hl] at this; exact this
 obtain ⟨z, hz⟩ : ∃ z, ((zs.drop i).take k)[j / 2]? = some z := ⟨_, List.getElem?_eq_getElem (by rw [hl]; omega)⟩
 have h1 := BSteps.C_at _ (j / 2) z hz (j % 2) (Nat.mod_lt _ (by decide))
 rw [show j / 2 * 2 + j % 2 = j by omega, hj] at h1
 have hz2 : zs[i + j / 2]? = some z := by
  rw [List.getElem?_take_of_lt (by omega), List.getElem?_drop] at hz
  exact hz
 have h2 := BSteps.C_at _ (i + j / 2) z hz2 (j % 2) (Nat.mod_lt _ (by decide))
 rw [<- h1] at h2
 have h3 := h.cell h2
 rw [show (i + j / 2) * 2 + j % 2 = i * 2 + j by omega] at h3
 rw [Addr.add_lit]
 exact h3
set_option maxRecDepth 100000 in
set_option maxHeartbeats 4000000 in
theorem row_any (bs bb m n B : Nat) (l : List Sy.Ed) (i : Int) (w : World) (hn : n <= 100000) (hl : l.length = m) (hs : Sy.Rows l) (hT : Tb w B bs bb n l) :
 Calls Tryz.prog 41 #[tabV bs bb m n, .int .i64 i] w fun r w' => ∃ v, r = .returned v /\ (∀ W, Tb W B bs bb n l -> BSteps.Has W v (Sy.rowOf n l i)) /\ Below w.heap.size w w' := by
 obtain ⟨w1, hw1⟩ : ∃ w1, w1 = w.alloc (.cells #[.slice (some ⟨bs, 0, none⟩) m m, .slice (some ⟨bb, 0, none⟩) (n + 1) (n + 1)] 90) := ⟨_, rfl⟩
 have hb1 : Below w.heap.size w w1 := by rw [hw1]; exact (Below.refl _ _).alloc (Nat.le_refl _) _
 have hg1 : w1.heap[w.heap.size]? = some (.cells #[.slice (some ⟨bs, 0, none⟩) m m, .slice (some ⟨bb, 0, none⟩) (n + 1) (n + 1)] 90 (0, 0)) := by rw [hw1]; exact heap_alloc_new w _
 have hT1 := hT.below hb1
 have hB := fun W => below_any i (n : Int) W
 have HB : Hid _ := hB
 have r0 : IntKind.i64.wrap ((n : Int) + 1 - 1) = (n : Int) := by rw [IntKind.wrap_i64]; omega
 unfold tabV Sy.rowOf
 by_cases hi : 0 <= i /\ i < (n : Int)
 ·rw [if_pos hi]
  rw [decide_eq_true hi] at HB
  obtain ⟨q, rfl⟩ : ∃ q : Nat, i = (q : Int) := ⟨i.toNat, by omega⟩
  have hqn : q < n := by omega
  have c0 : w1.cell? ⟨w.heap.size, 0, none⟩ = some (.slice (some ⟨bs, 0, none⟩) m m) := cell0_of hg1 rfl
  have c1 : w1.cell? ⟨w.heap.size, 1, none⟩ = some (.slice (some ⟨bb, 0, none⟩) (n + 1) (n + 1)) := cell0_of hg1 rfl
  have x0 := hT1.nums.cell (i := q) (x := .int .i64 (Sy.cnt l (q : Int) : Nat)) (by unfold iC; rw [List.getElem?_map, Sy.bounds_at (by omega)]; rfl)
  have x1 := hT1.nums.cell (i := q + 1) (x := .int .i64 (Sy.cnt l ((q : Int) + 1) : Nat)) (by unfold iC; rw [List.getElem?_map, Sy.bounds_at (by omega)]; rfl)
  have hle := Sy.cnt_mono l (q : Int)
  have hlm := Sy.cnt_le l ((q : Int) + 1)
  have hpc : ∀ W, Tb W B bs bb n l -> BSteps.Has W (.slice (some ⟨bs, Sy.cnt l (q : Int) * 2, none⟩) (Sy.cnt l ((q : Int) + 1) - Sy.cnt l (q : Int)) (Sy.cnt l ((q : Int) + 1) - Sy.cnt l (q : Int))) (Sy.steps l q) := fun W hW => by
   rw [map_stp l q hs]
   exact piece_has hW.steps (Sy.cnt l (q : Int)) (Sy.cnt l ((q : Int) + 1) - Sy.cnt l (q : Int)) (Sy.cnt l ((q : Int) + 1) - Sy.cnt l (q : Int)) (by rw [List.length_map]; omega)
  have hz : Sy.cnt l ((q : Int) + 1) - Sy.cnt l (q : Int) = 0 -> Sy.steps l q = [] := fun e => by rw [map_stp l q hs, e]; simp
  generalize Sy.cnt l (q : Int) = b at x0 hle hpc hz
  generalize Sy.cnt l ((q : Int) + 1) = e at x1 hle hlm hpc hz
  have r1 : (0 : Int) <= (q : Int) := by omega
  have r2 : (q : Int) < (n : Int) + 1 := by omega
  have r3 : (0 : Int) <= (q : Int) + 1 := by omega
  have r4 : (q : Int) + 1 < (n : Int) + 1 := by omega
  have r5 : ((q : Int) + 1).toNat = q + 1 := by omega
  have r6 : IntKind.i64.wrap ((q : Int) + 1) = (q : Int) + 1 := by rw [IntKind.wrap_i64]; omega
  have r7 : (0 : Int) <= (b : Int) := by omega
  have r8 : (b : Int) <= (e : Int) := by omega
  have r9 : (e : Int) <= (m : Int) := by omega
  have H1 : Hid _ := And.intro hw1 (And.intro hb1 (And.intro hpc hz))
  clear hw1 hb1 hg1 hT1 hT hB hpc hz hs hl hi
  go_enter Tryz.func41, Tryz.ntmps41
  go_upto_region 1 with fail
  rw [<- H1.out.1]
  go_wp2_with (go_at_call 58; refine (HB.out _).mono ?_; rintro r w2 ⟨rfl, hw2⟩; obtain rfl := hw2.symm)
  go_quiet (fail)
  go_wp2_with fail
  ·go_ret
   refine ⟨_, rfl, fun W _ => ?_, below_drewN H1.out.2.1 _⟩
   rw [H1.out.2.2.2 (by omega)]
   exact hasS_none _ _ _
  ·go_ret
   exact ⟨_, rfl, H1.out.2.2.1, below_drewN H1.out.2.1 _⟩
 ·rw [if_neg hi]
  rw [decide_eq_false hi] at HB
  have c1 : w1.cell? ⟨w.heap.size, 1, none⟩ = some (.slice (some ⟨bb, 0, none⟩) (n + 1) (n + 1)) := cell0_of hg1 rfl
  have H1 : Hid _ := And.intro hw1 hb1
  clear hw1 hb1 hg1 hT1 hT hB hs hl hi
  go_enter Tryz.func41, Tryz.ntmps41
  go_upto_region 1 with fail
  rw [<- H1.out.1]
  go_wp2_with (go_at_call 58; refine (HB.out _).mono ?_; rintro r w2 ⟨rfl, hw2⟩; obtain rfl := hw2.symm)
  go_ret
  exact ⟨_, rfl, fun W _ => hasS_nil _ _, H1.out.2⟩
structure Gr (w : World) (B g bs bb cs cb n : Nat) (k s : Int) (es : List Sy.Ed) : Prop where
 box : w.heap[g]? = some (.cells #[.int .i64 n, .int .i64 k, .int .i64 s, .slice (some ⟨bs, 0, none⟩) (Sy.nf es).length (Sy.nf es).length, .slice (some ⟨bb, 0, none⟩) (n + 1) (n + 1), .slice (some ⟨cs, 0, none⟩) (Sy.nf es).length (Sy.nf es).length, .slice (some ⟨cb, 0, none⟩) (n + 1) (n + 1)] 95 (0, 0))
 up : B <= g
 out : Tb w B bs bb n (Sy.nf es)
 inn : Tb w B cs cb n (Sy.nf ((Sy.nf es).map Sy.turn))
 right : Sy.right n k s es = true
theorem Gr.below {w w' : World} {B g bs bb cs cb n : Nat} {k s : Int} {es : List Sy.Ed} (h : Gr w B g bs bb cs cb n k s es) (hb : Below w.heap.size w w') : Gr w' B g bs bb cs cb n k s es :=
 ⟨(hb.block _ (t_lt h.box)).trans h.box, h.up, h.out.below hb, h.inn.below hb, h.right⟩
theorem right_parts {n k s : Int} {es : List Sy.Ed} (h : Sy.right n k s es = true) : (0 <= n /\ n <= 1000) /\ (1 <= k /\ k <= 201) /\ es.length <= 10000 /\ (n = 0 -> s = 0) /\ (0 < n -> 0 <= s /\ s < n) /\ ∀ e ∈ es, 0 <= e.1 /\ e.1 < n /\ 0 <= e.2.2 /\ e.2.2 < n /\ 0 <= e.2.1 /\ e.2.1 < k := by
 unfold Sy.right at h
 simp only [Bool.and_eq_true, decide_eq_true_eq, List.all_eq_true] at h
 obtain ⟨⟨h1, h2⟩, h3⟩ := h
 exact ⟨⟨h1.1, h1.2.1⟩, ⟨h1.2.2.1, h1.2.2.2.1⟩, h1.2.2.2.2, h2.1, h2.2, h3⟩
theorem str_rows {l : List Sy.Ed} (h : Sy.Str l) : Sy.Rows l := by
 induction l with
 | nil => exact .nil
 | cons a r ih =>
   refine List.pairwise_cons.2 ⟨fun b hb => ?_, ih h.tail⟩
   have h1 := h.head b hb
   rw [Sy.lt_iff] at h1
   omega
theorem nf_rows (l : List Sy.Ed) : Sy.Rows (Sy.nf l) := str_rows (Sy.nf_str l)
theorem turn_turn (e : Sy.Ed) : Sy.turn (Sy.turn e) = e := rfl
theorem nf_turn_len (l : List Sy.Ed) : (Sy.nf ((Sy.nf l).map Sy.turn)).length = (Sy.nf l).length := by
 apply Nat.le_antisymm
 ·have h := Sy.nf_len ((Sy.nf l).map Sy.turn)
  rw [List.length_map] at h
  exact h
 ·have h := Sy.str_len (m := Sy.nf l) (l := (Sy.nf ((Sy.nf l).map Sy.turn)).map Sy.turn) (Sy.nf_str l) (fun x hx => by
   refine List.mem_map.2 ⟨Sy.turn x, ?_, turn_turn x⟩
   rw [Sy.nf_mem]
   exact List.mem_map.2 ⟨x, hx, rfl⟩)
  rw [List.length_map] at h
  exact h
theorem Gr.sizes {w : World} {B g bs bb cs cb n : Nat} {k s : Int} {es : List Sy.Ed} (h : Gr w B g bs bb cs cb n k s es) : n <= 1000 /\ (Sy.nf es).length <= 10000 := by
 obtain ⟨⟨_, h1⟩, _, h2, _⟩ := right_parts h.right
 have := Sy.nf_len es
 exact ⟨by omega, by omega⟩
theorem Gr.cells {w : World} {B g bs bb cs cb n : Nat} {k s : Int} {es : List Sy.Ed} (h : Gr w B g bs bb cs cb n k s es) :
 w.cell? ⟨g, 0, none⟩ = some (.int .i64 n) /\ w.cell? ⟨g, 1, none⟩ = some (.int .i64 k) /\ w.cell? ⟨g, 2, none⟩ = some (.int .i64 s) /\ (w.cell? ⟨g, 3, none⟩ = some (.slice (some ⟨bs, 0, none⟩) (Sy.nf es).length (Sy.nf es).length) /\ w.cell? ⟨g, 4, none⟩ = some (.slice (some ⟨bb, 0, none⟩) (n + 1) (n + 1))) /\ w.cell? ⟨g, 5, none⟩ = some (.slice (some ⟨cs, 0, none⟩) (Sy.nf es).length (Sy.nf es).length) /\ w.cell? ⟨g, 6, none⟩ = some (.slice (some ⟨cb, 0, none⟩) (n + 1) (n + 1)) :=
 ⟨cell0_of h.box rfl, cell0_of h.box rfl, cell0_of h.box rfl, ⟨cell0_of h.box rfl, cell0_of h.box rfl⟩, cell0_of h.box rfl, cell0_of h.box rfl⟩
theorem Tryz.eqG (g : Nat) (w : World) : (binOp BinOp.eql 61 (.pointer (some ⟨g, 0, none⟩)) (.pointer none)).run Tryz.prog w = .ok (.bool false) w := by kernel_rfl
theorem Gr.row {w : World} {B g bs bb cs cb n : Nat} {k s : Int} {es : List Sy.Ed} (h : Gr w B g bs bb cs cb n k s es) (i : Int) : Calls Tryz.prog 41 #[.agg #[.slice (some ⟨bs, 0, none⟩) (Sy.nf es).length (Sy.nf es).length, .slice (some ⟨bb, 0, none⟩) (n + 1) (n + 1)], .int .i64 i] w fun r w' => ∃ v, r = .returned v /\ (∀ W, Tb W B bs bb n (Sy.nf es) -> BSteps.Has W v (Sy.rowOf n (Sy.nf es) i)) /\ Below w.heap.size w w' := by
 obtain ⟨h1, h2⟩ := h.sizes
 exact row_any bs bb (Sy.nf es).length n B (Sy.nf es) i w (by omega) rfl (nf_rows _) h.out
theorem Gr.rowIn {w : World} {B g bs bb cs cb n : Nat} {k s : Int} {es : List Sy.Ed} (h : Gr w B g bs bb cs cb n k s es) (i : Int) : Calls Tryz.prog 41 #[.agg #[.slice (some ⟨cs, 0, none⟩) (Sy.nf es).length (Sy.nf es).length, .slice (some ⟨cb, 0, none⟩) (n + 1) (n + 1)], .int .i64 i] w fun r w' => ∃ v, r = .returned v /\ (∀ W, Tb W B cs cb n (Sy.nf ((Sy.nf es).map Sy.turn)) -> BSteps.Has W v (Sy.rowOf n (Sy.nf ((Sy.nf es).map Sy.turn)) i)) /\ Below w.heap.size w w' := by
 obtain ⟨h1, h2⟩ := h.sizes
 exact row_any cs cb (Sy.nf es).length n B (Sy.nf ((Sy.nf es).map Sy.turn)) i w (by omega) (nf_turn_len es) (nf_rows _) h.inn
set_option maxRecDepth 100000 in
theorem states_any {B g bs bb cs cb n : Nat} {k s : Int} {es : List Sy.Ed} (w : World) (h : Gr w B g bs bb cs cb n k s es) : Calls Tryz.prog 117 #[.pointer (some ⟨g, 0, none⟩)] w fun r w' => r = .returned (.int .i64 n) /\ w' = w := by
 obtain ⟨c0, _, _, _, _, _⟩ := h.cells
 have hq := Tryz.eqG g
 clear h
 go_enter Tryz.func117, Tryz.ntmps117
 go_wp2
 go_ret
 exact ⟨rfl, rfl⟩
set_option maxRecDepth 100000 in
set_option maxHeartbeats 1000000 in
theorem out_any {B g bs bb cs cb n : Nat} {k s : Int} {es : List Sy.Ed} (i : Int) (w : World) (h : Gr w B g bs bb cs cb n k s es) : Calls Tryz.prog 22 #[.pointer (some ⟨g, 0, none⟩), .int .i64 i] w fun r w' => ∃ u, r = .returned u /\ BSteps.Own w' w.heap.size u (Sy.rowOf n (Sy.nf es) i) /\ Below w.heap.size w w' := by
 obtain ⟨_, _, _, ⟨c0, c1⟩, _, _⟩ := h.cells
 have hq := Tryz.eqG g
 have hR := h.row i
 have hTb := h.out
 have hl := rowOf_len n (Sy.nf es) i
 have hs := h.sizes
 have hs2 := nf_turn_len es
 have HR : Hid _ := And.intro hR (And.intro hl (And.intro hs (And.intro hs2 hTb)))
 obtain ⟨L, hL⟩ : ∃ L, L = (Sy.nf es).length := ⟨_, rfl⟩
 rw [<- hL] at c0 HR
 clear h hR hL hl hs hs2 hTb
 go_enter Tryz.func22, Tryz.ntmps22
 go_wp2_with fail
 refine Calls.mono HR.out.1 ?_
 rintro r w1 ⟨v, rfl, hvW, hb⟩
 have hv := hvW w1 (HR.out.2.2.2.2.below hb)
 clear hvW
 have hC := cloneSteps_any v _ w1 (by have := HR.out.2; omega) hv
 have HC : Hid _ := And.intro hC hb
 obtain ⟨av, cv, rfl, _⟩ := hv
 clear hC hb
 go_wp2_with fail
 refine Calls.mono HC.out.1 ?_
 rintro r w2 ⟨u, rfl, hO, hb2⟩
 have H2 : Hid _ := And.intro hO hb2
 obtain ⟨au, cu, rfl⟩ := row_shape hO
 clear hO hb2
 go_wp2_with fail
 go_ret
 exact ⟨_, rfl, row_base H2.out.1 HC.out.2.size, HC.out.2.trans (H2.out.2.mono HC.out.2.size)⟩
set_option maxRecDepth 100000 in
set_option maxHeartbeats 1000000 in
theorem in_any {B g bs bb cs cb n : Nat} {k s : Int} {es : List Sy.Ed} (i : Int) (w : World) (h : Gr w B g bs bb cs cb n k s es) : Calls Tryz.prog 123 #[.pointer (some ⟨g, 0, none⟩), .int .i64 i] w fun r w' => ∃ u, r = .returned u /\ BSteps.Own w' w.heap.size u (Sy.rowOf n (Sy.nf ((Sy.nf es).map Sy.turn)) i) /\ Below w.heap.size w w' := by
 obtain ⟨_, _, _, _, c0, c1⟩ := h.cells
 have hq := Tryz.eqG g
 have hR := h.rowIn i
 have hTb := h.inn
 have hl := rowOf_len n (Sy.nf ((Sy.nf es).map Sy.turn)) i
 have hs := h.sizes
 have hs2 := nf_turn_len es
 have HR : Hid _ := And.intro hR (And.intro hl (And.intro hs (And.intro hs2 hTb)))
 obtain ⟨L, hL⟩ : ∃ L, L = (Sy.nf es).length := ⟨_, rfl⟩
 rw [<- hL] at c0 HR
 clear h hR hL hl hs hs2 hTb
 go_enter Tryz.func123, Tryz.ntmps123
 go_wp2_with fail
 refine Calls.mono HR.out.1 ?_
 rintro r w1 ⟨v, rfl, hvW, hb⟩
 have hv := hvW w1 (HR.out.2.2.2.2.below hb)
 clear hvW
 have hC := cloneSteps_any v _ w1 (by have := HR.out.2; omega) hv
 have HC : Hid _ := And.intro hC hb
 obtain ⟨av, cv, rfl, _⟩ := hv
 clear hC hb
 go_wp2_with fail
 refine Calls.mono HC.out.1 ?_
 rintro r w2 ⟨u, rfl, hO, hb2⟩
 have H2 : Hid _ := And.intro hO hb2
 obtain ⟨au, cu, rfl⟩ := row_shape hO
 clear hO hb2
 go_wp2_with fail
 go_ret
 exact ⟨_, rfl, row_base H2.out.1 HC.out.2.size, HC.out.2.trans (H2.out.2.mono HC.out.2.size)⟩
end
section
open Go.RowKit Go.Maps
attribute [local go_sem ↓] Go.wp_at_zero Go.wp_at_succ
theorem inOrder_turn {es os : List Sy.Ed} (h : InOrder Sy.turn (Sy.nf es) os) : os.map Sy.turn = Sy.nf ((Sy.nf es).map Sy.turn) := by
 refine Sy.nf_of ?_ fun x => ?_
 ·have hnd : os.Nodup := by
   rw [h.1.nodup_iff]
   have hs := Sy.nf_str es
   generalize Sy.nf es = l at hs
   induction l with
   | nil => exact List.nodup_nil
   | cons a r ih =>
     refine List.nodup_cons.2 ⟨fun ha => ?_, ih hs.tail⟩
     have h1 := hs.head a ha
     rw [Sy.lt_irrefl] at h1
     cases h1
  have hp := h.2
  clear h
  induction os with
  | nil => trivial
  | cons a r ih =>
    obtain ⟨h1, h2⟩ := List.pairwise_cons.1 hp
    obtain ⟨h3, h4⟩ := List.nodup_cons.1 hnd
    rw [List.map_cons]
    refine Sy.Str.cons (ih h4 h2) fun x hx => ?_
    obtain ⟨b, hb, rfl⟩ := List.mem_map.1 hx
    have h5 := h1 b hb
    cases h6 : Sy.lt (Sy.turn a) (Sy.turn b) with
    | true => rfl
    | false =>
      have h7 := congrArg Sy.turn (Sy.eq_of_not h6 h5)
      rw [turn_turn, turn_turn] at h7
      rw [h7] at h3
      exact absurd hb h3
 ·rw [List.mem_map, List.mem_map]
  constructor
  ·rintro ⟨a, ha, rfl⟩; exact ⟨a, h.1.mem_iff.1 ha, rfl⟩
  ·rintro ⟨a, ha, rfl⟩; exact ⟨a, h.1.mem_iff.2 ha, rfl⟩
theorem rg_up4' {w2 wa wb : World} {a0 a1 a2 a3 : Addr} {x0 x1 x2 x3 : Value} (h : (wa.cell? a0 = some x0 /\ wa.cell? a1 = some x1 /\ wa.cell? a2 = some x2 /\ wa.cell? a3 = some x3) /\ Hid (Below w2.heap.size w2 wa)) (hb : Below wa.heap.size wa wb) : (wb.cell? a0 = some x0 /\ wb.cell? a1 = some x1 /\ wb.cell? a2 = some x2 /\ wb.cell? a3 = some x3) /\ Hid (Below w2.heap.size w2 wb) := rg_up4 hb h
def NewAt (a : Addr) (n k s : Int) (es : List Sy.Ed) (w : World) (r : Ending) (w' : World) : Prop :=
 if Sy.right n k s es = true then ∃ (g bs bb cs cb m : Nat), n = (m : Int) /\ r = .returned (.tuple #[.pointer (some ⟨g, 0, none⟩), .nilIface]) /\ Gr w' w.heap.size g bs bb cs cb m k s es /\ Below w.heap.size w w'
 else ∃ x, r = .returned (.tuple #[.pointer none, x]) /\ Chain w' 0 0 a [sysB] x /\ Below w.heap.size w w'
set_option maxRecDepth 100000 in
set_option maxHeartbeats 8000000 in
theorem new_any {M : Nat} (hS : SortOk M) (n k s : Int) (v : Value) (es : List Sy.Ed) (a : Addr) (w : World) (hA : Sent w 5 a) (hv : BEdges.Has w v es) (hM : es.length <= M) (hm : es.length <= 100000) :
 Calls Tryz.prog 18 #[sysV n k s v] w (NewAt a n k s es w) := by
 obtain ⟨w1, hw1⟩ : ∃ w1, w1 = w.alloc (.cells #[.int .i64 n, .int .i64 k, .int .i64 s, v] 27) := ⟨_, rfl⟩
 have hb1 : Below w.heap.size w w1 := by rw [hw1]; exact (Below.refl _ _).alloc (Nat.le_refl _) _
 have hg1 : w1.heap[w.heap.size]? = some (.cells #[.int .i64 n, .int .i64 k, .int .i64 s, v] 27 (0, 0)) := by rw [hw1]; exact heap_alloc_new w _
 have hN := normal_any hS n k s v es a w1 (hA.below hb1) (hv.below hb1) hM (by omega)
 obtain ⟨ao, cap, rfl, _⟩ := hv
 obtain ⟨m0, hm0⟩ : ∃ m0, m0 = es.length := ⟨_, rfl⟩
 rw [<- hm0] at hN hg1 hw1 ⊢
 unfold sysV at hN ⊢
 have H1 : Hid _ := And.intro hN (And.intro hb1 (And.intro hg1 (And.intro hw1 hS)))
 have HM : Hid _ := And.intro hM hm
 cases hq : Sy.right n k s es with
 | false =>
   rw [hq] at H1
   unfold NewAt
   rw [hq]
   clear hN hb1 hg1 hw1 hS hA hq hm0 hM hm
   go_enter Tryz.func18, Tryz.ntmps18
   go_wp2_with fail
   rw [<- H1.out.2.2.2.1]
   refine Calls.mono H1.out.1 ?_
   rintro r w2 ⟨x, u, rfl, hx, _, hb2⟩
   have hch : Chain w2 0 0 a [sysB] x := by simpa [SErr] using hx
   obtain ⟨T, y, rfl⟩ := hch.iface
   have hg2 := (hb2.block _ (t_lt H1.out.2.2.1)).trans H1.out.2.2.1
   obtain ⟨y0, y1, y2, y3⟩ := four_cells hg2
   have z0 := blk_free hg2 0
   have z1 := blk_free hg2 1
   have z2 := blk_free hg2 2
   have z3 := blk_free hg2 3
   have hbw := H1.out.2.1.trans (hb2.mono H1.out.2.1.size)
   have H2 : Hid _ := And.intro hch (And.intro hbw hg2)
   clear hb2 hg2 hbw hch hx
   go_wp2_with fail
   have hbf := four_below H2.out.2.1 (b := w.heap.size) (Nat.le_refl _) (.int .i64 0) (.int .i64 0) (.int .i64 0) (.slice none 0 0)
   have hcf := chain_st4 H2.out.1 H2.out.2.2 (.int .i64 0) (.int .i64 0) (.int .i64 0) (.slice none 0 0)
   unfold st4 at hcf
   go_ret2
   exact ⟨_, rfl, hcf, hbf⟩
 | true =>
   rw [hq] at H1
   have hrp := right_parts hq
   obtain ⟨q, rfl⟩ : ∃ q : Nat, n = (q : Int) := ⟨n.toNat, by omega⟩
   have HQ : Hid _ := And.intro hq hrp
   unfold NewAt
   rw [hq]
   clear hN hb1 hg1 hw1 hS hA hq hm0 hM hm hrp
   go_enter Tryz.func18, Tryz.ntmps18
   go_wp2_with fail
   rw [<- H1.out.2.2.2.1]
   refine Calls.mono H1.out.1 ?_
   rintro r w2 ⟨x, u, rfl, hx, hO, hb2⟩
   have hO := hO trivial
   obtain rfl : x = .nilIface := by simpa [SErr] using hx
   obtain ⟨au, cu, rfl⟩ := row_shape hO
   have hg2 := (hb2.block _ (t_lt H1.out.2.2.1)).trans H1.out.2.2.1
   obtain ⟨y0, y1, y2, y3⟩ := four_cells hg2
   have z0 := blk_free hg2 0
   have z1 := blk_free hg2 1
   have z2 := blk_free hg2 2
   have z3 := blk_free hg2 3
   have hbw := H1.out.2.1.trans (hb2.mono H1.out.2.1.size)
   obtain ⟨L, hL⟩ : ∃ L, L = (Sy.nf es).length := ⟨_, rfl⟩
   obtain ⟨w3, hw3⟩ : ∃ w3, w3 = (((w2.setCell ⟨w.heap.size, 0, none⟩ (.int .i64 q)).setCell ⟨w.heap.size, 1, none⟩ (.int .i64 k)).setCell ⟨w.heap.size, 2, none⟩ (.int .i64 s)).setCell ⟨w.heap.size, 3, none⟩ (.slice au L cu) := ⟨_, rfl⟩
   rw [<- hL]
   have hg3 : w3.heap[w.heap.size]? = some (.cells #[.int .i64 q, .int .i64 k, .int .i64 s, .slice au L cu] 27 (0, 0)) := by rw [hw3]; exact four_set hg2
   have hb3 : Below w.heap.size w w3 := by rw [hw3]; exact four_below hbw (Nat.le_refl _) _ _ _ _
   have hO3 : BEdges.Own w3 w.heap.size (.slice au (Sy.nf es).length cu) (Sy.nf es) := by
    rw [hw3]
    refine row_base (trow_at hO fun b hb => ?_) H1.out.2.1.size
    have n1 : b ≠ w.heap.size := fun e => own_bk hO hg2 (by decide) (e ▸ hb)
    rw [set_other _ _ _ _ _ n1, set_other _ _ _ _ _ n1, set_other _ _ _ _ _ n1, set_other _ _ _ _ _ n1]
   have H3 : Hid _ := And.intro hb3 (And.intro hO3 (And.intro hg3 (And.intro hw3 hL)))
   clear hO hb2 hg2 hbw hx hg3 hb3 hO3 hw3 hL
   have hle : L <= 10000 := by have := HQ.out.2.2.2.1; have := Sy.nf_len es; have := H3.out.2.2.2.2; omega
   have hqn : q <= 1000 := by have := HQ.out.2.1; omega
   have hnr : ∀ e ∈ Sy.nf es, 0 <= e.1 /\ e.1 < (q : Int) /\ 0 <= e.2.2 /\ e.2.2 < (q : Int) := fun e he => by
    have := HQ.out.2.2.2.2.2.2 e ((Sy.nf_mem es e).1 he)
    exact ⟨this.1, this.2.1, this.2.2.1, this.2.2.2.1⟩
   have hTf : ∀ W, Below w3.heap.size w3 W -> Calls Tryz.prog 31 #[.int .i64 q, .slice au L cu, .func (.func 32) #[] #[]] W fun r w' => ∃ bs bb, r = .returned (.agg #[.slice (some ⟨bs, 0, none⟩) L L, .slice (some ⟨bb, 0, none⟩) (q + 1) (q + 1)]) /\ Tb w' w.heap.size bs bb q (Sy.nf es) /\ Below W.heap.size W w' := fun W hb => by
    have hLL := H3.out.2.2.2.2
    have hOW : BEdges.Has W (.slice au (Sy.nf es).length cu) (Sy.nf es) := H3.out.2.1.has.below hb
    have h9 := tableOf_any _ _ forward_at q (.slice au (Sy.nf es).length cu) (Sy.nf es) W (by omega) (by omega) hOW (by rw [List.map_id']; exact fun e he => ⟨(hnr e he).1, (hnr e he).2.1⟩) (by rw [List.map_id']; exact nf_rows es)
    rw [List.map_id'] at h9
    rw [<- hLL] at h9
    refine h9.mono fun r w' ⟨bs, bb, hr, h1, h2⟩ => ⟨bs, bb, hr, ⟨(Blk.of_arr h1).base ?_, (Blk.of_arr h2).base ?_⟩, h1.bl⟩
    ·have := H3.out.1.size; have := hb.size; omega
    ·have := H3.out.1.size; have := hb.size; omega
   have hOr : ∀ W, Below w3.heap.size w3 W -> Calls Tryz.prog 33 #[.slice au L cu, .func (.func 34) #[] #[]] W fun r w' => ∃ u os, r = .returned u /\ InOrder Sy.turn (Sy.nf es) os /\ BEdges.Own w' W.heap.size u os /\ Below W.heap.size W w' := fun W hb => by
    have hLL := H3.out.2.2.2.2
    have hOW : BEdges.Has W (.slice au (Sy.nf es).length cu) (Sy.nf es) := H3.out.2.1.has.below hb
    have h9 := ordered_any H1.out.2.2.2.2 _ _ backward_at (.slice au (Sy.nf es).length cu) (Sy.nf es) W (by have := Sy.nf_len es; have := HM.out.1; omega) (by omega) hOW
    rw [<- hLL] at h9
    exact h9
   have hTb : ∀ W u os B, Below w3.heap.size w3 W -> InOrder Sy.turn (Sy.nf es) os -> BEdges.Own W B u os -> Calls Tryz.prog 31 #[.int .i64 q, u, .func (.func 34) #[] #[]] W fun r w' => ∃ bs bb, r = .returned (.agg #[.slice (some ⟨bs, 0, none⟩) L L, .slice (some ⟨bb, 0, none⟩) (q + 1) (q + 1)]) /\ Tb w' w.heap.size bs bb q (Sy.nf ((Sy.nf es).map Sy.turn)) /\ Below W.heap.size W w' := fun W u os B hb hI hO => by
    have hLL := H3.out.2.2.2.2
    have hlo := hI.1.length_eq
    have het := inOrder_turn hI
    have h9 := tableOf_any _ _ backward_at q u os W (by omega) (by omega) hO.has (by
     rw [het]
     intro e he
     rw [Sy.nf_mem] at he
     obtain ⟨x, hx, rfl⟩ := List.mem_map.1 he
     exact ⟨(hnr x hx).2.2.1, (hnr x hx).2.2.2⟩) (by rw [het]; exact nf_rows _)
    rw [het, hlo, <- hLL] at h9
    refine h9.mono fun r w' ⟨bs, bb, hr, h1, h2⟩ => ⟨bs, bb, hr, ⟨(Blk.of_arr h1).base ?_, (Blk.of_arr h2).base ?_⟩, h1.bl⟩
    ·have := H3.out.1.size; have := hb.size; omega
    ·have := H3.out.1.size; have := hb.size; omega
   have HT : Hid _ := And.intro hTf (And.intro hOr hTb)
   clear hTf hOr hTb hnr
   go_upto_region 4 with fail
   rw [<- H3.out.2.2.2.1]
   clear y0 y1 y2 y3 z0 z1 z2 z3
   obtain ⟨x0, x1, x2, x3⟩ := four_cells H3.out.2.2.1
   go_region_held3 (fun w' => (w'.cell? ⟨w.heap.size, 0, none⟩ = some (.int .i64 q) /\ w'.cell? ⟨w.heap.size, 1, none⟩ = some (.int .i64 k) /\ w'.cell? ⟨w.heap.size, 2, none⟩ = some (.int .i64 s) /\ w'.cell? ⟨w.heap.size, 3, none⟩ = some (.slice au L cu)) /\ Hid (Below w3.heap.size w3 w')) (first | exact rg_up4' (by assumption) hba | exact rg_up4' (by assumption) hbb | exact rg_up4' (by assumption) hbc | exact rg_up4' (by assumption) ((Below.refl _ _).alloc (Nat.le_refl _) _) | exact ⟨⟨x0, x1, x2, x3⟩, ((Below.refl _ _).drew : Below w3.heap.size w3 w3.drew)⟩ | go_keep)
    ((first
      | (go_at_call_of 31 (Value.slice au L cu); refine (HT.out.1 _ (rg_b (by assumption))).mono ?_; rintro r wa ⟨bs, bb, rfl, hTa, hba⟩)
      | (go_at_call 33; refine (HT.out.2.1 _ (rg_b (by assumption))).mono ?_; rintro r wb ⟨u5, os, rfl, hIo, hOb, hbb⟩)
      | (go_at_call_of 31 u5; refine (HT.out.2.2 _ _ os _ (rg_b (by assumption)) hIo (by first | exact hOb | exact trow_at hOb fun b hb => hba.block _ (hOb.lt b hb).2)).mono ?_; rintro r wc ⟨cs, cb, rfl, hTc, hbc⟩)
      | fail))
   have hal : Below wc.heap.size wc (wc.alloc (.cells #[.int .i64 q, .int .i64 k, .int .i64 s, .slice (some ⟨bs, 0, none⟩) L L, .slice (some ⟨bb, 0, none⟩) (q + 1) (q + 1), .slice (some ⟨cs, 0, none⟩) L L, .slice (some ⟨cb, 0, none⟩) (q + 1) (q + 1)] 95)) := (Below.refl _ _).alloc (Nat.le_refl _) _
   have hbx := heap_alloc_new wc (.cells #[.int .i64 q, .int .i64 k, .int .i64 s, .slice (some ⟨bs, 0, none⟩) L L, .slice (some ⟨bb, 0, none⟩) (q + 1) (q + 1), .slice (some ⟨cs, 0, none⟩) L L, .slice (some ⟨cb, 0, none⟩) (q + 1) (q + 1)] 95)
   have hba' := below_of_drew3 hba
   have hsz : w.heap.size <= wc.heap.size := by have := H3.out.1.size; have := hba'.size; have := hbb.size; have := hbc.size; omega
   have hbw : Below w.heap.size w (wc.alloc (.cells #[.int .i64 q, .int .i64 k, .int .i64 s, .slice (some ⟨bs, 0, none⟩) L L, .slice (some ⟨bb, 0, none⟩) (q + 1) (q + 1), .slice (some ⟨cs, 0, none⟩) L L, .slice (some ⟨cb, 0, none⟩) (q + 1) (q + 1)] 95)) :=
    (((H3.out.1.trans (hba'.mono H3.out.1.size)).trans (hbb.mono (by have := H3.out.1.size; have := hba'.size; omega))).trans (hbc.mono (by have := H3.out.1.size; have := hba'.size; have := hbb.size; omega))).trans (hal.mono hsz)
   have hGr : Gr (wc.alloc (.cells #[.int .i64 q, .int .i64 k, .int .i64 s, .slice (some ⟨bs, 0, none⟩) L L, .slice (some ⟨bb, 0, none⟩) (q + 1) (q + 1), .slice (some ⟨cs, 0, none⟩) L L, .slice (some ⟨cb, 0, none⟩) (q + 1) (q + 1)] 95)) w.heap.size wc.heap.size bs bb cs cb q k s es :=
    ⟨by rw [<- H3.out.2.2.2.2]; exact hbx, hsz, ((hTa.below hbb).below hbc).below hal, hTc.below hal, HQ.out.1⟩
   have HF : Hid _ := And.intro hGr hbw
   clear hal hbx hba' hbw hGr hba hbb hbc hTa hTc hOb hIo x0 x1 x2 x3
   rename_i hS9
   clear hS9
   go_wp2_with fail
   go_ret2
   exact ⟨_, _, _, _, _, q, rfl, rfl, HF.out.1, HF.out.2⟩
theorem new_ok {M : Nat} (hS : SortOk M) (n k s : Int) (v : Value) (es : List Sy.Ed) (a : Addr) (w : World) (hA : Sent w 5 a) (hv : BEdges.Has w v es) (hM : es.length <= M) (hm : es.length <= 100000) (hq : Sy.right n k s es = true) :
 Calls Tryz.prog 18 #[sysV n k s v] w fun r w' => ∃ (g bs bb cs cb m : Nat), n = (m : Int) /\ r = .returned (.tuple #[.pointer (some ⟨g, 0, none⟩), .nilIface]) /\ Gr w' w.heap.size g bs bb cs cb m k s es /\ Below w.heap.size w w' :=
 (new_any hS n k s v es a w hA hv hM hm).mono fun r w' h => by unfold NewAt at h; rw [if_pos hq] at h; exact h
end
section
open Go.RowKit Go.Maps
attribute [local go_sem ↓] Go.wp_at_zero Go.wp_at_succ
theorem bel6 {w W w8 : World} (hb : Below W.heap.size W w8) (h : Below w.heap.size w W) : Below w.heap.size w w8 := h.trans (hb.mono h.size)
theorem res_up6 {W w8 : World} {b : Nat} {o : Obj} (hb : Below W.heap.size W w8) (h : W.heap[b]? = some o) : w8.heap[b]? = some o := (hb.block b (t_lt h)).trans h
def rndB : ByteArray := ⟨#[114, 111, 117, 110, 100, 115]⟩
theorem setCell_other {w : World} {b g o : Nat} (x : Value) (h : b ≠ g) : (w.setCell ⟨g, o, none⟩ x).heap[b]? = w.heap[b]? := by
 simp only [World.setCell]
 rw [Array.getElem?_modify, if_neg (fun e => h e.symm)]
theorem cell_block {w w' : World} {b o : Nat} (h : w'.heap[b]? = w.heap[b]?) : w'.cell? ⟨b, o, none⟩ = w.cell? ⟨b, o, none⟩ := World.cell?_of_block (a := ⟨b, o, none⟩) h
structure StAt (w wr : World) (gs n i : Nat) (us : List Value) (out : Nat -> List BSteps.El) : Prop where
 arr : Arr 68 w wr gs us
 len : us.length = n
 row : ∀ j, j < i -> ∃ u, us[j]? = some u /\ BSteps.Own wr w.heap.size u (out j)
theorem StAt.step {w wr w4 : World} {gs n i : Nat} {us : List Value} {out : Nat -> List BSteps.El} (h : StAt w wr gs n i us out) (hi : i < n) (hb : Below wr.heap.size wr w4) {u : Value} (hO : BSteps.Own w4 wr.heap.size u (out i)) : StAt w (w4.setCell ⟨gs, i, none⟩ u) gs n (i + 1) (us.set i u) out := by
 have hA4 := h.arr.below hb
 obtain ⟨cs9, hc9, _⟩ := hA4.ids
 have keep : ∀ {x : Value} {zs : List BSteps.El} {B : Nat}, BSteps.Own w4 B x zs -> BSteps.Own (w4.setCell ⟨gs, i, none⟩ u) B x zs := fun hx => own_up hx (Kept.setCell w4 gs i u) fun b hb2 e => own_bk hx hc9 (by decide) (by rw [<- e]; exact hb2)
 refine ⟨hA4.set i u, by rw [List.length_set]; exact h.len, fun j hj => ?_⟩
 rcases Nat.lt_or_ge j i with hji | hji
 ·obtain ⟨x, hx, hOx⟩ := h.row j hji
  refine ⟨x, by rw [List.getElem?_set_ne (by omega)]; exact hx, keep (trow_at hOx fun b hb2 => hb.block b (hOx.lt b hb2).2)⟩
 ·obtain rfl : j = i := by omega
  exact ⟨u, by rw [List.getElem?_set_self (by have := h.len; omega)], keep (row_base hO h.arr.bl.size)⟩
theorem StAt.done {w wr : World} {gs n : Nat} {us : List Value} {out : Nat -> List BSteps.El} (h : StAt w wr gs n n us out) : Stp wr gs n out :=
 ⟨fun i hi => by
  obtain ⟨u, hu, hO⟩ := h.row i hi
  obtain ⟨a, c, rfl⟩ := row_shape hO
  exact ⟨a, c, h.arr.cell hu, hO.has⟩⟩
theorem Tryz.infoRS : (Tryz.prog.info? 68).map (fun i => (i.zero, i.size, i.bytes)) = some (some (.slice none 0 0), 1, 24) := by kernel_rfl
theorem makeRS (n : Nat) (hn : n <= 1000000) (w : World) : (Instr.makeSlice 51 (.int .i64 (n : Int)) (.int .i64 (n : Int))).run Tryz.prog w = .ok (.slice (some ⟨w.heap.size, 0, none⟩) n n) (w.alloc (.cells (madeV (.slice none 0 0) n) 68)) := make_of _ _ _ 24 Tryz.underlying51 Tryz.infoRS n hn (by decide) w
def outOf (m : Nat) (es : List Sy.Ed) (i : Nat) : List BSteps.El := Sy.rowOf m (Sy.nf es) i
structure OfAt (w w' : World) (b1 b2 gs m : Nat) (es : List Sy.Ed) : Prop where
 bl : Below w.heap.size w w'
 l1 : b1 < w'.heap.size
 l2 : b2 < w'.heap.size
 c1 : w'.cell? ⟨b1, 0, none⟩ = some (.int .i64 m)
 c2 : w'.cell? ⟨b2, 0, none⟩ = some (.slice (some ⟨gs, 0, none⟩) m m)
 st : Stp w' gs m (outOf m es)
def roundsV (b1 b2 : Nat) : Value := .func (.func 54) #[] #[.pointer (some ⟨b1, 0, none⟩), .pointer (some ⟨b2, 0, none⟩)]
set_option maxRecDepth 100000 in
set_option maxHeartbeats 8000000 in
set_option linter.unusedSimpArgs false in
theorem roundsOf_ok (hS : SortOk 1000000) (m : Nat) (k s : Int) (v : Value) (es : List Sy.Ed) (a : Addr) (w : World) (hA : Sent w 5 a) (hv : BEdges.Has w v es) (hm : es.length <= 100000) (hq : Sy.right m k s es = true) :
 Calls Tryz.prog 36 #[sysV m k s v] w fun r w' => ∃ b1 b2 gs, r = .returned (.tuple #[roundsV b1 b2, .nilIface]) /\ OfAt w w' b1 b2 gs m es := by
 have hv0 := hv
 obtain ⟨ao, cap, rfl, _⟩ := hv0
 obtain ⟨L, hL⟩ : ∃ L, L = es.length := ⟨_, rfl⟩
 obtain ⟨w1, hw1⟩ : ∃ w1, w1 = w.alloc (.cells #[.int .i64 m, .int .i64 k, .int .i64 s, .slice ao L cap] 27) := ⟨_, rfl⟩
 have hb1 : Below w.heap.size w w1 := by rw [hw1]; exact (Below.refl _ _).alloc (Nat.le_refl _) _
 have hg1 : w1.heap[w.heap.size]? = some (.cells #[.int .i64 m, .int .i64 k, .int .i64 s, .slice ao L cap] 27 (0, 0)) := by rw [hw1]; exact heap_alloc_new w _
 have hN := new_ok hS m k s _ es a w1 (hA.below hb1) (hv.below hb1) (by omega) hm hq
 rw [<- hL] at hN ⊢
 unfold sysV at hN ⊢
 have hm1 : m <= 1000 := by have := (right_parts hq).1; omega
 have H1 : Hid _ := And.intro hw1 (And.intro hb1 (And.intro hg1 hN))
 obtain ⟨x0, x1, x2, x3⟩ := four_cells hg1
 clear hA hv hm hq hw1 hb1 hg1 hN hL
 go_enter Tryz.func36, Tryz.ntmps36
 go_upto_region 1 with fail
 rw [<- H1.out.1]
 go_wp2_with fail
 refine Calls.mono H1.out.2.2.2 ?_
 rintro r w2 ⟨g, bs, bb, cs, cb, m', hm', rfl, hG2, hb2⟩
 obtain rfl : m = m' := by omega
 clear hm' x0 x1 x2 x3
 have hg2 := res_up6 hb2 H1.out.2.2.1
 obtain ⟨x0, x1, x2, x3⟩ := four_cells hg2
 have hmk := makeRS m (by omega) w2
 obtain ⟨w3, hw3⟩ : ∃ w3, w3 = (w2.alloc (.cells (madeV (.slice none 0 0) m) 68)).alloc (.cells #[.slice (some ⟨w2.heap.size, 0, none⟩) m m] 51) := ⟨_, rfl⟩
 have hb3 : Below w2.heap.size w2 w3 := by rw [hw3]; exact ((Below.refl _ _).alloc (Nat.le_refl _) _).alloc (by simp) _
 have hbx : w3.heap[w2.heap.size + 1]? = some (.cells #[.slice (some ⟨w2.heap.size, 0, none⟩) m m] 51 (0, 0)) := by
  rw [hw3]
  have h := heap_alloc_new (w2.alloc (.cells (madeV (.slice none 0 0) m) 68)) (.cells #[.slice (some ⟨w2.heap.size, 0, none⟩) m m] 51)
  rw [World.size_alloc] at h
  exact h
 have hA3 : Arr 68 w2 w3 w2.heap.size (List.replicate m (.slice none 0 0)) := by
  rw [hw3]
  exact (arr_new 68 (.slice none 0 0) rfl m w2).below ((Below.refl _ _).alloc (Nat.le_refl _) _)
 have H3 : Hid _ := And.intro hw3 (And.intro hb3 (And.intro hbx (And.intro hA3 (And.intro hG2 (And.intro hg2 (bel6 hb2 H1.out.2.1))))))
 have e1 : (w2.alloc (.cells (madeV (.slice none 0 0) m) 68)).heap.size = w2.heap.size + 1 := by simp
 clear hw3 hb3 hbx hA3 hG2 hg2 hb2
 go_upto_region 5 with fail
 rw [<- H3.out.1]
 have y0 : w3.cell? ⟨w2.heap.size + 1, 0, none⟩ = some (.slice (some ⟨w2.heap.size, 0, none⟩) m m) := cell0_of H3.out.2.2.1 rfl
 clear hmk x0 x1 x2 x3 e1
 go_wp2_with fail
 clear y0
 go_loopg [21] m (fun q iv wr => ∃ (i : Nat) (us : List Value), q = m - i /\ i <= m /\ iv = .int .i64 i /\ StAt w2 wr w2.heap.size m i us (outOf m es) /\ wr.heap[w2.heap.size + 1]? = some (.cells #[.slice (some ⟨w2.heap.size, 0, none⟩) m m] 51 (0, 0)))
 case atStart => exact ⟨0, _, rfl, Nat.zero_le _, rfl, ⟨H3.out.2.2.2.1, by simp, fun j hj => by omega⟩, H3.out.2.2.1⟩
 case round =>
  obtain ⟨i, us, rfl, hi, rfl, hT, hbx⟩ := hrel
  obtain ⟨w4, rfl⟩ : ∃ w4, w4 = wr := ⟨_, rfl⟩
  by_cases hlt : i < m
  ·have p0 : (0 : Int) <= (i : Int) := by omega
   have p1 : (i : Int) < (m : Int) := by omega
   have y0 : w4.cell? ⟨w2.heap.size + 1, 0, none⟩ = some (.slice (some ⟨w2.heap.size, 0, none⟩) m m) := cell0_of hbx rfl
   have hO := out_any (i : Int) w4.drew (H3.out.2.2.2.2.1.below (bel6 (Below.refl _ _).drew hT.arr.bl))
   obtain ⟨ux, hux⟩ : ∃ ux, us[i]? = some ux := ⟨us[i]'(by have := hT.len; omega), List.getElem?_eq_getElem _⟩
   have HT : Hid _ := And.intro hT (And.intro hbx (And.intro hO hux))
   clear hT hbx hO hux
   go_upto_region 8 with fail
   refine wp_region_held_drew (S := (fun w' => w'.cell? ⟨w2.heap.size + 1, 0, none⟩ = some (.slice (some ⟨w2.heap.size, 0, none⟩) m m) /\ Hid (w'.heap[w2.heap.size + 1]? = some (.cells #[.slice (some ⟨w2.heap.size, 0, none⟩) m m] 51 (0, 0))))) (by kernel_rfl) ?_ (fun hHeld => ?_)
   ·exact ⟨y0, HT.out.2.1⟩
   refine tk8 0 rfl ?_; (try simp only [ty9, Act.put])
   refine tk8 1 rfl ?_; (try simp only [ty9, Act.put])
   refine tk8 2 rfl ?_; (try simp only [ty9, Act.put])
   refine tk8 3 rfl ?_; (try simp only [ty9, Act.put])
   refine wpAnyH_ready (rs := [4]) (by kernel_rfl) (by simp) ?_
   refine AllReadyH.cons (o := _) rfl (fun K hK => ?_) ?_
   ·(go_simp; go_at_call 22; refine Calls.mono HT.out.2.2.1 ?_; rintro r w5 ⟨u, rfl, hO5, hb5⟩; obtain ⟨au, cu, hu⟩ := row_shape hO5; have hb45 := bel6 hb5 (Below.refl w4.heap.size w4).drew; have H5 : Hid _ := And.intro hO5 (And.intro hb45 (HT.out.1.arr.below hb45)); generalize hLg : List.length _ = Lu at hu; subst hu; clear hO5 hb5 hLg; have cx := H5.out.2.2.cell HT.out.2.2.2; have cf := H5.out.2.2.free i)
    (try go_wp2_with fail)
    refine hK.out _ _ ?_ (fun hHeld => ?_)
    ·exact ⟨cell_up y0 hb45, res_up6 hb45 HT.out.2.1⟩
    clear hK K
    (try simp only [ty9, Act.put])
    clear hb45
    refine tk8 5 rfl ?_; (try simp only [ty9, Act.put])
    refine wpAnyH_ready (rs := [6]) (by kernel_rfl) (by simp) ?_
    refine AllReadyH.cons (o := _) rfl (fun K hK => ?_) ?_
    ·(go_simp)
     (try go_wp2_with fail)
     refine hK.out _ _ ?_ (fun hHeld => ?_)
     ·exact ⟨(cell_block (setCell_other _ (show w2.heap.size + 1 ≠ w2.heap.size by omega))).trans hHeld.1, (setCell_other _ (show w2.heap.size + 1 ≠ w2.heap.size by omega)).trans hHeld.2.out⟩
     clear hK K
     (try simp only [ty9, Act.put])
     refine wpAnyH_done (by kernel_rfl) ?_ _
     (try go_simp)
     have H6 : Hid _ := hHeld.2.out
     go_wp2_with fail
     go_roundg (m - (i + 1))
     case measure => omega
     case rel => exact ⟨i + 1, _, rfl, by omega, by go_num, HT.out.1.step hlt H5.out.2.1 H5.out.1, H6.out⟩
    exact AllReadyH.nil
   exact AllReadyH.nil
  ·obtain rfl : i = m := by omega
   have p1 : ¬ (i : Int) < (i : Int) := by omega
   have HT : Hid _ := And.intro hT hbx
   clear hT hbx
   go_wp2_with fail
   go_ret2
   have hg := res_up6 HT.out.1.arr.bl H3.out.2.2.2.2.2.1
   exact ⟨_, _, rfl, _, ⟨bel6 HT.out.1.arr.bl H3.out.2.2.2.2.2.2, t_lt hg, t_lt HT.out.2, cell0_of hg rfl, cell0_of HT.out.2 rfl, HT.out.1.done⟩⟩
end
section
open Go.RowKit
def Tells {α : Type} (F : Fence) (n : Nat) (P : Program) (g : Nat) (lb : Array Value) (encs : α -> Array Value) (Kp : World -> World -> Prop) (Good : List α -> α -> World -> Prop) (S Sp : List α -> Prop) (w : World) : Prop :=
 ∀ (l : Nat) (J Jx : List α -> World -> Prop) (W : World), Below w.heap.size w W -> AbidesFrom W.heap.size J -> AbidesFrom W.heap.size Jx ->
  (∀ pre x W1, J pre W1 -> Good pre x W1 -> YieldAt F (n - 1) P l (encs x) W1 fun e W' =>
    (e = .returned (.bool true) /\ J (pre ++ [x]) W' /\ Kp W1 W') \/ (e = .returned (.bool false) /\ Jx (pre ++ [x]) W')) ->
  J [] W ->
  CallsIn F n P g (#[.func (.yield l) #[] #[]] ++ lb) W fun e W' => (∃ v, e = .returned v) /\ ((∃ xs, S xs /\ J xs W') \/ (∃ pre, Sp pre /\ Jx pre W'))
section
variable {F : Fence} {n : Nat} {P : Program}
def rec5 (fn : FuncId) (a : Act) (ps : Array Tmp) (assign body : Code) (d : Nat) (st : LoopState) (pe : Option Code) : Loop := { state := st, pending := pe, fn, tmps := a.tmps, params := ps, assign, body, defers := d }
theorem loop_tells {α : Type} {g : Operand} {ps : Array Tmp} {assign body : Code} {Q : Exit -> Act -> World -> Prop} {a : Act} {w : World}
 (hro : F.round = none) (h1 : 1 <= n) {gf : Nat} {lb : Array Value} (hg : a.eval g = .func (.func gf) #[] lb) (hFg : F.fn gf) (eg : ∀ args w, (callFunc gf args).run P w = .ok (.enter gf args) w)
 {encs : α -> Array Value} {Kp : World -> World -> Prop} {Good : List α -> α -> World -> Prop} {S Sp : List α -> Prop} {w0 : World} (hseq : Tells F (n - 1) P gf lb encs Kp Good S Sp w0)
 (hKt : ∀ {A B C : World}, Kp A B -> Kp B C -> Kp A C) (hKb : ∀ (W : World) (l : Nat) (o o' : Obj), w.heap.size <= l -> W.heap[l]? = some o -> o.isCells = false -> o.isWalk = false -> Kp W (W.putObj l o'))
 (hGb : ∀ pre x (W : World) (l : Nat) (o o' : Obj), w.heap.size <= l -> W.heap[l]? = some o -> o.isCells = false -> Good pre x W -> Good pre x (W.putObj l o'))
 (hb0 : Below w0.heap.size w0 w) (hps : ∀ x, (encs x).size = ps.size)
 (I : List α -> World -> Prop) (Ix : Code -> List α -> World -> Prop) (hI : OwnFrom w.heap.size I) (hIx : ∀ c, OwnFrom w.heap.size (Ix c)) (h0 : I [] w) (a₁ : α -> Act)
 (hassign : ∀ (l : Nat) (x : α) (W : World) (K : Act -> World -> Prop), K (a₁ x) W ->
   assign.wpIn (F.inRound l) (n - 1 - 1) P (Exit.then K (fun _ _ _ => False)) { tmps := (ps.zip (encs x)).foldl (fun t (p, v) => t.setIfInBounds p v) a.tmps, defers := [] } W)
 (hbody : ∀ (l : Nat) (pre : List α) (x : α) (W : World), I pre W -> Good pre x W -> body.wpIn (F.inRound l) (n - 1 - 1) P (ownPostG w.heap.size Kp I Ix (pre ++ [x]) W) (a₁ x) W)
 (hdone : ∀ (D : Nat) (xs : List α) (W : World), w.heap.size <= D -> S xs -> I xs W -> W.heap[D]? = some (.deferred (some [])) -> Q .normal { a with defers := { target := .collected D, args := #[] } :: a.defers } W)
 (hstop : ∀ (D : Nat) (c : Code) (pre : List α) (W : World), w.heap.size <= D -> Sp pre -> Ix c pre W -> W.heap[D]? = some (.deferred (some [])) -> c.wpIn F n P Q { a with defers := { target := .collected D, args := #[] } :: a.defers } W) :
 (Code.rangeFunc g ps assign body).wpIn F n P Q a w := by
 refine wpIn_rangeFunc fun fn hfn => ?_
 rw [hro]
 have eL : w.heap.size < w.heap.size + 1 := Nat.lt_succ_self _
 let R5 := rec5 fn a ps assign body w.heap.size
 obtain ⟨W1, hW1⟩ : ∃ W1, W1 = (w.alloc (.deferred (some []))).alloc (.loop (R5 .ready none)) := ⟨_, rfl⟩
 have hz : W1.heap.size = w.heap.size + 2 := by rw [hW1]; simp
 have hL1 : W1.heap[w.heap.size + 1]? = some (.loop (R5 .ready none)) := by
  have h := World.alloc_heap_new (w.alloc (.deferred (some []))) (.loop (R5 .ready none))
  rw [World.size_alloc] at h
  rw [hW1]
  exact h
 have hK1 : W1.heap[w.heap.size]? = some (.deferred (some [])) := by
  rw [hW1]
  exact (Below.heap_alloc _ _ _ (by simp)).trans (World.alloc_heap_new w _)
 have hI1 : I [] W1 := by rw [hW1]; exact hI.alloc _ (hI.alloc _ h0)
 have hb1 : Below w0.heap.size w0 W1 := by
  rw [hW1]
  exact hb0.trans ((((Below.refl _ w).alloc (Nat.le_refl _) _).alloc (by simp) _).mono hb0.size)
 refine ⟨w.heap.size + 1, [{ target := .collected w.heap.size, args := #[] }], W1, { target := .fn (.func gf) lb, args := #[.func (.yield (w.heap.size + 1)) #[] #[]] }, W1, gf, #[.func (.yield (w.heap.size + 1)) #[] #[]] ++ lb, W1, by rw [hW1]; exact run_enterLoop_outer _ _ _ _ _, by simp only [resolve, hg]; simp [go_sem], fun f' hf' => by simp [Target.leads] at hf'; subst hf'; exact hFg, by simp [invoke, go_sem, eg], fun _ => h1, ?_⟩
 have turn : ∀ {A : World} {row : Option Nat}, (∀ r, row = some r -> W1.heap.size <= r /\ ∃ o : Obj, A.heap[r]? = some o /\ o.isWalk = true) -> ∀ r, row = some r -> w.heap.size <= r /\ ∃ o : Obj, A.heap[r]? = some o /\ o.isCells = false := fun hr r e => by
  obtain ⟨hB, o, ho, hw⟩ := hr r e
  exact ⟨by omega, o, ho, Obj.not_cells_of_walk hw⟩
 have hcall := hseq (w.heap.size + 1)
  (fun pre W => I pre W /\ W.heap[w.heap.size + 1]? = some (.loop (R5 .ready none)) /\ W.heap[w.heap.size]? = some (.deferred (some [])))
  (fun pre W => ∃ c, Ix c pre W /\ W.heap[w.heap.size + 1]? = some (.loop (R5 .done (some c))) /\ W.heap[w.heap.size]? = some (.deferred (some [])))
  W1 hb1
  (fun s A B row hs hg' hr => ⟨hI s A B row hs.1 hg' (turn hr), (grownBy_keeps hg' (fun r e => (hr r e).2) hs.2.1 rfl).trans hs.2.1, (grownBy_keeps hg' (fun r e => (hr r e).2) hs.2.2 rfl).trans hs.2.2⟩)
  (fun s A B row hs hg' hr => by
    obtain ⟨c, hc, hl, hk⟩ := hs
    exact ⟨c, hIx c s A B row hc hg' (turn hr), (grownBy_keeps hg' (fun r e => (hr r e).2) hl rfl).trans hl, (grownBy_keeps hg' (fun r e => (hr r e).2) hk rfl).trans hk⟩)
  ?_ ⟨hI1, hL1, hK1⟩
 ·refine hcall.mono ?_
  rintro e W2 ⟨⟨v, rfl⟩, (⟨xs, hS, hi, hl, hk⟩ | ⟨pre, hSp, c, hi, hl, hk⟩)⟩
  ·exact ⟨none, _, run_endLoop (P := P) hl (by simp [R5, rec5]), hdone _ xs _ (Nat.le_refl _) hS (hI.putObj _ hi (by omega) hl rfl) ((World.putObj_heap_other (by omega)).trans hk)⟩
  ·exact ⟨some c, _, run_endLoop (P := P) hl (by simp [R5, rec5]), hstop _ c pre _ (Nat.le_refl _) hSp ((hIx c).putObj _ hi (by omega) hl rfl) ((World.putObj_heap_other (by omega)).trans hk)⟩
 ·rintro pre x W ⟨hi, hl, hk⟩ hG
  have hlt : w.heap.size + 1 < W.heap.size := (Array.getElem?_eq_some_iff.1 hl).1
  refine ⟨fn, _, assign, body, run_yield (P := P) (args := encs x) hl (hps x), roundIn_of_wpIn hfn (hassign _ x W _ ⟨_, run_beginRound hl rfl, ?_⟩)⟩
  obtain ⟨V, hV⟩ : ∃ V, V = W.putObj (w.heap.size + 1) (.loop (R5 .busy none)) := ⟨_, rfl⟩
  show Code.wpIn _ _ _ _ _ _ (W.putObj (w.heap.size + 1) (.loop (R5 .busy none)))
  rw [<- hV]
  have hl2 : V.heap[w.heap.size + 1]? = some (.loop (R5 .busy none)) := by rw [hV]; exact World.putObj_heap_same hlt
  have hk2 : V.heap[w.heap.size]? = some (.deferred (some [])) := by rw [hV]; exact (World.putObj_heap_other (by omega)).trans hk
  have hw2 : Kp W V := by rw [hV]; exact hKb _ _ _ _ (by omega) hl rfl rfl
  have hi2 : I pre V := by rw [hV]; exact hI.putObj _ hi (by omega) hl rfl
  have hG2 : Good pre x V := by rw [hV]; exact hGb _ _ _ _ _ _ (by omega) hl rfl hG
  have ends : ∀ (jump : Option Code) (W3 : World), KeepsFrom w.heap.size V W3 ->
   (Instr.endRound (w.heap.size + 1) jump).run P W3 = .ok (.bool jump.isNone) (W3.putObj (w.heap.size + 1) (.loop (R5 (if jump.isNone then .ready else .done) jump))) /\ W3.heap[w.heap.size + 1]? = some (.loop (R5 .busy none)) /\
   (W3.putObj (w.heap.size + 1) (.loop (R5 (if jump.isNone then .ready else .done) jump))).heap[w.heap.size + 1]? = some (.loop (R5 (if jump.isNone then .ready else .done) jump)) /\
   (W3.putObj (w.heap.size + 1) (.loop (R5 (if jump.isNone then .ready else .done) jump))).heap[w.heap.size]? = some (.deferred (some [])) := fun jump W3 hk3 => by
   have hl3 := hk3.same _ _ (by omega) hl2 rfl
   exact ⟨run_endRound (P := P) jump hl3, hl3, World.putObj_heap_same (Array.getElem?_eq_some_iff.1 hl3).1, (World.putObj_heap_other (by omega)).trans (hk3.same _ _ (Nat.le_refl _) hk2 rfl)⟩
  refine wpIn_mono (hbody _ pre x V hi2 hG2) ?_
  have left : ∀ (c : Code) (W3 : World), KeepsFrom w.heap.size V W3 -> Ix c (pre ++ [x]) W3 -> ∃ v W4, (Instr.endRound (w.heap.size + 1) (some c)).run P W3 = .ok v W4 /\ ((Ending.returned v = .returned (.bool true) /\ (I (pre ++ [x]) W4 /\ W4.heap[w.heap.size + 1]? = some (.loop (R5 .ready none)) /\ W4.heap[w.heap.size]? = some (.deferred (some []))) /\ Kp W W4) \/ (Ending.returned v = .returned (.bool false) /\ ∃ c, Ix c (pre ++ [x]) W4 /\ W4.heap[w.heap.size + 1]? = some (.loop (R5 .done (some c))) /\ W4.heap[w.heap.size]? = some (.deferred (some [])))) := fun c W3 hk3 hx3 => by
   obtain ⟨hr, hl3, hl4, hk4⟩ := ends (some c) W3 hk3
   exact ⟨_, _, hr, .inr ⟨rfl, c, (hIx _).putObj _ hx3 (by omega) hl3 rfl, hl4, hk4⟩⟩
  rintro e a3 W3 hp
  cases e with
  | normal =>
    obtain ⟨hk3, hkp3, hi3⟩ := hp
    obtain ⟨hr, hl3, hl4, hk4⟩ := ends none W3 hk3
    exact ⟨_, _, hr, .inl ⟨rfl, ⟨hI.putObj _ hi3 (by omega) hl3 rfl, hl4, hk4⟩, hKt (hKt hw2 hkp3) (hKb _ _ _ _ (by omega) hl3 rfl rfl)⟩⟩
  | ret => exact left .ret W3 hp.1 hp.2
  | exit id => exact left (.exit id) W3 hp.1 hp.2
  | goto t => exact left (.goto t) W3 hp.1 hp.2
  | panic ch => exact hp.elim
  | outgrown => exact hp.elim
end
end
section
open Go.RowKit Go.Maps
theorem take_both5 {α : Type} {a b : List α} {j : Nat} {x : α} (ha : a[j]? = some x) (hb : b[j]? = some x) (h : a.take j = b.take j) : a.take (j + 1) = b.take (j + 1) := by
 rw [take_succ_of ha, take_succ_of hb, h]
theorem eq_len5 {α : Type} {a b : List α} {n : Nat} (ha : a.length = n) (hb : b.length = n) (h : a.take n = b.take n) : a = b := by
 rw [List.take_of_length_le (by omega), List.take_of_length_le (by omega)] at h
 exact h
set_option maxRecDepth 100000 in
set_option maxHeartbeats 1000000 in
theorem slEqual_any (va vb : Value) (za zb : List Int) (w : World) (hn : za.length <= 1000000000000000) (hm : zb.length <= 1000000000000000) (hA : HasI w va za) (hB : HasI w vb zb) :
 Calls Tryz.prog 56 #[va, vb] w fun e w' => e = .returned (.bool (za == zb)) /\ Below w.heap.size w w' := by
 obtain ⟨ao, cap, rfl, hcA⟩ := hA
 obtain ⟨ao', cap', rfl, hcB⟩ := hB
 by_cases hlen : za.length = zb.length
 ·obtain ⟨n, hN⟩ : ∃ n, n = za.length := ⟨_, rfl⟩
  have HH : Hid _ := And.intro hcA (And.intro hcB (And.intro hN (hN.trans hlen)))
  rw [<- hlen, <- hN]
  rw [<- hN] at hn
  clear hcA hcB hN hlen hm
  have q : ((n : Int) != (n : Int)) = false := by simp
  go_enter Tryz.func56, Tryz.ntmps56
  go_wp2
  go_loopg [13] n (fun g i wr => ∃ j m : Nat, g = n - j /\ j <= n /\ i = .int .i64 j /\ za.take j = zb.take j /\ wr = w.drewN m)
  case atStart => exact ⟨0, 0, rfl, Nat.zero_le _, rfl, rfl, rfl⟩
  case round =>
   obtain ⟨j, m, rfl, hj, rfl, heq, rfl⟩ := hrel
   have HQ : Hid _ := heq
   clear heq
   by_cases hlt : j < n
   ·obtain ⟨x, hx⟩ : ∃ z, za[j]? = some z := ⟨za[j]'(by have := HH.out.2.2.1; omega), List.getElem?_eq_getElem _⟩
    obtain ⟨y, hy⟩ : ∃ z, zb[j]? = some z := ⟨zb[j]'(by have := HH.out.2.2.2; omega), List.getElem?_eq_getElem _⟩
    obtain ⟨a, rfl, c0⟩ := HH.out.1 j x hx
    obtain ⟨b, rfl, d0⟩ := HH.out.2.1 j y hy
    have q0 : (0 : Int) <= (j : Int) := by omega
    have q1 : (j : Int) < (n : Int) := by omega
    by_cases hxy : x = y
    ·subst hxy
     have HT : Hid _ := take_both5 hx hy HQ.out
     clear hx hy
     go_wp2_with fail
     go_quiet (fail)
     go_wp2
     go_roundg (n - (j + 1))
     case measure => omega
     case rel => exact ⟨j + 1, _, rfl, by omega, by go_num, HT.out, by first | rfl | exact World.drewN_drewN _ _ _⟩
    ·have e1 : (x == y) = false := by simpa using hxy
     have HF : Hid ((za == zb) = false) := (by
      rw [beq_eq_false_iff_ne]
      rintro rfl
      rw [hx] at hy
      exact hxy (Option.some.inj hy) : (za == zb) = false)
     clear hx hy hxy
     go_wp2_with fail
     go_quiet (fail)
     go_wp2
     go_ret
     exact ⟨by rw [HF.out]; rfl, by first | exact below_drewN (below_drewN (Below.refl _ _) _) _ | exact below_drewN (Below.refl _ _) _⟩
   ·obtain rfl : j = n := by omega
    have q1 : ¬ (j : Int) < (j : Int) := by omega
    have HF : Hid ((za == zb) = true) := (by
     rw [beq_iff_eq]
     exact eq_len5 HH.out.2.2.1.symm HH.out.2.2.2.symm HQ.out : (za == zb) = true)
    go_wp2
    go_ret
    exact ⟨by rw [HF.out]; rfl, below_drewN (Below.refl _ _) _⟩
 ·have q : ((za.length : Int) != (zb.length : Int)) = true := by rw [bne_iff_ne]; omega
  have HF : Hid ((za == zb) = false) := (by rw [beq_eq_false_iff_ne]; rintro rfl; exact hlen rfl : (za == zb) = false)
  clear hcA hcB hlen
  go_enter Tryz.func56, Tryz.ntmps56
  go_wp2
  go_ret
  exact ⟨by rw [HF.out]; rfl, Below.refl _ _⟩
end
section
open Go.RowKit Go.Maps Go.Shelf
attribute [local go_sem] Oper.semAt_some
structure KpR (n0 n1 : Nat) (W W' : World) : Prop where
 bl : Below n0 W W'
 ints : ∀ (b : Nat) (cs : Array Value), n1 <= b -> W.heap[b]? = some (.cells cs 3 (0, 0)) -> W'.heap[b]? = some (.cells cs 3 (0, 0))
theorem KpR.trans {n0 n1 : Nat} {A B C : World} (h : KpR n0 n1 A B) (k : KpR n0 n1 B C) : KpR n0 n1 A C := ⟨h.bl.trans k.bl, fun b cs hb hc => k.ints b cs hb (h.ints b cs hb hc)⟩
abbrev Rd : Type := Nat × Nat
def rdV (m : Nat) (x : Rd) : Array Value := #[.int .i64 x.1, .slice (some ⟨x.2, 0, none⟩) m m]
structure GoodR (n1 m : Nat) (out : Nat -> List Ro.St) (pre : List Rd) (x : Rd) (W : World) : Prop where
 num : x.1 = pre.length
 small : x.1 < max m 1
 up : ∀ y ∈ pre, y.2 < x.2
 gu : n1 <= x.2
 blk : ∃ cs : Array Value, W.heap[x.2]? = some (.cells cs 3 (0, 0)) /\ cs.toList = natC (Ro.rnd m out x.1)
def Reads (n0 b1 b2 gs m : Nat) (out : Nat -> List Ro.St) (w : World) : Prop := ∀ W, Below n0 w W -> W.cell? ⟨b1, 0, none⟩ = some (.int .i64 m) /\ W.cell? ⟨b2, 0, none⟩ = some (.slice (some ⟨gs, 0, none⟩) m m) /\ Stp W gs m out /\ Pow W
theorem Reads.of {w w' : World} {b1 b2 gs m : Nat} {es : List Sy.Ed} (h : OfAt w w' b1 b2 gs m es) (hP : Pow w') : Reads w'.heap.size b1 b2 gs m (outOf m es) w' := fun _ hb =>
 ⟨cell_up h.c1 hb, cell_up h.c2 hb, h.st.below hb, hP.below hb⟩
theorem Reads.on {n0 b1 b2 gs m : Nat} {out : Nat -> List Ro.St} {w w' : World} (h : Reads n0 b1 b2 gs m out w) (hb : Below n0 w w') : Reads n0 b1 b2 gs m out w' := fun W hW => h W (hb.trans hW)
theorem grown_of_below {w w' : World} (h : Below w.heap.size w w') : w.grownBy w' none := ⟨h.os, h.tape, h.output, h.size, fun k hk _ => h.block k hk⟩
theorem hasI_blk {W : World} {g m : Nat} {c : List Nat} {cs : Array Value} (hm : c.length = m) (hb : W.heap[g]? = some (.cells cs 3 (0, 0))) (hc : cs.toList = natC c) : HasI W (.slice (some ⟨g, 0, none⟩) m m) (natI c) :=
 ⟨_, m, by rw [show (natI c).length = m by simp [natI, hm]], fun i z hz => ⟨_, rfl, by
  rw [addz]
  refine cell0_of hb ?_
  rw [<- Array.getElem?_toList, hc, <- iC_nat]
  unfold iC
  rw [List.getElem?_map, hz]; rfl⟩⟩
theorem natI_inj {a b : List Nat} (h : natI a = natI b) : a = b := by
 unfold natI at h
 exact List.map_inj_right (fun x y e => by omega) |>.1 h
structure ItAt (w wr : World) (n0 m : Nat) (out : Nat -> List Ro.St) (J : List Rd -> World -> Prop) (pre : List Rd) (k g : Nat) : Prop where
 len : pre.length = k
 j : J pre wr
 bl : Below n0 w wr
 up : ∀ y ∈ pre, y.2 < g
 gu : w.heap.size <= g
 blk : ∃ cs : Array Value, wr.heap[g]? = some (.cells cs 3 (0, 0)) /\ cs.toList = natC (Ro.rnd m out k)
 ch : ∀ j, j < k -> Ro.rnd m out (j + 1) ≠ Ro.rnd m out j
set_option maxRecDepth 100000 in
set_option maxHeartbeats 4000000 in
theorem rounds_tell (n : Nat) (n0 b1 b2 gs m : Nat) (out : Nat -> List Ro.St) (w : World) (hn0 : n0 <= w.heap.size) (hm : m <= 1000) (hF : Fit m out) (hR : Reads n0 b1 b2 gs m out w) :
 Tells Fence.wide n Tryz.prog 54 #[.pointer (some ⟨b1, 0, none⟩), .pointer (some ⟨b2, 0, none⟩)] (rdV m) (KpR n0 w.heap.size) (GoodR w.heap.size m out) (fun xs => ∃ R, Ro.Last m out R /\ xs.length = R + 1) (fun pre => ∃ R, Ro.Last m out R /\ pre.length <= R + 1) w := by
 intro l J Jx W hW hJ hJx hY h0
 have hrd := hR W (hW.mono hn0)
 have c1 := hrd.1
 have hmk := makeI m (by omega) W
 have HH : Hid _ := And.intro hW (And.intro hJ (And.intro hJx (And.intro hY (And.intro h0 (And.intro hF (And.intro hR hrd))))))
 clear hW hJ hJx hY h0 hF hR hrd
 refine callsIn_of_wp Tryz.func54 rfl trivial ?_ rfl
 simp only [Tryz.ntmps54, List.size_toArray, List.length_cons, List.length_nil, Nat.reduceAdd, Nat.reduceSub, Array.replicate_succ, Array.replicate_zero, List.push_toArray, List.append_toArray, List.nil_append, List.cons_append]
 gi_wp2
 clear hmk c1
 gi_loopw [4, 5] (fun cv iv wr => ∃ (k g : Nat) (pre : List Rd), cv = .slice (some ⟨g, 0, none⟩) m m /\ iv = .int .i64 k /\ ItAt w wr n0 m out J pre k g) (fun _ iv _ => 1001 - (intOf iv).toNat)
 case atStart =>
  refine ⟨0, W.heap.size, [], rfl, rfl, rfl, ?_, ?_, fun y hy => by simp at hy, HH.out.1.size, ?_, fun j hj => by omega⟩
  ·exact HH.out.2.1 _ _ _ none HH.out.2.2.2.2.1 (World.grownBy_alloc W _ none) (fun r e => by cases e)
  ·exact (HH.out.1.mono hn0).trans (((Below.refl _ W).alloc (Nat.le_refl _) _).mono (Nat.le_trans hn0 HH.out.1.size))
  ·obtain ⟨_, ⟨cs, hc, hx⟩, _⟩ := arr_new 3 (.int .i64 0) rfl m W
   exact ⟨cs, hc, by rw [hx]; simp [natC, Ro.rnd]⟩
 case round =>
  obtain ⟨k, g, pre, rfl, rfl, hI⟩ := hrel
  have hk := Ro.changes_lt hI.ch
  obtain ⟨fn, tmps, assign, body, hy, hRd⟩ := HH.out.2.2.2.1 pre (k, g) wr hI.j ⟨hI.len.symm, hk, hI.up, hI.gu, hI.blk⟩
  dsimp only [rdV] at hy
  have HI : Hid (ItAt w wr n0 m out J pre k g) := hI
  have hk1 : k <= 1000 := by omega
  clear hI
  gi_wp2
  refine ⟨fun h => (by cases h), hRd.mono ?_⟩
  rintro e W3 (⟨rfl, hJ3, hk3⟩ | ⟨rfl, hJx3⟩)
  ·have hb3 := HI.out.bl.trans hk3.bl
   obtain ⟨cs, hcs, hcl⟩ := HI.out.blk
   have hcs3 := hk3.ints g cs HI.out.gu hcs
   obtain ⟨r1, r2, r3, r4⟩ := HH.out.2.2.2.2.2.2.1 W3 hb3
   have hcI := hasI_blk (Ro.rnd_len m out k) hcs3 hcl
   have hP := parted_any gs m out (Ro.rnd m out k) _ W3 hm (Ro.rnd_len m out k) (fun u hu => Ro.rnd_lt hu) HH.out.2.2.2.2.2.1 r3 hcI r4
   have H3 : Hid _ := And.intro hJ3 (And.intro hb3 (And.intro hcI (And.intro hP hcs3)))
   have c2 := r2
   clear hJ3 hk3 hb3 hcs hcs3 r1 r2 r3 r4 hcI hP hRd hy
   gi_wp2
   refine ⟨trivial, fun h => (by cases h), (callsIn_wide.2 H3.out.2.2.2.1).mono ?_⟩
   rintro e W4 ⟨g2, rfl, hA4⟩
   have hb34 := hA4.bl
   have hcI4 : HasI W4 (.slice (some ⟨g2, 0, none⟩) m m) (natI (Ro.rnd m out (k + 1))) := by
    obtain ⟨cs4, hc4, hx4⟩ := hA4.ids
    exact hasI_blk (Ro.rnd_len m out (k + 1)) hc4 hx4
   have hl4 : ∀ j, (natI (Ro.rnd m out j)).length = m := fun j => by simp [natI, Ro.rnd_len]
   have hE := slEqual_any _ _ _ _ W4 (by rw [hl4]; omega) (by rw [hl4]; omega) hcI4 (H3.out.2.2.1.below hb34)
   have H4 : Hid _ := And.intro hA4 hE
   clear hA4 hE hb34 hcI4 hl4
   by_cases he : Ro.rnd m out (k + 1) = Ro.rnd m out k
   ·have e1 : (natI (Ro.rnd m out (k + 1)) == natI (Ro.rnd m out k)) = true := by rw [he]; simp
    rw [e1] at H4
    have HE : Hid _ := he
    clear he e1
    gi_wp2
    refine ⟨trivial, fun h => (by cases h), (callsIn_wide.2 H4.out.2).mono ?_⟩
    rintro e W5 ⟨rfl, hb5⟩
    have H5 : Hid (Below W3.heap.size W3 W5) := bel6 hb5 H4.out.1.bl
    clear hb5
    gi_wp2
    refine bodyPost_ret (results_none rfl _ _ _) rfl ?_
    exact ⟨⟨_, rfl⟩, .inl ⟨pre ++ [(k, g)], ⟨k, ⟨HE.out, HI.out.ch⟩, by simp [HI.out.len]⟩, HH.out.2.1 _ _ _ none H3.out.1 (grown_of_below H5.out) (fun r e => by cases e)⟩⟩
   ·have e1 : (natI (Ro.rnd m out (k + 1)) == natI (Ro.rnd m out k)) = false := by simpa using fun e => he (natI_inj e)
    rw [e1] at H4
    have HE : Hid _ := he
    clear he e1
    gi_wp2
    refine ⟨trivial, fun h => (by cases h), (callsIn_wide.2 H4.out.2).mono ?_⟩
    rintro e W5 ⟨rfl, hb5⟩
    have H5 : Hid (Below W3.heap.size W3 W5 /\ Below W4.heap.size W4 W5) := ⟨bel6 hb5 H4.out.1.bl, hb5⟩
    clear hb5
    gi_wp2
    go_roundw
    case rel =>
     refine ⟨k + 1, g2, pre ++ [(k, g)], rfl, by go_num, by simp [HI.out.len], HH.out.2.1 _ _ _ none H3.out.1 (grown_of_below H5.out.1) (fun r e => by cases e), H3.out.2.1.trans (H5.out.1.mono (Nat.le_trans hn0 H3.out.2.1.size)), fun y hy => ?_, ?_, ?_, fun j hj => ?_⟩
     ·have hg3 := t_lt H3.out.2.2.2.2
      have hg4 := H4.out.1.gu
      rcases List.mem_append.1 hy with hy | hy
      ·have := HI.out.up y hy; omega
      ·rw [List.mem_singleton.1 hy]; show g < g2; omega
     ·exact Nat.le_trans H3.out.2.1.size H4.out.1.gu
     ·obtain ⟨cs4, hc4, hx4⟩ := H4.out.1.ids
      exact ⟨cs4, res_up6 H5.out.2 hc4, hx4⟩
     ·rcases Nat.lt_or_ge j k with h1 | h1
      ·exact HI.out.ch j h1
      ·obtain rfl : j = k := by omega
       exact HE.out
    case measure => simp [intOf]; omega
  ·have HJ : Hid _ := hJx3
   clear hJx3 hRd hy
   gi_wp2
   go_end0
   obtain ⟨R, hR⟩ := Ro.exists_last m out
   exact ⟨⟨_, rfl⟩, .inr ⟨_, ⟨R, hR, by have := hR.ge HI.out.ch; simp [HI.out.len]; omega⟩, HJ.out⟩⟩
end
end Go.Proofs.YtgehimdkdeldaabGreatDoor
