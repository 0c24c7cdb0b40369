/- Texts of this claim, joined: SyTab, SyGr, SgSrc, SgNum, SgCnt. -/
import Derived.Test.YthcpliinddjkhaaGreatDoorPart7
import Derived.Test.YthcpliinddjkhaaGreatDoorPart6
import Derived.Deep.DeepCutAuto
import Derived.Test.YthcpliinddjkhaaGreatDoorPart0
import Derived.Deep.AppendLies
import Derived.Deep.LoopGhost
import Derived.Test.YthcpliinddjkhaaGreatDoorPart5
import Derived.WideKeyEntry
import Derived.Maps.OwnSet
import Derived.DeepKeys4
namespace Go.Proofs.YthcpliinddjkhaaGreatDoor
section
open Go.RowKit Go.Maps
attribute [local go_sem ↓] Go.wp_at_zero Go.wp_at_succ
theorem Tryz.infoSt8 : (Tryz.prog.info? 77).map (fun i => (i.zero, i.size, i.bytes)) = some (some (.agg #[.int .i64 0, .int .i64 0]), 2, 16) := by kernel_rfl
def madeSt (m : Nat) : Array Value := madeCells #[.int .i64 0, .int .i64 0] (m * 2)
theorem madeSt_eq (m : Nat) : (madeSt m).toList = BSteps.C (List.replicate m (0, 0)) := by
 apply List.ext_getElem?
 intro j
 by_cases hj : j < m * 2
 ·have h1 := BSteps.C_at (List.replicate m (0, 0)) (j / 2) (0, 0) (by rw [List.getElem?_replicate, if_pos (by omega)]) (j % 2) (Nat.mod_lt _ (by decide))
  rw [show j / 2 * 2 + j % 2 = j by omega] at h1
  rw [h1, Array.getElem?_toList]
  unfold madeSt madeCells
  have h2 : j % 2 = 0 \/ j % 2 = 1 := by omega
  rcases h2 with e | e <;> simp [hj, e, BSteps.enc]
 ·rw [List.getElem?_eq_none (by simp [madeSt, madeCells]; omega), List.getElem?_eq_none (by rw [BSteps.C_len, List.length_replicate]; omega)]
theorem makeS2 (m : Nat) (hm : m <= 1000000) (w : World) : (Instr.makeSlice 75 (.int .i64 (m : Int)) (.int .i64 (m : Int))).run Tryz.prog w = .ok (.slice (some ⟨w.heap.size, 0, none⟩) m m) (w.alloc (.cells (madeSt m) 77)) := by
 obtain ⟨i0, hi0, hz0, hz1, hz2⟩ := info_parts Tryz.infoSt8
 have h := run_makeSlice (P := Tryz.prog) w 75 77 i0 _ Tryz.underlying75 hi0 hz0 .i64 .i64 (m : Int) (m : Int) (by omega) (Int.le_refl _) (by rw [hz1]; omega) (by rw [hz2]; omega) (by omega)
 rw [h, hz1]
 simp [madeSt, Value.cells]
structure TbAt (w wx : World) (bt bs bb m nb : Nat) (ss : List BSteps.El) (cs : List Int) : Prop where
 box : wx.heap[bt]? = some (.cells #[.slice (some ⟨bs, 0, none⟩) m m, .slice (some ⟨bb, 0, none⟩) nb nb] 242 (0, 0))
 up : w.heap.size < bt
 res : wx.heap[w.heap.size]? = some (.cells #[.slice none 0 0, .slice none 0 0] 242 (0, 0))
 steps : Arr 77 w wx bs (BSteps.C ss)
 nums : Arr 3 w wx bb (iC cs)
 ls : ss.length = m
 ln : cs.length = nb
theorem TbAt.below {w wx w' : World} {bt bs bb m nb : Nat} {ss : List BSteps.El} {cs : List Int} (h : TbAt w wx bt bs bb m nb ss cs) (hb : Below wx.heap.size wx w') : TbAt w w' bt bs bb m nb ss cs :=
 ⟨(hb.block _ (t_lt h.box)).trans h.box, h.up, (hb.block _ (t_lt h.res)).trans h.res, h.steps.below hb, h.nums.below hb, h.ls, h.ln⟩
theorem TbAt.cells {w wx : World} {bt bs bb m nb : Nat} {ss : List BSteps.El} {cs : List Int} (h : TbAt w wx bt bs bb m nb ss cs) : wx.cell? ⟨bt, 0, none⟩ = some (.slice (some ⟨bs, 0, none⟩) m m) /\ wx.cell? ⟨bt, 1, none⟩ = some (.slice (some ⟨bb, 0, none⟩) nb nb) := ⟨cell0_of h.box rfl, cell0_of h.box rfl⟩
theorem arr_ne {t1 t2 : TypeId} {w wx : World} {g1 g2 : Nat} {v1 v2 : List Value} (h1 : Arr t1 w wx g1 v1) (h2 : Arr t2 w wx g2 v2) (hne : t1 ≠ t2) : g1 ≠ g2 := fun e => by
 obtain ⟨c1, a1, _⟩ := h1.ids
 obtain ⟨c2, a2, _⟩ := h2.ids
 rw [e, a2] at a1
 injection a1 with a1
 injection a1 with _ a1
 exact hne a1.symm
theorem arr_bk {t1 t2 : TypeId} {w wx : World} {g1 b : Nat} {v1 : List Value} {cs : Array Value} (h1 : Arr t1 w wx g1 v1) (h2 : wx.heap[b]? = some (.cells cs t2 (0, 0))) (hne : t1 ≠ t2) : b ≠ g1 := fun e => by
 obtain ⟨c1, a1, _⟩ := h1.ids
 rw [e, a1] at h2
 injection h2 with a1
 injection a1 with _ a1
 exact hne a1
theorem TbAt.num {w wx : World} {bt bs bb m nb : Nat} {ss : List BSteps.El} {cs : List Int} (h : TbAt w wx bt bs bb m nb ss cs) (i : Nat) (z : Int) : TbAt w (wx.setCell ⟨bb, i, none⟩ (.int .i64 z)) bt bs bb m nb ss (cs.set i z) := by
 refine ⟨(set_other _ _ _ _ _ (arr_bk h.nums h.box (by decide))).trans h.box, h.up, (set_other _ _ _ _ _ (arr_bk h.nums h.res (by decide))).trans h.res, ?_, ?_, h.ls, by rw [List.length_set]; exact h.ln⟩
 ·exact h.steps.kept (Kept.setCell _ _ _ _) fun b e => by subst e; exact ⟨h.nums.gu, arr_ne h.nums h.steps (by decide)⟩
 ·have h1 := h.nums.set i (.int .i64 z)
  unfold iC at h1 ⊢
  rw [List.map_set]
  exact h1
theorem TbAt.step {w wx : World} {bt bs bb m nb : Nat} {ss : List BSteps.El} {cs : List Int} (h : TbAt w wx bt bs bb m nb ss cs) {i : Nat} (hi : i < m) (z : BSteps.El) : TbAt w ((wx.setCell ⟨bs, i * 2, none⟩ (.int .i64 z.1)).setCell ⟨bs, i * 2 + 1, none⟩ (.int .i64 z.2)) bt bs bb m nb (ss.set i z) cs := by
 have hx := arr_bk h.steps h.box (by decide)
 have hy := arr_bk h.steps h.res (by decide)
 refine ⟨(set_other _ _ _ _ _ hx).trans ((set_other _ _ _ _ _ hx).trans h.box), h.up, (set_other _ _ _ _ _ hy).trans ((set_other _ _ _ _ _ hy).trans h.res), ?_, ?_, by rw [List.length_set]; exact h.ls, h.ln⟩
 ·have h1 := (h.steps.set (i * 2) (.int .i64 z.1)).set (i * 2 + 1) (.int .i64 z.2)
  rw [<- BSteps.C_set ss (by rw [h.ls]; exact hi) z] at h1
  exact h1
 ·exact (h.nums.kept (Kept.setCell _ _ _ _) fun b e => by subst e; exact ⟨h.steps.gu, arr_ne h.steps h.nums (by decide)⟩).kept (Kept.setCell _ _ _ _) fun b e => by subst e; exact ⟨h.steps.gu, arr_ne h.steps h.nums (by decide)⟩
def stp (e : Sy.Ed) : BSteps.El := (e.2.1, e.2.2)
theorem step_done {l : List Sy.Ed} {i m : Nat} {x : Sy.Ed} (hx : l[i]? = some x) (hm : l.length = m) : ((l.take i).map stp ++ List.replicate (m - i) (0, 0)).set i (stp x) = (l.take (i + 1)).map stp ++ List.replicate (m - (i + 1)) (0, 0) := by
 have hi := (List.getElem?_eq_some_iff.1 hx).1
 have hl : ((l.take i).map stp).length = i := by rw [List.length_map, List.length_take]; omega
 have e : m - i = (m - (i + 1)) + 1 := by omega
 rw [List.set_append_right _ _ (by omega), hl, Nat.sub_self, e, List.replicate_succ, List.set_cons_zero, take_succ_of hx, List.map_append, List.append_assoc]
 rfl
theorem al_b (w : World) (a b c d : Obj) : Below w.heap.size w (((w.alloc a).alloc b).alloc c |>.alloc d).drew := (((((Below.refl _ w).alloc (Nat.le_refl _) a).alloc (by simp) b).alloc (by simp; omega) c).alloc (by simp; omega) d).drew
theorem sz1 (w : World) (a : Obj) : (w.alloc a).heap.size = w.heap.size + 1 := by simp
theorem al3 (w : World) (a b c d : Obj) : (((w.alloc a).alloc b).alloc c |>.alloc d).drew.heap[w.heap.size + 1 + 1 + 1]? = some d := by
 have h := heap_alloc_new (((w.alloc a).alloc b).alloc c) d
 rw [sz1, sz1, sz1] at h
 exact h
theorem al2 (w : World) (a b c d : Obj) : (((w.alloc a).alloc b).alloc c |>.alloc d).drew.heap[w.heap.size + 1 + 1]? = some c := by
 have h := heap_alloc_new ((w.alloc a).alloc b) c
 rw [sz1, sz1] at h
 exact (Below.heap_alloc _ _ _ (by rw [sz1, sz1, sz1]; omega)).trans h
theorem al1 (w : World) (a b c d : Obj) : (((w.alloc a).alloc b).alloc c |>.alloc d).drew.heap[w.heap.size + 1]? = some b := by
 have h := heap_alloc_new (w.alloc a) b
 rw [sz1] at h
 exact (Below.heap_alloc _ _ _ (by rw [sz1, sz1, sz1]; omega)).trans ((Below.heap_alloc _ _ _ (by rw [sz1, sz1]; omega)).trans h)
theorem al0 (w : World) (a b c d : Obj) : (((w.alloc a).alloc b).alloc c |>.alloc d).drew.heap[w.heap.size]? = some a :=
 (Below.heap_alloc _ _ _ (by rw [sz1, sz1, sz1]; omega)).trans ((Below.heap_alloc _ _ _ (by rw [sz1, sz1]; omega)).trans ((Below.heap_alloc _ _ _ (by rw [sz1]; omega)).trans (heap_alloc_new w a)))
theorem iC_rep (n : Nat) : List.replicate n (Value.int .i64 0) = iC (List.replicate n 0) := by simp [iC]
theorem tb_start {w wx : World} {bt bs bb m n : Nat} (hbt : wx.heap[bt]? = some (.cells #[.slice (some ⟨bs, 0, none⟩) m m, .slice (some ⟨bb, 0, none⟩) (n + 1) (n + 1)] 242 (0, 0))) (hup : w.heap.size < bt) (hres : wx.heap[w.heap.size]? = some (.cells #[.slice none 0 0, .slice none 0 0] 242 (0, 0)))
 (hb : Below w.heap.size w wx) (hs : wx.heap[bs]? = some (.cells (madeSt m) 77 (0, 0))) (gs : w.heap.size <= bs) (hn : wx.heap[bb]? = some (.cells (madeV (.int .i64 0) (n + 1)) 3 (0, 0))) (gn : w.heap.size <= bb) (l : List Sy.Ed) : TbAt w wx bt bs bb m (n + 1) ((l.take 0).map stp ++ List.replicate (m - 0) (0, 0)) (Sy.bndL n (l.take 0)) := by
 rw [List.take_zero, Sy.bnd_zero, List.map_nil, List.nil_append, Nat.sub_zero]
 refine ⟨hbt, hup, hres, ⟨hb, ⟨_, hs, madeSt_eq m⟩, gs⟩, ⟨hb, ⟨_, hn, ?_⟩, gn⟩, by simp, by simp⟩
 rw [madeV_eq _ rfl, iC_rep]
set_option maxRecDepth 100000 in
set_option maxHeartbeats 8000000 in
theorem tableOf_any (f : Nat) (vw : Sy.Ed -> Sy.Ed) (hV : ViewAt f vw) (n : Nat) (v : Value) (os : List Sy.Ed) (w : World) (hn : n <= 100000) (hm : os.length <= 100000) (hv : BEdges.Has w v os) (hr : ∀ e ∈ os.map vw, 0 <= e.1 /\ e.1 < (n : Int)) (hs : Sy.Rows (os.map vw)) :
 Calls Tryz.prog 171 #[.int .i64 n, v, .func (.func f) #[] #[]] w fun r w' => ∃ bs bb, r = .returned (.agg #[.slice (some ⟨bs, 0, none⟩) os.length os.length, .slice (some ⟨bb, 0, none⟩) (n + 1) (n + 1)]) /\ Arr 77 w w' bs (BSteps.C ((os.map vw).map stp)) /\ Arr 3 w w' bb (iC (Sy.bounds n (os.map vw))) := by
 obtain ⟨he, hV⟩ := hV
 obtain ⟨av, cv, rfl, _⟩ := _root_.id hv
 obtain ⟨m, hM⟩ : ∃ m, m = os.length := ⟨_, rfl⟩
 obtain ⟨l, hl⟩ : ∃ l, l = os.map vw := ⟨_, rfl⟩
 rw [<- hl] at hr hs ⊢
 rw [<- hM] at hv hm ⊢
 have hll : l.length = m := by rw [hl, List.length_map, hM]
 have HV : Hid _ := And.intro hv (And.intro hV (And.intro hl (And.intro hll (And.intro hr (And.intro hs hM)))))
 have hmk := makeS2 m (by omega)
 have hmi := makeI (n + 1) (by omega)
 have hwr : IntKind.i64.wrap ((n : Int) + 1) = (n : Int) + 1 := by rw [IntKind.wrap_i64]; omega
 have hcast : (((n + 1 : Nat)) : Int) = (n : Int) + 1 := by omega
 rw [hcast] at hmi
 clear hv hV hl hll hr hs hM hcast
 go_enter Tryz.func171, Tryz.ntmps171
 go_upto_region 1 with fail
 go_cut [7] (fun s7 wx => ∃ bt bs bb, s7 = .pointer (some ⟨bt, 0, none⟩) /\ TbAt w wx bt bs bb m (n + 1) ((l.take 0).map stp ++ List.replicate (m - 0) (0, 0)) (Sy.bndL n (l.take 0)))
 case first =>
  go_region
  all_goals go_wp2_with fail
  all_goals (go_meet; case rel => first | exact ⟨_, _, _, rfl, tb_start (al1 w _ _ _ _) (by omega) (al0 w _ _ _ _) (al_b w _ _ _ _) (al2 w _ _ _ _) (by omega) (al3 w _ _ _ _) (by omega) l⟩ | exact ⟨_, _, _, rfl, tb_start (al1 w _ _ _ _) (by omega) (al0 w _ _ _ _) (al_b w _ _ _ _) (al3 w _ _ _ _) (by omega) (al2 w _ _ _ _) (by omega) l⟩ | exact ⟨_, _, _, rfl, tb_start (al2 w _ _ _ _) (by omega) (al0 w _ _ _ _) (al_b w _ _ _ _) (al1 w _ _ _ _) (by omega) (al3 w _ _ _ _) (by omega) l⟩ | exact ⟨_, _, _, rfl, tb_start (al2 w _ _ _ _) (by omega) (al0 w _ _ _ _) (al_b w _ _ _ _) (al3 w _ _ _ _) (by omega) (al1 w _ _ _ _) (by omega) l⟩ | exact ⟨_, _, _, rfl, tb_start (al3 w _ _ _ _) (by omega) (al0 w _ _ _ _) (al_b w _ _ _ _) (al1 w _ _ _ _) (by omega) (al2 w _ _ _ _) (by omega) l⟩ | exact ⟨_, _, _, rfl, tb_start (al3 w _ _ _ _) (by omega) (al0 w _ _ _ _) (al_b w _ _ _ _) (al2 w _ _ _ _) (by omega) (al1 w _ _ _ _) (by omega) l⟩)
 case rest =>
  obtain ⟨bt, bs, bb, rfl, hT⟩ := hcut
  have HT : Hid _ := hT
  clear hT hmk hmi
  go_wp2_with fail
  go_loopg [22] m (fun q iv wr => ∃ i : Nat, q = m - i /\ i <= m /\ iv = .int .i64 i /\ TbAt w wr bt bs bb m (n + 1) ((l.take i).map stp ++ List.replicate (m - i) (0, 0)) (Sy.bndL n (l.take i)))
  case atStart => exact ⟨0, rfl, Nat.zero_le _, rfl, HT.out⟩
  case round =>
   obtain ⟨i, rfl, hi, rfl, hTi⟩ := hrel
   by_cases hlt : i < m
   ·obtain ⟨e, hx⟩ : ∃ e, os[i]? = some e := ⟨os[i]'(by have := HV.out.2.2.2.2.2.2; omega), List.getElem?_eq_getElem _⟩
    have hlx : l[i]? = some (vw e) := by rw [HV.out.2.2.1, List.getElem?_map, hx]; rfl
    obtain ⟨a, rfl, z0, z1, z2⟩ := edge_at (HV.out.1.below hTi.steps.bl) hx
    have q0 : (0 : Int) <= (i : Int) := by omega
    have q1 : (i : Int) < (m : Int) := by omega
    obtain ⟨hr1, hr2⟩ := HV.out.2.2.2.2.1 (vw e) (List.mem_of_getElem? hlx)
    obtain ⟨q, hq⟩ : ∃ q : Nat, (vw e).1 = (q : Int) := ⟨(vw e).1.toNat, by omega⟩
    have hqn : q < n := by omega
    have hvw := HV.out.2.1 e
    obtain ⟨e0, e1, e2⟩ := e
    obtain ⟨p, hp⟩ : ∃ p, p = vw (e0, e1, e2) := ⟨_, rfl⟩
    rw [<- hp] at hvw hlx hq
    obtain ⟨p0, p1, p2⟩ := p
    simp only at hq hvw z0 z1 z2
    subst hq
    unfold edV at hvw
    have HI : Hid _ := And.intro hTi (And.intro hlx hvw)
    clear hTi hlx hx hvw hp hr1 hr2
    go_wp2_with fail
    refine Calls.mono (HI.out.2.2 _) ?_
    rintro r w2 ⟨rfl, hb2⟩
    obtain ⟨w3, hw3⟩ : ∃ w3, w3 = w2.alloc (.cells #[.int .i64 p1, .int .i64 p2] 77) := ⟨_, rfl⟩
    have hb3 : Below wr.heap.size wr w3 := by
     rw [hw3]
     exact (((Below.refl _ wr).alloc (Nat.le_refl _) _).trans (hb2.mono (by simp))).alloc (by have := hb2.size; simp at this; omega) _
    have hg3 : w3.heap[w2.heap.size]? = some (.cells #[.int .i64 p1, .int .i64 p2] 77 (0, 0)) := by rw [hw3]; exact heap_alloc_new w2 _
    have hT3 := HI.out.1.below hb3
    obtain ⟨c0, c1⟩ := hT3.cells
    have s0 : w3.cell? ⟨w2.heap.size, 0, none⟩ = some (.int .i64 p1) := cell0_of hg3 rfl
    have s1 : w3.cell? ⟨w2.heap.size, 1, none⟩ = some (.int .i64 p2) := cell0_of hg3 rfl
    have f0 := hT3.steps.free (i * 2)
    have f1 := hT3.steps.free (i * 2 + 1)
    have f2 := hT3.nums.free (q + 1)
    have hn1 : ¬ bt = bs := arr_bk hT3.steps hT3.box (by decide)
    have hn2 : ¬ bb = bs := fun h => arr_ne hT3.steps hT3.nums (by decide) h.symm
    obtain ⟨o0, ho0⟩ : ∃ o, ((l.take i).map stp ++ List.replicate (m - i) (0, 0))[i]? = some o := ⟨_, List.getElem?_eq_getElem (by rw [hT3.ls]; exact hlt)⟩
    have d0 : w3.cell? ⟨bs, i * 2, none⟩ = some (.int .i64 o0.1) := hT3.steps.cell ((BSteps.C_at _ i o0 ho0 0 (by decide)).trans rfl)
    have d1 : w3.cell? ⟨bs, i * 2 + 1, none⟩ = some (.int .i64 o0.2) := hT3.steps.cell ((BSteps.C_at _ i o0 ho0 1 (by decide)).trans rfl)
    obtain ⟨o1, ho1⟩ : ∃ o, (Sy.bndL n (l.take i))[q + 1]? = some o := ⟨_, List.getElem?_eq_getElem (by rw [hT3.ln]; omega)⟩
    have d2 := hT3.nums.cell (i := q + 1) (x := .int .i64 o1) (by unfold iC; rw [List.getElem?_map, ho1]; rfl)
    have r0 : (0 : Int) <= (q : Int) + 1 := by omega
    have r1 : (q : Int) + 1 < (n : Int) + 1 := by omega
    have r2 : ((q : Int) + 1).toNat = q + 1 := by omega
    have r3 : IntKind.i64.wrap ((q : Int) + 1) = (q : Int) + 1 := by rw [IntKind.wrap_i64]; omega
    have r4 : IntKind.i64.wrap ((i : Int) + 1) = (i : Int) + 1 := by rw [IntKind.wrap_i64]; omega
    have H3 : Hid _ := And.intro hT3 hw3
    clear hb2 hb3 hg3 hT3 hw3 ho0 ho1
    go_upto_region 6 with fail
    rw [<- H3.out.2]
    go_wp2_with fail
    go_roundg (m - (i + 1))
    case measure => omega
    case rel =>
     have h9 := (H3.out.1.step hlt (p1, p2)).num (q + 1) ((i : Int) + 1)
     rw [show (p1, p2) = stp ((q : Int), p1, p2) from rfl, step_done HI.out.2.1 HV.out.2.2.2.1, Sy.bnd_step HI.out.2.1 rfl] at h9
     exact ⟨i + 1, rfl, by omega, by go_num, h9⟩
   ·obtain rfl : i = m := by omega
    have hTm : TbAt w wr bt bs bb i (n + 1) (l.map stp) (Sy.mixL n l 0) := by
     have h9 := hTi
     have hli := HV.out.2.2.2.1
     rw [Nat.sub_self, List.replicate_zero, List.append_nil, List.take_of_length_le (by omega)] at h9
     rw [Sy.mix_zero fun e he => (HV.out.2.2.2.2.1 e he).1]
     exact h9
    have HTm : Hid _ := hTm
    clear hTi hTm
    have q1 : ¬ (i : Int) < (i : Int) := by omega
    go_wp2_with fail
    go_loopg [47] n (fun q iv wr => ∃ st : Nat, q = n - st /\ st <= n /\ iv = .int .i64 st /\ TbAt w wr bt bs bb i (n + 1) (l.map stp) (Sy.mixL n l st))
    case atStart => exact ⟨0, rfl, Nat.zero_le _, rfl, HTm.out⟩
    case round =>
     obtain ⟨st, rfl, hst, rfl, hTs⟩ := hrel
     by_cases hlt2 : st < n
     ·obtain ⟨c0, c1⟩ := hTs.cells
      have x1 := hTs.nums.cell (i := st + 1) (x := .int .i64 (Sy.lastOf l (st : Int) : Nat)) (by
       unfold iC
       rw [List.getElem?_map, Sy.mix_at (by omega), if_neg (by omega), show ((st + 1 : Nat) : Int) - 1 = (st : Int) by omega]
       rfl)
      have x0 := hTs.nums.cell (i := st) (x := .int .i64 (Sy.cnt l (st : Int) : Nat)) (by
       unfold iC
       rw [List.getElem?_map, Sy.mix_at (by omega), if_pos (Nat.le_refl _)]
       rfl)
      have f1 := hTs.nums.free (st + 1)
      have hms := Sy.mix_step (n := n) (st := st) HV.out.2.2.2.2.2.1
      obtain ⟨A, hA⟩ : ∃ A, A = Sy.lastOf l (st : Int) := ⟨_, rfl⟩
      obtain ⟨B, hB⟩ : ∃ B, B = Sy.cnt l (st : Int) := ⟨_, rfl⟩
      rw [<- hA, <- hB] at hms
      rw [<- hA] at x1
      rw [<- hB] at x0
      have r0 : (0 : Int) <= (st : Int) + 1 := by omega
      have r1 : (st : Int) + 1 < (n : Int) + 1 := by omega
      have r2 : ((st : Int) + 1).toNat = st + 1 := by omega
      have r3 : IntKind.i64.wrap ((st : Int) + 1) = (st : Int) + 1 := by rw [IntKind.wrap_i64]; omega
      have r5 : (0 : Int) <= (st : Int) := by omega
      have r6 : (st : Int) < (n : Int) + 1 := by omega
      have r7 : (st : Int) < (n : Int) := by omega
      have HS : Hid _ := And.intro hTs hms
      clear hTs hms hA hB c0
      go_wp2_with fail
      go_region
      all_goals go_wp2_with fail
      go_roundg (n - (st + 1))
      case measure => omega
      case rel =>
       refine ⟨st + 1, rfl, by omega, by go_num, ?_⟩
       have h9 := (HS.out.1.num (st + 1) ((max A B : Nat) : Int)).below (Below.refl _ _).drew
       rw [HS.out.2] at h9
       have e9 : max (A : Int) (B : Int) = ((max A B : Nat) : Int) := by omega
       rw [e9]
       exact h9
     ·obtain rfl : st = n := by omega
      obtain ⟨c0, c1⟩ := hTs.cells
      have d0 : wr.cell? ⟨w.heap.size, 0, none⟩ = some (.slice none 0 0) := cell0_of hTs.res rfl
      have d1 : wr.cell? ⟨w.heap.size, 1, none⟩ = some (.slice none 0 0) := cell0_of hTs.res rfl
      have f0 := blk_free hTs.res 0
      have f1 := blk_free hTs.res 1
      have HS : Hid _ := hTs
      clear hTs
      have r7 : ¬ (st : Int) < (st : Int) := by omega
      go_wp2_with fail
      have hres := HS.out.res
      have g1 : ((wr.setCell ⟨w.heap.size, 0, none⟩ (.slice (some ⟨bs, 0, none⟩) i i)).setCell ⟨w.heap.size, 1, none⟩ (.slice (some ⟨bb, 0, none⟩) (st + 1) (st + 1))).heap[w.heap.size]? = some (.cells #[.slice (some ⟨bs, 0, none⟩) i i, .slice (some ⟨bb, 0, none⟩) (st + 1) (st + 1)] 242 (0, 0)) := heap_setCell_same _ _ 1 _ _ _ (heap_setCell_same _ _ 0 _ _ _ hres)
      have k1 := Kept.setCell wr w.heap.size 0 (.slice (some ⟨bs, 0, none⟩) i i)
      have k2 := Kept.setCell (wr.setCell ⟨w.heap.size, 0, none⟩ (.slice (some ⟨bs, 0, none⟩) i i)) w.heap.size 1 (.slice (some ⟨bb, 0, none⟩) (st + 1) (st + 1))
      have n1 := arr_bk HS.out.steps hres (by decide)
      have n2 := arr_bk HS.out.nums hres (by decide)
      have hs9 := (HS.out.steps.kept k1 fun b e => by subst e; exact ⟨Nat.le_refl _, n1⟩).kept k2 fun b e => by subst e; exact ⟨Nat.le_refl _, n1⟩
      have hn9 := (HS.out.nums.kept k1 fun b e => by subst e; exact ⟨Nat.le_refl _, n2⟩).kept k2 fun b e => by subst e; exact ⟨Nat.le_refl _, n2⟩
      rw [Sy.mix_full] at hn9
      generalize ((wr.setCell ⟨w.heap.size, 0, none⟩ (.slice (some ⟨bs, 0, none⟩) i i)).setCell ⟨w.heap.size, 1, none⟩ (.slice (some ⟨bb, 0, none⟩) (st + 1) (st + 1))) = wf at g1 hs9 hn9 ⊢
      have y0 : wf.cell? ⟨w.heap.size, 0, none⟩ = some (.slice (some ⟨bs, 0, none⟩) i i) := cell0_of g1 rfl
      have y1 : wf.cell? ⟨w.heap.size, 1, none⟩ = some (.slice (some ⟨bb, 0, none⟩) (st + 1) (st + 1)) := cell0_of g1 rfl
      clear c0 c1 d0 d1 f0 f1
      exact bodyPost_ret (v := .agg #[.slice (some ⟨bs, 0, none⟩) i i, .slice (some ⟨bb, 0, none⟩) (st + 1) (st + 1)]) (by simp [results, Tryz.results171, go_sem, y0, y1]) rfl ⟨bs, bb, rfl, hs9, hn9⟩
end
section
open Go.RowKit Go.Maps
attribute [local go_sem ↓] Go.wp_at_zero Go.wp_at_succ
def Blk (ty : TypeId) (B : Nat) (w : World) (g : Nat) (vs : List Value) : Prop := (∃ cs, w.heap[g]? = some (.cells cs ty (0, 0)) /\ cs.toList = vs) /\ B <= g
theorem Blk.of_arr {ty : TypeId} {w wr : World} {g : Nat} {vs : List Value} (h : Arr ty w wr g vs) : Blk ty w.heap.size wr g vs := ⟨h.ids, h.gu⟩
theorem Blk.lt {ty : TypeId} {B : Nat} {w : World} {g : Nat} {vs : List Value} (h : Blk ty B w g vs) : g < w.heap.size := by
 obtain ⟨⟨cs, hc, _⟩, _⟩ := h
 exact t_lt hc
theorem Blk.at {ty : TypeId} {B : Nat} {w w' : World} {g : Nat} {vs : List Value} (h : Blk ty B w g vs) (hb : w'.heap[g]? = w.heap[g]?) : Blk ty B w' g vs := by
 obtain ⟨⟨cs, hc, hx⟩, hg⟩ := h
 exact ⟨⟨cs, hb.trans hc, hx⟩, hg⟩
theorem Blk.below {ty : TypeId} {B : Nat} {w w' : World} {g : Nat} {vs : List Value} (h : Blk ty B w g vs) (hb : Below w.heap.size w w') : Blk ty B w' g vs := h.at (hb.block _ h.lt)
theorem Blk.cell {ty : TypeId} {B : Nat} {w : World} {g : Nat} {vs : List Value} (h : Blk ty B w g vs) {i : Nat} {x : Value} (hi : vs[i]? = some x) : w.cell? ⟨g, i, none⟩ = some x := by
 obtain ⟨⟨cs, hc, hx⟩, _⟩ := h
 refine cell0_of hc ?_
 rw [<- Array.getElem?_toList, hx]
 exact hi
theorem Blk.base {ty : TypeId} {B B' : Nat} {w : World} {g : Nat} {vs : List Value} (h : Blk ty B w g vs) (hb : B' <= B) : Blk ty B' w g vs := ⟨h.1, Nat.le_trans hb h.2⟩
def tabV (bs bb m n : Nat) : Value := .agg #[.slice (some ⟨bs, 0, none⟩) m m, .slice (some ⟨bb, 0, none⟩) (n + 1) (n + 1)]
structure Tb (w : World) (B bs bb n : Nat) (l : List Sy.Ed) : Prop where
 steps : Blk 77 B w bs (BSteps.C (l.map stp))
 nums : Blk 3 B w bb (iC (Sy.bounds n l))
theorem Tb.below {w w' : World} {B bs bb n : Nat} {l : List Sy.Ed} (h : Tb w B bs bb n l) (hb : Below w.heap.size w w') : Tb w' B bs bb n l := ⟨h.steps.below hb, h.nums.below hb⟩
def Sy.rowOf (n : Nat) (l : List Sy.Ed) (i : Int) : List BSteps.El := if 0 <= i /\ i < (n : Int) then Sy.steps l i else []
theorem map_stp (l : List Sy.Ed) (i : Int) (h : Sy.Rows l) : Sy.steps l i = ((l.map stp).drop (Sy.cnt l i)).take (Sy.cnt l (i + 1) - Sy.cnt l i) := by
 unfold Sy.steps
 rw [Sy.row_piece h i, List.map_take, List.map_drop]
 rfl
theorem rowOf_len (n : Nat) (l : List Sy.Ed) (i : Int) : (Sy.rowOf n l i).length <= l.length := by
 unfold Sy.rowOf
 split
 ·exact Sy.steps_len l i
 ·simp
theorem hasS_nil (w : World) (c : Nat) : BSteps.Has w (.slice none 0 c) [] := ⟨none, c, rfl, fun j u h => by simp [BSteps.C] at h⟩
theorem hasS_none (w : World) (a : Option Addr) (c : Nat) : BSteps.Has w (.slice a 0 c) [] := ⟨a, c, rfl, fun j u h => by simp [BSteps.C] at h⟩
theorem piece_has {w : World} {B bs : Nat} {zs : List BSteps.El} (h : Blk 77 B w bs (BSteps.C zs)) (i k c : Nat) (hk : i + k <= zs.length) : BSteps.Has w (.slice (some ⟨bs, i * 2, none⟩) k c) ((zs.drop i).take k) := by
 have hl : ((zs.drop i).take k).length = k := by rw [List.length_take, List.length_drop]; omega
 refine ⟨some ⟨bs, i * 2, none⟩, c, by rw [hl], fun j u hj => ⟨_, rfl, ?_⟩⟩
 have hj2 : j < k * 2 := by have := (List.getElem?_eq_some_iff.1 hj).1; rw [BSteps.C_len, hl] at this; exact this
 obtain ⟨z, hz⟩ : ∃ z, ((zs.drop i).take k)[j / 2]? = some z := ⟨_, List.getElem?_eq_getElem (by rw [hl]; omega)⟩
 have h1 := BSteps.C_at _ (j / 2) z hz (j % 2) (Nat.mod_lt _ (by decide))
 rw [show j / 2 * 2 + j % 2 = j by omega, hj] at h1
 have hz2 : zs[i + j / 2]? = some z := by
  rw [List.getElem?_take_of_lt (by omega), List.getElem?_drop] at hz
  exact hz
 have h2 := BSteps.C_at _ (i + j / 2) z hz2 (j % 2) (Nat.mod_lt _ (by decide))
 rw [<- h1] at h2
 have h3 := h.cell h2
 rw [show (i + j / 2) * 2 + j % 2 = i * 2 + j by omega] at h3
 rw [Addr.add_lit]
 exact h3
set_option maxRecDepth 100000 in
set_option maxHeartbeats 4000000 in
theorem row_any (bs bb m n B : Nat) (l : List Sy.Ed) (i : Int) (w : World) (hn : n <= 100000) (hl : l.length = m) (hs : Sy.Rows l) (hT : Tb w B bs bb n l) :
 Calls Tryz.prog 177 #[tabV bs bb m n, .int .i64 i] w fun r w' => ∃ v, r = .returned v /\ (∀ W, Tb W B bs bb n l -> BSteps.Has W v (Sy.rowOf n l i)) /\ Below w.heap.size w w' := by
 obtain ⟨w1, hw1⟩ : ∃ w1, w1 = w.alloc (.cells #[.slice (some ⟨bs, 0, none⟩) m m, .slice (some ⟨bb, 0, none⟩) (n + 1) (n + 1)] 242) := ⟨_, rfl⟩
 have hb1 : Below w.heap.size w w1 := by rw [hw1]; exact (Below.refl _ _).alloc (Nat.le_refl _) _
 have hg1 : w1.heap[w.heap.size]? = some (.cells #[.slice (some ⟨bs, 0, none⟩) m m, .slice (some ⟨bb, 0, none⟩) (n + 1) (n + 1)] 242 (0, 0)) := by rw [hw1]; exact heap_alloc_new w _
 have hT1 := hT.below hb1
 have hB := fun W => below_any i (n : Int) W
 have HB : Hid _ := hB
 have r0 : IntKind.i64.wrap ((n : Int) + 1 - 1) = (n : Int) := by rw [IntKind.wrap_i64]; omega
 unfold tabV Sy.rowOf
 by_cases hi : 0 <= i /\ i < (n : Int)
 ·rw [if_pos hi]
  rw [decide_eq_true hi] at HB
  obtain ⟨q, rfl⟩ : ∃ q : Nat, i = (q : Int) := ⟨i.toNat, by omega⟩
  have hqn : q < n := by omega
  have c0 : w1.cell? ⟨w.heap.size, 0, none⟩ = some (.slice (some ⟨bs, 0, none⟩) m m) := cell0_of hg1 rfl
  have c1 : w1.cell? ⟨w.heap.size, 1, none⟩ = some (.slice (some ⟨bb, 0, none⟩) (n + 1) (n + 1)) := cell0_of hg1 rfl
  have x0 := hT1.nums.cell (i := q) (x := .int .i64 (Sy.cnt l (q : Int) : Nat)) (by unfold iC; rw [List.getElem?_map, Sy.bounds_at (by omega)]; rfl)
  have x1 := hT1.nums.cell (i := q + 1) (x := .int .i64 (Sy.cnt l ((q : Int) + 1) : Nat)) (by unfold iC; rw [List.getElem?_map, Sy.bounds_at (by omega)]; rfl)
  have hle := Sy.cnt_mono l (q : Int)
  have hlm := Sy.cnt_le l ((q : Int) + 1)
  have hpc : ∀ W, Tb W B bs bb n l -> BSteps.Has W (.slice (some ⟨bs, Sy.cnt l (q : Int) * 2, none⟩) (Sy.cnt l ((q : Int) + 1) - Sy.cnt l (q : Int)) (Sy.cnt l ((q : Int) + 1) - Sy.cnt l (q : Int))) (Sy.steps l q) := fun W hW => by
   rw [map_stp l q hs]
   exact piece_has hW.steps (Sy.cnt l (q : Int)) (Sy.cnt l ((q : Int) + 1) - Sy.cnt l (q : Int)) (Sy.cnt l ((q : Int) + 1) - Sy.cnt l (q : Int)) (by rw [List.length_map]; omega)
  have hz : Sy.cnt l ((q : Int) + 1) - Sy.cnt l (q : Int) = 0 -> Sy.steps l q = [] := fun e => by rw [map_stp l q hs, e]; simp
  generalize Sy.cnt l (q : Int) = b at x0 hle hpc hz
  generalize Sy.cnt l ((q : Int) + 1) = e at x1 hle hlm hpc hz
  have r1 : (0 : Int) <= (q : Int) := by omega
  have r2 : (q : Int) < (n : Int) + 1 := by omega
  have r3 : (0 : Int) <= (q : Int) + 1 := by omega
  have r4 : (q : Int) + 1 < (n : Int) + 1 := by omega
  have r5 : ((q : Int) + 1).toNat = q + 1 := by omega
  have r6 : IntKind.i64.wrap ((q : Int) + 1) = (q : Int) + 1 := by rw [IntKind.wrap_i64]; omega
  have r7 : (0 : Int) <= (b : Int) := by omega
  have r8 : (b : Int) <= (e : Int) := by omega
  have r9 : (e : Int) <= (m : Int) := by omega
  have H1 : Hid _ := And.intro hw1 (And.intro hb1 (And.intro hpc hz))
  clear hw1 hb1 hg1 hT1 hT hB hpc hz hs hl hi
  go_enter Tryz.func177, Tryz.ntmps177
  go_upto_region 1 with fail
  rw [<- H1.out.1]
  go_wp2_with (go_at_call 166; refine (HB.out _).mono ?_; rintro r w2 ⟨rfl, hw2⟩; obtain rfl := hw2.symm)
  go_quiet (fail)
  go_wp2_with fail
  ·go_ret
   refine ⟨_, rfl, fun W _ => ?_, below_drewN H1.out.2.1 _⟩
   rw [H1.out.2.2.2 (by omega)]
   exact hasS_none _ _ _
  ·go_ret
   exact ⟨_, rfl, H1.out.2.2.1, below_drewN H1.out.2.1 _⟩
 ·rw [if_neg hi]
  rw [decide_eq_false hi] at HB
  have c1 : w1.cell? ⟨w.heap.size, 1, none⟩ = some (.slice (some ⟨bb, 0, none⟩) (n + 1) (n + 1)) := cell0_of hg1 rfl
  have H1 : Hid _ := And.intro hw1 hb1
  clear hw1 hb1 hg1 hT1 hT hB hs hl hi
  go_enter Tryz.func177, Tryz.ntmps177
  go_upto_region 1 with fail
  rw [<- H1.out.1]
  go_wp2_with (go_at_call 166; refine (HB.out _).mono ?_; rintro r w2 ⟨rfl, hw2⟩; obtain rfl := hw2.symm)
  go_ret
  exact ⟨_, rfl, fun W _ => hasS_nil _ _, H1.out.2⟩
structure Gr (w : World) (B g bs bb cs cb n : Nat) (k s : Int) (es : List Sy.Ed) : Prop where
 box : w.heap[g]? = some (.cells #[.int .i64 n, .int .i64 k, .int .i64 s, .slice (some ⟨bs, 0, none⟩) (Sy.nf es).length (Sy.nf es).length, .slice (some ⟨bb, 0, none⟩) (n + 1) (n + 1), .slice (some ⟨cs, 0, none⟩) (Sy.nf es).length (Sy.nf es).length, .slice (some ⟨cb, 0, none⟩) (n + 1) (n + 1)] 247 (0, 0))
 up : B <= g
 out : Tb w B bs bb n (Sy.nf es)
 inn : Tb w B cs cb n (Sy.nf ((Sy.nf es).map Sy.turn))
 right : Sy.right n k s es = true
theorem Gr.below {w w' : World} {B g bs bb cs cb n : Nat} {k s : Int} {es : List Sy.Ed} (h : Gr w B g bs bb cs cb n k s es) (hb : Below w.heap.size w w') : Gr w' B g bs bb cs cb n k s es :=
 ⟨(hb.block _ (t_lt h.box)).trans h.box, h.up, h.out.below hb, h.inn.below hb, h.right⟩
theorem right_parts {n k s : Int} {es : List Sy.Ed} (h : Sy.right n k s es = true) : (0 <= n /\ n <= 1000) /\ (1 <= k /\ k <= 201) /\ es.length <= 10000 /\ (n = 0 -> s = 0) /\ (0 < n -> 0 <= s /\ s < n) /\ ∀ e ∈ es, 0 <= e.1 /\ e.1 < n /\ 0 <= e.2.2 /\ e.2.2 < n /\ 0 <= e.2.1 /\ e.2.1 < k := by
 unfold Sy.right at h
 simp only [Bool.and_eq_true, decide_eq_true_eq, List.all_eq_true] at h
 obtain ⟨⟨h1, h2⟩, h3⟩ := h
 exact ⟨⟨h1.1, h1.2.1⟩, ⟨h1.2.2.1, h1.2.2.2.1⟩, h1.2.2.2.2, h2.1, h2.2, h3⟩
theorem str_rows {l : List Sy.Ed} (h : Sy.Str l) : Sy.Rows l := by
 induction l with
 | nil => exact .nil
 | cons a r ih =>
   refine List.pairwise_cons.2 ⟨fun b hb => ?_, ih h.tail⟩
   have h1 := h.head b hb
   rw [Sy.lt_iff] at h1
   omega
theorem nf_rows (l : List Sy.Ed) : Sy.Rows (Sy.nf l) := str_rows (Sy.nf_str l)
theorem turn_turn (e : Sy.Ed) : Sy.turn (Sy.turn e) = e := rfl
theorem nf_turn_len (l : List Sy.Ed) : (Sy.nf ((Sy.nf l).map Sy.turn)).length = (Sy.nf l).length := by
 apply Nat.le_antisymm
 ·have h := Sy.nf_len ((Sy.nf l).map Sy.turn)
  rw [List.length_map] at h
  exact h
 ·have h := Sy.str_len (m := Sy.nf l) (l := (Sy.nf ((Sy.nf l).map Sy.turn)).map Sy.turn) (Sy.nf_str l) (fun x hx => by
   refine List.mem_map.2 ⟨Sy.turn x, ?_, turn_turn x⟩
   rw [Sy.nf_mem]
   exact List.mem_map.2 ⟨x, hx, rfl⟩)
  rw [List.length_map] at h
  exact h
theorem Gr.sizes {w : World} {B g bs bb cs cb n : Nat} {k s : Int} {es : List Sy.Ed} (h : Gr w B g bs bb cs cb n k s es) : n <= 1000 /\ (Sy.nf es).length <= 10000 := by
 obtain ⟨⟨_, h1⟩, _, h2, _⟩ := right_parts h.right
 have := Sy.nf_len es
 exact ⟨by omega, by omega⟩
theorem Gr.cells {w : World} {B g bs bb cs cb n : Nat} {k s : Int} {es : List Sy.Ed} (h : Gr w B g bs bb cs cb n k s es) :
 w.cell? ⟨g, 0, none⟩ = some (.int .i64 n) /\ w.cell? ⟨g, 1, none⟩ = some (.int .i64 k) /\ w.cell? ⟨g, 2, none⟩ = some (.int .i64 s) /\ (w.cell? ⟨g, 3, none⟩ = some (.slice (some ⟨bs, 0, none⟩) (Sy.nf es).length (Sy.nf es).length) /\ w.cell? ⟨g, 4, none⟩ = some (.slice (some ⟨bb, 0, none⟩) (n + 1) (n + 1))) /\ w.cell? ⟨g, 5, none⟩ = some (.slice (some ⟨cs, 0, none⟩) (Sy.nf es).length (Sy.nf es).length) /\ w.cell? ⟨g, 6, none⟩ = some (.slice (some ⟨cb, 0, none⟩) (n + 1) (n + 1)) :=
 ⟨cell0_of h.box rfl, cell0_of h.box rfl, cell0_of h.box rfl, ⟨cell0_of h.box rfl, cell0_of h.box rfl⟩, cell0_of h.box rfl, cell0_of h.box rfl⟩
theorem Tryz.eqG (g : Nat) (w : World) : (binOp BinOp.eql 198 (.pointer (some ⟨g, 0, none⟩)) (.pointer none)).run Tryz.prog w = .ok (.bool false) w := by kernel_rfl
theorem Gr.row {w : World} {B g bs bb cs cb n : Nat} {k s : Int} {es : List Sy.Ed} (h : Gr w B g bs bb cs cb n k s es) (i : Int) : Calls Tryz.prog 177 #[.agg #[.slice (some ⟨bs, 0, none⟩) (Sy.nf es).length (Sy.nf es).length, .slice (some ⟨bb, 0, none⟩) (n + 1) (n + 1)], .int .i64 i] w fun r w' => ∃ v, r = .returned v /\ (∀ W, Tb W B bs bb n (Sy.nf es) -> BSteps.Has W v (Sy.rowOf n (Sy.nf es) i)) /\ Below w.heap.size w w' := by
 obtain ⟨h1, h2⟩ := h.sizes
 exact row_any bs bb (Sy.nf es).length n B (Sy.nf es) i w (by omega) rfl (nf_rows _) h.out
theorem Gr.rowIn {w : World} {B g bs bb cs cb n : Nat} {k s : Int} {es : List Sy.Ed} (h : Gr w B g bs bb cs cb n k s es) (i : Int) : Calls Tryz.prog 177 #[.agg #[.slice (some ⟨cs, 0, none⟩) (Sy.nf es).length (Sy.nf es).length, .slice (some ⟨cb, 0, none⟩) (n + 1) (n + 1)], .int .i64 i] w fun r w' => ∃ v, r = .returned v /\ (∀ W, Tb W B cs cb n (Sy.nf ((Sy.nf es).map Sy.turn)) -> BSteps.Has W v (Sy.rowOf n (Sy.nf ((Sy.nf es).map Sy.turn)) i)) /\ Below w.heap.size w w' := by
 obtain ⟨h1, h2⟩ := h.sizes
 exact row_any cs cb (Sy.nf es).length n B (Sy.nf ((Sy.nf es).map Sy.turn)) i w (by omega) (nf_turn_len es) (nf_rows _) h.inn
set_option maxRecDepth 100000 in
theorem states_any {B g bs bb cs cb n : Nat} {k s : Int} {es : List Sy.Ed} (w : World) (h : Gr w B g bs bb cs cb n k s es) : Calls Tryz.prog 176 #[.pointer (some ⟨g, 0, none⟩)] w fun r w' => r = .returned (.int .i64 n) /\ w' = w := by
 obtain ⟨c0, _, _, _, _, _⟩ := h.cells
 have hq := Tryz.eqG g
 clear h
 go_enter Tryz.func176, Tryz.ntmps176
 go_wp2
 go_ret
 exact ⟨rfl, rfl⟩
set_option maxRecDepth 100000 in
set_option maxHeartbeats 1000000 in
theorem in_any {B g bs bb cs cb n : Nat} {k s : Int} {es : List Sy.Ed} (i : Int) (w : World) (h : Gr w B g bs bb cs cb n k s es) : Calls Tryz.prog 185 #[.pointer (some ⟨g, 0, none⟩), .int .i64 i] w fun r w' => ∃ u, r = .returned u /\ BSteps.Own w' w.heap.size u (Sy.rowOf n (Sy.nf ((Sy.nf es).map Sy.turn)) i) /\ Below w.heap.size w w' := by
 obtain ⟨_, _, _, _, c0, c1⟩ := h.cells
 have hq := Tryz.eqG g
 have hR := h.rowIn i
 have hTb := h.inn
 have hl := rowOf_len n (Sy.nf ((Sy.nf es).map Sy.turn)) i
 have hs := h.sizes
 have hs2 := nf_turn_len es
 have HR : Hid _ := And.intro hR (And.intro hl (And.intro hs (And.intro hs2 hTb)))
 obtain ⟨L, hL⟩ : ∃ L, L = (Sy.nf es).length := ⟨_, rfl⟩
 rw [<- hL] at c0 HR
 clear h hR hL hl hs hs2 hTb
 go_enter Tryz.func185, Tryz.ntmps185
 go_wp2_with fail
 refine Calls.mono HR.out.1 ?_
 rintro r w1 ⟨v, rfl, hvW, hb⟩
 have hv := hvW w1 (HR.out.2.2.2.2.below hb)
 clear hvW
 have hC := cloneSteps_any v _ w1 (by have := HR.out.2; omega) hv
 have HC : Hid _ := And.intro hC hb
 obtain ⟨av, cv, rfl, _⟩ := hv
 clear hC hb
 go_wp2_with fail
 refine Calls.mono HC.out.1 ?_
 rintro r w2 ⟨u, rfl, hO, hb2⟩
 have H2 : Hid _ := And.intro hO hb2
 obtain ⟨au, cu, rfl⟩ := row_shape hO
 clear hO hb2
 go_wp2_with fail
 go_ret
 exact ⟨_, rfl, row_base H2.out.1 HC.out.2.size, HC.out.2.trans (H2.out.2.mono HC.out.2.size)⟩
end
section
open Go.RowKit Go.Maps
attribute [local go_sem ↓] Go.wp_at_zero Go.wp_at_succ
theorem Tryz.infoRSg : (Tryz.prog.info? 57).map (fun i => (i.zero, i.size, i.bytes)) = some (some (.slice none 0 0), 1, 24) := by kernel_rfl
theorem makeRSg (n : Nat) (hn : n <= 1000000) (w : World) : (Instr.makeSlice 34 (.int .i64 (n : Int)) (.int .i64 (n : Int))).run Tryz.prog w = .ok (.slice (some ⟨w.heap.size, 0, none⟩) n n) (w.alloc (.cells (madeV (.slice none 0 0) n) 57)) := make_of _ _ _ 24 Tryz.underlying34 Tryz.infoRSg n hn (by decide) w
theorem labelsS_any {B g bs bb cs cb n : Nat} {k s : Int} {es : List Sy.Ed} (w : World) (h : Gr w B g bs bb cs cb n k s es) : Calls Tryz.prog 184 #[.pointer (some ⟨g, 0, none⟩)] w fun r w' => r = .returned (.int .i64 k) /\ w' = w := by
 obtain ⟨_, c1, _, _, _, _⟩ := h.cells
 have hq := Tryz.eqG g
 clear h
 go_enter Tryz.func184, Tryz.ntmps184
 go_wp2_with fail
 go_ret
 exact ⟨rfl, rfl⟩
namespace Sg
def ends (l : List (Int × Int)) (b : Int) : List Int := (l.filter fun e => e.1 == b).map (·.2)
theorem ends_snoc (l : List (Int × Int)) (e : Int × Int) (b : Int) : ends (l ++ [e]) b = if b = e.1 then ends l b ++ [e.2] else ends l b := by
 unfold ends
 rw [List.filter_append, List.map_append]
 by_cases h : e.1 = b
 ·simp [h]
 ·have h2 : ¬ b = e.1 := fun e2 => h e2.symm
  simp [h, h2]
theorem ends_len (l : List (Int × Int)) (b : Int) : (ends l b).length <= l.length := by
 unfold ends
 rw [List.length_map]
 exact List.length_filter_le _ _
def inAll (f : Int -> List (Int × Int)) (ms : List Int) : List (Int × Int) := ms.flatMap f
theorem inAll_len {f : Int -> List (Int × Int)} {c : Nat} (h : ∀ z, (f z).length <= c) (ms : List Int) : (inAll f ms).length <= ms.length * c := by
 unfold inAll
 induction ms with
 | nil => simp
 | cons z r ih => rw [List.flatMap_cons, List.length_append, List.length_cons, Nat.succ_mul]; have := h z; omega
theorem inAll_next (f : Int -> List (Int × Int)) (ms : List Int) {i : Nat} {z : Int} (h : ms[i]? = some z) : inAll f (ms.take (i + 1)) = inAll f (ms.take i) ++ f z := by
 obtain ⟨hi, e⟩ := List.getElem?_eq_some_iff.1 h
 rw [List.take_succ_eq_append_getElem hi, e]
 unfold inAll
 simp
theorem ends_next {l ss : List (Int × Int)} {j : Nat} {e : Int × Int} (h : ss[j]? = some e) (b : Int) : ends (l ++ ss.take (j + 1)) b = if b = e.1 then ends (l ++ ss.take j) b ++ [e.2] else ends (l ++ ss.take j) b := by
 obtain ⟨hi, e2⟩ := List.getElem?_eq_some_iff.1 h
 rw [List.take_succ_eq_append_getElem hi, e2, <- List.append_assoc]
 exact ends_snoc _ _ _
end Sg
def insOf (n : Nat) (es : List Sy.Ed) (q : Int) : List (Int × Int) := Sy.rowOf n (Sy.nf ((Sy.nf es).map Sy.turn)) q
theorem insOf_len {w : World} {B g bs bb cs cb n : Nat} {k s : Int} {es : List Sy.Ed} (h : Gr w B g bs bb cs cb n k s es) (q : Int) : (insOf n es q).length <= 10000 := by
 have := h.sizes
 have := rowOf_len n (Sy.nf ((Sy.nf es).map Sy.turn)) q
 have := nf_turn_len es
 unfold insOf
 omega
theorem rows_apart {w : World} {B1 B2 s1 s2 n1 n2 : Nat} {e1 e2 : TypeId} {v1 v2 : Value} {xs1 xs2 : List Value} (h1 : w.ownsRow B1 e1 s1 v1 n1 xs1) (h2 : w.ownsRow B2 e2 s2 v2 n2 xs2) (hne : e1 ≠ e2) : ∀ b, v2.ownBlock = some b -> v1.ownBlock ≠ some b := fun b hb => by
 rcases h2.2 with ⟨rfl, _⟩ | ⟨g, cap, cur, rfl, _, hg, _⟩
 ·cases hb
 ·cases hb
  exact own_bk h1 hg hne
theorem src_kp {w w' : World} {a : Nat} {v x y : Value} (hk : Kept (fun i => v.ownBlock = some i) w w') (h1 : v.ownBlock ≠ some a) (h : w.cell? ⟨a, 0, none⟩ = some x /\ w.cell? ⟨a, 1, none⟩ = some y) : w'.cell? ⟨a, 0, none⟩ = some x /\ w'.cell? ⟨a, 1, none⟩ = some y :=
 ⟨(World.cell?_of_block (a := ⟨a, 0, none⟩) (hk.block a (World.block_lt_of_cell? w _ h.1) h1)).trans h.1, (World.cell?_of_block (a := ⟨a, 1, none⟩) (hk.block a (World.block_lt_of_cell? w _ h.2) h1)).trans h.2⟩
theorem src_st {w : World} {a b k : Nat} {x y u : Value} (h1 : a ≠ b) (h : w.cell? ⟨a, 0, none⟩ = some x /\ w.cell? ⟨a, 1, none⟩ = some y) : (w.setCell ⟨b, k, none⟩ u).cell? ⟨a, 0, none⟩ = some x /\ (w.setCell ⟨b, k, none⟩ u).cell? ⟨a, 1, none⟩ = some y :=
 ⟨(World.cell?_of_block (a := ⟨a, 0, none⟩) (set_other _ _ _ _ _ h1)).trans h.1, (World.cell?_of_block (a := ⟨a, 1, none⟩) (set_other _ _ _ _ _ h1)).trans h.2⟩
theorem src_row {l0 ss : List (Int × Int)} {j lb : Nat} {tt : Int} (hz : ss[j]? = some ((lb : Int), tt)) (l : Nat) : (if l = lb then Sg.ends (l0 ++ ss.take j) (lb : Int) ++ [tt] else Sg.ends (l0 ++ ss.take j) (l : Int)) = Sg.ends (l0 ++ ss.take (j + 1)) (l : Int) := by
 rw [Sg.ends_next hz]
 by_cases e : l = lb
 ·subst e
  rw [if_pos rfl, if_pos rfl]
 ·rw [if_neg e, if_neg (fun e2 => e (Int.ofNat_inj.1 e2))]
theorem src_grow {w w2 wr w4 : World} {n i N g4 k4 cu H : Nat} {au : Option Addr} {us : List Value} {f : Nat -> List Int} (z : Int) (hOs : OutsI wr w2.heap.size us n f) (hi : i < n) (hu : us[i]? = some (.slice au N cu)) (hN : N = (f i).length) (hown : w4.ownsRow w2.heap.size 3 1 (.slice (some ⟨g4, 0, none⟩) (N + 1) k4) (N + 1) (iC (f i) ++ [.int .i64 z])) (hk : Kept (fun b => (Value.slice au N cu).ownBlock = some b) wr w4) (hat : (Value.slice au N cu).ownBlock = some g4 \/ g4 = H) (hH : wr.heap.size <= H) (hA4 : Arr 57 w w4 w.heap.size us) (hlt : w.heap.size < w2.heap.size) (hW : Kept (fun b => b = w.heap.size) w2 wr) :
 Arr 57 w (w4.setCell ⟨w.heap.size, i, none⟩ (.slice (some ⟨g4, 0, none⟩) (N + 1) k4)) w.heap.size (us.set i (.slice (some ⟨g4, 0, none⟩) (N + 1) k4)) /\ OutsI (w4.setCell ⟨w.heap.size, i, none⟩ (.slice (some ⟨g4, 0, none⟩) (N + 1) k4)) w2.heap.size (us.set i (.slice (some ⟨g4, 0, none⟩) (N + 1) k4)) n (fun j => if j = i then f i ++ [z] else f j) /\ Kept (fun b => b = w.heap.size) w2 (w4.setCell ⟨w.heap.size, i, none⟩ (.slice (some ⟨g4, 0, none⟩) (N + 1) k4)) /\ Kept (fun b => b = w.heap.size \/ (Value.slice au N cu).ownBlock = some b) wr (w4.setCell ⟨w.heap.size, i, none⟩ (.slice (some ⟨g4, 0, none⟩) (N + 1) k4)) := by
 have hO : OwnI w4 w2.heap.size (.slice (some ⟨g4, 0, none⟩) (N + 1) k4) (f i ++ [z]) := by
  unfold OwnI
  have e1 : (f i ++ [z]).length = N + 1 := by rw [List.length_append, hN]; rfl
  rw [e1, show iC (f i ++ [z]) = iC (f i) ++ [.int .i64 z] by simp [iC]]
  exact hown
 have h1 := hOs.set (F := fun b => (Value.slice au N cu).ownBlock = some b) hi hu hk (fun b hb => .inl hb) hO (by
  rcases hat with h | h
  ·exact .inl h.symm
  ·exact .inr fun b hb => by have e9 : g4 = b := Option.some.inj hb; omega)
 have hk2 : Kept (fun b => b = w.heap.size \/ (Value.slice au N cu).ownBlock = some b) wr (w4.setCell ⟨w.heap.size, i, none⟩ (.slice (some ⟨g4, 0, none⟩) (N + 1) k4)) := (hk.mono fun b _ hb => .inr hb).trans ((Kept.setCell w4 w.heap.size i _).mono fun b _ hb => .inl hb)
 refine ⟨hA4.set i _, ?_, ?_, hk2⟩
 ·refine h1.kept (Kept.setCell w4 w.heap.size i _) fun j x hx b hb (e : b = w.heap.size) => ?_
  obtain ⟨x', h2, h3⟩ := h1.row j (by have := (List.getElem?_eq_some_iff.1 hx).1; rw [h1.len] at this; exact this)
  rw [hx] at h2; cases h2
  have := (h3.lt b hb).1
  omega
 ·obtain ⟨uo, hu1, hu2⟩ := hOs.row i hi
  rw [hu] at hu1; cases hu1
  refine hW.trans2 hk2 fun b hb => ?_
  rcases hb with hb | hb
  ·exact .inl hb
  ·exact .inr (hu2.lt b hb).1
set_option linter.unusedSimpArgs false in
set_option maxRecDepth 100000 in
set_option maxHeartbeats 4000000 in
theorem sources_any (w0 : World) (B r g p mb : Nat) (x : Rv) (c : Nat -> Int) (s : Pst) (bl : Nat) (bs bb cs cb n kk : Nat) (st : Int) (es : List Sy.Ed) (B2 : Nat) (w : World) (hM : RnM w B r g p mb x) (hP : Pt w0 w p c) (hL : Lay c s) (hO : s.Ok) (hb : bl < s.nb) (hG : Gr w B2 g bs bb cs cb n (kk : Int) st es) (hlab : ∀ q, ∀ e ∈ insOf n es q, 0 <= e.1 /\ e.1 < (kk : Int)) :
 Calls Tryz.prog 159 #[.pointer (some ⟨r, 0, none⟩), .int .i64 bl] w fun e w' => ∃ g' us, e = .returned (.slice (some ⟨g', 0, none⟩) kk kk) /\ Arr 57 w w' g' us /\ OutsI w' w.heap.size us kk (fun l => Sg.ends (Sg.inAll (insOf n es) (s.mem bl)) (l : Int)) := by
 obtain ⟨i0, hi0, hz0, hz1, hz2⟩ := info_parts Tryz.infoI3
 have hkk : kk <= 201 := by have := (right_parts hG.right).2.1.2; omega
 have hml0 : (s.mem bl).length <= 1000 := by rw [mem_len hO hb]; have := hO.iv bl hb; have := hO.n1; omega
 have hLb := labelsS_any w hG
 have hmk := makeRSg kk (by omega) w
 obtain ⟨w1, hw1⟩ : ∃ w1, w1 = w.alloc (.cells (madeV (.slice none 0 0) kk) 57) := ⟨_, rfl⟩
 have hA0 : Arr 57 w w1 w.heap.size (List.replicate kk (.slice none 0 0)) := by rw [hw1]; exact arr_new 57 (.slice none 0 0) rfl kk w
 rw [<- hw1] at hmk
 have hMem := rmembers_any w0 B r g p mb x c s bl w1 (hM.below hA0.bl) (hP.below hA0.bl) hL hO hb
 have hIn := fun (q : Int) W (hb : Below w.heap.size w W) => in_any q W (hG.below hb)
 have hil := fun q => insOf_len hG q
 obtain ⟨ms, hms⟩ : ∃ ms, ms = s.mem bl := ⟨_, rfl⟩
 rw [<- hms] at hMem hml0 ⊢
 obtain ⟨ins, hins⟩ : ∃ ins, ins = insOf n es := ⟨_, rfl⟩
 have hIn' : ∀ (q : Int) W, Below w.heap.size w W -> Calls Tryz.prog 185 #[.pointer (some ⟨g, 0, none⟩), .int .i64 q] W fun r w' => ∃ u, r = .returned u /\ BSteps.Own w' W.heap.size u (ins q) /\ Below W.heap.size W w' := by rw [hins]; exact hIn
 rw [<- hins] at hlab hil ⊢
 have hbox := hM.box
 obtain ⟨c0, _⟩ := seven_cells hbox
 have H1 : Hid _ := And.intro hbox (And.intro hA0 (And.intro hMem (And.intro hIn' (And.intro hil (And.intro hlab (And.intro hLb trivial))))))
 clear hM hP hL hO hb hG hbox hA0 hMem hIn hIn' hil hlab hins hms hLb hw1
 go_enter Tryz.func159, Tryz.ntmps159
 go_upto_region 2 with (go_at_call 184; refine Calls.mono H1.out.2.2.2.2.2.2.1 ?_; rintro r1 w9 ⟨rfl, hw9⟩; obtain rfl := hw9.symm; clear hw9)
 go_wp2_with (go_at_call 140; go_loud (refine Calls.mono H1.out.2.2.1 ?_; rintro r2 w2 ⟨u, rfl, hu, hb2⟩; have hs1 : w.heap.size < w1.heap.size := H1.out.2.1.lt; have hum : ∀ W, Kept (fun b => b = w.heap.size) w2 W -> HasI W u ms := (fun W hk => OwnI.has (B := w1.heap.size) (own_up hu hk (fun b hb (e : b = w.heap.size) => by have := (hu.lt b hb).1; omega))); obtain ⟨ua, uc, rfl⟩ := row_shape hu; obtain ⟨L, hL⟩ : ∃ L, L = ms.length := ⟨_, rfl⟩; rw [<- hL] at hum; rw [<- hL]; have H2 : Hid _ := And.intro hum (And.intro hb2 (And.intro hL (And.intro (H1.out.2.1.below hb2) (by have := hb2.size; omega : w.heap.size < w2.heap.size)))); clear hum hb2 hL hu hs1))
 go_loopg [20] L (fun z iv wr => ∃ (i : Nat) (us : List Value), z = L - i /\ i <= L /\ iv = .int .i64 i /\ Arr 57 w wr w.heap.size us /\ OutsI wr w2.heap.size us kk (fun l => Sg.ends (Sg.inAll ins (ms.take i)) (l : Int)) /\ Kept (fun b => b = w.heap.size) w2 wr)
 case atStart => exact ⟨0, _, rfl, Nat.zero_le _, rfl, H2.out.2.2.2.1, (outsI_new _ _ _).congr fun i _ => rfl, Kept.refl _ _⟩
 case round =>
  obtain ⟨i, us, rfl, hi, rfl, hA, hOs, hKp⟩ := hrel
  have hLl : L <= 1000 := by rw [H2.out.2.2.1]; exact hml0
  clear c0
  obtain ⟨c0, _⟩ := seven_cells ((hA.bl.block r (t_lt H1.out.1)).trans H1.out.1)
  by_cases hlt : i < L
  ·have p1 : (i : Int) < (L : Int) := by omega
   have p0 : (0 : Int) <= (i : Int) := by omega
   obtain ⟨q, hq⟩ : ∃ q, ms[i]? = some q := ⟨ms[i]'(by have := H2.out.2.2.1; omega), List.getElem?_eq_getElem _⟩
   obtain ⟨ao9, cap9, he9, hc9⟩ := H2.out.1 wr hKp
   obtain ⟨a9, ha9, d0⟩ := hc9 i q hq
   injection he9 with e1 e2 e3
   subst e3
   rw [ha9] at e1
   have HI := H1.out.2.2.2.1 q wr hA.bl
   have HA : Hid _ := And.intro hA (And.intro hOs (And.intro hKp (And.intro hq HI)))
   clear hA hOs hKp hq HI hc9 ha9 e2
   subst e1
   obtain ⟨wp, hwp⟩ : ∃ wp, wp = wr := ⟨_, rfl⟩
   rw [<- hwp] at HA c0 d0 ⊢
   clear hwp
   go_wp2_with (go_at_call 185; refine Calls.mono HA.out.2.2.2.2 ?_; rintro r3 w3 ⟨v3, rfl, hO3, hb3⟩; obtain ⟨a3, k3, hv3⟩ := row_shape hO3; obtain ⟨M, hMl⟩ : ∃ M, M = (ins q).length := ⟨_, rfl⟩; rw [<- hMl] at hv3; subst hv3; have H3 : Hid _ := And.intro hO3 (And.intro hb3 (And.intro hMl (And.intro (HA.out.1.below hb3) (And.intro (HA.out.2.1.below hb3) (HA.out.2.2.1.trans (Kept.of_below hb3)))))); clear hO3 hb3 hMl)
   go_loopg [31] M (fun z jv wr => ∃ (j : Nat) (us : List Value), z = M - j /\ j <= M /\ jv = .int .i64 j /\ Arr 57 w wr w.heap.size us /\ OutsI wr w2.heap.size us kk (fun l => Sg.ends (Sg.inAll ins (ms.take i) ++ (ins q).take j) (l : Int)) /\ Kept (fun b => b = w.heap.size) w2 wr /\ BSteps.Own wr wp.heap.size (.slice a3 M k3) (ins q))
   case atStart => exact ⟨0, us, rfl, Nat.zero_le _, rfl, H3.out.2.2.2.1, H3.out.2.2.2.2.1.congr fun l _ => by rw [List.take_zero, List.append_nil], H3.out.2.2.2.2.2, H3.out.1⟩
   case round =>
    obtain ⟨j, us, rfl, hj, rfl, hA, hOs, hKp, hOi⟩ := hrel
    have hMl : M <= 10000 := by rw [H3.out.2.2.1]; exact H1.out.2.2.2.2.1 q
    clear c0
    obtain ⟨c0, _⟩ := seven_cells ((hA.bl.block r (t_lt H1.out.1)).trans H1.out.1)
    by_cases hjm : j < M
    ·have p2 : (j : Int) < (M : Int) := by omega
     have p3 : (0 : Int) <= (j : Int) := by omega
     obtain ⟨⟨lab, tt⟩, hz⟩ : ∃ e, (ins q)[j]? = some e := ⟨(ins q)[j]'(by have := H3.out.2.2.1; omega), List.getElem?_eq_getElem _⟩
     obtain ⟨a4, hae, f0, f1⟩ := step_at hOi.has hz
     have hlb := H1.out.2.2.2.2.2.1 q _ (List.mem_of_getElem? hz)
     simp only at f0 f1 hlb
     obtain ⟨lb, rfl⟩ : ∃ lb : Nat, lab = lb := ⟨lab.toNat, by omega⟩
     have HB : Hid _ := And.intro hA (And.intro hOs (And.intro hKp (And.intro hOi (And.intro hz hae))))
     obtain ⟨p4, p5⟩ := hlb
     clear hA hOs hKp hOi hz
     subst hae
     obtain ⟨ls, hls⟩ : ∃ ls, ls = Sg.ends (Sg.inAll ins (ms.take i) ++ (ins q).take j) (lb : Int) := ⟨_, rfl⟩
     obtain ⟨uu, hu, hOu⟩ := HB.out.2.1.row lb (by omega)
     obtain ⟨au, cu, rfl⟩ := row_shape hOu
     (try simp only at hu hOu)
     rw [<- hls] at hu hOu
     obtain ⟨N, hN⟩ : ∃ N, N = ls.length := ⟨_, rfl⟩
     have hNl : N <= 20000000 := by
      have h1 := Sg.ends_len (Sg.inAll ins (ms.take i) ++ (ins q).take j) (lb : Int)
      have h2 := Sg.inAll_len H1.out.2.2.2.2.1 (ms.take i)
      have h3 := H1.out.2.2.2.2.1 q
      rw [<- hls, <- hN, List.length_append, List.length_take] at h1
      rw [List.length_take] at h2
      omega
     rw [<- hN] at hu
     have hOu' : wr.ownsRow w2.heap.size 3 1 (.slice au N cu) N (iC ls) := by have h1 := hOu; unfold OwnI at h1; rw [<- hN] at h1; exact h1
     obtain ⟨w5, hw5⟩ : ∃ w5, w5 = wr.alloc (.cells #[.int .i64 lb, .int .i64 tt] 77) := ⟨_, rfl⟩
     have hb5 : Below wr.heap.size wr w5 := by rw [hw5]; exact (Below.refl _ _).alloc (Nat.le_refl _) _
     have hx5 : w5.heap[wr.heap.size]? = some (.cells #[.int .i64 lb, .int .i64 tt] 77 (0, 0)) := by rw [hw5]; exact heap_alloc_new wr _
     have s0 : w5.cell? ⟨wr.heap.size, 0, none⟩ = some (.int .i64 lb) := cell0_of hx5 rfl
     have s1 : w5.cell? ⟨wr.heap.size, 1, none⟩ = some (.int .i64 tt) := cell0_of hx5 rfl
     have cu0 := (HB.out.1.below hb5).cell hu
     have hb6 : Below w5.heap.size w5 (w5.alloc (.cells #[.int .i64 tt] 3)) := (Below.refl _ _).alloc (Nat.le_refl _) _
     have cu1 := sg_cell cu0 hb6
     obtain ⟨W6, hW6⟩ : ∃ W6, W6 = (w5.alloc (.cells #[.int .i64 tt] 3)).drew := ⟨_, rfl⟩
     have hb56 : Below w5.heap.size w5 W6 := by rw [hW6]; exact hb6.drew
     have hs6 : W6.heap.size = w5.heap.size + 1 := by rw [hW6]; simp
     have hn6 : W6.heap[w5.heap.size]? = some (.cells #[.int .i64 tt] 3 (0, 0)) := by rw [hW6]; exact heap_alloc_new w5 _
     have hbr6 := sg_bel hb56 hb5
     have hO6 := own_up (F := fun _ => False) hOu' (Kept.of_below hbr6) (fun _ _ h => h)
     have hrows : ∀ b, (Value.slice au N cu).ownBlock = some b -> w2.heap.size <= b /\ b < wr.heap.size := fun b e => hOu'.lt b e
     have hle6 : w2.heap.size <= W6.heap.size := by have := HB.out.2.2.1.size; have := hbr6.size; omega
     have hgw : w.heap.size < wr.heap.size := HB.out.1.lt
     have hml : N + 1 <= maxLen := by unfold maxLen; omega
     have hby : (N + 1) * 8 <= 140737488355328 := by omega
     have HW : Hid _ := And.intro hW6 (And.intro hbr6 (And.intro hs6 (And.intro hn6 (And.intro hO6 (And.intro hrows (And.intro hle6 (And.intro hgw (And.intro (And.intro s0 s1) (And.intro hb56 (And.intro hu (And.intro hN (And.intro hls (And.intro hOu' (And.intro hw5 hb5))))))))))))))
     clear hw5 hb5 hx5 hb6 hb56 hs6 hn6 hbr6 hO6 hrows hle6 hgw hW6 hu hN hls hOu hOu'
     go_upto_region 8 with fail
     rw [<- HW.out.2.2.2.2.2.2.2.2.2.2.2.2.2.2.1]
     refine wp_region_held_drew (S := (fun w' => w'.cell? ⟨wr.heap.size, 0, none⟩ = some (.int .i64 lb) /\ w'.cell? ⟨wr.heap.size, 1, none⟩ = some (.int .i64 tt))) (by kernel_rfl) ?_ (fun hHeld => ?_)
     ·exact ⟨s0, s1⟩
     refine tk8 0 rfl ?_; (try simp only [ty9, Act.put])
     refine tk8 1 rfl ?_; (try simp only [ty9, Act.put])
     refine tk8 2 rfl ?_; (try simp only [ty9, Act.put])
     refine tk8 3 rfl ?_; (try simp only [ty9, Act.put])
     refine tk8 4 rfl ?_; (try simp only [ty9, Act.put])
     refine tk8 5 rfl ?_; (try simp only [ty9, Act.put])
     refine tk8 6 rfl ?_; (try simp only [ty9, Act.put])
     refine tk8 8 rfl ?_; (try simp only [ty9, Act.put])
     refine tk8 9 rfl ?_; (try simp only [ty9, Act.put])
     refine wpAnyH_ready (rs := [7, 10]) (by kernel_rfl) (by simp) ?_
     refine AllReadyH.cons (o := _) rfl (fun K hK => ?_) ?_
     ·(go_simp)
      (try go_wp2_with fail)
      refine hK.out _ _ ?_ (fun hHeld => ?_)
      ·exact hHeld
      clear hK K
      (try simp only [ty9, Act.put])
      refine wpAnyH_ready (rs := [10]) (by kernel_rfl) (by simp) ?_
      refine AllReadyH.cons (o := _) rfl (fun K hK => ?_) ?_
      ·(go_simp)
       (try go_wp2_with fail)
       refine hK.out _ _ ?_ (fun hHeld => ?_)
       ·(have h9 := And.intro (sg_cell HW.out.2.2.2.2.2.2.2.2.1.1 HW.out.2.2.2.2.2.2.2.2.2.1) (sg_cell HW.out.2.2.2.2.2.2.2.2.1.2 HW.out.2.2.2.2.2.2.2.2.2.1); rw [HW.out.1] at h9; exact h9)
       clear hK K
       (try simp only [ty9, Act.put])
       refine wpAnyH_ready (rs := [11]) (by kernel_rfl) (by simp) ?_
       refine AllReadyH.cons (o := _) rfl (fun K hK => ?_) ?_
       ·(rw [<- HW.out.1]; refine step_append_lies _ (by rfl) _ _ _ (by rfl) w2.heap.size 3 i0 _ 1 8 Tryz.underlying57 hi0 hz0 hz1 hz2 rfl (by decide) (.slice au N cu) N (iC ls) (by rfl) HW.out.2.2.2.2.1 ⟨w5.heap.size, 0, none⟩ 1 1 [.int .i64 tt] (by rfl) (by rfl) (World.news_of_block HW.out.2.2.2.1) (by simp [Value.oneCell']) Nat.one_pos hml hby HW.out.2.2.2.2.2.2.1 (w5.heap.size + 1) HW.out.2.2.1 ?_; intro g4 k4 w4 hown4 hgrow4 hat4 hlt4; have hk4 := Kept.of_grown hgrow4; have hk5 : Kept (fun b => (Value.slice au N cu).ownBlock = some b) wr w4 := (Kept.of_below HW.out.2.1).trans hk4; have hA4 := HB.out.1.kept hk5 (fun b e => by have h9 := (HW.out.2.2.2.2.2.1 b e).1; have := H2.out.2.2.2.2; exact ⟨by omega, by omega⟩); have cu2 := hA4.cell HW.out.2.2.2.2.2.2.2.2.2.2.1; have cuf2 := hA4.free lb; have H4 : Hid _ := And.intro hown4 (And.intro hk5 (And.intro hat4 (And.intro hA4 hk4))); clear hown4 hgrow4 hat4 hlt4 hk4 hk5 hA4)
        (try go_wp2_with fail)
        refine hK.out _ _ ?_ (fun hHeld => ?_)
        ·exact src_kp H4.out.2.2.2.2 (fun e => by have h9 := (HW.out.2.2.2.2.2.1 _ e).2; omega) (And.intro (sg_cell HW.out.2.2.2.2.2.2.2.2.1.1 HW.out.2.2.2.2.2.2.2.2.2.1) (sg_cell HW.out.2.2.2.2.2.2.2.2.1.2 HW.out.2.2.2.2.2.2.2.2.2.1))
        clear hK K
        (try simp only [ty9, Act.put])
        refine tk8 12 rfl ?_; (try simp only [ty9, Act.put])
        refine wpAnyH_ready (rs := [13]) (by kernel_rfl) (by simp) ?_
        refine AllReadyH.cons (o := _) rfl (fun K hK => ?_) ?_
        ·(go_simp)
         (try go_wp2_with fail)
         refine hK.out _ _ ?_ (fun hHeld => ?_)
         ·exact src_st (by have := HW.out.2.2.2.2.2.2.2.1; omega) hHeld
         clear hK K
         (try simp only [ty9, Act.put])
         refine wpAnyH_done (by kernel_rfl) ?_ _
         (try go_simp)
         have hG := src_grow (w := w) (f := fun l => Sg.ends (Sg.inAll ins (ms.take i) ++ (ins q).take j) (l : Int)) tt HB.out.2.1 (by omega) HW.out.2.2.2.2.2.2.2.2.2.2.1 (by rw [HW.out.2.2.2.2.2.2.2.2.2.2.2.1, HW.out.2.2.2.2.2.2.2.2.2.2.2.2.1]) (by rw [<- HW.out.2.2.2.2.2.2.2.2.2.2.2.2.1]; exact H4.out.1) H4.out.2.1 H4.out.2.2.1 (by have := HW.out.2.2.2.2.2.2.2.2.2.2.2.2.2.2.2.size; omega) H4.out.2.2.2.1 H2.out.2.2.2.2 HB.out.2.2.1
         have hOi2 := own_up HB.out.2.2.2.1 hG.2.2.2 (fun b hb e => by
          rcases e with e | e
          ·have h9 := (HB.out.2.2.2.1.lt b hb).1; have := HA.out.1.lt; omega
          ·exact rows_apart HW.out.2.2.2.2.2.2.2.2.2.2.2.2.2.1 HB.out.2.2.2.1 (by decide) b hb e)
         have HG : Hid _ := And.intro hG hOi2
         clear hG hOi2 cu2 cuf2 hHeld
         go_wp2_with fail
         go_roundg (M - (j + 1))
         case measure => omega
         case rel => exact ⟨j + 1, _, rfl, by omega, by go_num, HG.out.1.1, HG.out.1.2.1.congr fun l _ => src_row HB.out.2.2.2.2.1 l, HG.out.1.2.2.1, HG.out.2⟩
        exact AllReadyH.nil
       exact AllReadyH.nil
      exact AllReadyH.nil
     refine AllReadyH.cons (o := _) rfl (fun K hK => ?_) ?_
     ·(go_simp)
      (try go_wp2_with fail)
      refine hK.out _ _ ?_ (fun hHeld => ?_)
      ·(have h9 := And.intro (sg_cell HW.out.2.2.2.2.2.2.2.2.1.1 HW.out.2.2.2.2.2.2.2.2.2.1) (sg_cell HW.out.2.2.2.2.2.2.2.2.1.2 HW.out.2.2.2.2.2.2.2.2.2.1); rw [HW.out.1] at h9; exact h9)
      clear hK K
      (try simp only [ty9, Act.put])
      refine wpAnyH_ready (rs := [7]) (by kernel_rfl) (by simp) ?_
      refine AllReadyH.cons (o := _) rfl (fun K hK => ?_) ?_
      ·(go_simp)
       (try go_wp2_with fail)
       refine hK.out _ _ ?_ (fun hHeld => ?_)
       ·exact hHeld
       clear hK K
       (try simp only [ty9, Act.put])
       refine wpAnyH_ready (rs := [11]) (by kernel_rfl) (by simp) ?_
       refine AllReadyH.cons (o := _) rfl (fun K hK => ?_) ?_
       ·(rw [<- HW.out.1]; refine step_append_lies _ (by rfl) _ _ _ (by rfl) w2.heap.size 3 i0 _ 1 8 Tryz.underlying57 hi0 hz0 hz1 hz2 rfl (by decide) (.slice au N cu) N (iC ls) (by rfl) HW.out.2.2.2.2.1 ⟨w5.heap.size, 0, none⟩ 1 1 [.int .i64 tt] (by rfl) (by rfl) (World.news_of_block HW.out.2.2.2.1) (by simp [Value.oneCell']) Nat.one_pos hml hby HW.out.2.2.2.2.2.2.1 (w5.heap.size + 1) HW.out.2.2.1 ?_; intro g4 k4 w4 hown4 hgrow4 hat4 hlt4; have hk4 := Kept.of_grown hgrow4; have hk5 : Kept (fun b => (Value.slice au N cu).ownBlock = some b) wr w4 := (Kept.of_below HW.out.2.1).trans hk4; have hA4 := HB.out.1.kept hk5 (fun b e => by have h9 := (HW.out.2.2.2.2.2.1 b e).1; have := H2.out.2.2.2.2; exact ⟨by omega, by omega⟩); have cu2 := hA4.cell HW.out.2.2.2.2.2.2.2.2.2.2.1; have cuf2 := hA4.free lb; have H4 : Hid _ := And.intro hown4 (And.intro hk5 (And.intro hat4 (And.intro hA4 hk4))); clear hown4 hgrow4 hat4 hlt4 hk4 hk5 hA4)
        (try go_wp2_with fail)
        refine hK.out _ _ ?_ (fun hHeld => ?_)
        ·exact src_kp H4.out.2.2.2.2 (fun e => by have h9 := (HW.out.2.2.2.2.2.1 _ e).2; omega) (And.intro (sg_cell HW.out.2.2.2.2.2.2.2.2.1.1 HW.out.2.2.2.2.2.2.2.2.2.1) (sg_cell HW.out.2.2.2.2.2.2.2.2.1.2 HW.out.2.2.2.2.2.2.2.2.2.1))
        clear hK K
        (try simp only [ty9, Act.put])
        refine tk8 12 rfl ?_; (try simp only [ty9, Act.put])
        refine wpAnyH_ready (rs := [13]) (by kernel_rfl) (by simp) ?_
        refine AllReadyH.cons (o := _) rfl (fun K hK => ?_) ?_
        ·(go_simp)
         (try go_wp2_with fail)
         refine hK.out _ _ ?_ (fun hHeld => ?_)
         ·exact src_st (by have := HW.out.2.2.2.2.2.2.2.1; omega) hHeld
         clear hK K
         (try simp only [ty9, Act.put])
         refine wpAnyH_done (by kernel_rfl) ?_ _
         (try go_simp)
         have hG := src_grow (w := w) (f := fun l => Sg.ends (Sg.inAll ins (ms.take i) ++ (ins q).take j) (l : Int)) tt HB.out.2.1 (by omega) HW.out.2.2.2.2.2.2.2.2.2.2.1 (by rw [HW.out.2.2.2.2.2.2.2.2.2.2.2.1, HW.out.2.2.2.2.2.2.2.2.2.2.2.2.1]) (by rw [<- HW.out.2.2.2.2.2.2.2.2.2.2.2.2.1]; exact H4.out.1) H4.out.2.1 H4.out.2.2.1 (by have := HW.out.2.2.2.2.2.2.2.2.2.2.2.2.2.2.2.size; omega) H4.out.2.2.2.1 H2.out.2.2.2.2 HB.out.2.2.1
         have hOi2 := own_up HB.out.2.2.2.1 hG.2.2.2 (fun b hb e => by
          rcases e with e | e
          ·have h9 := (HB.out.2.2.2.1.lt b hb).1; have := HA.out.1.lt; omega
          ·exact rows_apart HW.out.2.2.2.2.2.2.2.2.2.2.2.2.2.1 HB.out.2.2.2.1 (by decide) b hb e)
         have HG : Hid _ := And.intro hG hOi2
         clear hG hOi2 cu2 cuf2 hHeld
         go_wp2_with fail
         go_roundg (M - (j + 1))
         case measure => omega
         case rel => exact ⟨j + 1, _, rfl, by omega, by go_num, HG.out.1.1, HG.out.1.2.1.congr fun l _ => src_row HB.out.2.2.2.2.1 l, HG.out.1.2.2.1, HG.out.2⟩
        exact AllReadyH.nil
       exact AllReadyH.nil
      exact AllReadyH.nil
     exact AllReadyH.nil
    ·obtain rfl : j = M := by omega
     have p2 : ¬ (j : Int) < (j : Int) := by omega
     have HB : Hid _ := And.intro hA (And.intro hOs hKp)
     clear hA hOs hKp hOi
     go_wp2_with fail
     go_roundg (L - (i + 1))
     case measure => omega
     case rel => exact ⟨i + 1, us, rfl, by omega, by go_num, HB.out.1, HB.out.2.1.congr fun l _ => by rw [Sg.inAll_next ins ms HA.out.2.2.2.1, H3.out.2.2.1, List.take_length], HB.out.2.2⟩
  ·obtain rfl : i = L := by omega
   have p1 : ¬ (i : Int) < (i : Int) := by omega
   have HA : Hid _ := And.intro hA hOs
   clear hA hOs hKp
   go_wp2_with fail
   go_ret
   refine ⟨_, rfl, us, HA.out.1, ?_⟩
   exact (HA.out.2.congr fun l _ => by rw [H2.out.2.2.1, List.take_length]).base (Nat.le_of_lt H2.out.2.2.2.2)
end
section
theorem Sy.Str.nodup {l : List Sy.Ed} (h : Sy.Str l) : l.Nodup := by
 induction l with
 | nil => exact List.nodup_nil
 | cons a r ih =>
   refine List.nodup_cons.2 ⟨fun hm => ?_, ih h.tail⟩
   have h1 := h.head a hm
   rw [Sy.lt_iff] at h1
   omega
namespace Sg
def cn (T : List Sy.Ed) (X : Int -> Bool) (p b : Int) : Nat := T.countP fun e => X e.1 && (e.2.1 == b && e.2.2 == p)
theorem cn_congr {T : List Sy.Ed} {X Y : Int -> Bool} (h : ∀ e ∈ T, X e.1 = Y e.1) (p b : Int) : cn T X p b = cn T Y p b := by
 unfold cn
 exact List.countP_congr fun e he => by rw [h e he]
theorem cn_add {T : List Sy.Ed} {X Y Z : Int -> Bool} (h : ∀ e ∈ T, X e.1 = (Y e.1 || Z e.1) /\ (Y e.1 && Z e.1) = false) (p b : Int) : cn T X p b = cn T Y p b + cn T Z p b := by
 unfold cn
 induction T with
 | nil => rfl
 | cons e r ih =>
   obtain ⟨h1, h3⟩ := h e List.mem_cons_self
   have h2 := ih fun e he => h e (List.mem_cons_of_mem _ he)
   simp only [List.countP_cons]
   rw [h2, h1]
   cases hy : Y e.1 <;> cases hz : Z e.1 <;> cases hw : (e.2.1 == b && e.2.2 == p) <;> simp_all <;> omega
theorem cn_zero {T : List Sy.Ed} {X : Int -> Bool} (h : ∀ e ∈ T, X e.1 = false) (p b : Int) : cn T X p b = 0 := by
 unfold cn
 rw [List.countP_eq_zero]
 intro e he
 simp [h e he]
theorem cn_pos {T : List Sy.Ed} {X : Int -> Bool} {p b : Int} : 0 < cn T X p b ↔ ∃ e ∈ T, X e.1 = true /\ e.2.1 = b /\ e.2.2 = p := by
 unfold cn
 rw [List.countP_pos_iff]
 simp only [Bool.and_eq_true, beq_iff_eq]
theorem cn_le (T : List Sy.Ed) (X : Int -> Bool) (p b : Int) : cn T X p b <= T.length := List.countP_le_length
theorem ends_append (l m : List (Int × Int)) (b : Int) : ends (l ++ m) b = ends l b ++ ends m b := by simp [ends]
theorem count_steps (T : List Sy.Ed) (n : Nat) {q : Int} (hq : 0 <= q /\ q < (n : Int)) (p b : Int) : (ends (Sy.rowOf n T q) b).count p = cn T (fun t => t == q) p b := by
 unfold Sy.rowOf
 rw [if_pos hq]
 unfold Sy.steps ends cn
 induction T with
 | nil => rfl
 | cons e r ih =>
   rw [List.countP_cons, <- ih, List.filter_cons]
   cases h1 : (e.1 == q) with
   | false => simp [h1]
   | true =>
     simp only [if_true, List.map_cons, List.filter_cons]
     cases h2 : (e.2.1 == b) with
     | false => simp
     | true =>
       simp only [if_true, List.map_cons, List.count_cons]
       cases h3 : (e.2.2 == p) <;> simp [h1]
theorem count_ends {T : List Sy.Ed} {n : Nat} {ms : List Int} (hn : ∀ q ∈ ms, 0 <= q /\ q < (n : Int)) (hd : ms.Nodup) (p b : Int) : (ends (inAll (Sy.rowOf n T) ms) b).count p = cn T (fun t => decide (t ∈ ms)) p b := by
 induction ms with
 | nil => rw [cn_zero (fun e _ => by simp)]; rfl
 | cons q r ih =>
   obtain ⟨h1, h2⟩ := List.nodup_cons.1 hd
   have h3 : inAll (Sy.rowOf n T) (q :: r) = Sy.rowOf n T q ++ inAll (Sy.rowOf n T) r := by unfold inAll; rw [List.flatMap_cons]
   rw [h3, ends_append, List.count_append, count_steps T n (hn q List.mem_cons_self), ih (fun q hq => hn q (List.mem_cons_of_mem _ hq)) h2]
   refine (cn_add (fun e _ => ⟨?_, ?_⟩) p b).symm
   ·by_cases e1 : e.1 = q <;> simp [e1]
   ·by_cases e1 : e.1 = q
    ·simp [e1, h1]
    ·simp [e1]
theorem steps_len (T : List Sy.Ed) (n : Nat) (q : Int) : (Sy.rowOf n T q).length <= T.countP (fun e => e.1 == q) := by
 unfold Sy.rowOf
 split
 ·unfold Sy.steps
  rw [List.length_map, List.countP_eq_length_filter]
  exact Nat.le_refl _
 ·exact Nat.zero_le _
theorem inAll_le {T : List Sy.Ed} {n : Nat} {ms : List Int} (hd : ms.Nodup) : (inAll (Sy.rowOf n T) ms).length <= T.length := by
 refine Nat.le_trans (?_ : _ <= T.countP (fun e => decide (e.1 ∈ ms))) List.countP_le_length
 induction ms with
 | nil => exact Nat.zero_le _
 | cons q r ih =>
   obtain ⟨h1, h2⟩ := List.nodup_cons.1 hd
   have h3 : inAll (Sy.rowOf n T) (q :: r) = Sy.rowOf n T q ++ inAll (Sy.rowOf n T) r := by unfold inAll; rw [List.flatMap_cons]
   rw [h3, List.length_append]
   have h4 := steps_len T n q
   have h5 := ih h2
   have h6 : T.countP (fun e => decide (e.1 ∈ q :: r)) = T.countP (fun e => e.1 == q) + T.countP (fun e => decide (e.1 ∈ r)) := by
    clear h3 h4 h5 ih
    induction T with
    | nil => rfl
    | cons e t ih =>
      simp only [List.countP_cons]
      rw [ih]
      by_cases e1 : e.1 = q
      ·simp [e1, h1]; omega
      ·by_cases e2 : e.1 ∈ r <;> simp [e1, e2] <;> omega
   omega
def tn (es : List Sy.Ed) : List Sy.Ed := Sy.nf ((Sy.nf es).map Sy.turn)
theorem tn_mem {es : List Sy.Ed} {e : Sy.Ed} : e ∈ tn es ↔ Sy.turn e ∈ Sy.nf es := by
 unfold tn
 rw [Sy.nf_mem, List.mem_map]
 constructor
 ·rintro ⟨a, ha, rfl⟩; rw [turn_turn]; exact ha
 ·intro h; exact ⟨_, h, turn_turn e⟩
theorem tn_perm (es : List Sy.Ed) : (tn es).Perm ((Sy.nf es).map Sy.turn) := by
 refine (List.perm_ext_iff_of_nodup (Sy.nf_str _).nodup ?_).2 fun a => ?_
 ·refine List.pairwise_map.2 ((Sy.nf_str es).nodup.imp fun {a b} hne h => hne ?_)
  rw [<- turn_turn a, h, turn_turn]
 ·exact Sy.nf_mem _ _
theorem cn_all (es : List Sy.Ed) (p b : Int) : cn (tn es) (fun _ => true) p b = (Sy.nf es).countP fun e => e.2.1 == b && e.1 == p := by
 unfold cn
 rw [(tn_perm es).countP_eq, List.countP_map]
 rfl
def cf (T : List Sy.Ed) (H : Nat -> Int) (p b h : Int) : Int := (cn T (fun t => H t.toNat == h) p b : Int)
def withC (f : Int -> Int -> Int -> Int) (rest own : Int) (G : Int -> List Int) : Int -> Int -> Int -> Int := fun p b h => if h = rest then f p b h - (G b).count p else if h = own then f p b h + (G b).count p else f p b h
def gAt (E : Nat -> List Int) (j i : Nat) (b : Int) : List Int := if 0 <= b /\ b < (j : Int) then E b.toNat else if b = (j : Int) then (E j).take i else []
theorem gAt_next (E : Nat -> List Int) (j i : Nat) (hi : i = (E j).length) : gAt E j i = gAt E (j + 1) 0 := by
 funext b
 unfold gAt
 by_cases h1 : 0 <= b /\ b < (j : Int)
 ·rw [if_pos h1, if_pos ⟨h1.1, by omega⟩]
 ·rw [if_neg h1]
  by_cases h2 : b = (j : Int)
  ·rw [if_pos h2, if_pos ⟨by omega, by omega⟩, hi, List.take_length, h2]
   rfl
  ·rw [if_neg h2, if_neg (by omega), List.take_zero, ite_self]
theorem gAt_none (E : Nat -> List Int) (b : Int) : gAt E 0 0 b = [] := by
 unfold gAt
 rw [if_neg (by omega)]
 split <;> simp
theorem gAt_step (E : Nat -> List Int) (j i : Nat) {z : Int} (h : (E j)[i]? = some z) : gAt E j (i + 1) (j : Int) = gAt E j i (j : Int) ++ [z] := by
 unfold gAt
 rw [if_neg (by omega), if_pos rfl, if_neg (by omega), if_pos rfl, List.take_add_one, h]
 rfl
theorem gAt_other (E : Nat -> List Int) (j i : Nat) {b : Int} (h : b ≠ (j : Int)) : gAt E j (i + 1) b = gAt E j i b := by
 unfold gAt
 rw [if_neg h, if_neg h]
theorem withC_none (f : Int -> Int -> Int -> Int) (rest own : Int) (E : Nat -> List Int) (p b h : Int) : withC f rest own (gAt E 0 0) p b h = f p b h := by
 unfold withC
 rw [gAt_none]
 simp
theorem cf_take {T : List Sy.Ed} {H H' : Nat -> Int} {X : Nat -> Bool} {rest own : Int} (hne : rest ≠ own) (hX : ∀ e ∈ T, X e.1.toNat = true -> H e.1.toNat = rest) (hH' : ∀ e ∈ T, H' e.1.toNat = if X e.1.toNat = true then own else H e.1.toNat) (hnew : ∀ e ∈ T, H e.1.toNat ≠ own) {G : Int -> List Int} {p b : Int} (hG : (G b).count p = cn T (fun t => X t.toNat) p b) (h : Int) : cf T H' p b h = withC (cf T H) rest own G p b h := by
 unfold withC cf
 rw [hG]
 by_cases h1 : h = rest
 ·rw [if_pos h1, h1]
  have h2 : cn T (fun t => H t.toNat == rest) p b = cn T (fun t => H' t.toNat == rest) p b + cn T (fun t => X t.toNat) p b := cn_add (fun e he => by
   have a1 := hX e he
   have a2 := hH' e he
   cases hx : X e.1.toNat with
   | false =>
     rw [hx] at a2
     simp only [Bool.false_eq_true, if_false] at a2
     simp [a2]
   | true =>
     rw [hx] at a2
     simp only [if_true] at a2
     rw [a1 hx, a2]
     simp
     exact fun e => hne e.symm) p b
  omega
 ·rw [if_neg h1]
  by_cases h2 : h = own
  ·rw [if_pos h2, h2]
   have h3 : cn T (fun t => H' t.toNat == own) p b = cn T (fun t => H t.toNat == own) p b + cn T (fun t => X t.toNat) p b := cn_add (fun e he => by
    have a2 := hH' e he
    have a3 := hnew e he
    cases hx : X e.1.toNat with
    | false =>
      rw [hx] at a2
      simp only [Bool.false_eq_true, if_false] at a2
      simp [a2]
    | true =>
      rw [hx] at a2
      simp only [if_true] at a2
      simp [a2, a3]) p b
   omega
  ·rw [if_neg h2]
   congr 1
   refine cn_congr (fun e he => ?_) p b
   have a1 := hX e he
   have a2 := hH' e he
   cases hx : X e.1.toNat with
   | false =>
     rw [hx] at a2
     simp only [Bool.false_eq_true, if_false] at a2
     rw [a2]
   | true =>
     rw [hx] at a2
     simp only [if_true] at a2
     rw [a1 hx, a2]
     have b1 : (own == h) = false := by simp; exact fun e => h2 e.symm
     have b2 : (rest == h) = false := by simp; exact fun e => h1 e.symm
     rw [b1, b2]
theorem into_cn {n : Nat} {es : List Sy.Ed} {X : Nat -> Bool} {p : Nat} (hp : p < n) (b : Int) : into (fun i => Sy.rowOf n (Sy.nf es) (i : Int)) (fun t => X t = true) b p ↔ 0 < cn (tn es) (fun t => X t.toNat) (p : Int) b := by
 rw [cn_pos]
 unfold into
 constructor
 ·rintro ⟨z, hz, rfl, hx⟩
  simp only at hz
  unfold Sy.rowOf at hz
  rw [if_pos ⟨by omega, by omega⟩] at hz
  exact ⟨(z.2, z.1, (p : Int)), tn_mem.2 (Sy.steps_mem.1 hz), hx, rfl, rfl⟩
 ·rintro ⟨e, he, hx, rfl, he2⟩
  have h1 := tn_mem.1 he
  refine ⟨(e.2.1, e.1), ?_, rfl, hx⟩
  simp only
  unfold Sy.rowOf
  rw [if_pos ⟨by omega, by omega⟩]
  refine Sy.steps_mem.2 ?_
  rw [<- he2]
  exact h1
end Sg
end
section
open Go.RowKit Go.Maps
open Go.ChangeMaps (setBlock heap_setBlock_same heap_setBlock_other)
theorem Tryz.laidOutIn : laidOutB Tryz.prog = true := by kernel_rfl
theorem Tryz.rowIn : (224 : TypeId) < Tryz.prog.types.size := of_decide_eq_true (by kernel_rfl)
theorem Tryz.wideIn : (match Tryz.prog.underlying 224 with | some (.array _ _) | some (.struct _) => true | _ => false) = true := by kernel_rfl
set_option maxRecDepth 100000 in
theorem Tryz.lawIn : WideMaps.KeyLaw Tryz.prog 224 := deep_law_laid Tryz.laidOutIn (m := 3) (by omega) Tryz.rowIn (by kernel_rfl) Tryz.wideIn
theorem Tryz.lawInK : Keyed Tryz.prog 224 := Keyed.of_law Tryz.lawIn
def inV (p b h : Int) : Value := .agg #[.int .i64 p, .int .i64 b, .int .i64 h]
def inK (p b h : Int) : Lit := .string (keyBytes [.int .i64 p, .int .i64 b, .int .i64 h])
def Sml (z : Int) : Prop := -1000000000 <= z /\ z <= 1000000000
theorem Sml.wf {z : Int} (h : Sml z) : (Lit.int .i64 z).wf = true := WalkArith.wf_i64 (by unfold Sml at h; omega)
theorem sml_nat {n : Nat} (h : n <= 1000000000) : Sml (n : Int) := by unfold Sml; omega
theorem Tryz.cellsIn : Tryz.prog.cellsOf 224 = 3 := by kernel_rfl
theorem Tryz.cellsIntIn : Tryz.prog.cellsOf 3 = 1 := by kernel_rfl
theorem Tryz.keyTypeIn : Tryz.prog.keyType 224 = true := by kernel_rfl
theorem Tryz.sizeTIn : ∃ m, Tryz.prog.types.size = m + 1 := ⟨_, (by kernel_rfl : Tryz.prog.types.size = 343)⟩
set_option maxRecDepth 100000 in
theorem keyOf_in {p b h : Int} (hp : Sml p) (hb : Sml b) (hh : Sml h) : keyOf Tryz.prog 224 (inV p b h) = some (inK p b h) := by
 obtain ⟨m, hm⟩ := Tryz.sizeTIn
 have hform : (inV p b h).formed Tryz.prog 224 = true := by simp [inV, Value.formed, Tryz.underlying224, Tryz.cellsIn]
 unfold keyOf
 rw [Tryz.underlying224]
 simp only [Tryz.keyTypeIn, hform, Bool.and_self, if_true]
 rw [hm]
 simp [Program.keyLits, Tryz.underlying224, Tryz.underlying3, Tryz.cellsIn, Tryz.cellsIntIn, inV, Value.cells, hp.wf, hb.wf, hh.wf, inK]
theorem inK_inj {p b h p' b' h' : Int} (hp : Sml p) (hb : Sml b) (hh : Sml h) (hp' : Sml p') (hb' : Sml b') (hh' : Sml h') (e : inK p b h = inK p' b' h') : p = p' /\ b = b' /\ h = h' := by
 have h1 := keyOf_in hp hb hh
 have h2 := keyOf_in hp' hb' hh'
 rw [<- e] at h2
 have h3 := Tryz.lawIn.inj h1 h2
 unfold inV at h3
 simp only [Value.agg.injEq, Array.mk.injEq, List.cons.injEq, Value.int.injEq, true_and, and_true] at h3
 exact h3
theorem inK_key (p b h : Int) : WideAt.IsKeyLit (inK p b h) := by unfold inK; exact trivial
def Cnt (w : World) (mb n : Nat) (f : Int -> Int -> Int -> Int) : Prop := ∃ D, w.ownsMap (H := Unit) Tryz.prog 224 (plainElem Tryz.prog 3) mb n D /\ ∀ p b h, Sml p -> Sml b -> Sml h -> D.atKey (inK p b h) (.lit (.int .i64 0)) = .lit (.int .i64 (f p b h))
theorem cnt_map {w w' : World} {k : TypeId} {R : Value -> Option (DataW Unit × List MemPlace)} {b n : Nat} {D : DataW Unit} (h : w.ownsMap Tryz.prog k R b n D) (hb : w'.heap[b]? = w.heap[b]?) : w'.ownsMap Tryz.prog k R b n D := by
 obtain ⟨es, clock, h1, h2⟩ := h
 exact ⟨es, clock, hb.trans h1, h2⟩
theorem Cnt.at {w w' : World} {mb n : Nat} {f : Int -> Int -> Int -> Int} (h : Cnt w mb n f) (hb : w'.heap[mb]? = w.heap[mb]?) : Cnt w' mb n f := by
 obtain ⟨D, h1, h2⟩ := h
 exact ⟨D, cnt_map h1 hb, h2⟩
theorem Cnt.lt {w : World} {mb n : Nat} {f : Int -> Int -> Int -> Int} (h : Cnt w mb n f) : mb < w.heap.size := by
 obtain ⟨D, h1, h2⟩ := h
 exact h1.lt
theorem Cnt.block {w : World} {mb n : Nat} {f : Int -> Int -> Int -> Int} (h : Cnt w mb n f) : ∃ es clock, w.heap[mb]? = some (.map es clock) := by
 obtain ⟨D, ⟨es, clock, h1, _⟩, h2⟩ := h
 exact ⟨es, clock, h1⟩
theorem Cnt.kept {w w' : World} {mb n : Nat} {f : Int -> Int -> Int -> Int} {F : Nat -> Prop} (h : Cnt w mb n f) (hk : Kept F w w') (hF : ¬ F mb) : Cnt w' mb n f := h.at (hk.block mb h.lt hF)
theorem Cnt.below {w w' : World} {mb n : Nat} {f : Int -> Int -> Int -> Int} (h : Cnt w mb n f) (hb : Below w.heap.size w w') : Cnt w' mb n f := h.at (hb.block mb h.lt)
theorem Cnt.congr {w : World} {mb n : Nat} {f f' : Int -> Int -> Int -> Int} (h : Cnt w mb n f) (hf : ∀ p b q, f p b q = f' p b q) : Cnt w mb n f' := by
 obtain ⟨D, h1, h2⟩ := h
 exact ⟨D, h1, fun p b q hp hb hq => by rw [h2 p b q hp hb hq, hf]⟩
theorem Cnt.made (w : World) : Cnt (w.alloc (.map #[] 0)) w.heap.size 0 (fun _ _ _ => 0) := ⟨_, World.ownsMap_made w _ _ _, fun _ _ _ _ _ _ => rfl⟩
theorem Cnt.ne {w : World} {mb n i : Nat} {f : Int -> Int -> Int -> Int} {c : Array Value} {s : TypeId} {x : Nat × Nat} (h : Cnt w mb n f) (hi : w.heap[i]? = some (.cells c s x)) : mb ≠ i := by
 rintro rfl
 obtain ⟨es, clock, h1⟩ := h.block
 rw [hi] at h1
 cases h1
theorem Tryz.zeroInt (u : World) : (zeroValue 3).run Tryz.prog u = .ok (.int .i64 0) u := by kernel_rfl
theorem Cnt.look {w : World} {mb n : Nat} {f : Int -> Int -> Int -> Int} (h : Cnt w mb n f) {p b q : Int} (hp : Sml p) (hb : Sml b) (hq : Sml q) : (Instr.lookup 201 (.map (some mb)) (inV p b q) false).run Tryz.prog w = .ok (.int .i64 (f p b q)) w /\ (Lit.int .i64 (f p b q)).wf = true := by
 obtain ⟨D, h1, h2⟩ := h
 obtain ⟨c, e1, e2, e3⟩ := h1.lookup_int Tryz.lawInK Tryz.underlying201 Tryz.underlying3 (Tryz.zeroInt w) (keyOf_in hp hb hq)
 rw [h2 p b q hp hb hq] at e2
 injection e2 with e2
 injection e2 with _ e2
 rw [e2]
 exact ⟨e1, e3⟩
def updC (f : Int -> Int -> Int -> Int) (p b q z : Int) : Int -> Int -> Int -> Int := fun p' b' q' => if p' = p /\ b' = b /\ q' = q then z else f p' b' q'
set_option maxRecDepth 100000 in
theorem Cnt.entry {w : World} {mb n : Nat} {f : Int -> Int -> Int -> Int} (h : Cnt w mb n f) (hn : n < maxLen) {p b q : Int} (hp : Sml p) (hb : Sml b) (hq : Sml q) :
 ∃ (v0 sv : Value) (w1 : World), (Instr.mapEntry 201 (.map (some mb)) (inV p b q)).run Tryz.prog w = .ok (.tuple #[v0, sv]) w1 /\ Cnt w1 mb (n + 1) f /\ Kept (fun i => i = mb) w w1 /\
  ∀ z : Int, (Lit.int .i64 z).wf = true -> ∃ w2, (Instr.entryStore 201 (.map (some mb)) sv (.int .i64 z)).run Tryz.prog w1 = .ok () w2 /\ Cnt w2 mb (n + 1) (updC f p b q z) /\ Kept (fun i => i = mb) w w2 := by
 have hkey := keyOf_in hp hb hq
 obtain ⟨D, hD, hf⟩ := h
 obtain ⟨es, clock, hbk, F, hs, hDe⟩ := hD
 obtain ⟨v0, st, es1, clock1, hE, hcase, hS⟩ := WideElems.entry_then_store Tryz.lawIn Tryz.underlying201 (Tryz.zeroInt) hbk F hkey
 have hO : w.ownsMap (H := Unit) Tryz.prog 224 (plainElem Tryz.prog 3) mb n D := ⟨es, clock, hbk, F, hs, hDe⟩
 have hsb : ∀ (u : World) (es0 es' : Array MapEntry) (c0 c' : Nat), u.heap[mb]? = some (.map es0 c0) -> Kept (fun i => i = mb) u (setBlock u mb (.map es' c')) := fun u es0 es' c0 c' hu => ⟨rfl, rfl, rfl, by simp [setBlock], fun i _ hi => heap_setBlock_other hu _ hi⟩
 have hput : ∀ (z : Int) (w' : World), w'.ownsMap (H := Unit) Tryz.prog 224 (plainElem Tryz.prog 3) mb (n + 1) (D.put (inK p b q) (.lit (.int .i64 z))) -> Cnt w' mb (n + 1) (updC f p b q z) := fun z w' hw' => by
  refine ⟨_, hw', fun p' b' q' hp' hb' hq' => ?_⟩
  unfold updC
  by_cases e : p' = p /\ b' = b /\ q' = q
  ·rw [if_pos e, e.1, e.2.1, e.2.2]
   exact atKey_put_same hO.isMap (inK_key _ _ _) _ _
  ·rw [if_neg e, atKey_put_other (fun e2 => e (inK_inj hp' hb' hq' hp hb hq e2)) _ _]
   exact hf p' b' q' hp' hb' hq'
 refine ⟨v0, goInt st, _, hE, ?_, hsb w es _ clock _ hbk, fun z hz => ?_⟩
 ·rcases Tryz.lawIn.find w hkey es.toList F.keys with ⟨h1, h2⟩ | ⟨j, e0, h1, h2, h3⟩
  ·have hlook := hO.lookup_int Tryz.lawInK Tryz.underlying201 Tryz.underlying3 (Tryz.zeroInt w) hkey
   obtain ⟨c, e1, e2, e3⟩ := hlook
   have e4 : (Instr.lookup 201 (.map (some mb)) (inV p b q) false).run Tryz.prog w = .ok (.int .i64 0) w := by simp [Instr.lookup, run_underlying Tryz.underlying201, MapKept.run_getObj_map hbk, Tryz.lawIn.check w _ hkey, h1, Result.andThen]
   rw [e4] at e1
   injection e1 with e1
   injection e1 with _ e1
   obtain ⟨w', hrun, hown, _⟩ := hO.update Tryz.lawInK Tryz.underlying201 hn (val := .int .i64 0) hkey (plainElem_int Tryz.underlying3 (by decide))
   have e5 : (Instr.mapUpdate 201 (.map (some mb)) (inV p b q) (.int .i64 0)).run Tryz.prog w = .ok () (setBlock w mb (.map (es.push ⟨inV p b q, .int .i64 0, clock⟩) (clock + 1))) := by simp [Instr.mapUpdate, run_underlying Tryz.underlying201, MapKept.run_getObj_map hbk, Tryz.lawIn.check w _ hkey, h1, MapKept.run_setObj_map _ hbk, Result.andThen, setBlock]
   have e6 : (Instr.mapEntry 201 (.map (some mb)) (inV p b q)).run Tryz.prog w = .ok (.tuple #[.int .i64 0, goInt clock]) (setBlock w mb (.map (es.push ⟨inV p b q, .int .i64 0, clock⟩) (clock + 1))) := by simp [Instr.mapEntry, run_underlying Tryz.underlying201, MapKept.run_getObj_map hbk, Tryz.lawIn.check w _ hkey, h1, MapKept.run_setObj_map _ hbk, Result.andThen, setBlock]
   rw [hE] at e6
   injection e6 with _ e7
   rw [hrun] at e5
   injection e5 with _ e8
   have h9 := hput 0 w' hown
   rw [e8, <- e7] at h9
   refine h9.congr fun p' b' q' => ?_
   unfold updC
   by_cases e : p' = p /\ b' = b /\ q' = q
   ·rw [if_pos e, e.1, e.2.1, e.2.2]
    have h10 := e2.symm.trans (hf p b q hp hb hq)
    injection h10 with h10
    injection h10 with _ h10
    exact e1.trans h10
   ·rw [if_neg e]
  ·have e6 : (Instr.mapEntry 201 (.map (some mb)) (inV p b q)).run Tryz.prog w = .ok (.tuple #[e0.val, goInt e0.born]) (setBlock w mb (.map es clock)) := by
    have hj : es[j]? = some e0 := by simpa using h2
    have hsame : es.modify j (fun e => { e with key := inV p b q }) = es := by
     apply Array.ext'
     rw [Array.toList_modify, ChangeMaps.modify_eq_set _ _ _ _ h2]
     have : ({ e0 with key := inV p b q } : MapEntry) = e0 := by rw [<- h3]
     rw [this]
     exact WideElems.set_self _ _ _ h2
    simp [Instr.mapEntry, run_underlying Tryz.underlying201, MapKept.run_getObj_map hbk, Tryz.lawIn.check w _ hkey, h1, hj, h3, Tryz.lawIn.stays w hkey, hsame, MapKept.run_setObj_map _ hbk, Result.andThen, setBlock]
   rw [hE] at e6
   injection e6 with _ e7
   rw [e7]
   exact ⟨D, (cnt_map hO (by rw [heap_setBlock_same hbk, hbk])).mono (Nat.le_succ n), hf⟩
 ·have hw1 : (setBlock w mb (.map es1 clock1)).heap[mb]? = some (.map es1 clock1) := heap_setBlock_same hbk _
  obtain ⟨es', clock', hr1, hr2⟩ := hS (setBlock w mb (.map es1 clock1)) (.int .i64 z) hw1
  obtain ⟨w', hrun, hown, _⟩ := hO.update Tryz.lawInK Tryz.underlying201 hn (val := .int .i64 z) hkey (plainElem_int Tryz.underlying3 hz)
  rw [hr2] at hrun
  injection hrun with _ e8
  refine ⟨_, hr1, hput z _ (cnt_map hown ?_), (hsb w es _ clock _ hbk).trans (hsb _ es1 _ clock1 _ hw1)⟩
  rw [<- e8, heap_setBlock_same hw1, heap_setBlock_same hbk]
end
end Go.Proofs.YthcpliinddjkhaaGreatDoor
