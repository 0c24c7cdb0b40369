/- Texts of this claim, joined: SyTab, SyGr, SyRow2, SyBin. -/
import Derived.Test.YtladdlkfnfdhaaaDoorPart2
import Derived.Test.YtladdlkfnfdhaaaDoorPart3
import Derived.Test.YtladdlkfnfdhaaaDoorPart5
import Derived.Deep.DeepCutAuto
import Derived.Test.YtladdlkfnfdhaaaDoorPart4
namespace Go.Proofs.YtladdlkfnfdhaaaDoor
section
open Go.RowKit Go.Maps
attribute [local go_sem ↓] Go.wp_at_zero Go.wp_at_succ
theorem Tryd.infoSt8 : (Tryd.prog.info? 42).map (fun i => (i.zero, i.size, i.bytes)) = some (some (.agg #[.int .i64 0, .int .i64 0]), 2, 16) := by kernel_rfl
/-- The cells of a new list of m steps. -/
def madeSt (m : Nat) : Array Value := madeCells #[.int .i64 0, .int .i64 0] (m * 2)
theorem madeSt_eq (m : Nat) : (madeSt m).toList = BSteps.C (List.replicate m (0, 0)) := by
  apply List.ext_getElem?
  intro j
  by_cases hj : j < m * 2
  · have h1 := BSteps.C_at (List.replicate m (0, 0)) (j / 2) (0, 0) (by rw [List.getElem?_replicate, if_pos (by omega)]) (j % 2) (Nat.mod_lt _ (by decide))
    rw [show j / 2 * 2 + j % 2 = j by omega] at h1
    rw [h1, Array.getElem?_toList]
    unfold madeSt madeCells
    have h2 : j % 2 = 0 ∨ j % 2 = 1 := by omega
    rcases h2 with e | e <;> simp [hj, e, BSteps.enc]
  · rw [List.getElem?_eq_none (by simp [madeSt, madeCells]; omega), List.getElem?_eq_none (by rw [BSteps.C_len, List.length_replicate]; omega)]
theorem makeS2 (m : Nat) (hm : m ≤ 1000000) (w : World) : (Instr.makeSlice 39 (.int .i64 (m : Int)) (.int .i64 (m : Int))).run Tryd.prog w = .ok (.slice (some ⟨w.heap.size, 0, none⟩) m m) (w.alloc (.cells (madeSt m) 42)) := by
  obtain ⟨i0, hi0, hz0, hz1, hz2⟩ := info_parts Tryd.infoSt8
  have h := run_makeSlice (P := Tryd.prog) w 39 42 i0 _ Tryd.underlying39 hi0 hz0 .i64 .i64 (m : Int) (m : Int) (by omega) (Int.le_refl _) (by rw [hz1]; omega) (by rw [hz2]; omega) (by omega)
  rw [h, hz1]
  simp [madeSt, Value.cells]
/-- A table in memory, its box at bt. -/
structure TbAt (w wx : World) (bt bs bb m nb : Nat) (ss : List BSteps.El) (cs : List Int) : Prop where
  box : wx.heap[bt]? = some (.cells #[.slice (some ⟨bs, 0, none⟩) m m, .slice (some ⟨bb, 0, none⟩) nb nb] 61 (0, 0))
  up : w.heap.size < bt
  res : wx.heap[w.heap.size]? = some (.cells #[.slice none 0 0, .slice none 0 0] 61 (0, 0))
  steps : Arr 42 w wx bs (BSteps.C ss)
  nums : Arr 3 w wx bb (iC cs)
  ls : ss.length = m
  ln : cs.length = nb
theorem TbAt.below {w wx w' : World} {bt bs bb m nb : Nat} {ss : List BSteps.El} {cs : List Int} (h : TbAt w wx bt bs bb m nb ss cs) (hb : Below wx.heap.size wx w') : TbAt w w' bt bs bb m nb ss cs :=
  ⟨(hb.block _ (t_lt h.box)).trans h.box, h.up, (hb.block _ (t_lt h.res)).trans h.res, h.steps.below hb, h.nums.below hb, h.ls, h.ln⟩
theorem TbAt.cells {w wx : World} {bt bs bb m nb : Nat} {ss : List BSteps.El} {cs : List Int} (h : TbAt w wx bt bs bb m nb ss cs) : wx.cell? ⟨bt, 0, none⟩ = some (.slice (some ⟨bs, 0, none⟩) m m) ∧ wx.cell? ⟨bt, 1, none⟩ = some (.slice (some ⟨bb, 0, none⟩) nb nb) := ⟨cell0_of h.box rfl, cell0_of h.box rfl⟩
theorem arr_ne {t1 t2 : TypeId} {w wx : World} {g1 g2 : Nat} {v1 v2 : List Value} (h1 : Arr t1 w wx g1 v1) (h2 : Arr t2 w wx g2 v2) (hne : t1 ≠ t2) : g1 ≠ g2 := fun e => by
  obtain ⟨c1, a1, _⟩ := h1.ids
  obtain ⟨c2, a2, _⟩ := h2.ids
  rw [e, a2] at a1
  injection a1 with a1
  injection a1 with _ a1
  exact hne a1.symm
theorem arr_bk {t1 t2 : TypeId} {w wx : World} {g1 b : Nat} {v1 : List Value} {cs : Array Value} (h1 : Arr t1 w wx g1 v1) (h2 : wx.heap[b]? = some (.cells cs t2 (0, 0))) (hne : t1 ≠ t2) : b ≠ g1 := fun e => by
  obtain ⟨c1, a1, _⟩ := h1.ids
  rw [e, a1] at h2
  injection h2 with a1
  injection a1 with _ a1
  exact hne a1
/-- A number is stored. -/
theorem TbAt.num {w wx : World} {bt bs bb m nb : Nat} {ss : List BSteps.El} {cs : List Int} (h : TbAt w wx bt bs bb m nb ss cs) (i : Nat) (z : Int) : TbAt w (wx.setCell ⟨bb, i, none⟩ (.int .i64 z)) bt bs bb m nb ss (cs.set i z) := by
  refine ⟨(set_other _ _ _ _ _ (arr_bk h.nums h.box (by decide))).trans h.box, h.up, (set_other _ _ _ _ _ (arr_bk h.nums h.res (by decide))).trans h.res, ?_, ?_, h.ls, by rw [List.length_set]; exact h.ln⟩
  · exact h.steps.kept (Kept.setCell _ _ _ _) fun b e => by subst e; exact ⟨h.nums.gu, arr_ne h.nums h.steps (by decide)⟩
  · have h1 := h.nums.set i (.int .i64 z)
    unfold iC at h1 ⊢
    rw [List.map_set]
    exact h1
/-- A step is stored. -/
theorem TbAt.step {w wx : World} {bt bs bb m nb : Nat} {ss : List BSteps.El} {cs : List Int} (h : TbAt w wx bt bs bb m nb ss cs) {i : Nat} (hi : i < m) (z : BSteps.El) : TbAt w ((wx.setCell ⟨bs, i * 2, none⟩ (.int .i64 z.1)).setCell ⟨bs, i * 2 + 1, none⟩ (.int .i64 z.2)) bt bs bb m nb (ss.set i z) cs := by
  have hx := arr_bk h.steps h.box (by decide)
  have hy := arr_bk h.steps h.res (by decide)
  refine ⟨(set_other _ _ _ _ _ hx).trans ((set_other _ _ _ _ _ hx).trans h.box), h.up, (set_other _ _ _ _ _ hy).trans ((set_other _ _ _ _ _ hy).trans h.res), ?_, ?_, by rw [List.length_set]; exact h.ls, h.ln⟩
  · have h1 := (h.steps.set (i * 2) (.int .i64 z.1)).set (i * 2 + 1) (.int .i64 z.2)
    rw [← BSteps.C_set ss (by rw [h.ls]; exact hi) z] at h1
    exact h1
  · exact (h.nums.kept (Kept.setCell _ _ _ _) fun b e => by subst e; exact ⟨h.steps.gu, arr_ne h.steps h.nums (by decide)⟩).kept (Kept.setCell _ _ _ _) fun b e => by subst e; exact ⟨h.steps.gu, arr_ne h.steps h.nums (by decide)⟩
def stp (e : Sy.Ed) : BSteps.El := (e.2.1, e.2.2)
theorem step_done {l : List Sy.Ed} {i m : Nat} {x : Sy.Ed} (hx : l[i]? = some x) (hm : l.length = m) : ((l.take i).map stp ++ List.replicate (m - i) (0, 0)).set i (stp x) = (l.take (i + 1)).map stp ++ List.replicate (m - (i + 1)) (0, 0) := by
  have hi := (List.getElem?_eq_some_iff.1 hx).1
  have hl : ((l.take i).map stp).length = i := by rw [List.length_map, List.length_take]; omega
  have e : m - i = (m - (i + 1)) + 1 := by omega
  rw [List.set_append_right _ _ (by omega), hl, Nat.sub_self, e, List.replicate_succ, List.set_cons_zero, take_succ_of hx, List.map_append, List.append_assoc]
  rfl
theorem al_b (w : World) (a b c d : Obj) : Below w.heap.size w (((w.alloc a).alloc b).alloc c |>.alloc d).drew := (((((Below.refl _ w).alloc (Nat.le_refl _) a).alloc (by simp) b).alloc (by simp; omega) c).alloc (by simp; omega) d).drew
theorem sz1 (w : World) (a : Obj) : (w.alloc a).heap.size = w.heap.size + 1 := by simp
theorem al3 (w : World) (a b c d : Obj) : (((w.alloc a).alloc b).alloc c |>.alloc d).drew.heap[w.heap.size + 1 + 1 + 1]? = some d := by
  have h := heap_alloc_new (((w.alloc a).alloc b).alloc c) d
  rw [sz1, sz1, sz1] at h
  exact h
theorem al2 (w : World) (a b c d : Obj) : (((w.alloc a).alloc b).alloc c |>.alloc d).drew.heap[w.heap.size + 1 + 1]? = some c := by
  have h := heap_alloc_new ((w.alloc a).alloc b) c
  rw [sz1, sz1] at h
  exact (Below.heap_alloc _ _ _ (by rw [sz1, sz1, sz1]; omega)).trans h
theorem al1 (w : World) (a b c d : Obj) : (((w.alloc a).alloc b).alloc c |>.alloc d).drew.heap[w.heap.size + 1]? = some b := by
  have h := heap_alloc_new (w.alloc a) b
  rw [sz1] at h
  exact (Below.heap_alloc _ _ _ (by rw [sz1, sz1, sz1]; omega)).trans ((Below.heap_alloc _ _ _ (by rw [sz1, sz1]; omega)).trans h)
theorem al0 (w : World) (a b c d : Obj) : (((w.alloc a).alloc b).alloc c |>.alloc d).drew.heap[w.heap.size]? = some a :=
  (Below.heap_alloc _ _ _ (by rw [sz1, sz1, sz1]; omega)).trans ((Below.heap_alloc _ _ _ (by rw [sz1, sz1]; omega)).trans ((Below.heap_alloc _ _ _ (by rw [sz1]; omega)).trans (heap_alloc_new w a)))
theorem iC_rep (n : Nat) : List.replicate n (Value.int .i64 0) = iC (List.replicate n 0) := by simp [iC]
theorem tb_start {w wx : World} {bt bs bb m n : Nat} (hbt : wx.heap[bt]? = some (.cells #[.slice (some ⟨bs, 0, none⟩) m m, .slice (some ⟨bb, 0, none⟩) (n + 1) (n + 1)] 61 (0, 0))) (hup : w.heap.size < bt) (hres : wx.heap[w.heap.size]? = some (.cells #[.slice none 0 0, .slice none 0 0] 61 (0, 0)))
    (hb : Below w.heap.size w wx) (hs : wx.heap[bs]? = some (.cells (madeSt m) 42 (0, 0))) (gs : w.heap.size ≤ bs) (hn : wx.heap[bb]? = some (.cells (madeV (.int .i64 0) (n + 1)) 3 (0, 0))) (gn : w.heap.size ≤ bb) (l : List Sy.Ed) : TbAt w wx bt bs bb m (n + 1) ((l.take 0).map stp ++ List.replicate (m - 0) (0, 0)) (Sy.bndL n (l.take 0)) := by
  rw [List.take_zero, Sy.bnd_zero, List.map_nil, List.nil_append, Nat.sub_zero]
  refine ⟨hbt, hup, hres, ⟨hb, ⟨_, hs, madeSt_eq m⟩, gs⟩, ⟨hb, ⟨_, hn, ?_⟩, gn⟩, by simp, by simp⟩
  rw [madeV_eq _ rfl, iC_rep]
set_option maxRecDepth 100000 in
set_option maxHeartbeats 8000000 in
theorem tableOf_any (f : Nat) (vw : Sy.Ed → Sy.Ed) (hV : ViewAt f vw) (n : Nat) (v : Value) (os : List Sy.Ed) (w : World) (hn : n ≤ 100000) (hm : os.length ≤ 100000) (hv : BEdges.Has w v os) (hr : ∀ e ∈ os.map vw, 0 ≤ e.1 ∧ e.1 < (n : Int)) (hs : Sy.Rows (os.map vw)) :
    Calls Tryd.prog 20 #[.int .i64 n, v, .func (.func f) #[] #[]] w fun r w' => ∃ bs bb, r = .returned (.agg #[.slice (some ⟨bs, 0, none⟩) os.length os.length, .slice (some ⟨bb, 0, none⟩) (n + 1) (n + 1)]) ∧ Arr 42 w w' bs (BSteps.C ((os.map vw).map stp)) ∧ Arr 3 w w' bb (iC (Sy.bounds n (os.map vw))) := by
  obtain ⟨he, hV⟩ := hV
  obtain ⟨av, cv, rfl, _⟩ := _root_.id hv
  obtain ⟨m, hM⟩ : ∃ m, m = os.length := ⟨_, rfl⟩
  obtain ⟨l, hl⟩ : ∃ l, l = os.map vw := ⟨_, rfl⟩
  rw [← hl] at hr hs ⊢
  rw [← hM] at hv hm ⊢
  have hll : l.length = m := by rw [hl, List.length_map, hM]
  have HV : Hid _ := And.intro hv (And.intro hV (And.intro hl (And.intro hll (And.intro hr (And.intro hs hM)))))
  have hmk := makeS2 m (by omega)
  have hmi := makeI (n + 1) (by omega)
  have hwr : IntKind.i64.wrap ((n : Int) + 1) = (n : Int) + 1 := by rw [IntKind.wrap_i64]; omega
  have hcast : (((n + 1 : Nat)) : Int) = (n : Int) + 1 := by omega
  rw [hcast] at hmi
  clear hv hV hl hll hr hs hM hcast
  go_enter Tryd.func20, Tryd.ntmps20
  go_upto_region 1 with fail
  go_cut [7] (fun s7 wx => ∃ bt bs bb, s7 = .pointer (some ⟨bt, 0, none⟩) ∧ TbAt w wx bt bs bb m (n + 1) ((l.take 0).map stp ++ List.replicate (m - 0) (0, 0)) (Sy.bndL n (l.take 0)))
  case first =>
    go_region
    all_goals go_wp2_with fail
    all_goals (go_meet; case rel => first | exact ⟨_, _, _, rfl, tb_start (al1 w _ _ _ _) (by omega) (al0 w _ _ _ _) (al_b w _ _ _ _) (al2 w _ _ _ _) (by omega) (al3 w _ _ _ _) (by omega) l⟩ | exact ⟨_, _, _, rfl, tb_start (al1 w _ _ _ _) (by omega) (al0 w _ _ _ _) (al_b w _ _ _ _) (al3 w _ _ _ _) (by omega) (al2 w _ _ _ _) (by omega) l⟩ | exact ⟨_, _, _, rfl, tb_start (al2 w _ _ _ _) (by omega) (al0 w _ _ _ _) (al_b w _ _ _ _) (al1 w _ _ _ _) (by omega) (al3 w _ _ _ _) (by omega) l⟩ | exact ⟨_, _, _, rfl, tb_start (al2 w _ _ _ _) (by omega) (al0 w _ _ _ _) (al_b w _ _ _ _) (al3 w _ _ _ _) (by omega) (al1 w _ _ _ _) (by omega) l⟩ | exact ⟨_, _, _, rfl, tb_start (al3 w _ _ _ _) (by omega) (al0 w _ _ _ _) (al_b w _ _ _ _) (al1 w _ _ _ _) (by omega) (al2 w _ _ _ _) (by omega) l⟩ | exact ⟨_, _, _, rfl, tb_start (al3 w _ _ _ _) (by omega) (al0 w _ _ _ _) (al_b w _ _ _ _) (al2 w _ _ _ _) (by omega) (al1 w _ _ _ _) (by omega) l⟩)
  case rest =>
    obtain ⟨bt, bs, bb, rfl, hT⟩ := hcut
    have HT : Hid _ := hT
    clear hT hmk hmi
    go_wp2_with fail
    go_loopg [22] m (fun q iv wr => ∃ i : Nat, q = m - i ∧ i ≤ m ∧ iv = .int .i64 i ∧ TbAt w wr bt bs bb m (n + 1) ((l.take i).map stp ++ List.replicate (m - i) (0, 0)) (Sy.bndL n (l.take i)))
    case atStart => exact ⟨0, rfl, Nat.zero_le _, rfl, HT.out⟩
    case round =>
      obtain ⟨i, rfl, hi, rfl, hTi⟩ := hrel
      by_cases hlt : i < m
      · obtain ⟨e, hx⟩ : ∃ e, os[i]? = some e := ⟨os[i]'(by have := HV.out.2.2.2.2.2.2; omega), List.getElem?_eq_getElem _⟩
        have hlx : l[i]? = some (vw e) := by rw [HV.out.2.2.1, List.getElem?_map, hx]; rfl
        obtain ⟨a, rfl, z0, z1, z2⟩ := edge_at (HV.out.1.below hTi.steps.bl) hx
        have q0 : (0 : Int) ≤ (i : Int) := by omega
        have q1 : (i : Int) < (m : Int) := by omega
        obtain ⟨hr1, hr2⟩ := HV.out.2.2.2.2.1 (vw e) (List.mem_of_getElem? hlx)
        obtain ⟨q, hq⟩ : ∃ q : Nat, (vw e).1 = (q : Int) := ⟨(vw e).1.toNat, by omega⟩
        have hqn : q < n := by omega
        have hvw := HV.out.2.1 e
        obtain ⟨e0, e1, e2⟩ := e
        obtain ⟨p, hp⟩ : ∃ p, p = vw (e0, e1, e2) := ⟨_, rfl⟩
        rw [← hp] at hvw hlx hq
        obtain ⟨p0, p1, p2⟩ := p
        simp only at hq hvw z0 z1 z2
        subst hq
        unfold edV at hvw
        have HI : Hid _ := And.intro hTi (And.intro hlx hvw)
        clear hTi hlx hx hvw hp hr1 hr2
        go_wp2_with fail
        refine Calls.mono (HI.out.2.2 _) ?_
        rintro r w2 ⟨rfl, hb2⟩
        obtain ⟨w3, hw3⟩ : ∃ w3, w3 = w2.alloc (.cells #[.int .i64 p1, .int .i64 p2] 42) := ⟨_, rfl⟩
        have hb3 : Below wr.heap.size wr w3 := by
          rw [hw3]
          exact (((Below.refl _ wr).alloc (Nat.le_refl _) _).trans (hb2.mono (by simp))).alloc (by have := hb2.size; simp at this; omega) _
        have hg3 : w3.heap[w2.heap.size]? = some (.cells #[.int .i64 p1, .int .i64 p2] 42 (0, 0)) := by rw [hw3]; exact heap_alloc_new w2 _
        have hT3 := HI.out.1.below hb3
        obtain ⟨c0, c1⟩ := hT3.cells
        have s0 : w3.cell? ⟨w2.heap.size, 0, none⟩ = some (.int .i64 p1) := cell0_of hg3 rfl
        have s1 : w3.cell? ⟨w2.heap.size, 1, none⟩ = some (.int .i64 p2) := cell0_of hg3 rfl
        have f0 := hT3.steps.free (i * 2)
        have f1 := hT3.steps.free (i * 2 + 1)
        have f2 := hT3.nums.free (q + 1)
        have hn1 : ¬ bt = bs := arr_bk hT3.steps hT3.box (by decide)
        have hn2 : ¬ bb = bs := fun h => arr_ne hT3.steps hT3.nums (by decide) h.symm
        obtain ⟨o0, ho0⟩ : ∃ o, ((l.take i).map stp ++ List.replicate (m - i) (0, 0))[i]? = some o := ⟨_, List.getElem?_eq_getElem (by rw [hT3.ls]; exact hlt)⟩
        have d0 : w3.cell? ⟨bs, i * 2, none⟩ = some (.int .i64 o0.1) := hT3.steps.cell ((BSteps.C_at _ i o0 ho0 0 (by decide)).trans rfl)
        have d1 : w3.cell? ⟨bs, i * 2 + 1, none⟩ = some (.int .i64 o0.2) := hT3.steps.cell ((BSteps.C_at _ i o0 ho0 1 (by decide)).trans rfl)
        obtain ⟨o1, ho1⟩ : ∃ o, (Sy.bndL n (l.take i))[q + 1]? = some o := ⟨_, List.getElem?_eq_getElem (by rw [hT3.ln]; omega)⟩
        have d2 := hT3.nums.cell (i := q + 1) (x := .int .i64 o1) (by unfold iC; rw [List.getElem?_map, ho1]; rfl)
        have r0 : (0 : Int) ≤ (q : Int) + 1 := by omega
        have r1 : (q : Int) + 1 < (n : Int) + 1 := by omega
        have r2 : ((q : Int) + 1).toNat = q + 1 := by omega
        have r3 : IntKind.i64.wrap ((q : Int) + 1) = (q : Int) + 1 := by rw [IntKind.wrap_i64]; omega
        have r4 : IntKind.i64.wrap ((i : Int) + 1) = (i : Int) + 1 := by rw [IntKind.wrap_i64]; omega
        have H3 : Hid _ := And.intro hT3 hw3
        clear hb2 hb3 hg3 hT3 hw3 ho0 ho1
        go_upto_region 6 with fail
        rw [← H3.out.2]
        go_wp2_with fail
        go_roundg (m - (i + 1))
        case measure => omega
        case rel =>
          have h9 := (H3.out.1.step hlt (p1, p2)).num (q + 1) ((i : Int) + 1)
          rw [show (p1, p2) = stp ((q : Int), p1, p2) from rfl, step_done HI.out.2.1 HV.out.2.2.2.1, Sy.bnd_step HI.out.2.1 rfl] at h9
          exact ⟨i + 1, rfl, by omega, by go_num, h9⟩
      · obtain rfl : i = m := by omega
        have hTm : TbAt w wr bt bs bb i (n + 1) (l.map stp) (Sy.mixL n l 0) := by
          have h9 := hTi
          have hli := HV.out.2.2.2.1
          rw [Nat.sub_self, List.replicate_zero, List.append_nil, List.take_of_length_le (by omega)] at h9
          rw [Sy.mix_zero fun e he => (HV.out.2.2.2.2.1 e he).1]
          exact h9
        have HTm : Hid _ := hTm
        clear hTi hTm
        have q1 : ¬ (i : Int) < (i : Int) := by omega
        go_wp2_with fail
        go_loopg [47] n (fun q iv wr => ∃ st : Nat, q = n - st ∧ st ≤ n ∧ iv = .int .i64 st ∧ TbAt w wr bt bs bb i (n + 1) (l.map stp) (Sy.mixL n l st))
        case atStart => exact ⟨0, rfl, Nat.zero_le _, rfl, HTm.out⟩
        case round =>
          obtain ⟨st, rfl, hst, rfl, hTs⟩ := hrel
          by_cases hlt2 : st < n
          · obtain ⟨c0, c1⟩ := hTs.cells
            have x1 := hTs.nums.cell (i := st + 1) (x := .int .i64 (Sy.lastOf l (st : Int) : Nat)) (by
              unfold iC
              rw [List.getElem?_map, Sy.mix_at (by omega), if_neg (by omega), show ((st + 1 : Nat) : Int) - 1 = (st : Int) by omega]
              rfl)
            have x0 := hTs.nums.cell (i := st) (x := .int .i64 (Sy.cnt l (st : Int) : Nat)) (by
              unfold iC
              rw [List.getElem?_map, Sy.mix_at (by omega), if_pos (Nat.le_refl _)]
              rfl)
            have f1 := hTs.nums.free (st + 1)
            have hms := Sy.mix_step (n := n) (st := st) HV.out.2.2.2.2.2.1
            obtain ⟨A, hA⟩ : ∃ A, A = Sy.lastOf l (st : Int) := ⟨_, rfl⟩
            obtain ⟨B, hB⟩ : ∃ B, B = Sy.cnt l (st : Int) := ⟨_, rfl⟩
            rw [← hA, ← hB] at hms
            rw [← hA] at x1
            rw [← hB] at x0
            have r0 : (0 : Int) ≤ (st : Int) + 1 := by omega
            have r1 : (st : Int) + 1 < (n : Int) + 1 := by omega
            have r2 : ((st : Int) + 1).toNat = st + 1 := by omega
            have r3 : IntKind.i64.wrap ((st : Int) + 1) = (st : Int) + 1 := by rw [IntKind.wrap_i64]; omega
            have r5 : (0 : Int) ≤ (st : Int) := by omega
            have r6 : (st : Int) < (n : Int) + 1 := by omega
            have r7 : (st : Int) < (n : Int) := by omega
            have HS : Hid _ := And.intro hTs hms
            clear hTs hms hA hB c0
            go_wp2_with fail
            go_region
            all_goals go_wp2_with fail
            go_roundg (n - (st + 1))
            case measure => omega
            case rel =>
              refine ⟨st + 1, rfl, by omega, by go_num, ?_⟩
              have h9 := (HS.out.1.num (st + 1) ((max A B : Nat) : Int)).below (Below.refl _ _).drew
              rw [HS.out.2] at h9
              have e9 : max (A : Int) (B : Int) = ((max A B : Nat) : Int) := by omega
              rw [e9]
              exact h9
          · obtain rfl : st = n := by omega
            obtain ⟨c0, c1⟩ := hTs.cells
            have d0 : wr.cell? ⟨w.heap.size, 0, none⟩ = some (.slice none 0 0) := cell0_of hTs.res rfl
            have d1 : wr.cell? ⟨w.heap.size, 1, none⟩ = some (.slice none 0 0) := cell0_of hTs.res rfl
            have f0 := blk_free hTs.res 0
            have f1 := blk_free hTs.res 1
            have HS : Hid _ := hTs
            clear hTs
            have r7 : ¬ (st : Int) < (st : Int) := by omega
            go_wp2_with fail
            have hres := HS.out.res
            have g1 : ((wr.setCell ⟨w.heap.size, 0, none⟩ (.slice (some ⟨bs, 0, none⟩) i i)).setCell ⟨w.heap.size, 1, none⟩ (.slice (some ⟨bb, 0, none⟩) (st + 1) (st + 1))).heap[w.heap.size]? = some (.cells #[.slice (some ⟨bs, 0, none⟩) i i, .slice (some ⟨bb, 0, none⟩) (st + 1) (st + 1)] 61 (0, 0)) := heap_setCell_same _ _ 1 _ _ _ (heap_setCell_same _ _ 0 _ _ _ hres)
            have k1 := Kept.setCell wr w.heap.size 0 (.slice (some ⟨bs, 0, none⟩) i i)
            have k2 := Kept.setCell (wr.setCell ⟨w.heap.size, 0, none⟩ (.slice (some ⟨bs, 0, none⟩) i i)) w.heap.size 1 (.slice (some ⟨bb, 0, none⟩) (st + 1) (st + 1))
            have n1 := arr_bk HS.out.steps hres (by decide)
            have n2 := arr_bk HS.out.nums hres (by decide)
            have hs9 := (HS.out.steps.kept k1 fun b e => by subst e; exact ⟨Nat.le_refl _, n1⟩).kept k2 fun b e => by subst e; exact ⟨Nat.le_refl _, n1⟩
            have hn9 := (HS.out.nums.kept k1 fun b e => by subst e; exact ⟨Nat.le_refl _, n2⟩).kept k2 fun b e => by subst e; exact ⟨Nat.le_refl _, n2⟩
            rw [Sy.mix_full] at hn9
            generalize ((wr.setCell ⟨w.heap.size, 0, none⟩ (.slice (some ⟨bs, 0, none⟩) i i)).setCell ⟨w.heap.size, 1, none⟩ (.slice (some ⟨bb, 0, none⟩) (st + 1) (st + 1))) = wf at g1 hs9 hn9 ⊢
            have y0 : wf.cell? ⟨w.heap.size, 0, none⟩ = some (.slice (some ⟨bs, 0, none⟩) i i) := cell0_of g1 rfl
            have y1 : wf.cell? ⟨w.heap.size, 1, none⟩ = some (.slice (some ⟨bb, 0, none⟩) (st + 1) (st + 1)) := cell0_of g1 rfl
            clear c0 c1 d0 d1 f0 f1
            exact bodyPost_ret (v := .agg #[.slice (some ⟨bs, 0, none⟩) i i, .slice (some ⟨bb, 0, none⟩) (st + 1) (st + 1)]) (by simp [results, Tryd.results20, go_sem, y0, y1]) rfl ⟨bs, bb, rfl, hs9, hn9⟩
end
section
open Go.RowKit Go.Maps
attribute [local go_sem ↓] Go.wp_at_zero Go.wp_at_succ
/-- A block from B on that holds just these cells. -/
def Blk (ty : TypeId) (B : Nat) (w : World) (g : Nat) (vs : List Value) : Prop := (∃ cs, w.heap[g]? = some (.cells cs ty (0, 0)) ∧ cs.toList = vs) ∧ B ≤ g
theorem Blk.of_arr {ty : TypeId} {w wr : World} {g : Nat} {vs : List Value} (h : Arr ty w wr g vs) : Blk ty w.heap.size wr g vs := ⟨h.ids, h.gu⟩
theorem Blk.lt {ty : TypeId} {B : Nat} {w : World} {g : Nat} {vs : List Value} (h : Blk ty B w g vs) : g < w.heap.size := by
  obtain ⟨⟨cs, hc, _⟩, _⟩ := h
  exact t_lt hc
theorem Blk.at {ty : TypeId} {B : Nat} {w w' : World} {g : Nat} {vs : List Value} (h : Blk ty B w g vs) (hb : w'.heap[g]? = w.heap[g]?) : Blk ty B w' g vs := by
  obtain ⟨⟨cs, hc, hx⟩, hg⟩ := h
  exact ⟨⟨cs, hb.trans hc, hx⟩, hg⟩
theorem Blk.below {ty : TypeId} {B : Nat} {w w' : World} {g : Nat} {vs : List Value} (h : Blk ty B w g vs) (hb : Below w.heap.size w w') : Blk ty B w' g vs := h.at (hb.block _ h.lt)
theorem Blk.cell {ty : TypeId} {B : Nat} {w : World} {g : Nat} {vs : List Value} (h : Blk ty B w g vs) {i : Nat} {x : Value} (hi : vs[i]? = some x) : w.cell? ⟨g, i, none⟩ = some x := by
  obtain ⟨⟨cs, hc, hx⟩, _⟩ := h
  refine cell0_of hc ?_
  rw [← Array.getElem?_toList, hx]
  exact hi
theorem Blk.base {ty : TypeId} {B B' : Nat} {w : World} {g : Nat} {vs : List Value} (h : Blk ty B w g vs) (hb : B' ≤ B) : Blk ty B' w g vs := ⟨h.1, Nat.le_trans hb h.2⟩
/-- A table as a value, and in memory. -/
def tabV (bs bb m n : Nat) : Value := .agg #[.slice (some ⟨bs, 0, none⟩) m m, .slice (some ⟨bb, 0, none⟩) (n + 1) (n + 1)]
structure Tb (w : World) (B bs bb n : Nat) (l : List Sy.Ed) : Prop where
  steps : Blk 42 B w bs (BSteps.C (l.map stp))
  nums : Blk 3 B w bb (iC (Sy.bounds n l))
theorem Tb.below {w w' : World} {B bs bb n : Nat} {l : List Sy.Ed} (h : Tb w B bs bb n l) (hb : Below w.heap.size w w') : Tb w' B bs bb n l := ⟨h.steps.below hb, h.nums.below hb⟩
theorem Tb.kept {w w' : World} {B bs bb n : Nat} {l : List Sy.Ed} {F : Nat → Prop} (h : Tb w B bs bb n l) (hk : Kept F w w') (h1 : ¬ F bs) (h2 : ¬ F bb) : Tb w' B bs bb n l := ⟨h.steps.at (hk.block _ h.steps.lt h1), h.nums.at (hk.block _ h.nums.lt h2)⟩
/-- The steps of a state; none of what is no state. -/
def Sy.rowOf (n : Nat) (l : List Sy.Ed) (i : Int) : List BSteps.El := if 0 ≤ i ∧ i < (n : Int) then Sy.steps l i else []
theorem map_stp (l : List Sy.Ed) (i : Int) (h : Sy.Rows l) : Sy.steps l i = ((l.map stp).drop (Sy.cnt l i)).take (Sy.cnt l (i + 1) - Sy.cnt l i) := by
  unfold Sy.steps
  rw [Sy.row_piece h i, List.map_take, List.map_drop]
  rfl
theorem rowOf_len (n : Nat) (l : List Sy.Ed) (i : Int) : (Sy.rowOf n l i).length ≤ l.length := by
  unfold Sy.rowOf
  split
  · exact Sy.steps_len l i
  · simp
theorem hasS_nil (w : World) (c : Nat) : BSteps.Has w (.slice none 0 c) [] := ⟨none, c, rfl, fun j u h => by simp [BSteps.C] at h⟩
theorem hasS_none (w : World) (a : Option Addr) (c : Nat) : BSteps.Has w (.slice a 0 c) [] := ⟨a, c, rfl, fun j u h => by simp [BSteps.C] at h⟩
/-- A piece of a table's steps. -/
theorem piece_has {w : World} {B bs : Nat} {zs : List BSteps.El} (h : Blk 42 B w bs (BSteps.C zs)) (i k c : Nat) (hk : i + k ≤ zs.length) : BSteps.Has w (.slice (some ⟨bs, i * 2, none⟩) k c) ((zs.drop i).take k) := by
  have hl : ((zs.drop i).take k).length = k := by rw [List.length_take, List.length_drop]; omega
  refine ⟨some ⟨bs, i * 2, none⟩, c, by rw [hl], fun j u hj => ⟨_, rfl, ?_⟩⟩
  have hj2 : j < k * 2 := by have := (List.getElem?_eq_some_iff.1 hj).1; rw [BSteps.C_len, hl] at this; exact this
  obtain ⟨z, hz⟩ : ∃ z, ((zs.drop i).take k)[j / 2]? = some z := ⟨_, List.getElem?_eq_getElem (by rw [hl]; omega)⟩
  have h1 := BSteps.C_at _ (j / 2) z hz (j % 2) (Nat.mod_lt _ (by decide))
  rw [show j / 2 * 2 + j % 2 = j by omega, hj] at h1
  have hz2 : zs[i + j / 2]? = some z := by
    rw [List.getElem?_take_of_lt (by omega), List.getElem?_drop] at hz
    exact hz
  have h2 := BSteps.C_at _ (i + j / 2) z hz2 (j % 2) (Nat.mod_lt _ (by decide))
  rw [← h1] at h2
  have h3 := h.cell h2
  rw [show (i + j / 2) * 2 + j % 2 = i * 2 + j by omega] at h3
  rw [Addr.add_lit]
  exact h3
set_option maxRecDepth 100000 in
set_option maxHeartbeats 4000000 in
theorem row_any (bs bb m n B : Nat) (l : List Sy.Ed) (i : Int) (w : World) (hn : n ≤ 100000) (hl : l.length = m) (hs : Sy.Rows l) (hT : Tb w B bs bb n l) :
    Calls Tryd.prog 25 #[tabV bs bb m n, .int .i64 i] w fun r w' => ∃ v, r = .returned v ∧ (∀ W, Tb W B bs bb n l → BSteps.Has W v (Sy.rowOf n l i)) ∧ Below w.heap.size w w' := by
  obtain ⟨w1, hw1⟩ : ∃ w1, w1 = w.alloc (.cells #[.slice (some ⟨bs, 0, none⟩) m m, .slice (some ⟨bb, 0, none⟩) (n + 1) (n + 1)] 61) := ⟨_, rfl⟩
  have hb1 : Below w.heap.size w w1 := by rw [hw1]; exact (Below.refl _ _).alloc (Nat.le_refl _) _
  have hg1 : w1.heap[w.heap.size]? = some (.cells #[.slice (some ⟨bs, 0, none⟩) m m, .slice (some ⟨bb, 0, none⟩) (n + 1) (n + 1)] 61 (0, 0)) := by rw [hw1]; exact heap_alloc_new w _
  have hT1 := hT.below hb1
  have hB := fun W => below_any i (n : Int) W
  have HB : Hid _ := hB
  have r0 : IntKind.i64.wrap ((n : Int) + 1 - 1) = (n : Int) := by rw [IntKind.wrap_i64]; omega
  unfold tabV Sy.rowOf
  by_cases hi : 0 ≤ i ∧ i < (n : Int)
  · rw [if_pos hi]
    rw [decide_eq_true hi] at HB
    obtain ⟨q, rfl⟩ : ∃ q : Nat, i = (q : Int) := ⟨i.toNat, by omega⟩
    have hqn : q < n := by omega
    have c0 : w1.cell? ⟨w.heap.size, 0, none⟩ = some (.slice (some ⟨bs, 0, none⟩) m m) := cell0_of hg1 rfl
    have c1 : w1.cell? ⟨w.heap.size, 1, none⟩ = some (.slice (some ⟨bb, 0, none⟩) (n + 1) (n + 1)) := cell0_of hg1 rfl
    have x0 := hT1.nums.cell (i := q) (x := .int .i64 (Sy.cnt l (q : Int) : Nat)) (by unfold iC; rw [List.getElem?_map, Sy.bounds_at (by omega)]; rfl)
    have x1 := hT1.nums.cell (i := q + 1) (x := .int .i64 (Sy.cnt l ((q : Int) + 1) : Nat)) (by unfold iC; rw [List.getElem?_map, Sy.bounds_at (by omega)]; rfl)
    have hle := Sy.cnt_mono l (q : Int)
    have hlm := Sy.cnt_le l ((q : Int) + 1)
    have hpc : ∀ W, Tb W B bs bb n l → BSteps.Has W (.slice (some ⟨bs, Sy.cnt l (q : Int) * 2, none⟩) (Sy.cnt l ((q : Int) + 1) - Sy.cnt l (q : Int)) (Sy.cnt l ((q : Int) + 1) - Sy.cnt l (q : Int))) (Sy.steps l q) := fun W hW => by
      rw [map_stp l q hs]
      exact piece_has hW.steps (Sy.cnt l (q : Int)) (Sy.cnt l ((q : Int) + 1) - Sy.cnt l (q : Int)) (Sy.cnt l ((q : Int) + 1) - Sy.cnt l (q : Int)) (by rw [List.length_map]; omega)
    have hz : Sy.cnt l ((q : Int) + 1) - Sy.cnt l (q : Int) = 0 → Sy.steps l q = [] := fun e => by rw [map_stp l q hs, e]; simp
    generalize Sy.cnt l (q : Int) = b at x0 hle hpc hz
    generalize Sy.cnt l ((q : Int) + 1) = e at x1 hle hlm hpc hz
    have r1 : (0 : Int) ≤ (q : Int) := by omega
    have r2 : (q : Int) < (n : Int) + 1 := by omega
    have r3 : (0 : Int) ≤ (q : Int) + 1 := by omega
    have r4 : (q : Int) + 1 < (n : Int) + 1 := by omega
    have r5 : ((q : Int) + 1).toNat = q + 1 := by omega
    have r6 : IntKind.i64.wrap ((q : Int) + 1) = (q : Int) + 1 := by rw [IntKind.wrap_i64]; omega
    have r7 : (0 : Int) ≤ (b : Int) := by omega
    have r8 : (b : Int) ≤ (e : Int) := by omega
    have r9 : (e : Int) ≤ (m : Int) := by omega
    have H1 : Hid _ := And.intro hw1 (And.intro hb1 (And.intro hpc hz))
    clear hw1 hb1 hg1 hT1 hT hB hpc hz hs hl hi
    go_enter Tryd.func25, Tryd.ntmps25
    go_upto_region 1 with fail
    rw [← H1.out.1]
    go_wp2_with (go_at_call 40; refine (HB.out _).mono ?_; rintro r w2 ⟨rfl, hw2⟩; obtain rfl := hw2.symm)
    go_quiet (fail)
    go_wp2_with fail
    · go_ret
      refine ⟨_, rfl, fun W _ => ?_, below_drewN H1.out.2.1 _⟩
      rw [H1.out.2.2.2 (by omega)]
      exact hasS_none _ _ _
    · go_ret
      exact ⟨_, rfl, H1.out.2.2.1, below_drewN H1.out.2.1 _⟩
  · rw [if_neg hi]
    rw [decide_eq_false hi] at HB
    have c1 : w1.cell? ⟨w.heap.size, 1, none⟩ = some (.slice (some ⟨bb, 0, none⟩) (n + 1) (n + 1)) := cell0_of hg1 rfl
    have H1 : Hid _ := And.intro hw1 hb1
    clear hw1 hb1 hg1 hT1 hT hB hs hl hi
    go_enter Tryd.func25, Tryd.ntmps25
    go_upto_region 1 with fail
    rw [← H1.out.1]
    go_wp2_with (go_at_call 40; refine (HB.out _).mono ?_; rintro r w2 ⟨rfl, hw2⟩; obtain rfl := hw2.symm)
    go_ret
    exact ⟨_, rfl, fun W _ => hasS_nil _ _, H1.out.2⟩
/-- A graph in memory: its box, and both tables. -/
structure Gr (w : World) (B g bs bb cs cb n : Nat) (k s : Int) (es : List Sy.Ed) : Prop where
  box : w.heap[g]? = some (.cells #[.int .i64 n, .int .i64 k, .int .i64 s, .slice (some ⟨bs, 0, none⟩) (Sy.nf es).length (Sy.nf es).length, .slice (some ⟨bb, 0, none⟩) (n + 1) (n + 1), .slice (some ⟨cs, 0, none⟩) (Sy.nf es).length (Sy.nf es).length, .slice (some ⟨cb, 0, none⟩) (n + 1) (n + 1)] 66 (0, 0))
  up : B ≤ g
  out : Tb w B bs bb n (Sy.nf es)
  inn : Tb w B cs cb n (Sy.nf ((Sy.nf es).map Sy.turn))
  right : Sy.right n k s es = true
theorem Gr.below {w w' : World} {B g bs bb cs cb n : Nat} {k s : Int} {es : List Sy.Ed} (h : Gr w B g bs bb cs cb n k s es) (hb : Below w.heap.size w w') : Gr w' B g bs bb cs cb n k s es :=
  ⟨(hb.block _ (t_lt h.box)).trans h.box, h.up, h.out.below hb, h.inn.below hb, h.right⟩
theorem right_parts {n k s : Int} {es : List Sy.Ed} (h : Sy.right n k s es = true) : (0 ≤ n ∧ n ≤ 1000) ∧ (1 ≤ k ∧ k ≤ 201) ∧ es.length ≤ 10000 ∧ (n = 0 → s = 0) ∧ (0 < n → 0 ≤ s ∧ s < n) ∧ ∀ e ∈ es, 0 ≤ e.1 ∧ e.1 < n ∧ 0 ≤ e.2.2 ∧ e.2.2 < n ∧ 0 ≤ e.2.1 ∧ e.2.1 < k := by
  unfold Sy.right at h
  simp only [Bool.and_eq_true, decide_eq_true_eq, List.all_eq_true] at h
  obtain ⟨⟨h1, h2⟩, h3⟩ := h
  exact ⟨⟨h1.1, h1.2.1⟩, ⟨h1.2.2.1, h1.2.2.2.1⟩, h1.2.2.2.2, h2.1, h2.2, h3⟩
theorem str_rows {l : List Sy.Ed} (h : Sy.Str l) : Sy.Rows l := by
  induction l with
  | nil => exact .nil
  | cons a r ih =>
    refine List.pairwise_cons.2 ⟨fun b hb => ?_, ih h.tail⟩
    have h1 := h.head b hb
    rw [Sy.lt_iff] at h1
    omega
theorem nf_rows (l : List Sy.Ed) : Sy.Rows (Sy.nf l) := str_rows (Sy.nf_str l)
theorem turn_turn (e : Sy.Ed) : Sy.turn (Sy.turn e) = e := rfl
theorem nf_turn_len (l : List Sy.Ed) : (Sy.nf ((Sy.nf l).map Sy.turn)).length = (Sy.nf l).length := by
  apply Nat.le_antisymm
  · have h := Sy.nf_len ((Sy.nf l).map Sy.turn)
    rw [List.length_map] at h
    exact h
  · have h := Sy.str_len (m := Sy.nf l) (l := (Sy.nf ((Sy.nf l).map Sy.turn)).map Sy.turn) (Sy.nf_str l) (fun x hx => by
      refine List.mem_map.2 ⟨Sy.turn x, ?_, turn_turn x⟩
      rw [Sy.nf_mem]
      exact List.mem_map.2 ⟨x, hx, rfl⟩)
    rw [List.length_map] at h
    exact h
theorem Gr.sizes {w : World} {B g bs bb cs cb n : Nat} {k s : Int} {es : List Sy.Ed} (h : Gr w B g bs bb cs cb n k s es) : n ≤ 1000 ∧ (Sy.nf es).length ≤ 10000 := by
  obtain ⟨⟨_, h1⟩, _, h2, _⟩ := right_parts h.right
  have := Sy.nf_len es
  exact ⟨by omega, by omega⟩
theorem Gr.cells {w : World} {B g bs bb cs cb n : Nat} {k s : Int} {es : List Sy.Ed} (h : Gr w B g bs bb cs cb n k s es) :
    w.cell? ⟨g, 0, none⟩ = some (.int .i64 n) ∧ w.cell? ⟨g, 1, none⟩ = some (.int .i64 k) ∧ w.cell? ⟨g, 2, none⟩ = some (.int .i64 s) ∧ (w.cell? ⟨g, 3, none⟩ = some (.slice (some ⟨bs, 0, none⟩) (Sy.nf es).length (Sy.nf es).length) ∧ w.cell? ⟨g, 4, none⟩ = some (.slice (some ⟨bb, 0, none⟩) (n + 1) (n + 1))) ∧ w.cell? ⟨g, 5, none⟩ = some (.slice (some ⟨cs, 0, none⟩) (Sy.nf es).length (Sy.nf es).length) ∧ w.cell? ⟨g, 6, none⟩ = some (.slice (some ⟨cb, 0, none⟩) (n + 1) (n + 1)) :=
  ⟨cell0_of h.box rfl, cell0_of h.box rfl, cell0_of h.box rfl, ⟨cell0_of h.box rfl, cell0_of h.box rfl⟩, cell0_of h.box rfl, cell0_of h.box rfl⟩
theorem Tryd.eqG (g : Nat) (w : World) : (binOp BinOp.eql 36 (.pointer (some ⟨g, 0, none⟩)) (.pointer none)).run Tryd.prog w = .ok (.bool false) w := by kernel_rfl
/-- The rows of a graph's tables. -/
theorem Gr.row {w : World} {B g bs bb cs cb n : Nat} {k s : Int} {es : List Sy.Ed} (h : Gr w B g bs bb cs cb n k s es) (i : Int) : Calls Tryd.prog 25 #[.agg #[.slice (some ⟨bs, 0, none⟩) (Sy.nf es).length (Sy.nf es).length, .slice (some ⟨bb, 0, none⟩) (n + 1) (n + 1)], .int .i64 i] w fun r w' => ∃ v, r = .returned v ∧ (∀ W, Tb W B bs bb n (Sy.nf es) → BSteps.Has W v (Sy.rowOf n (Sy.nf es) i)) ∧ Below w.heap.size w w' := by
  obtain ⟨h1, h2⟩ := h.sizes
  exact row_any bs bb (Sy.nf es).length n B (Sy.nf es) i w (by omega) rfl (nf_rows _) h.out
theorem Gr.rowIn {w : World} {B g bs bb cs cb n : Nat} {k s : Int} {es : List Sy.Ed} (h : Gr w B g bs bb cs cb n k s es) (i : Int) : Calls Tryd.prog 25 #[.agg #[.slice (some ⟨cs, 0, none⟩) (Sy.nf es).length (Sy.nf es).length, .slice (some ⟨cb, 0, none⟩) (n + 1) (n + 1)], .int .i64 i] w fun r w' => ∃ v, r = .returned v ∧ (∀ W, Tb W B cs cb n (Sy.nf ((Sy.nf es).map Sy.turn)) → BSteps.Has W v (Sy.rowOf n (Sy.nf ((Sy.nf es).map Sy.turn)) i)) ∧ Below w.heap.size w w' := by
  obtain ⟨h1, h2⟩ := h.sizes
  exact row_any cs cb (Sy.nf es).length n B (Sy.nf ((Sy.nf es).map Sy.turn)) i w (by omega) (nf_turn_len es) (nf_rows _) h.inn
set_option maxRecDepth 100000 in
theorem states_any {B g bs bb cs cb n : Nat} {k s : Int} {es : List Sy.Ed} (w : World) (h : Gr w B g bs bb cs cb n k s es) : Calls Tryd.prog 49 #[.pointer (some ⟨g, 0, none⟩)] w fun r w' => r = .returned (.int .i64 n) ∧ w' = w := by
  obtain ⟨c0, _, _, _, _, _⟩ := h.cells
  have hq := Tryd.eqG g
  clear h
  go_enter Tryd.func49, Tryd.ntmps49
  go_wp2
  go_ret
  exact ⟨rfl, rfl⟩
set_option maxRecDepth 100000 in
set_option maxHeartbeats 1000000 in
theorem out_any {B g bs bb cs cb n : Nat} {k s : Int} {es : List Sy.Ed} (i : Int) (w : World) (h : Gr w B g bs bb cs cb n k s es) : Calls Tryd.prog 10 #[.pointer (some ⟨g, 0, none⟩), .int .i64 i] w fun r w' => ∃ u, r = .returned u ∧ BSteps.Own w' w.heap.size u (Sy.rowOf n (Sy.nf es) i) ∧ Below w.heap.size w w' := by
  obtain ⟨_, _, _, ⟨c0, c1⟩, _, _⟩ := h.cells
  have hq := Tryd.eqG g
  have hR := h.row i
  have hTb := h.out
  have hl := rowOf_len n (Sy.nf es) i
  have hs := h.sizes
  have hs2 := nf_turn_len es
  have HR : Hid _ := And.intro hR (And.intro hl (And.intro hs (And.intro hs2 hTb)))
  obtain ⟨L, hL⟩ : ∃ L, L = (Sy.nf es).length := ⟨_, rfl⟩
  rw [← hL] at c0 HR
  clear h hR hL hl hs hs2 hTb
  go_enter Tryd.func10, Tryd.ntmps10
  go_wp2_with fail
  refine Calls.mono HR.out.1 ?_
  rintro r w1 ⟨v, rfl, hvW, hb⟩
  have hv := hvW w1 (HR.out.2.2.2.2.below hb)
  clear hvW
  have hC := cloneSteps_any v _ w1 (by have := HR.out.2; omega) hv
  have HC : Hid _ := And.intro hC hb
  obtain ⟨av, cv, rfl, _⟩ := hv
  clear hC hb
  go_wp2_with fail
  refine Calls.mono HC.out.1 ?_
  rintro r w2 ⟨u, rfl, hO, hb2⟩
  have H2 : Hid _ := And.intro hO hb2
  obtain ⟨au, cu, rfl⟩ := row_shape hO
  clear hO hb2
  go_wp2_with fail
  go_ret
  exact ⟨_, rfl, row_base H2.out.1 HC.out.2.size, HC.out.2.trans (H2.out.2.mono HC.out.2.size)⟩
set_option maxRecDepth 100000 in
set_option maxHeartbeats 1000000 in
theorem in_any {B g bs bb cs cb n : Nat} {k s : Int} {es : List Sy.Ed} (i : Int) (w : World) (h : Gr w B g bs bb cs cb n k s es) : Calls Tryd.prog 63 #[.pointer (some ⟨g, 0, none⟩), .int .i64 i] w fun r w' => ∃ u, r = .returned u ∧ BSteps.Own w' w.heap.size u (Sy.rowOf n (Sy.nf ((Sy.nf es).map Sy.turn)) i) ∧ Below w.heap.size w w' := by
  obtain ⟨_, _, _, _, c0, c1⟩ := h.cells
  have hq := Tryd.eqG g
  have hR := h.rowIn i
  have hTb := h.inn
  have hl := rowOf_len n (Sy.nf ((Sy.nf es).map Sy.turn)) i
  have hs := h.sizes
  have hs2 := nf_turn_len es
  have HR : Hid _ := And.intro hR (And.intro hl (And.intro hs (And.intro hs2 hTb)))
  obtain ⟨L, hL⟩ : ∃ L, L = (Sy.nf es).length := ⟨_, rfl⟩
  rw [← hL] at c0 HR
  clear h hR hL hl hs hs2 hTb
  go_enter Tryd.func63, Tryd.ntmps63
  go_wp2_with fail
  refine Calls.mono HR.out.1 ?_
  rintro r w1 ⟨v, rfl, hvW, hb⟩
  have hv := hvW w1 (HR.out.2.2.2.2.below hb)
  clear hvW
  have hC := cloneSteps_any v _ w1 (by have := HR.out.2; omega) hv
  have HC : Hid _ := And.intro hC hb
  obtain ⟨av, cv, rfl, _⟩ := hv
  clear hC hb
  go_wp2_with fail
  refine Calls.mono HC.out.1 ?_
  rintro r w2 ⟨u, rfl, hO, hb2⟩
  have H2 : Hid _ := And.intro hO hb2
  obtain ⟨au, cu, rfl⟩ := row_shape hO
  clear hO hb2
  go_wp2_with fail
  go_ret
  exact ⟨_, rfl, row_base H2.out.1 HC.out.2.size, HC.out.2.trans (H2.out.2.mono HC.out.2.size)⟩
end
section
open Go.RowKit Go.Maps
attribute [local go_sem ↓] Go.wp_at_zero Go.wp_at_succ
set_option maxRecDepth 100000 in
set_option maxHeartbeats 4000000 in
theorem row2_any (bs bb m n B : Nat) (l : List Sy.Ed) (i : Int) (w : World) (hn : n ≤ 100000) (hl : l.length = m) (hs : Sy.Rows l) (hT : Tb w B bs bb n l) :
    Calls Tryd.prog 25 #[tabV bs bb m n, .int .i64 i] w fun r w' => ∃ v, r = .returned v ∧ (∀ W, Tb W B bs bb n l → BSteps.Has W v (Sy.rowOf n l i)) ∧ (∃ a k c, v = .slice a k c ∧ k ≤ c) ∧ Below w.heap.size w w' := by
  obtain ⟨w1, hw1⟩ : ∃ w1, w1 = w.alloc (.cells #[.slice (some ⟨bs, 0, none⟩) m m, .slice (some ⟨bb, 0, none⟩) (n + 1) (n + 1)] 61) := ⟨_, rfl⟩
  have hb1 : Below w.heap.size w w1 := by rw [hw1]; exact (Below.refl _ _).alloc (Nat.le_refl _) _
  have hg1 : w1.heap[w.heap.size]? = some (.cells #[.slice (some ⟨bs, 0, none⟩) m m, .slice (some ⟨bb, 0, none⟩) (n + 1) (n + 1)] 61 (0, 0)) := by rw [hw1]; exact heap_alloc_new w _
  have hT1 := hT.below hb1
  have hB := fun W => below_any i (n : Int) W
  have HB : Hid _ := hB
  have r0 : IntKind.i64.wrap ((n : Int) + 1 - 1) = (n : Int) := by rw [IntKind.wrap_i64]; omega
  unfold tabV Sy.rowOf
  by_cases hi : 0 ≤ i ∧ i < (n : Int)
  · rw [if_pos hi]
    rw [decide_eq_true hi] at HB
    obtain ⟨q, rfl⟩ : ∃ q : Nat, i = (q : Int) := ⟨i.toNat, by omega⟩
    have hqn : q < n := by omega
    have c0 : w1.cell? ⟨w.heap.size, 0, none⟩ = some (.slice (some ⟨bs, 0, none⟩) m m) := cell0_of hg1 rfl
    have c1 : w1.cell? ⟨w.heap.size, 1, none⟩ = some (.slice (some ⟨bb, 0, none⟩) (n + 1) (n + 1)) := cell0_of hg1 rfl
    have x0 := hT1.nums.cell (i := q) (x := .int .i64 (Sy.cnt l (q : Int) : Nat)) (by unfold iC; rw [List.getElem?_map, Sy.bounds_at (by omega)]; rfl)
    have x1 := hT1.nums.cell (i := q + 1) (x := .int .i64 (Sy.cnt l ((q : Int) + 1) : Nat)) (by unfold iC; rw [List.getElem?_map, Sy.bounds_at (by omega)]; rfl)
    have hle := Sy.cnt_mono l (q : Int)
    have hlm := Sy.cnt_le l ((q : Int) + 1)
    have hpc : ∀ W, Tb W B bs bb n l → BSteps.Has W (.slice (some ⟨bs, Sy.cnt l (q : Int) * 2, none⟩) (Sy.cnt l ((q : Int) + 1) - Sy.cnt l (q : Int)) (Sy.cnt l ((q : Int) + 1) - Sy.cnt l (q : Int))) (Sy.steps l q) := fun W hW => by
      rw [map_stp l q hs]
      exact piece_has hW.steps (Sy.cnt l (q : Int)) (Sy.cnt l ((q : Int) + 1) - Sy.cnt l (q : Int)) (Sy.cnt l ((q : Int) + 1) - Sy.cnt l (q : Int)) (by rw [List.length_map]; omega)
    have hz : Sy.cnt l ((q : Int) + 1) - Sy.cnt l (q : Int) = 0 → Sy.steps l q = [] := fun e => by rw [map_stp l q hs, e]; simp
    generalize Sy.cnt l (q : Int) = b at x0 hle hpc hz
    generalize Sy.cnt l ((q : Int) + 1) = e at x1 hle hlm hpc hz
    have r1 : (0 : Int) ≤ (q : Int) := by omega
    have r2 : (q : Int) < (n : Int) + 1 := by omega
    have r3 : (0 : Int) ≤ (q : Int) + 1 := by omega
    have r4 : (q : Int) + 1 < (n : Int) + 1 := by omega
    have r5 : ((q : Int) + 1).toNat = q + 1 := by omega
    have r6 : IntKind.i64.wrap ((q : Int) + 1) = (q : Int) + 1 := by rw [IntKind.wrap_i64]; omega
    have r7 : (0 : Int) ≤ (b : Int) := by omega
    have r8 : (b : Int) ≤ (e : Int) := by omega
    have r9 : (e : Int) ≤ (m : Int) := by omega
    have H1 : Hid _ := And.intro hw1 (And.intro hb1 (And.intro hpc hz))
    clear hw1 hb1 hg1 hT1 hT hB hpc hz hs hl hi
    go_enter Tryd.func25, Tryd.ntmps25
    go_upto_region 1 with fail
    rw [← H1.out.1]
    go_wp2_with (go_at_call 40; refine (HB.out _).mono ?_; rintro r w2 ⟨rfl, hw2⟩; obtain rfl := hw2.symm)
    go_quiet (fail)
    go_wp2_with fail
    · go_ret
      refine ⟨_, rfl, fun W _ => ?_, ⟨_, _, _, rfl, by omega⟩, below_drewN H1.out.2.1 _⟩
      rw [H1.out.2.2.2 (by omega)]
      exact hasS_none _ _ _
    · go_ret
      exact ⟨_, rfl, H1.out.2.2.1, ⟨_, _, _, rfl, by omega⟩, below_drewN H1.out.2.1 _⟩
  · rw [if_neg hi]
    rw [decide_eq_false hi] at HB
    have c1 : w1.cell? ⟨w.heap.size, 1, none⟩ = some (.slice (some ⟨bb, 0, none⟩) (n + 1) (n + 1)) := cell0_of hg1 rfl
    have H1 : Hid _ := And.intro hw1 hb1
    clear hw1 hb1 hg1 hT1 hT hB hs hl hi
    go_enter Tryd.func25, Tryd.ntmps25
    go_upto_region 1 with fail
    rw [← H1.out.1]
    go_wp2_with (go_at_call 40; refine (HB.out _).mono ?_; rintro r w2 ⟨rfl, hw2⟩; obtain rfl := hw2.symm)
    go_ret
    exact ⟨_, rfl, fun W _ => hasS_nil _ _, ⟨_, _, _, rfl, Nat.le_refl _⟩, H1.out.2⟩
end
section
open Go.RowKit Go.Maps
attribute [local go_sem ↓] Go.wp_at_zero Go.wp_at_succ
set_option maxRecDepth 100000 in
theorem ends1_any (a b l : Int) (w : World) : Calls Tryd.prog 42 #[.agg #[.int .i64 a, .int .i64 b], .int .i64 l] w fun r w' => r = .returned (.int .i64 (cmpI a l)) ∧ Below w.heap.size w w' := by
  obtain ⟨w1, hw1⟩ : ∃ w1, w1 = w.alloc (.cells #[.int .i64 a, .int .i64 b] 42) := ⟨_, rfl⟩
  have hb1 : Below w.heap.size w w1 := by rw [hw1]; exact (Below.refl _ _).alloc (Nat.le_refl _) _
  have hg1 : w1.heap[w.heap.size]? = some (.cells #[.int .i64 a, .int .i64 b] 42 (0, 0)) := by rw [hw1]; exact heap_alloc_new w _
  have c0 : w1.cell? ⟨w.heap.size, 0, none⟩ = some (.int .i64 a) := cell0_of hg1 rfl
  have H1 : Hid _ := And.intro hw1 (And.intro hb1 (cmpI_any a l w1))
  clear hw1 hb1 hg1
  go_enter Tryd.func42, Tryd.ntmps42
  go_upto_region 1 with fail
  rw [← H1.out.1]
  go_wp2_with fail
  refine Calls.mono H1.out.2.2 ?_
  rintro r w2 ⟨rfl, hw2⟩
  obtain rfl := hw2.symm
  clear hw2
  go_wp2_with fail
  go_ret
  exact ⟨rfl, H1.out.2.1⟩
theorem cmpI_neg (a b : Int) : cmpI a b < 0 ↔ a < b := by unfold cmpI; split <;> (try split) <;> omega
/-- Where a label begins in a row. -/
structure BinAt (zs : List BSteps.El) (l : Int) (i j : Nat) : Prop where
  lo : ∀ (k : Nat) (z : BSteps.El), k < i → zs[k]? = some z → z.1 < l
  hi : ∀ (k : Nat) (z : BSteps.El), j ≤ k → zs[k]? = some z → l ≤ z.1
theorem bin_begin (zs : List BSteps.El) (l : Int) : BinAt zs l 0 zs.length := ⟨fun k z h => by omega, fun k z h hz => by have := (List.getElem?_eq_some_iff.1 hz).1; omega⟩
theorem BinAt.left {zs : List BSteps.El} {l : Int} {i j h : Nat} (hB : BinAt zs l i j) (hs : zs.Pairwise fun x y => x.1 ≤ y.1) {z : BSteps.El} (hz : zs[h]? = some z) (hl : z.1 < l) : BinAt zs l (h + 1) j := by
  refine ⟨fun k y hk hy => ?_, hB.hi⟩
  by_cases e : k = h
  · subst e; rw [hz] at hy; cases hy; exact hl
  · obtain ⟨a1, a2⟩ := List.getElem?_eq_some_iff.1 hy
    obtain ⟨b1, b2⟩ := List.getElem?_eq_some_iff.1 hz
    have := List.pairwise_iff_getElem.1 hs k h a1 b1 (by omega)
    rw [a2, b2] at this
    omega
theorem BinAt.right {zs : List BSteps.El} {l : Int} {i j h : Nat} (hB : BinAt zs l i j) (hs : zs.Pairwise fun x y => x.1 ≤ y.1) {z : BSteps.El} (hz : zs[h]? = some z) (hl : ¬ z.1 < l) : BinAt zs l i h := by
  refine ⟨hB.lo, fun k y hk hy => ?_⟩
  by_cases e : k = h
  · subst e; rw [hz] at hy; cases hy; omega
  · obtain ⟨a1, a2⟩ := List.getElem?_eq_some_iff.1 hy
    obtain ⟨b1, b2⟩ := List.getElem?_eq_some_iff.1 hz
    have := List.pairwise_iff_getElem.1 hs h k b1 a1 (by omega)
    rw [a2, b2] at this
    omega
set_option maxRecDepth 100000 in
set_option maxHeartbeats 4000000 in
theorem bin_any (v : Value) (zs : List BSteps.El) (l : Int) (w : World) (hv : BSteps.Has w v zs) (hs : zs.Pairwise fun x y => x.1 ≤ y.1) (hn : zs.length ≤ 100000) :
    Calls Tryd.prog 41 #[v, .int .i64 l, .func (.func 42) #[] #[]] w fun r w' => ∃ (i : Nat) (b : Bool), r = .returned (.tuple #[.int .i64 i, .bool b]) ∧ i ≤ zs.length ∧ BinAt zs l i i ∧ Below w.heap.size w w' := by
  have hv0 := hv
  obtain ⟨ao, cap, rfl, _⟩ := hv0
  obtain ⟨n, hN⟩ : ∃ n, n = zs.length := ⟨_, rfl⟩
  rw [← hN] at hn hv ⊢
  have HV : Hid (BSteps.Has w (.slice ao n cap) zs ∧ n = zs.length ∧ zs.Pairwise (fun x y => x.1 ≤ y.1) ∧ BinAt zs l 0 n) := ⟨hv, hN, hs, by rw [hN]; exact bin_begin zs l⟩
  clear hv hN hs
  go_enter Tryd.func41, Tryd.ntmps41
  go_wp2_with fail
  go_loopg [9, 10] n (fun q iv jv wr => ∃ i j : Nat, q = j - i ∧ i ≤ j ∧ j ≤ n ∧ iv = .int .i64 i ∧ jv = .int .i64 j ∧ BinAt zs l i j ∧ Below w.heap.size w wr)
  case atStart => exact ⟨0, n, by omega, Nat.zero_le _, Nat.le_refl _, rfl, rfl, HV.out.2.2.2, Below.refl _ _⟩
  case round =>
    obtain ⟨i, j, rfl, hij, hjn, rfl, rfl, hB, hb⟩ := hrel
    obtain ⟨wq, rfl⟩ : ∃ wq, wq = wr := ⟨_, rfl⟩
    by_cases hlt : i < j
    · obtain ⟨h, hh⟩ : ∃ h, h = (i + j) / 2 := ⟨_, rfl⟩
      have h1 : i ≤ h := by omega
      have h2 : h < j := by omega
      have k0 : (i : Int) < (j : Int) := by omega
      have kh : ((i : Int) + (j : Int)) / 2 = (h : Int) := by omega
      obtain ⟨z, hz⟩ : ∃ z, zs[h]? = some z := ⟨zs[h]'(by have := HV.out.2.1; omega), List.getElem?_eq_getElem _⟩
      obtain ⟨a, rfl, d0, d1⟩ := step_at (HV.out.1.below hb) hz
      have k1 : (0 : Int) ≤ (h : Int) := by omega
      have k2 : (h : Int) < (n : Int) := by omega
      have hB1 := fun (hl : z.1 < l) => hB.left HV.out.2.2.1 hz hl
      have hB2 := fun (hl : ¬ z.1 < l) => hB.right HV.out.2.2.1 hz hl
      obtain ⟨z1, z2⟩ := z
      simp only at d0 d1 hB1 hB2
      have hE := ends1_any z1 z2 l wq
      have hcn := cmpI_neg z1 l
      obtain ⟨c, hc⟩ : ∃ c, c = cmpI z1 l := ⟨_, rfl⟩
      rw [← hc] at hE hcn
      have HE : Hid _ := And.intro hE (And.intro hb (And.intro hB1 hB2))
      clear hE hb hB1 hB2 hB hz hc hh
      by_cases hcl : c < 0
      · have HL : Hid (z1 < l) := hcn.1 hcl
        have k3 : decide (c < 0) = true := decide_eq_true hcl
        clear hcn
        go_wp2_with fail
        refine Calls.mono HE.out.1 ?_
        rintro r w2 ⟨rfl, hb2⟩
        have H2 : Hid _ := hb2
        clear hb2
        go_wp2_with fail
        go_roundg (j - (h + 1))
        case measure => omega
        case rel => exact ⟨h + 1, j, rfl, by omega, hjn, by go_num, rfl, HE.out.2.2.1 HL.out, HE.out.2.1.trans (H2.out.mono HE.out.2.1.size)⟩
      · have HL : Hid (¬ z1 < l) := fun h => hcl (hcn.2 h)
        have k3 : decide (c < 0) = false := decide_eq_false hcl
        clear hcn
        go_wp2_with fail
        refine Calls.mono HE.out.1 ?_
        rintro r w2 ⟨rfl, hb2⟩
        have H2 : Hid _ := hb2
        clear hb2
        go_wp2_with fail
        go_roundg (h - i)
        case measure => omega
        case rel => exact ⟨i, h, rfl, h1, by omega, rfl, rfl, HE.out.2.2.2 HL.out, HE.out.2.1.trans (H2.out.mono HE.out.2.1.size)⟩
    · obtain rfl : i = j := by omega
      have k0 : ¬ (i : Int) < (i : Int) := by omega
      by_cases hin : i < n
      · obtain ⟨z, hz⟩ : ∃ z, zs[i]? = some z := ⟨zs[i]'(by have := HV.out.2.1; omega), List.getElem?_eq_getElem _⟩
        obtain ⟨a, rfl, d0, d1⟩ := step_at (HV.out.1.below hb) hz
        have k1 : (0 : Int) ≤ (i : Int) := by omega
        have k2 : (i : Int) < (n : Int) := by omega
        have k3 : decide ((i : Int) < (n : Int)) = true := decide_eq_true k2
        obtain ⟨z1, z2⟩ := z
        simp only at d0 d1
        have hE := ends1_any z1 z2 l wq
        generalize cmpI z1 l = c at hE
        have HE : Hid _ := And.intro hE (And.intro hb hB)
        clear hE hb hB hz
        go_wp2_with fail
        refine Calls.mono HE.out.1 ?_
        rintro r w2 ⟨rfl, hb2⟩
        have H2 : Hid _ := hb2
        clear hb2
        go_wp2_with fail
        go_ret2
        exact ⟨i, _, rfl, hjn, HE.out.2.2, HE.out.2.1.trans (H2.out.mono HE.out.2.1.size)⟩
      · have k2 : ¬ (i : Int) < (n : Int) := by omega
        have HE : Hid _ := And.intro hb hB
        clear hb hB
        go_wp2_with fail
        go_ret2
        exact ⟨i, .inl rfl, hjn, HE.out.2, HE.out.1⟩
end
end Go.Proofs.YtladdlkfnfdhaaaDoor
