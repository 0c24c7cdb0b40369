/- Texts of this claim, joined: LentI, SyLawForms, SyLent. -/
import Derived.Test.YthkidoplmbekbaaDoorPart2
import Derived.Test.YthkidoplmbekbaaDoorPart0
import Derived.Test.YthkidoplmbekbaaDoorPart1
import Derived.Test.YthkidoplmbekbaaDoorPart3
import Derived.Deep.RegionHeld3
import Derived.Test.YthkidoplmbekbaaDoorPart7
/- Contracts of the book's LentInts and StaysInts. -/
namespace Go.Proofs.YthkidoplmbekbaaDoor
open Go.RowKit Go.Maps
attribute [local go_sem ↓] Go.wp_at_zero Go.wp_at_succ
/-- Numbers with two marks behind them. -/
def Lent (w : World) (B g cap : Nat) (zs : List Int) : Prop := w.ownsRow B 3 1 (.slice (some ⟨g, 0, none⟩) (zs.length + 2) cap) (zs.length + 2) (iC zs ++ [.int .i64 (-77), .int .i64 (-78)])
theorem Lent.at {w w' : World} {B g cap : Nat} {zs : List Int} (h : Lent w B g cap zs) (hb : w'.heap[g]? = w.heap[g]?) : Lent w' B g cap zs := trow_at h fun i hi => by
  simp only [Value.ownBlock, Option.some.injEq] at hi
  subst hi; exact hb
theorem Lent.lt {w : World} {B g cap : Nat} {zs : List Int} (h : Lent w B g cap zs) : B ≤ g ∧ g < w.heap.size := World.ownsRow.lt h g rfl
theorem Lent.cap {w : World} {B g cap : Nat} {zs : List Int} (h : Lent w B g cap zs) : zs.length + 2 ≤ cap ∧ cap ≤ maxLen := by
  rcases h.2 with ⟨h1, _⟩ | ⟨g', cap', cur, h1, _, _, h2, h3, _⟩
  · cases h1
  · injection h1 with e1 e2 e3
    subst e3; exact ⟨h2, h3⟩
theorem Lent.blk {w : World} {B g cap : Nat} {zs : List Int} (h : Lent w B g cap zs) : ∃ c, w.heap[g]? = some (.cells c 3 (0, 0)) := row_cells h rfl
theorem Lent.has {w : World} {B g cap : Nat} {zs : List Int} (h : Lent w B g cap zs) : HasI w (.slice (some ⟨g, 0, none⟩) zs.length cap) zs := by
  refine ⟨_, cap, rfl, fun i z hi => ⟨_, rfl, ?_⟩⟩
  have hlt := (List.getElem?_eq_some_iff.1 hi).1
  rw [addz, World.ownsRow.cellAt h i (by omega), List.getElem?_append_left (by simp [iC]; omega)]
  simp [iC, hi]
theorem Lent.marks {w : World} {B g cap : Nat} {zs : List Int} (h : Lent w B g cap zs) : w.cell? ⟨g, zs.length, none⟩ = some (.int .i64 (-77)) ∧ w.cell? ⟨g, zs.length + 1, none⟩ = some (.int .i64 (-78)) := by
  constructor
  · rw [World.ownsRow.cellAt h _ (by omega), List.getElem?_append_right (by simp [iC])]; simp [iC]
  · rw [World.ownsRow.cellAt h _ (by omega), List.getElem?_append_right (by simp [iC])]; simp [iC]
theorem two_one (a b : Int) : ∀ x ∈ [Value.int .i64 a, .int .i64 b], x.oneCell' = true := fun x hx => by
  simp only [List.mem_cons, List.not_mem_nil, or_false] at hx
  rcases hx with rfl | rfl <;> rfl
set_option maxRecDepth 100000 in
set_option maxHeartbeats 1000000 in
theorem lent_any (v : Value) (zs : List Int) (w : World) (hH : HasI w v zs) (hn : zs.length * 8 ≤ 140737488351232) :
    Calls Tryd.prog 15 #[v] w fun r w' => ∃ g cap, r = .returned (.slice (some ⟨g, 0, none⟩) zs.length cap) ∧ Lent w' w.heap.size g cap zs ∧ Below w.heap.size w w' := by
  obtain ⟨i0, hi0, hz0, hz1, hz2⟩ := info_parts Tryd.infoI3
  obtain ⟨ao, c, rfl, _⟩ := id hH
  have HC : Hid _ := hasI_copy hH
  have ln : zs.length ≤ maxLen := by unfold maxLen; omega
  have ln8 : zs.length * 8 ≤ 140737488355328 := by omega
  have ln2 : zs.length + 2 ≤ maxLen := by unfold maxLen; omega
  have ln82 : (zs.length + 2) * 8 ≤ 140737488355328 := by omega
  clear hH
  go_enter Tryd.func15, Tryd.ntmps15
  go_wp2_with (first | (at_builtin; refine wpList_copy_at _ rfl _ _ 38 rfl w.heap.size 3 i0 (.int .i64 0) 1 8 Tryd.underlying38 hi0 hz0 hz1 hz2 rfl (by decide) rfl ao zs.length c (iC zs) rfl HC.out.1 (iC_length _) HC.out.2 (iC_one _) ln ln8 (Nat.le_refl _) ?_; intro v1 w1 hown1 hgrow1 hat1; have H1 : Hid _ := And.intro hown1 (tgrown0 hgrow1); clear hown1 hgrow1 hat1 HC) | (at_builtin; refine wpList_append_own_at _ rfl _ _ 38 rfl w.heap.size 3 i0 (.int .i64 0) 1 8 Tryd.underlying38 hi0 hz0 hz1 hz2 rfl (by decide) v1 zs.length (iC zs) rfl (H1.out.1.alloc _) ⟨w1.heap.size, 0, none⟩ 2 2 [.int .i64 (-77), .int .i64 (-78)] rfl rfl (World.news_of_block (cs := #[.int .i64 (-77), .int .i64 (-78)]) (t := 3) (fr := (0, 0)) (heap_alloc_new w1 _)) (two_one _ _) ln2 ln82 (by have := H1.out.2.size; simp; omega) ?_; intro v2 w2 hown2 hgrow2 hnil2 hat2; obtain ⟨g, cap, rfl, _, hcap⟩ := hown2.form (by omega); have hL : Lent w2 w.heap.size g cap zs := hown2; have hcp := hL.cap; have hcp1 : (0 : Int) ≤ (zs.length : Int) := (by omega); have hcp2 : (zs.length : Int) ≤ (cap : Int) := (by omega); have H2 : Hid _ := And.intro hL (lines_belowI H1.out.1 H1.out.2 hgrow2); clear hown2 hgrow2 hnil2 hat2 hL))
  go_ret
  exact ⟨g, cap, rfl, H2.out.1, H2.out.2⟩
set_option maxRecDepth 100000 in
set_option maxHeartbeats 1000000 in
theorem stays_lent (B g cap : Nat) (vb : Value) (zs : List Int) (w : World) (hn : zs.length ≤ 1000000000000000) (hA : Lent w B g cap zs) (hB : HasI w vb zs) :
    Calls Tryd.prog 23 #[.slice (some ⟨g, 0, none⟩) zs.length cap, vb] w fun e w' => e = .returned (.bool true) ∧ Below w.heap.size w w' := by
  have hS := sameInts_b _ vb zs zs w hn hn hA.has hB
  rw [beq_self_eq_true] at hS
  obtain ⟨c0, c1⟩ := hA.marks
  have hcap := hA.cap.1
  clear hA
  obtain ⟨ao, cap', rfl, _⟩ := hB
  obtain ⟨n, hN⟩ : ∃ n, n = zs.length := ⟨_, rfl⟩
  rw [← hN] at hn hcap hS c0 c1 ⊢
  clear hN
  have p1 : (n : Int) + 2 ≤ (cap : Int) := by omega
  have p2 : (0 : Int) ≤ (n : Int) + 2 := by omega
  have p3 : (n : Int) < (n : Int) + 2 := by omega
  have p4 : (n : Int) + 1 < (n : Int) + 2 := by omega
  have p5 : (0 : Int) ≤ (n : Int) := by omega
  have p6 : (0 : Int) ≤ (n : Int) + 1 := by omega
  go_enter Tryd.func23, Tryd.ntmps23
  go_wp2_with fail
  refine hS.mono ?_
  rintro r w1 ⟨rfl, hb⟩
  have d0 := (hb.cell (World.block_lt_of_cell? w _ c0)).trans c0
  have d1 := (hb.cell (World.block_lt_of_cell? w _ c1)).trans c1
  have HB : Hid (Below w.heap.size w w1) := hb
  clear hb c0 c1 hS
  go_wp2_with fail
  go_ret
  exact ⟨rfl, HB.out⟩
end Go.Proofs.YthkidoplmbekbaaDoor
/- SystemForms, out of contracts of the program's own functions. -/
namespace Go.Proofs.YthkidoplmbekbaaDoor
open Go.RowKit Go.Maps
attribute [local go_sem ↓] Go.wp_at_zero Go.wp_at_succ
set_option maxRecDepth 100000 in
set_option maxHeartbeats 4000000 in
theorem lawForms_of (hCa : PCanon) (hCl : PClasses) (hTo : PTogether) (n k s : Int) (ae : Option Addr) (me ce : Nat) (v : Value) (zs : List Int) (w : World) (hA : PAlive w) (hv : HasI w v zs) (hw : I64s zs) :
    Calls Tryd.prog 4 #[sysV n k s (.slice ae me ce), v] w fun r w' => r = .returned (.bool true) ∧ Below w.heap.size w w' := by
  obtain ⟨w0, hw0⟩ : ∃ w0, w0 = w.alloc (.cells #[.int .i64 n, .int .i64 k, .int .i64 s, .slice ae me ce] 24) := ⟨_, rfl⟩
  have hb0 : Below w.heap.size w w0 := by rw [hw0]; exact (Below.refl _ _).alloc (Nat.le_refl _) _
  have hg0 : w0.heap[w.heap.size]? = some (.cells #[.int .i64 n, .int .i64 k, .int .i64 s, .slice ae me ce] 24 (0, 0)) := by rw [hw0]; exact heap_alloc_new w _
  have hv0 := hv
  obtain ⟨ao, cap, rfl, _⟩ := hv0
  obtain ⟨m, hm⟩ : ∃ m, m = zs.length := ⟨_, rfl⟩
  by_cases hlen : m ≤ 1200
  · have hL := lent_any _ zs w0 (hv.below hb0) (by omega)
    have q1 : ¬ (1200 : Int) < (m : Int) := by omega
    have HM : Hid (m = zs.length) := hm
    rw [← hm] at hL hv ⊢
    have H0 : Hid _ := And.intro hL (And.intro hb0 (And.intro hg0 (And.intro hw0 hv)))
    have HP : Hid _ := And.intro hA (And.intro hCa (And.intro hCl (And.intro hTo hw)))
    unfold sysV
    clear hL hb0 hg0 hw0 hv hm hA hCa hCl hTo hw
    go_enter Tryd.func4, Tryd.ntmps4
    go_wp2_with fail
    rw [← H0.out.2.2.2.1]
    refine Calls.mono H0.out.1 ?_
    rintro r w1 ⟨g, cl, rfl, hLe, hb1⟩
    have hcap := hLe.cap
    have hb01 : Below w.heap.size w w1 := H0.out.2.1.trans (hb1.mono H0.out.2.1.size)
    have hCc := HP.out.2.1 _ zs w1 hLe.has (by have := HM.out; omega) HP.out.2.2.2.2
    rw [← HM.out] at hCc
    have hg1 := (hb1.block _ (t_lt H0.out.2.2.1)).trans H0.out.2.2.1
    have H1 : Hid _ := And.intro hCc (And.intro hLe (And.intro hb01 (And.intro hg1 (H0.out.2.2.2.2.below hb01))))
    clear hLe hb1 hcap hb01 hCc hg1 H0
    go_wp2_with fail
    refine Calls.mono H1.out.1 ?_
    rintro r w2 ⟨u, rfl, hO, hb2⟩
    obtain ⟨au, cu, rfl⟩ := row_shape hO
    obtain ⟨cz, hcz⟩ : ∃ cz, cz = natI (Sy.canon zs) := ⟨_, rfl⟩
    obtain ⟨tg, htg⟩ : ∃ tg, tg = Sy.together zs := ⟨_, rfl⟩
    obtain ⟨cb, hcb⟩ : ∃ cb, cb = Sy.classes n zs := ⟨_, rfl⟩
    have hlz : cz.length ≤ 1200 := by rw [hcz]; unfold natI Sy.canon; rw [List.length_map, Sy.canonG_len]; have := HM.out; omega
    have hg2 := (hb2.block _ (t_lt H1.out.2.2.2.1)).trans H1.out.2.2.2.1
    have hb02 : Below w.heap.size w w2 := H1.out.2.2.1.trans (hb2.mono H1.out.2.2.1.size)
    have hLe2 := H1.out.2.1.at (hb2.block _ H1.out.2.1.lt.2)
    have hv2 := H1.out.2.2.2.2.below hb2
    have hmm := HM.out
    rw [← hcz] at hO ⊢
    obtain ⟨x0, x1, x2, x3⟩ := four_cells hg2
    have y1 : (cz == cz) = true := beq_self_eq_true _
    have y2 : (cb == cb) = true := by simp
    have y3 : ((tg : Int) == (tg : Int)) = true := by simp
    have HA : Hid (∀ W, Below w2.heap.size w2 W → Calls Tryd.prog 6 #[] W fun r w' => r = .returned (.bool true) ∧ Below W.heap.size W w') := (fun W h => HP.out.1 W (hb02.trans (h.mono hb02.size)) : ∀ W, Below w2.heap.size w2 W → Calls Tryd.prog 6 #[] W fun r w' => r = .returned (.bool true) ∧ Below W.heap.size W w')
    have hK : ∀ W, Below w2.heap.size w2 W → Calls Tryd.prog 18 #[.slice ao m cap] W fun r w' => ∃ u, r = .returned u ∧ OwnI w' W.heap.size u cz ∧ Below W.heap.size W w' := fun W h => by rw [hcz]; exact refCanon_any _ zs W (by rw [hmm]; rw [hmm] at hv2; exact hv2.below h) (by omega)
    have HK : Hid _ := hK
    have hPc : ∀ W, Below w2.heap.size w2 W → Calls Tryd.prog 19 #[sysV n k s (.slice ae me ce), .slice (some ⟨g, 0, none⟩) m cl] W fun r w' => r = .returned (.bool cb) ∧ Below W.heap.size W w' := fun W h => by rw [hcb, hmm]; exact HP.out.2.2.1 n k s _ _ zs W (hLe2.has.below h) (by omega) HP.out.2.2.2.2
    have hRc : ∀ W, Below w2.heap.size w2 W → Calls Tryd.prog 20 #[sysV n k s (.slice ae me ce), .slice ao m cap] W fun r w' => r = .returned (.bool cb) ∧ Below W.heap.size W w' := fun W h => by rw [hcb]; exact refClasses_any n k s _ _ zs W (by rw [hmm]; rw [hmm] at hv2; exact hv2.below h) (by omega)
    have hPt : ∀ W, Below w2.heap.size w2 W → Calls Tryd.prog 21 #[.slice (some ⟨g, 0, none⟩) m cl] W fun r w' => r = .returned (.int .i64 tg) ∧ Below W.heap.size W w' := fun W h => by rw [htg, hmm]; exact HP.out.2.2.2.1 _ zs W (hLe2.has.below h) (by omega) HP.out.2.2.2.2
    have hRt : ∀ W, Below w2.heap.size w2 W → Calls Tryd.prog 22 #[.slice ao m cap] W fun r w' => r = .returned (.int .i64 tg) ∧ Below W.heap.size W w' := fun W h => by rw [htg]; exact refTogether_any _ zs W (by rw [hmm]; rw [hmm] at hv2; exact hv2.below h) (by omega)
    have hSt : ∀ W, Below w2.heap.size w2 W → Calls Tryd.prog 23 #[.slice (some ⟨g, 0, none⟩) m cl, .slice ao m cap] W fun r w' => r = .returned (.bool true) ∧ Below W.heap.size W w' := fun W h => by rw [hmm]; exact stays_lent _ g cl _ zs W (by omega) (hLe2.at (h.block _ hLe2.lt.2)) (by rw [hmm] at hv2; exact hv2.below h)
    have HR : Hid _ := And.intro hPc (And.intro hRc (And.intro hPt (And.intro hRt hSt)))
    have HO : Hid (OwnI w2 w1.heap.size (.slice au cz.length cu) cz) := hO
    have HB : Hid _ := hb02
    unfold sysV at HR
    clear hK hPc hRc hPt hRt hSt hO hb02 hLe2 hv2 hmm hcz htg hcb hg2 hb2 HP H1
    go_upto_region 5 with fail
    go_region_held3 (fun w' => (w'.cell? ⟨w.heap.size, 0, none⟩ = some (.int .i64 n) ∧ w'.cell? ⟨w.heap.size, 1, none⟩ = some (.int .i64 k) ∧ w'.cell? ⟨w.heap.size, 2, none⟩ = some (.int .i64 s) ∧ w'.cell? ⟨w.heap.size, 3, none⟩ = some (.slice ae me ce)) ∧ Hid (Below w2.heap.size w2 w')) (first | exact rg_up4 hb3 (by assumption) | exact ⟨⟨x0, x1, x2, x3⟩, ((Below.refl _ _).drew : Below w2.heap.size w2 w2.drew)⟩ | go_keep)
      ((first
        | (go_at_call 6; refine (HA.out _ (rg_b (by assumption))).mono ?_; rintro r w3 ⟨rfl, hb3⟩)
        | (go_at_call 18; refine (HK.out _ (rg_b (by assumption))).mono ?_; rintro r w3 ⟨u3, rfl, hO3, hb3⟩; obtain ⟨a3, c3, rfl⟩ := row_shape hO3)
        | (go_at_call 17; refine (sameInts_b _ _ cz cz _ (by omega) (by omega) (HO.out.has.below (rg_b (by assumption))) hO3.has).mono ?_; rintro r w3 ⟨rfl, hb3⟩)
        | (go_at_call 19; refine (HR.out.1 _ (rg_b (by assumption))).mono ?_; rintro r w3 ⟨rfl, hb3⟩)
        | (go_at_call 20; refine (HR.out.2.1 _ (rg_b (by assumption))).mono ?_; rintro r w3 ⟨rfl, hb3⟩)
        | (go_at_call 21; refine (HR.out.2.2.1 _ (rg_b (by assumption))).mono ?_; rintro r w3 ⟨rfl, hb3⟩)
        | (go_at_call 22; refine (HR.out.2.2.2.1 _ (rg_b (by assumption))).mono ?_; rintro r w3 ⟨rfl, hb3⟩)
        | (go_at_call 23; refine (HR.out.2.2.2.2 _ (rg_b (by assumption))).mono ?_; rintro r w3 ⟨rfl, hb3⟩)
        | fail))
    all_goals
      have HF : Hid (Below w2.heap.size w2 w3) := (rg_b (by assumption) : Below w2.heap.size w2 w3)
      clear hb3
      go_wp2_with fail
      go_ret
      exact ⟨rfl, HB.out.trans (HF.out.mono HB.out.size)⟩
  · have q1 : (1200 : Int) < (m : Int) := by omega
    have HP : Hid _ := And.intro hA (And.intro hb0 hw0)
    rw [← hm]
    unfold sysV
    clear hb0 hg0 hw0 hv hm hA hCa hCl hTo hw
    go_enter Tryd.func4, Tryd.ntmps4
    go_wp2_with fail
    rw [← HP.out.2.2]
    refine Calls.mono (HP.out.1 _ HP.out.2.1) ?_
    rintro r w1 ⟨rfl, hb1⟩
    have HB : Hid _ := hb1
    clear hb1
    go_wp2_with fail
    go_ret
    exact ⟨rfl, HP.out.2.1.trans (HB.out.mono HP.out.2.1.size)⟩
theorem lawForms_sys (hCa : PCanon) (hCl : PClasses) (hTo : PTogether) (n k s : Int) (u v : Value) (es : List Sy.Ed) (zs : List Int) (w : World) (hA : PAlive w) (hu : HasE w u es) (hv : HasI w v zs) (hw : I64s zs) :
    Calls Tryd.prog 4 #[sysV n k s u, v] w fun r w' => r = .returned (.bool true) ∧ Below w.heap.size w w' := by
  obtain ⟨ae, ce, rfl, _⟩ := hu
  exact lawForms_of hCa hCl hTo n k s ae _ ce v zs w hA hv hw
end Go.Proofs.YthkidoplmbekbaaDoor
/- Contracts of the book's SameSystem, Lent and Stays. -/
namespace Go.Proofs.YthkidoplmbekbaaDoor
open Go.RowKit Go.Maps
attribute [local go_sem ↓] Go.wp_at_zero Go.wp_at_succ
set_option maxRecDepth 100000 in
set_option maxHeartbeats 2000000 in
theorem sameSystem_b (n k s : Int) (va vb : Value) (es : List Sy.Ed) (w : World) (hn : es.length ≤ 1000000) (hA : BEdges.Has w va es) (hB : BEdges.Has w vb es) :
    Calls Tryd.prog 13 #[sysV n k s va, sysV n k s vb] w fun e w' => e = .returned (.bool true) ∧ Below w.heap.size w w' := by
  obtain ⟨w1, hw1⟩ : ∃ w1, w1 = (w.alloc (.cells #[.int .i64 n, .int .i64 k, .int .i64 s, va] 24)).alloc (.cells #[.int .i64 n, .int .i64 k, .int .i64 s, vb] 24) := ⟨_, rfl⟩
  have hb1 : Below w.heap.size w w1 := by rw [hw1]; exact ((Below.refl _ _).alloc (Nat.le_refl _) _).alloc (by simp) _
  have H1 : Hid _ := And.intro (BEdges.same_b va vb es w1 (by omega) (hA.below hb1) (hB.below hb1)) (And.intro hb1 hw1)
  obtain ⟨ao, cap, rfl, _⟩ := hA
  obtain ⟨bo, cbp, rfl, _⟩ := hB
  unfold sysV
  have nn : ¬ w.heap.size + 1 = w.heap.size := by omega
  clear hb1 hw1
  go_enter Tryd.func13, Tryd.ntmps13
  go_wp2_with fail
  rw [← H1.out.2.2]
  refine Calls.mono H1.out.1 ?_
  rintro e w2 ⟨rfl, hb2⟩
  have H2 : Hid _ := H1.out.2.1.trans (hb2.mono H1.out.2.1.size)
  clear hb2
  go_wp2_with fail
  go_ret
  exact ⟨rfl, H2.out⟩
/-- The marks behind what is lent. -/
def mk3 : List Sy.Ed := [(-7, 0, 0), (-7, 1, 0), (-7, 2, 0)]
/-- A list with room behind it, in which the marks stand. -/
def LentE (w : World) (B : Nat) (u : Value) (es : List Sy.Ed) : Prop := ∃ g cap, u = .slice (some ⟨g, 0, none⟩) es.length cap ∧ es.length + 3 ≤ cap ∧ BEdges.Own w B (.slice (some ⟨g, 0, none⟩) (es.length + 3) cap) (es ++ mk3)
theorem LentE.below {w w' : World} {B : Nat} {u : Value} {es : List Sy.Ed} (h : LentE w B u es) (hb : Below w.heap.size w w') : LentE w' B u es := by
  obtain ⟨g, cap, h1, h2, h3⟩ := h
  exact ⟨g, cap, h1, h2, trow_at h3 fun b hb' => hb.block b (h3.lt b hb').2⟩
theorem LentE.hasE {w : World} {B : Nat} {u : Value} {es : List Sy.Ed} (h : LentE w B u es) : HasE w u es := by
  obtain ⟨g, cap, rfl, h2, h3⟩ := h
  have h4 := HasE.of_own h3
  have h5 := hasE_take h4 es.length (by rw [List.length_append]; omega)
  rw [List.take_left' rfl] at h5
  exact h5
set_option maxRecDepth 100000 in
set_option maxHeartbeats 4000000 in
theorem lentS_any (n k s : Int) (v : Value) (es : List Sy.Ed) (w : World) (hn : es.length ≤ 1000000) (hv : BEdges.Has w v es) :
    Calls Tryd.prog 7 #[sysV n k s v] w fun e w' => ∃ u, e = .returned (sysV n k s u) ∧ LentE w' w.heap.size u es ∧ Below w.heap.size w w' := by
  obtain ⟨i0, hi0, hz0, hz1, hz2⟩ := info_parts BEdges.Tryd.infoE
  obtain ⟨w1, hw1⟩ : ∃ w1, w1 = (w.alloc (.cells #[.int .i64 n, .int .i64 k, .int .i64 s, v] 24)).alloc (.cells #[.int .i64 0, .int .i64 0, .int .i64 0, .slice none 0 0] 24) := ⟨_, rfl⟩
  have hb1 : Below w.heap.size w w1 := by rw [hw1]; exact ((Below.refl _ _).alloc (Nat.le_refl _) _).alloc (by simp) _
  have hg : w1.heap[w.heap.size + 1]? = some (.cells #[.int .i64 0, .int .i64 0, .int .i64 0, .slice none 0 0] 24 (0, 0)) := by rw [hw1]; exact two_alloc w _ _
  have hg0 : w1.heap[w.heap.size]? = some (.cells #[.int .i64 n, .int .i64 k, .int .i64 s, v] 24 (0, 0)) := by rw [hw1, Below.heap_alloc _ _ _ (by simp)]; exact heap_alloc_new w _
  obtain ⟨ao, cap, rfl, _⟩ := _root_.id hv
  have hC := BEdges.copy_of (hv.below hb1)
  obtain ⟨m, hm⟩ : ∃ m, m = es.length := ⟨_, rfl⟩
  rw [← hm] at hC hn hg0 hw1 ⊢
  have hcl : (BEdges.C es).length = m * 3 := by rw [BEdges.C_len, hm]
  have HC : Hid _ := And.intro hC (And.intro hb1 (And.intro hg (And.intro hg0 (And.intro hw1 hm))))
  have hL1 : m ≤ maxLen := by unfold maxLen; omega
  have hL8 : m * 24 ≤ 140737488355328 := by omega
  have hle1 : w.heap.size ≤ w1.heap.size := hb1.size
  unfold sysV
  clear hv hC hb1 hg hg0 hw1 hm
  go_enter Tryd.func7, Tryd.ntmps7
  go_upto_region 1 with fail
  rw [← HC.out.2.2.2.2.1]
  obtain ⟨x0, x1, x2, x3⟩ := four_cells HC.out.2.2.2.1
  go_wp2_with (at_builtin; refine wpList_copy_at _ rfl _ _ 22 rfl w.heap.size 47 i0 (.agg #[.int .i64 0, .int .i64 0, .int .i64 0]) 3 24 Tryd.underlying22 hi0 hz0 hz1 hz2 rfl (by decide) rfl ao m cap (BEdges.C es) rfl HC.out.1.1 hcl HC.out.1.2 (BEdges.C_one _) hL1 hL8 hle1 ?_; intro v2 w2 hown2 hgrow2 hat2; have H2 : Hid _ := And.intro hown2 (tgrown0 hgrow2); clear hown2 hgrow2 hat2)
  clear x0 x1 x2 x3
  go_loopg [3, 4] 3 (fun q lv iv wr => ∃ (i : Nat), q = 3 - i ∧ i ≤ 3 ∧ iv = .int .i64 i ∧ BEdges.Own wr w.heap.size lv (es ++ mk3.take i) ∧ Below w.heap.size w wr ∧ wr.heap[w.heap.size + 1]? = some (.cells #[.int .i64 0, .int .i64 0, .int .i64 0, .slice none 0 0] 24 (0, 0)) ∧ wr.heap[w.heap.size]? = some (.cells #[.int .i64 n, .int .i64 k, .int .i64 s, .slice ao m cap] 24 (0, 0)))
  case atStart => exact ⟨0, rfl, by omega, rfl, by rw [List.take_zero, List.append_nil]; unfold BEdges.Own; rw [← HC.out.2.2.2.2.2]; exact H2.out.1, HC.out.2.1.trans (H2.out.2.mono hle1), (H2.out.2.block _ (t_lt HC.out.2.2.1)).trans HC.out.2.2.1, (H2.out.2.block _ (t_lt HC.out.2.2.2.1)).trans HC.out.2.2.2.1⟩
  case round =>
    obtain ⟨i, rfl, hi, rfl, hO, hb, hg, hg0⟩ := hrel
    clear H2
    have hlen : (es ++ mk3.take i).length = m + i := by rw [List.length_append, List.length_take, ← HC.out.2.2.2.2.2]; show m + min i 3 = _; omega
    obtain ⟨al, cl, rfl⟩ := row_shape hO
    rw [hlen]
    obtain ⟨N, hN⟩ : ∃ N, N = m + i := ⟨_, rfl⟩
    have hO' : wr.ownsRow w.heap.size 47 3 (.slice al N cl) N (BEdges.C (es ++ mk3.take i)) := by have h1 := hO; unfold BEdges.Own at h1; rw [hlen, ← hN] at h1; exact h1
    rw [← hN]
    have HR : Hid _ := And.intro hO' (And.intro hb (And.intro hg (And.intro hg0 hN)))
    have hNl : N ≤ 1000003 := by omega
    clear hO hO' hb hg hg0 hlen hN
    by_cases hlt : i < 3
    · have q1 : (i : Int) < 3 := by omega
      have hml : N + 1 ≤ maxLen := by unfold maxLen; omega
      have hby : (N + 1) * 24 ≤ 140737488355328 := by omega
      have hle : w.heap.size ≤ (wr.alloc (.cells #[.int .i64 (-7), .int .i64 i, .int .i64 0] 47)).heap.size := by have := HR.out.2.1.size; simp; omega
      go_wp2_with (at_builtin; refine wpList_append_own_at _ rfl _ _ 22 rfl w.heap.size 47 i0 (.agg #[.int .i64 0, .int .i64 0, .int .i64 0]) 3 24 Tryd.underlying22 hi0 hz0 hz1 hz2 rfl (by decide) (.slice al N cl) N (BEdges.C (es ++ mk3.take i)) rfl (HR.out.1.alloc _) ⟨wr.heap.size, 0, none⟩ 1 1 [.int .i64 (-7), .int .i64 i, .int .i64 0] rfl rfl (World.news_of_block (cs := #[.int .i64 (-7), .int .i64 i, .int .i64 0]) (t := 47) (fr := (0, 0)) (heap_alloc_new wr _)) (by simp [Value.oneCell']) hml hby hle ?_; intro v3 w3 hown3 hgrow3 hnil3 hat3; have H3 : Hid _ := And.intro hown3 hgrow3; clear hown3 hgrow3 hnil3 hat3)
      have hk3 := grown_alloc H3.out.2
      have hn1 := own_bk HR.out.1 HR.out.2.2.1 (by decide)
      have hn2 := own_bk HR.out.1 HR.out.2.2.2.1 (by decide)
      have HK : Hid _ := And.intro hk3 (And.intro hn1 hn2)
      clear hk3 hn1 hn2
      go_roundg (3 - (i + 1))
      case measure => omega
      case rel =>
        have hz : mk3[i]? = some (-7, (i : Int), 0) := by
          have h9 : i = 0 ∨ i = 1 ∨ i = 2 := by omega
          rcases h9 with rfl | rfl | rfl <;> rfl
        exact ⟨i + 1, rfl, by omega, by go_num, by
          rw [take_succ_of hz, ← List.append_assoc]
          unfold BEdges.Own
          rw [BEdges.C_snoc, List.length_append]
          have h1 : (es ++ mk3.take i).length = N := by rw [List.length_append, List.length_take, ← HC.out.2.2.2.2.2, HR.out.2.2.2.2]; show m + min i 3 = _; omega
          rw [h1]
          exact H3.out.1, HR.out.2.1.trans (HK.out.1.below HR.out.2.1.size fun b hb => (HR.out.1.lt b hb).1), (HK.out.1.block _ (t_lt HR.out.2.2.1) fun e => HK.out.2.1 e).trans HR.out.2.2.1, (HK.out.1.block _ (t_lt HR.out.2.2.2.1) fun e => HK.out.2.2 e).trans HR.out.2.2.2.1⟩
    · obtain rfl : i = 3 := by omega
      have q1 : ¬ ((3 : Nat) : Int) < 3 := by omega
      obtain ⟨g, c, hf, hgl, _⟩ := World.ownsRow.form HR.out.1 (by have := HR.out.2.2.2.2; omega)
      injection hf with e1 e2 e3
      subst e1; subst e3
      obtain ⟨_, _, hcap⟩ : N ≤ cl ∧ True ∧ N ≤ cl := by
        rcases HR.out.1.2 with ⟨h9, _⟩ | ⟨g2, c2, cur, h9, _, _, hc2, _⟩
        · cases h9
        · injection h9 with f1 f2 f3; subst f3; exact ⟨hc2, trivial, hc2⟩
      have p0 : (0 : Int) ≤ (m : Int) := by omega
      have p1 : (m : Int) ≤ (cl : Int) := by have := HR.out.2.2.2.2; omega
      obtain ⟨y0, y1, y2, y3⟩ := four_cells HR.out.2.2.1
      obtain ⟨x0, x1, x2, x3⟩ := four_cells HR.out.2.2.2.1
      have z0 := blk_free HR.out.2.2.1 0
      have z1 := blk_free HR.out.2.2.1 1
      have z2 := blk_free HR.out.2.2.1 2
      have z3 := blk_free HR.out.2.2.1 3
      have z4 := blk_free HR.out.2.2.2.1 3
      have nn : ¬ w.heap.size + 1 = w.heap.size := by omega
      have nn2 : ¬ w.heap.size = w.heap.size + 1 := by omega
      have HE : Hid _ := hcap
      clear e2 hcap
      go_wp2_with fail
      have hgm : (wr.setCell ⟨w.heap.size, 3, none⟩ (.slice (some ⟨g, 0, none⟩) m cl)).heap[w.heap.size + 1]? = some (.cells #[.int .i64 0, .int .i64 0, .int .i64 0, .slice none 0 0] 24 (0, 0)) := (set_other _ _ _ _ _ nn).trans HR.out.2.2.1
      have hbm : Below w.heap.size w (wr.setCell ⟨w.heap.size, 3, none⟩ (.slice (some ⟨g, 0, none⟩) m cl)) := HR.out.2.1.setCell (Nat.le_refl _) _
      have hgf := four_set (a0 := .int .i64 n) (a1 := .int .i64 k) (a2 := .int .i64 s) (a3 := .slice (some ⟨g, 0, none⟩) m cl) hgm
      have hbf := four_below hbm (b := w.heap.size + 1) (by omega) (.int .i64 n) (.int .i64 k) (.int .i64 s) (.slice (some ⟨g, 0, none⟩) m cl)
      have hOf : (((((wr.setCell ⟨w.heap.size, 3, none⟩ (.slice (some ⟨g, 0, none⟩) m cl)).setCell ⟨w.heap.size + 1, 0, none⟩ (.int .i64 n)).setCell ⟨w.heap.size + 1, 1, none⟩ (.int .i64 k)).setCell ⟨w.heap.size + 1, 2, none⟩ (.int .i64 s)).setCell ⟨w.heap.size + 1, 3, none⟩ (.slice (some ⟨g, 0, none⟩) m cl)).ownsRow w.heap.size 47 3 (.slice (some ⟨g, 0, none⟩) N cl) N (BEdges.C (es ++ mk3.take 3)) := trow_at HR.out.1 fun b hb => by
        have h1 := own_bk HR.out.1 HR.out.2.2.1 (by decide)
        have h2 := own_bk HR.out.1 HR.out.2.2.2.1 (by decide)
        have e1 : b ≠ w.heap.size + 1 := fun e => h1 (by rw [← e]; exact hb)
        have e2 : b ≠ w.heap.size := fun e => h2 (by rw [← e]; exact hb)
        rw [set_other _ _ _ _ _ e1, set_other _ _ _ _ _ e1, set_other _ _ _ _ _ e1, set_other _ _ _ _ _ e1, set_other _ _ _ _ _ e2]
      generalize (((((wr.setCell ⟨w.heap.size, 3, none⟩ (.slice (some ⟨g, 0, none⟩) m cl)).setCell ⟨w.heap.size + 1, 0, none⟩ (.int .i64 n)).setCell ⟨w.heap.size + 1, 1, none⟩ (.int .i64 k)).setCell ⟨w.heap.size + 1, 2, none⟩ (.int .i64 s)).setCell ⟨w.heap.size + 1, 3, none⟩ (.slice (some ⟨g, 0, none⟩) m cl)) = wf at hgf hbf hOf ⊢
      clear y0 y1 y2 y3 z0 z1 z2 z3 z4 x0 x1 x2 x3
      obtain ⟨c0, c1, c2, c3⟩ := four_cells hgf
      refine bodyPost_ret (v := .agg #[.int .i64 n, .int .i64 k, .int .i64 s, .slice (some ⟨g, 0, none⟩) m cl]) (by simp [results, Tryd.results7, go_sem, c0, c1, c2, c3]) rfl ⟨_, rfl, ⟨g, cl, by rw [HC.out.2.2.2.2.2], by have := HE.out; have := HR.out.2.2.2.2; have := HC.out.2.2.2.2.2; omega, ?_⟩, hbf⟩
      have h1 : N = es.length + 3 := by rw [HR.out.2.2.2.2, HC.out.2.2.2.2.2]
      unfold BEdges.Own
      rw [List.length_append]
      show wf.ownsRow w.heap.size 47 3 (.slice (some ⟨g, 0, none⟩) (es.length + 3) cl) (es.length + 3) (BEdges.C (es ++ mk3))
      rw [← h1]
      exact hOf
set_option maxRecDepth 100000 in
set_option maxHeartbeats 4000000 in
theorem staysS_any (n k s n' k' s' : Int) (B : Nat) (va vb : Value) (es : List Sy.Ed) (w : World) (hn : es.length ≤ 1000000) (hA : LentE w B va es) (hB : BEdges.Has w vb es) :
    Calls Tryd.prog 12 #[sysV n k s va, sysV n' k' s' vb] w fun e w' => e = .returned (.bool true) ∧ Below w.heap.size w w' := by
  obtain ⟨w1, hw1⟩ : ∃ w1, w1 = (w.alloc (.cells #[.int .i64 n, .int .i64 k, .int .i64 s, va] 24)).alloc (.cells #[.int .i64 n', .int .i64 k', .int .i64 s', vb] 24) := ⟨_, rfl⟩
  have hb1 : Below w.heap.size w w1 := by rw [hw1]; exact ((Below.refl _ _).alloc (Nat.le_refl _) _).alloc (by simp) _
  have hg0 : w1.heap[w.heap.size]? = some (.cells #[.int .i64 n, .int .i64 k, .int .i64 s, va] 24 (0, 0)) := by rw [hw1, Below.heap_alloc _ _ _ (by simp)]; exact heap_alloc_new w _
  have hS := BEdges.same_b va vb es w1 (by omega) (hA.hasE.below hb1 |> fun ⟨_, _, _, _, h⟩ => h) (hB.below hb1)
  obtain ⟨bo, cbp, rfl, _⟩ := hB
  have hA1 := hA.below hb1
  obtain ⟨g, cap, rfl, hcap, _⟩ := hA
  obtain ⟨m, hm⟩ : ∃ m, m = es.length := ⟨_, rfl⟩
  rw [← hm] at hS hcap hg0 hw1 hn ⊢
  have H1 : Hid _ := And.intro hS (And.intro hb1 (And.intro hg0 (And.intro hw1 (And.intro hm hA1))))
  unfold sysV
  have nn : ¬ w.heap.size + 1 = w.heap.size := by omega
  have e3 : IntKind.i64.wrap ((m : Int) + 3) = (m : Int) + 3 := by rw [IntKind.wrap_i64]; omega
  have p0 : (0 : Int) ≤ (m : Int) + 3 := by omega
  have p1 : (m : Int) + 3 ≤ (cap : Int) := by omega
  clear hS hb1 hg0 hw1 hm hA1
  go_enter Tryd.func12, Tryd.ntmps12
  go_wp2_with fail
  rw [← H1.out.2.2.2.1]
  refine Calls.mono H1.out.1 ?_
  rintro e w2 ⟨rfl, hb2⟩
  have hg2 := (hb2.block _ (t_lt H1.out.2.2.1)).trans H1.out.2.2.1
  obtain ⟨x0, x1, x2, x3⟩ := four_cells hg2
  have hA2 := H1.out.2.2.2.2.2.below hb2
  obtain ⟨g', cap', hu, _, hO⟩ := hA2
  injection hu with f1 f2 f3
  injection f1 with f1
  injection f1 with f1
  subst f1; subst f3
  have H2 : Hid _ := And.intro (H1.out.2.1.trans (hb2.mono H1.out.2.1.size)) (And.intro hO hg2)
  clear hb2 hg2 hO f2
  go_wp2_with fail
  go_loopg [6] 3 (fun q iv wr => ∃ i : Nat, q = 3 - i ∧ i ≤ 3 ∧ iv = .int .i64 i ∧ Below w2.heap.size w2 wr)
  case atStart => exact ⟨0, rfl, by omega, rfl, Below.refl _ _⟩
  case round =>
    obtain ⟨i, rfl, hi, rfl, hb⟩ := hrel
    by_cases hlt : i < 3
    · have q1 : (i : Int) < 3 := by omega
      have hz : (es ++ mk3)[m + i]? = some (-7, (i : Int), 0) := by
        rw [H1.out.2.2.2.2.1, List.getElem?_append_right (by omega), Nat.add_sub_cancel_left]
        have h9 : i = 0 ∨ i = 1 ∨ i = 2 := by omega
        rcases h9 with rfl | rfl | rfl <;> rfl
      obtain ⟨g2, hg3, c0, c1, c2⟩ := own_edge (trow_at (w' := wr) H2.out.2.1 fun b hb' => hb.block b (H2.out.2.1.lt b hb').2) hz
      cases hg3
      have y3 := cell_up x3 hb
      obtain ⟨M, hM⟩ : ∃ M, M = m + i := ⟨_, rfl⟩
      have e4 : IntKind.i64.wrap ((m : Int) + (i : Int)) = (M : Int) := by rw [IntKind.wrap_i64]; omega
      have r0 : (0 : Int) ≤ (M : Int) := by omega
      have r1 : (M : Int) < (m : Int) + 3 := by omega
      rw [← hM] at c0 c1 c2
      have HB : Hid _ := hb
      clear hb hz hM
      go_wp2_with fail
      go_roundg (3 - (i + 1))
      case measure => omega
      case rel => exact ⟨i + 1, rfl, by omega, by go_num, by first | exact HB.out | exact HB.out.alloc HB.out.size _⟩
    · obtain rfl : i = 3 := by omega
      have q1 : ¬ ((3 : Nat) : Int) < 3 := by omega
      have HB : Hid _ := hb
      clear hb
      go_wp2_with fail
      go_ret
      exact ⟨rfl, H2.out.1.trans (HB.out.mono H2.out.1.size)⟩
end Go.Proofs.YthkidoplmbekbaaDoor
