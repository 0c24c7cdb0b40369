/- Texts of this claim, joined: SgAlive, LentI, SgRpl0, SgRpl, ErLaid, SgLaid, SyArgI, SgArg, SyLent, SyArg. -/
import Derived.Test.YtkiapldehlnndaaGreatDoorPart15
import Derived.Test.YtkiapldehlnndaaGreatDoorPart11
import Derived.Test.YtkiapldehlnndaaGreatDoorPart2
import Derived.Test.YtkiapldehlnndaaGreatDoorPart0
import Derived.Test.YtkiapldehlnndaaGreatDoorPart4
import Derived.Maps.AppendAt
import Derived.BigQuiet
import Derived.Test.YtkiapldehlnndaaGreatDoorRows
import Derived.ProofKit
import Derived.LaidMore
import Derived.Stop.LaidErr
import Derived.OpenShut
import Derived.Lib.SmallJoins
import Derived.Deep.Slices
import Derived.Test.YtkiapldehlnndaaGreatDoorPart5
/- Contract of the law's alive of chapter 9: first calls whose answers the document fixes. -/
namespace Go.Proofs.YtkiapldehlnndaaGreatDoor
open Go.RowKit Go.Maps
attribute [local go_sem ↓] Go.wp_at_zero Go.wp_at_succ
def esT9 : List Sy.Ed := [(0, 1, 1), (1, 1, 2), (3, 1, 2)]
def tkT9 : List (List Int) := [[0, 1, 2, 3], [2], [0]]
theorem esT9_right : Sy.right ((4 : Nat) : Int) ((2 : Nat) : Int) 0 esT9 = true := by decide
theorem esT9_last : Ro.Last 4 (fun i => Sy.rowOf 4 (Sy.nf esT9) (i : Int)) 2 := by
 refine ⟨by decide, fun j hj => ?_⟩
 match j, hj with
 | 0, _ => decide
 | 1, _ => decide
theorem esT9_rnd : natI (Ro.rnd 4 (fun i => Sy.rowOf 4 (Sy.nf esT9) (i : Int)) 2) = [0, 1, 2, 1] := by decide
theorem esT9_rep : Sg.mReplay (gp 4 2 0 esT9) tkT9 = some [0, 1, 2, 1] := by decide
theorem esT9_has (w : World) : BEdges.Has (w.alloc (.cells #[.int .i64 0, .int .i64 1, .int .i64 1, .int .i64 1, .int .i64 1, .int .i64 2, .int .i64 3, .int .i64 1, .int .i64 2] 72)) (.slice (some ⟨w.heap.size, 0, none⟩) 3 3) esT9 := by
 refine ⟨some ⟨w.heap.size, 0, none⟩, 3, rfl, fun j u hj => ⟨_, rfl, ?_⟩⟩
 rw [addz]
 refine cell0_of (heap_alloc_new w _) ?_
 rw [← Array.getElem?_toList]
 exact hj
theorem hasI_lit {w : World} {b : Nat} {zs : List Int} {cs : Array Value} (h : w.heap[b]? = some (.cells cs 3 (0, 0))) (hc : cs.toList = iC zs) {n c : Nat} (hn : n = zs.length) : HasI w (.slice (some ⟨b, 0, none⟩) n c) zs := by
 subst hn
 refine ⟨_, c, rfl, fun i z hz => ⟨_, rfl, ?_⟩⟩
 rw [addz]
 refine cell0_of h ?_
 rw [← Array.getElem?_toList, hc]
 unfold iC
 rw [List.getElem?_map, hz]
 rfl
theorem tkT9_has {w w4 : World} (hw : w4 = (((w.alloc (.cells #[.int .i64 0, .int .i64 1, .int .i64 2, .int .i64 3] 3)).alloc (.cells #[.int .i64 2] 3)).alloc (.cells #[.int .i64 0] 3)).alloc (.cells #[.slice (some ⟨w.heap.size, 0, none⟩) 4 4, .slice (some ⟨w.heap.size + 1, 0, none⟩) 1 1, .slice (some ⟨w.heap.size + 1 + 1, 0, none⟩) 1 1] 28)) :
 HasR w4 (.slice (some ⟨w.heap.size + 1 + 1 + 1, 0, none⟩) 3 3) tkT9 ∧ Below w.heap.size w w4 := by
 obtain ⟨wa, hwa⟩ : ∃ wa, wa = w.alloc (.cells #[.int .i64 0, .int .i64 1, .int .i64 2, .int .i64 3] 3) := ⟨_, rfl⟩
 obtain ⟨wb, hwb⟩ : ∃ wb, wb = wa.alloc (.cells #[.int .i64 2] 3) := ⟨_, rfl⟩
 obtain ⟨wc, hwc⟩ : ∃ wc, wc = wb.alloc (.cells #[.int .i64 0] 3) := ⟨_, rfl⟩
 rw [← hwa, ← hwb, ← hwc] at hw
 have sa : wa.heap.size = w.heap.size + 1 := by rw [hwa]; simp
 have sb : wb.heap.size = w.heap.size + 1 + 1 := by rw [hwb, World.size_alloc, sa]
 have sc : wc.heap.size = w.heap.size + 1 + 1 + 1 := by rw [hwc, World.size_alloc, sb]
 have ba : Below w.heap.size w wa := by rw [hwa]; exact (Below.refl _ _).alloc (Nat.le_refl _) _
 have bb : Below wa.heap.size wa wb := by rw [hwb]; exact (Below.refl _ _).alloc (Nat.le_refl _) _
 have bc : Below wb.heap.size wb wc := by rw [hwc]; exact (Below.refl _ _).alloc (Nat.le_refl _) _
 have bd : Below wc.heap.size wc w4 := by rw [hw]; exact (Below.refl _ _).alloc (Nat.le_refl _) _
 have h0 : w4.heap[w.heap.size]? = some (.cells #[.int .i64 0, .int .i64 1, .int .i64 2, .int .i64 3] 3 (0, 0)) := bup bd (bup bc (bup bb (by rw [hwa]; exact heap_alloc_new w _)))
 have h1 : w4.heap[w.heap.size + 1]? = some (.cells #[.int .i64 2] 3 (0, 0)) := bup bd (bup bc (by rw [hwb, ← sa]; exact heap_alloc_new wa _))
 have h2 : w4.heap[w.heap.size + 1 + 1]? = some (.cells #[.int .i64 0] 3 (0, 0)) := bup bd (by rw [hwc, ← sb]; exact heap_alloc_new wb _)
 have h3 : w4.heap[w.heap.size + 1 + 1 + 1]? = some (.cells #[.slice (some ⟨w.heap.size, 0, none⟩) 4 4, .slice (some ⟨w.heap.size + 1, 0, none⟩) 1 1, .slice (some ⟨w.heap.size + 1 + 1, 0, none⟩) 1 1] 28 (0, 0)) := by rw [hw, ← sc]; exact heap_alloc_new wc _
 refine ⟨⟨_, 3, rfl, fun i zs hz => ?_⟩, ba.trans ((bb.trans ((bc.trans (bd.mono bc.size)).mono bb.size)).mono ba.size)⟩
 match i, hz with
 | 0, hz => cases hz; exact ⟨_, _, rfl, by rw [addz]; exact cell0_of h3 rfl, hasI_lit h0 rfl rfl⟩
 | 1, hz => cases hz; exact ⟨_, _, rfl, by rw [addz]; exact cell0_of h3 rfl, hasI_lit h1 rfl rfl⟩
 | 2, hz => cases hz; exact ⟨_, _, rfl, by rw [addz]; exact cell0_of h3 rfl, hasI_lit h2 rfl rfl⟩
 | i + 3, hz => simp [tkT9] at hz
def PAl9 (w : World) : Prop := ∀ W, Below w.heap.size w W → Calls Tryz.prog 10 #[] W fun r w' => r = .returned (.bool true) ∧ Below W.heap.size W w'
set_option maxRecDepth 100000 in
set_option maxHeartbeats 4000000 in
theorem pAl9 (hS : SortOk 1000000) (aS aC a1 a3 : Addr) (w : World) (hE0 : EnvS w aS aC a1 a3) : PAl9 w := fun W hb => by
 have hE := hE0.below hb
 clear hE0 hb
 obtain ⟨w1, hw1⟩ : ∃ w1, w1 = W.alloc (.cells #[.int .i64 0, .int .i64 1, .int .i64 1, .int .i64 1, .int .i64 1, .int .i64 2, .int .i64 3, .int .i64 1, .int .i64 2] 72) := ⟨_, rfl⟩
 have hb1 : Below W.heap.size W w1 := by rw [hw1]; exact (Below.refl _ _).alloc (Nat.le_refl _) _
 have hv := esT9_has W
 rw [← hw1] at hv
 obtain ⟨w2, hw2⟩ : ∃ w2, w2 = w1.alloc (.cells #[.int .i64 4, .int .i64 2, .int .i64 0, .slice (some ⟨W.heap.size, 0, none⟩) 3 3] 24) := ⟨_, rfl⟩
 have hb2 : Below w1.heap.size w1 w2 := by rw [hw2]; exact (Below.refl _ _).alloc (Nat.le_refl _) _
 have hg2 : w2.heap[w1.heap.size]? = some (.cells #[.int .i64 4, .int .i64 2, .int .i64 0, .slice (some ⟨W.heap.size, 0, none⟩) 3 3] 24 (0, 0)) := by rw [hw2]; exact heap_alloc_new w1 _
 have hbW : Below W.heap.size W w2 := hb1.trans (hb2.mono hb1.size)
 have hCl := sclasses_ok hS 4 2 0 (.slice (some ⟨W.heap.size, 0, none⟩) 3 3) esT9 aS w2 (hE.below hbW).sy (hv.below hb2) (by decide) esT9_right
 have hRp := fun W4 vt (h4 : Below w2.heap.size w2 W4) (ht : HasR W4 vt tkT9) => replay_ok hS 4 2 0 (.slice (some ⟨W.heap.size, 0, none⟩) 3 3) vt esT9 tkT9 aS aC a1 a3 W4 ((hE.below hbW).below h4) ((hv.below hb2).below h4) ht (by decide) (by decide) esT9_right
 unfold sysV at hCl hRp
 have hsz : w1.heap.size = W.heap.size + 1 := by rw [hw1]; simp
 have H1 : Hid _ := And.intro hw2 (And.intro hw1 (And.intro hg2 (And.intro hCl (And.intro hbW hRp))))
 obtain ⟨x0, x1, x2, x3⟩ := four_cellsB hg2
 clear hw1 hb1 hv hw2 hb2 hg2 hbW hCl hE hRp
 go_enter Tryz.func10, Tryz.ntmps10
 go_upto_region 2 with fail
 rw [← H1.out.2.1, ← H1.out.1]
 rw [hsz] at x0 x1 x2 x3
 go_wp2_with fail
 refine Calls.mono H1.out.2.2.2.1 ?_
 rintro r w3 ⟨u3, R, rfl, hR, hO3, hb3⟩
 obtain rfl : R = 2 := hR.unique esT9_last
 rw [esT9_rnd] at hO3
 obtain ⟨a3', c3, hu3⟩ := row_shape hO3
 simp only [List.length_cons, List.length_nil] at hu3
 subst hu3
 have hg3 := bup hb3 H1.out.2.2.1
 rw [hsz] at hg3
 obtain ⟨gs3, hga, hl3⟩ := own_num hO3 (j := 3) (z := 1) rfl
 subst hga
 obtain ⟨w4, hw4⟩ : ∃ w4, w4 = (((w3.alloc (.cells #[.int .i64 0, .int .i64 1, .int .i64 2, .int .i64 3] 3)).alloc (.cells #[.int .i64 2] 3)).alloc (.cells #[.int .i64 0] 3)).alloc (.cells #[.slice (some ⟨w3.heap.size, 0, none⟩) 4 4, .slice (some ⟨w3.heap.size + 1, 0, none⟩) 1 1, .slice (some ⟨w3.heap.size + 1 + 1, 0, none⟩) 1 1] 28) := ⟨_, rfl⟩
 obtain ⟨hT4, hb4⟩ := tkT9_has hw4
 have hRp := H1.out.2.2.2.2.2 w4 _ (hb3.trans (hb4.mono hb3.size)) hT4
 rw [esT9_rep] at hRp
 have H3 : Hid _ := And.intro hRp (And.intro hb3 (And.intro hb4 (And.intro hw4 hl3)))
 clear x0 x1 x2 x3 hR hO3 hb3 hRp hT4 hb4 hw4 hl3
 obtain ⟨x0, x1, x2, x3⟩ := four_cellsB hg3
 clear hg3
 go_wp2_with fail
 rw [← H3.out.2.2.2.1]
 refine Calls.mono H3.out.1 ?_
 rintro r w5 ⟨hb5, u5, rfl, hO5⟩
 have e5 : natI [0, 1, 2, 1] = [0, 1, 2, 1] := rfl
 rw [e5] at hO5
 obtain ⟨a5, c5, hu5⟩ := row_shape hO5
 simp only [List.length_cons, List.length_nil] at hu5
 subst hu5
 obtain ⟨gs5, hga5, hl5⟩ := own_num hO5 (j := 2) (z := 2) rfl
 subst hga5
 have hl35 := cell_up (cell_up H3.out.2.2.2.2 H3.out.2.2.1) hb5
 have H5 : Hid _ := And.intro hb5 trivial
 clear hO5 hb5 x0 x1 x2 x3 e5
 go_wp2_with fail
 go_ret
 have h6 : Below W.heap.size W w3 := H1.out.2.2.2.2.1.trans (H3.out.2.1.mono H1.out.2.2.2.2.1.size)
 have h7 := h6.trans (H3.out.2.2.1.mono h6.size)
 exact ⟨rfl, h7.trans (H5.out.1.mono h7.size)⟩
end Go.Proofs.YtkiapldehlnndaaGreatDoor
/- Contracts of the book's LentInts and StaysInts. -/
namespace Go.Proofs.YtkiapldehlnndaaGreatDoor
open Go.RowKit Go.Maps
attribute [local go_sem ↓] Go.wp_at_zero Go.wp_at_succ
def Lent (w : World) (B g cap : Nat) (zs : List Int) : Prop := w.ownsRow B 3 1 (.slice (some ⟨g, 0, none⟩) (zs.length + 2) cap) (zs.length + 2) (iC zs ++ [.int .i64 (-77), .int .i64 (-78)])
theorem Lent.at {w w' : World} {B g cap : Nat} {zs : List Int} (h : Lent w B g cap zs) (hb : w'.heap[g]? = w.heap[g]?) : Lent w' B g cap zs := trow_at h fun i hi => by
 simp only [Value.ownBlock, Option.some.injEq] at hi
 subst hi; exact hb
theorem Lent.lt {w : World} {B g cap : Nat} {zs : List Int} (h : Lent w B g cap zs) : B ≤ g ∧ g < w.heap.size := World.ownsRow.lt h g rfl
theorem Lent.cap {w : World} {B g cap : Nat} {zs : List Int} (h : Lent w B g cap zs) : zs.length + 2 ≤ cap ∧ cap ≤ maxLen := by
 rcases h.2 with ⟨h1, _⟩ | ⟨g', cap', cur, h1, _, _, h2, h3, _⟩
 ·cases h1
 ·injection h1 with e1 e2 e3
  subst e3; exact ⟨h2, h3⟩
theorem Lent.blk {w : World} {B g cap : Nat} {zs : List Int} (h : Lent w B g cap zs) : ∃ c, w.heap[g]? = some (.cells c 3 (0, 0)) := row_cells h rfl
theorem Lent.has {w : World} {B g cap : Nat} {zs : List Int} (h : Lent w B g cap zs) : HasI w (.slice (some ⟨g, 0, none⟩) zs.length cap) zs := by
 refine ⟨_, cap, rfl, fun i z hi => ⟨_, rfl, ?_⟩⟩
 have hlt := (List.getElem?_eq_some_iff.1 hi).1
 rw [addz, World.ownsRow.cellAt h i (by omega), List.getElem?_append_left (by simp [iC]; omega)]
 simp [iC, hi]
theorem Lent.marks {w : World} {B g cap : Nat} {zs : List Int} (h : Lent w B g cap zs) : w.cell? ⟨g, zs.length, none⟩ = some (.int .i64 (-77)) ∧ w.cell? ⟨g, zs.length + 1, none⟩ = some (.int .i64 (-78)) := by
 constructor
 ·rw [World.ownsRow.cellAt h _ (by omega), List.getElem?_append_right (by simp [iC])]; simp [iC]
 ·rw [World.ownsRow.cellAt h _ (by omega), List.getElem?_append_right (by simp [iC])]; simp [iC]
theorem two_one (a b : Int) : ∀ x ∈ [Value.int .i64 a, .int .i64 b], x.oneCell' = true := fun x hx => by
 simp only [List.mem_cons, List.not_mem_nil, or_false] at hx
 rcases hx with rfl | rfl <;> rfl
set_option maxRecDepth 100000 in
set_option maxHeartbeats 1000000 in
theorem lent_any (v : Value) (zs : List Int) (w : World) (hH : HasI w v zs) (hn : zs.length * 8 ≤ 140737488351232) :
 Calls Tryz.prog 18 #[v] w fun r w' => ∃ g cap, r = .returned (.slice (some ⟨g, 0, none⟩) zs.length cap) ∧ Lent w' w.heap.size g cap zs ∧ Below w.heap.size w w' := by
 obtain ⟨i0, hi0, hz0, hz1, hz2⟩ := info_parts Tryz.infoI3
 obtain ⟨ao, c, rfl, _⟩ := id hH
 have HC : Hid _ := hasI_copy hH
 have ln : zs.length ≤ maxLen := by unfold maxLen; omega
 have ln8 : zs.length * 8 ≤ 140737488355328 := by omega
 have ln2 : zs.length + 2 ≤ maxLen := by unfold maxLen; omega
 have ln82 : (zs.length + 2) * 8 ≤ 140737488355328 := by omega
 clear hH
 go_enter Tryz.func18, Tryz.ntmps18
 go_wp2_with (first | (at_builtin; refine wpList_copy_at _ rfl _ _ 28 rfl w.heap.size 3 i0 (.int .i64 0) 1 8 Tryz.underlying28 hi0 hz0 hz1 hz2 rfl (by decide) rfl ao zs.length c (iC zs) rfl HC.out.1 (iC_length _) HC.out.2 (iC_one _) ln ln8 (Nat.le_refl _) ?_; intro v1 w1 hown1 hgrow1 hat1; have H1 : Hid _ := And.intro hown1 (tgrown0 hgrow1); clear hown1 hgrow1 hat1 HC) | (at_builtin; refine wpList_append_own_at _ rfl _ _ 28 rfl w.heap.size 3 i0 (.int .i64 0) 1 8 Tryz.underlying28 hi0 hz0 hz1 hz2 rfl (by decide) v1 zs.length (iC zs) rfl (H1.out.1.alloc _) ⟨w1.heap.size, 0, none⟩ 2 2 [.int .i64 (-77), .int .i64 (-78)] rfl rfl (World.news_of_block (cs := #[.int .i64 (-77), .int .i64 (-78)]) (t := 3) (fr := (0, 0)) (heap_alloc_new w1 _)) (two_one _ _) ln2 ln82 (by have := H1.out.2.size; simp; omega) ?_; intro v2 w2 hown2 hgrow2 hnil2 hat2; obtain ⟨g, cap, rfl, _, hcap⟩ := hown2.form (by omega); have hL : Lent w2 w.heap.size g cap zs := hown2; have hcp := hL.cap; have hcp1 : (0 : Int) ≤ (zs.length : Int) := (by omega); have hcp2 : (zs.length : Int) ≤ (cap : Int) := (by omega); have H2 : Hid _ := And.intro hL (lines_belowI H1.out.1 H1.out.2 hgrow2); clear hown2 hgrow2 hnil2 hat2 hL))
 go_ret
 exact ⟨g, cap, rfl, H2.out.1, H2.out.2⟩
set_option maxRecDepth 100000 in
set_option maxHeartbeats 1000000 in
theorem stays_lent (B g cap : Nat) (vb : Value) (zs : List Int) (w : World) (hn : zs.length ≤ 1000000000000000) (hA : Lent w B g cap zs) (hB : HasI w vb zs) :
 Calls Tryz.prog 21 #[.slice (some ⟨g, 0, none⟩) zs.length cap, vb] w fun e w' => e = .returned (.bool true) ∧ Below w.heap.size w w' := by
 have hS := sameInts_b _ vb zs zs w hn hn hA.has hB
 rw [beq_self_eq_true] at hS
 obtain ⟨c0, c1⟩ := hA.marks
 have hcap := hA.cap.1
 clear hA
 obtain ⟨ao, cap', rfl, _⟩ := hB
 obtain ⟨n, hN⟩ : ∃ n, n = zs.length := ⟨_, rfl⟩
 rw [← hN] at hn hcap hS c0 c1 ⊢
 clear hN
 have p1 : (n : Int) + 2 ≤ (cap : Int) := by omega
 have p2 : (0 : Int) ≤ (n : Int) + 2 := by omega
 have p3 : (n : Int) < (n : Int) + 2 := by omega
 have p4 : (n : Int) + 1 < (n : Int) + 2 := by omega
 have p5 : (0 : Int) ≤ (n : Int) := by omega
 have p6 : (0 : Int) ≤ (n : Int) + 1 := by omega
 go_enter Tryz.func21, Tryz.ntmps21
 go_wp2_with fail
 refine hS.mono ?_
 rintro r w1 ⟨rfl, hb⟩
 have d0 := (hb.cell (World.block_lt_of_cell? w _ c0)).trans c0
 have d1 := (hb.cell (World.block_lt_of_cell? w _ c1)).trans c1
 have HB : Hid (Below w.heap.size w w1) := hb
 clear hb c0 c1 hS
 go_wp2_with fail
 go_ret
 exact ⟨rfl, HB.out⟩
end Go.Proofs.YtkiapldehlnndaaGreatDoor
/- StrongReplays: lists that are lent, one behind the other. -/
namespace Go.Proofs.YtkiapldehlnndaaGreatDoor
open Go.RowKit Go.Maps
structure LnR (w2 wr : World) (lv : Value) (tk : List (List Int)) (i : Nat) (us : List Value) : Prop where
 len : us.length = i
 own : wr.ownsRow w2.heap.size 28 1 lv i us
 row : ∀ j zs, j < i → tk[j]? = some zs → zs.length ≤ 300 ∧ ∃ g c, us[j]? = some (.slice (some ⟨g, 0, none⟩) zs.length c) ∧ Lent wr w2.heap.size g c zs
 bl : Below w2.heap.size w2 wr
theorem LnR.nil (w2 : World) (tk : List (List Int)) : LnR w2 w2 (.slice none 0 0) tk 0 [] := ⟨rfl, World.ownsRow_nil _ _ _ _, fun j zs h => by omega, Below.refl _ _⟩
theorem LnR.below {w2 wr w' : World} {lv : Value} {tk : List (List Int)} {i : Nat} {us : List Value} (h : LnR w2 wr lv tk i us) (hb : Below wr.heap.size wr w') : LnR w2 w' lv tk i us :=
 ⟨h.len, trow_at h.own fun b e => hb.block b (h.own.lt b e).2, fun j zs hj hz => by
  obtain ⟨h1, g, c, h2, h3⟩ := h.row j zs hj hz
  exact ⟨h1, g, c, h2, h3.at (hb.block g h3.lt.2)⟩, h.bl.trans (hb.mono h.bl.size)⟩
theorem LnR.app {w2 wr w5 : World} {lv v5 : Value} {tk : List (List Int)} {i g c : Nat} {us : List Value} {zs : List Int} {tmp : Obj} (h : LnR w2 wr lv tk i us) (hz : tk[i]? = some zs) (hlen : zs.length ≤ 300) (hl : Lent wr w2.heap.size g c zs) (hO : w5.ownsRow w2.heap.size 28 1 v5 (i + 1) (us ++ [.slice (some ⟨g, 0, none⟩) zs.length c])) (hg : (wr.alloc tmp).grownBy w5 lv.ownBlock) : LnR w2 w5 v5 tk (i + 1) (us ++ [.slice (some ⟨g, 0, none⟩) zs.length c]) := by
 have hk := grown_alloc hg
 have hat : ∀ {g c : Nat} {zs : List Int}, Lent wr w2.heap.size g c zs → Lent w5 w2.heap.size g c zs := fun {g c zs} hL => hL.at (hk.block g hL.lt.2 (by obtain ⟨cs, hc⟩ := hL.blk; exact own_bk h.own hc (by decide)))
 refine ⟨by simp [h.len], hO, fun j ys hj hy => ?_, h.bl.trans (hk.below h.bl.size fun b e => (h.own.lt b e).1)⟩
 rcases Nat.lt_or_ge j i with h1 | h1
 ·obtain ⟨h2, g', c', h3, h4⟩ := h.row j ys h1 hy
  exact ⟨h2, g', c', by rw [List.getElem?_append_left (by rw [h.len]; exact h1)]; exact h3, hat h4⟩
 ·obtain rfl : j = i := by omega
  rw [hz] at hy
  cases hy
  exact ⟨hlen, g, c, by rw [List.getElem?_append_right (by rw [h.len]; exact Nat.le_refl _), h.len, Nat.sub_self]; rfl, hat hl⟩
theorem LnR.has {w2 wr : World} {lv : Value} {tk : List (List Int)} {us : List Value} (h : LnR w2 wr lv tk tk.length us) : HasR wr lv tk := by
 obtain ⟨ao, cap, rfl⟩ := row_shape h.own
 refine ⟨ao, cap, rfl, fun i zs hi => ?_⟩
 have hlt := (List.getElem?_eq_some_iff.1 hi).1
 obtain ⟨_, g, c, h1, h2⟩ := h.row i zs hlt hi
 rcases h.own.2 with ⟨h5, h6⟩ | ⟨g', cap', cur, h5, _⟩
 ·omega
 ·injection h5 with e1 e2 e3
  subst e1
  refine ⟨⟨g', 0, none⟩, _, rfl, ?_, h2.has⟩
  rw [addz, h.own.cellAt i (by omega)]
  simp [h1]
theorem hasI_none (w : World) : HasI w (.slice none 0 0) [] := ⟨none, 0, rfl, fun i z h => by simp at h⟩
theorem light_len {n : Int} {m : Nat} {ok : Bool} (h : lightB n m ok = true) : m ≤ 11000 := by
 unfold lightB at h
 simp only [Bool.or_eq_true, Bool.and_eq_true, decide_eq_true_eq] at h
 omega
end Go.Proofs.YtkiapldehlnndaaGreatDoor
/- StrongReplays as a call. (Written by mkrepl.py.) -/
namespace Go.Proofs.YtkiapldehlnndaaGreatDoor
open Go.RowKit Go.Maps
attribute [local go_sem ↓] Go.wp_at_zero Go.wp_at_succ
set_option maxRecDepth 100000 in
set_option maxHeartbeats 4000000 in
theorem lawReplays_out (n k s : Int) (v vt : Value) (es : List Sy.Ed) (tk : List (List Int)) (w : World) (hA : PAl9 w) (hv : HasE w v es) (ht : HasR w vt tk) (hlen : lightB n es.length (Sy.right n k s es) = false ∨ 60 < n ∨ 200 < tk.length) :
 Calls Tryz.prog 4 #[sysV n k s v, vt] w fun r w' => r = .returned (.bool true) ∧ Below w.heap.size w w' := by
 obtain ⟨ao, cap, rfl, hcap, hH⟩ := hv
 obtain ⟨ta, tc, rfl, _⟩ := ht
 obtain ⟨L, hL⟩ : ∃ L, L = es.length := ⟨_, rfl⟩
 obtain ⟨N, hN⟩ : ∃ N, N = tk.length := ⟨_, rfl⟩
 obtain ⟨w1, hw1⟩ : ∃ w1, w1 = w.alloc (.cells #[.int .i64 n, .int .i64 k, .int .i64 s, .slice ao L cap] 24) := ⟨_, rfl⟩
 have hb1 : Below w.heap.size w w1 := by rw [hw1]; exact (Below.refl _ _).alloc (Nat.le_refl _) _
 have hg1 : w1.heap[w.heap.size]? = some (.cells #[.int .i64 n, .int .i64 k, .int .i64 s, .slice ao L cap] 24 (0, 0)) := by rw [hw1]; exact heap_alloc_new w _
 have hLt := light_any n k s _ es w1 (hH.below hb1)
 obtain ⟨li, hli⟩ : ∃ li, li = lightB n es.length (Sy.right n k s es) := ⟨_, rfl⟩
 rw [← hli] at hLt hlen
 rw [← hL] at hLt ⊢
 rw [← hN] at hlen ⊢
 unfold sysV at hLt ⊢
 have H1 : Hid _ := And.intro hw1 (And.intro hb1 (And.intro hLt (And.intro hA hg1)))
 obtain ⟨x0, x1, x2, x3⟩ := four_cells hg1
 clear hA hH hcap hL hN hw1 hb1 hg1 hLt hli
 have hc : li = false ∨ (li = true ∧ 60 < n) ∨ (li = true ∧ ¬ 60 < n ∧ 200 < N) := by
  cases li with
  | false => exact .inl rfl
  | true =>
    by_cases h : 60 < n
    ·exact .inr (.inl ⟨rfl, h⟩)
    ·exact .inr (.inr ⟨rfl, h, (hlen.resolve_left (by simp)).resolve_left h⟩)
 clear hlen
 have q9 : 200 < N → (200 : Int) < (N : Int) := fun h => by omega
 rcases hc with rfl | ⟨rfl, h60⟩ | ⟨rfl, h60, hN2⟩
 all_goals
  (try have hN3 := q9 hN2)
  clear q9
  go_enter Tryz.func4, Tryz.ntmps4
  go_upto_region 1 with fail
  rw [← H1.out.1]
  go_wp2_with fail
  refine Calls.mono H1.out.2.2.1 ?_
  rintro r w2 ⟨rfl, hb2⟩
  have H2 : Hid _ := And.intro (bel6 hb2 H1.out.2.1) (res_up6 hb2 H1.out.2.2.2.2)
  clear hb2 x0 x1 x2 x3
  obtain ⟨x0, x1, x2, x3⟩ := four_cells H2.out.2
  go_wp2_with fail
  refine Calls.mono (H1.out.2.2.2.1 _ H2.out.1) ?_
  rintro r w3 ⟨rfl, hb3⟩
  have H3 : Hid _ := bel6 hb3 H2.out.1
  clear hb3
  go_wp2_with fail
  go_ret
  exact ⟨rfl, H3.out⟩
set_option linter.unusedSimpArgs false in
set_option maxRecDepth 100000 in
set_option maxHeartbeats 16000000 in
theorem lawReplays_bad (hS : SortOk 1000000) (n k s : Int) (v vt : Value) (es : List Sy.Ed) (tk : List (List Int)) (e : Nat → Addr) (w : World) (hA : PAl9 w) (hE : Er 19 w e) (hv : HasE w v es) (ht : HasR w vt tk) (hli : lightB n es.length (Sy.right n k s es) = true) (hn : (n : Int) ≤ 60) (htl : tk.length ≤ 200) (hq : Sy.right n k s es = false) :
 Calls Tryz.prog 4 #[sysV n k s v, vt] w fun r w' => r = .returned (.bool true) ∧ Below w.heap.size w w' := by
 obtain ⟨i0, hi0, hz0, hz1, hz2⟩ := info_parts Tryz.infoRI
 have hll := light_len hli
 have hvs := hv
 obtain ⟨ao, cap, rfl, hcap, hH⟩ := hvs
 obtain ⟨ta, tc, rfl, _⟩ := id ht
 obtain ⟨L, hL⟩ : ∃ L, L = es.length := ⟨_, rfl⟩
 obtain ⟨N, hN⟩ : ∃ N, N = tk.length := ⟨_, rfl⟩
 obtain ⟨w1, hw1⟩ : ∃ w1, w1 = w.alloc (.cells #[.int .i64 n, .int .i64 k, .int .i64 s, .slice ao L cap] 24) := ⟨_, rfl⟩
 have hb1 : Below w.heap.size w w1 := by rw [hw1]; exact (Below.refl _ _).alloc (Nat.le_refl _) _
 have hg1 : w1.heap[w.heap.size]? = some (.cells #[.int .i64 n, .int .i64 k, .int .i64 s, .slice ao L cap] 24 (0, 0)) := by rw [hw1]; exact heap_alloc_new w _
 have hLt := light_any n k s _ es w1 (hH.below hb1)
 rw [hli] at hLt
 have hRp := fun W lv (hb : Below w1.heap.size w1 W) (hl : HasR W lv tk) => (by obtain ⟨la, lc, rfl, _⟩ := hl; exact replay_bad hS n k s _ la tk.length lc es (e 14) W (((hE.below hb1).below hb).s14 (by decide)) ((hH.below hb1).below hb) (by omega) hq : Calls Tryz.prog 19 #[sysV n k s (.slice ao es.length cap), lv] W fun r w' => ∃ b, r = .returned (.tuple #[.slice none 0 0, .iface 76 (.pointer (some ⟨b, 0, none⟩))]) ∧ Chain w' 0 0 (e 14) [strB, sysB] (.iface 76 (.pointer (some ⟨b, 0, none⟩))) ∧ Below W.heap.size W w')
 have hDc := fun W (hb : Below w1.heap.size w1 W) => docReplay_bad n k s _ _ es tk W ((hv.below hb1).below hb) ((ht.below hb1).below hb) hq
 rw [← hL] at hLt hRp hDc ⊢
 rw [← hN] at hDc ht htl ⊢
 unfold sysV at hLt hRp hDc ⊢
 have H1 : Hid _ := And.intro hw1 (And.intro hb1 (And.intro hLt (And.intro hA (And.intro hRp (And.intro hDc (And.intro hE (And.intro hg1 (And.intro ht hN))))))))
 obtain ⟨x0, x1, x2, x3⟩ := four_cells hg1
 have g60 : ¬ (60 : Int) < (n : Int) := by omega
 have g200 : ¬ (200 : Int) < (N : Int) := by omega
 have HMR : Hid True := trivial
 clear hA hE hv ht hH hcap hL hN hw1 hb1 hg1 hLt hRp hDc hli hq hll
 go_enter Tryz.func4, Tryz.ntmps4
 go_upto_region 1 with fail
 rw [← H1.out.1]
 go_wp2_with fail
 refine Calls.mono H1.out.2.2.1 ?_
 rintro r w2 ⟨rfl, hb2⟩
 clear x0 x1 x2 x3
 obtain ⟨x0, x1, x2, x3⟩ := four_cells (res_up6 hb2 H1.out.2.2.2.2.2.2.2.1)
 have H2 : Hid (Below w1.heap.size w1 w2) := hb2
 clear hb2
 go_wp2_with fail
 clear x0 x1 x2 x3
 go_loopg [5, 6] N (fun q lv iv wr => ∃ (i : Nat) (us : List Value), q = N - i ∧ i ≤ N ∧ iv = .int .i64 i ∧ LnR w2 wr lv tk i us)
 case atStart => exact ⟨0, [], rfl, Nat.zero_le _, rfl, LnR.nil w2 tk⟩
 case round =>
  obtain ⟨i, us, rfl, hi, rfl, hLn⟩ := hrel
  obtain ⟨w3, rfl⟩ : ∃ w3, w3 = wr := ⟨_, rfl⟩
  obtain ⟨a5, c5, h5⟩ := row_shape hLn.own
  subst h5
  have hb13 := bel6 hLn.bl H2.out
  by_cases hiN : i < N
  ·obtain ⟨l, hl⟩ : ∃ l, tk[i]? = some l := ⟨tk[i]'(by have := H1.out.2.2.2.2.2.2.2.2.2; omega), List.getElem?_eq_getElem _⟩
   obtain ⟨at_, al, cl, hta, ct, hIl⟩ := H1.out.2.2.2.2.2.2.2.2.1.row (bel6 hb13 H1.out.2.1) hl
   subst hta
   obtain ⟨Ln, hLn2⟩ : ∃ Ln, Ln = l.length := ⟨_, rfl⟩
   have q0 : (0 : Int) ≤ (i : Int) := by omega
   have q1 : (i : Int) < (N : Int) := by omega
   by_cases h300 : 300 < Ln
   ·have q2 : (300 : Int) < (Ln : Int) := by omega
    rw [← hLn2] at ct
    have HR : Hid _ := bel6 hb13 H1.out.2.1
    clear hLn hIl hl hLn2 hb13
    go_wp2_with fail
    refine Calls.mono (H1.out.2.2.2.1 _ HR.out) ?_
    rintro r w4 ⟨rfl, hb4⟩
    have H4 : Hid _ := bel6 hb4 HR.out
    clear hb4
    go_wp2_with fail
    go_ret
    exact ⟨rfl, H4.out⟩
   ·have q2 : ¬ (300 : Int) < (Ln : Int) := by omega
    have hLe := lent_any (.slice al l.length cl) l w3 hIl (by omega)
    rw [← hLn2] at hLe ct
    have hOw := hLn.own
    have HR : Hid _ := And.intro hLn (And.intro hLe (And.intro hl (And.intro hLn2 hOw)))
    have hlL : l.length ≤ 300 := by omega
    have HLL : Hid _ := hlL
    clear hLn hIl hl hLn2 hb13 hLe hOw hlL h300
    go_wp2_with fail
    refine Calls.mono HR.out.2.1 ?_
    rintro r w4 ⟨g, c, rfl, hL4, hb4⟩
    have hR4 := HR.out.1.below hb4
    have hL4b : Lent w4 w2.heap.size g c l := row_base hL4 HR.out.1.bl.size
    have hml : i + 1 ≤ maxLen := by unfold maxLen; omega
    have hby : (i + 1) * 24 ≤ 140737488355328 := by omega
    have hle : w2.heap.size ≤ (w4.alloc (.cells #[.slice (some ⟨g, 0, none⟩) Ln c] 28)).heap.size := by have := hR4.bl.size; simp; omega
    have HO4 : Hid _ := And.intro hR4.own (And.intro hR4 hL4b)
    clear hL4 hb4 hR4 hL4b
    go_wp2_with (at_builtin; refine wpList_append_own_at _ rfl _ _ 40 rfl w2.heap.size 28 i0 (.slice none 0 0) 1 24 Tryz.underlying40 hi0 hz0 hz1 hz2 rfl (by decide) (.slice a5 i c5) i us rfl (HO4.out.1.alloc _) ⟨w4.heap.size, 0, none⟩ 1 1 [.slice (some ⟨g, 0, none⟩) Ln c] rfl rfl (World.news_of_block (cs := #[.slice (some ⟨g, 0, none⟩) Ln c]) (t := 28) (fr := (0, 0)) (heap_alloc_new w4 _)) (by simp [Value.oneCell']) hml hby hle ?_; intro v7 w7 hO7 hg7 hnil7 hat7; have H7 : Hid _ := And.intro hO7 hg7; clear hO7 hg7 hnil7 hat7)
    go_roundg (N - (i + 1))
    case measure => omega
    case rel =>
     refine ⟨i + 1, _, rfl, by omega, by go_num, HO4.out.2.1.app HR.out.2.2.1 HLL.out HO4.out.2.2 ?_ H7.out.2⟩
     rw [← HR.out.2.2.2.1]
     exact H7.out.1
  ·obtain rfl : i = N := by omega
   have q1 : ¬ (i : Int) < (i : Int) := by omega
   have hNl := H1.out.2.2.2.2.2.2.2.2.2
   have hRl : HasR w3 (.slice a5 i c5) tk := by
    have h1 := hLn
    rw [hNl] at h1 ⊢
    exact h1.has
   have h300 : ∀ zs ∈ tk, zs.length ≤ 1000000 := fun zs hz => by
    obtain ⟨j, hj⟩ := List.mem_iff_getElem?.1 hz
    have h1 := (hLn.row j zs (by have := (List.getElem?_eq_some_iff.1 hj).1; omega) hj).1
    omega
   have hRp := H1.out.2.2.2.2.1 w3 (.slice a5 i c5) hb13 hRl
   obtain ⟨x0, x1, x2, x3⟩ := four_cells (res_up6 hb13 H1.out.2.2.2.2.2.2.2.1)
   have HR : Hid _ := And.intro hLn (And.intro hRp (And.intro hb13 (And.intro h300 hNl)))
   clear hLn hRp hb13 h300 hRl hNl
   go_wp2_with fail
   refine Calls.mono HR.out.2.1 ?_
   rintro r w4 ⟨b4, rfl, hC4, hb4⟩
   have H4 : Hid _ := And.intro (bel6 hb4 HR.out.2.2.1) (And.intro (HR.out.1.below hb4) hC4)
   clear hC4 hb4 x0 x1 x2 x3
   obtain ⟨x0, x1, x2, x3⟩ := four_cells (res_up6 H4.out.1 H1.out.2.2.2.2.2.2.2.1)
   go_wp2_with fail
   refine Calls.mono (H1.out.2.2.2.2.2.1 w4 H4.out.1) ?_
   rintro r w5 ⟨rfl, hb5⟩
   have H5 : Hid _ := And.intro (bel6 hb5 H4.out.1) (And.intro (H4.out.2.1.below hb5) (H4.out.2.2.below hb5))
   clear hb5 x0 x1 x2 x3
   go_upto_region 12 with fail
   obtain ⟨w7, hw7⟩ : ∃ w7, w7 = w5.alloc (.cells #[.int .i64 14, .int .i64 0, .int .i64 0, .string strB2] 34) := ⟨_, rfl⟩
   rw [← hw7]
   have hb7 : Below w5.heap.size w5 w7 := by rw [hw7]; exact (Below.refl _ _).alloc (Nat.le_refl _) _
   have hg7 : w7.heap[w5.heap.size]? = some (.cells #[.int .i64 14, .int .i64 0, .int .i64 0, .string strB2] 34 (0, 0)) := by rw [hw7]; exact heap_alloc_new w5 _
   obtain ⟨y0, y1, y2, y3⟩ := four_cells hg7
   obtain ⟨b7, hb7e⟩ : ∃ b7, b7 = w5.heap.size := ⟨_, rfl⟩
   rw [← hb7e] at y0 y1 y2 y3 ⊢
   have hT := told_14 (by decide) _ _ 0 0 e w7 ((H1.out.2.2.2.2.2.2.1.below H1.out.2.1).below (bel6 hb7 H5.out.1)) (H5.out.2.2.below hb7) (by decide) (by decide)
   rw [str_join2] at hT
   have H7 : Hid _ := And.intro hb7 hT
   clear hb7 hg7 hw7 hT hb7e
   go_wp2_with fail
   refine Calls.mono H7.out.2 ?_
   rintro r w8 ⟨rfl, hb8⟩
   have hbW5 := bel6 hb8 H7.out.1
   have hSi := (fun W (hbW : Below w5.heap.size w5 W) => sameInts_b (.slice none 0 0) (.slice none 0 0) [] [] W (by simp) (by simp) (hasI_none W) (hasI_none W)) w8 hbW5
   rw [beq_self_eq_true] at hSi
   have H8 : Hid _ := And.intro (bel6 hbW5 H5.out.1) (And.intro (H5.out.2.1.below hbW5) hSi)
   clear hb8 hbW5 hSi y0 y1 y2 y3
   go_wp2_with fail
   refine Calls.mono H8.out.2.2 ?_
   rintro r w9 ⟨rfl, hb9⟩
   have H9 : Hid _ := And.intro (bel6 hb9 H8.out.1) (H8.out.2.1.below hb9)
   clear hb9
   go_wp2_with fail
   go_loopg [11] i (fun q jv wr => ∃ j : Nat, q = i - j ∧ j ≤ i ∧ jv = .int .i64 j ∧ Below w9.heap.size w9 wr)
   case atStart => exact ⟨0, rfl, Nat.zero_le _, rfl, Below.refl _ _⟩
   case round =>
    obtain ⟨j, rfl, hj, rfl, hbj⟩ := hrel
    obtain ⟨wa, rfl⟩ : ∃ wa, wa = wr := ⟨_, rfl⟩
    have hLa := H9.out.2.below hbj
    have hb1a := bel6 hbj H9.out.1
    by_cases hji : j < i
    ·obtain ⟨l, hl⟩ : ∃ l, tk[j]? = some l := ⟨tk[j]'(by have := HR.out.2.2.2.2; omega), List.getElem?_eq_getElem _⟩
     obtain ⟨at_, al, cl, hta, ct, hIl⟩ := H1.out.2.2.2.2.2.2.2.2.1.row (bel6 hb1a H1.out.2.1) hl
     subst hta
     obtain ⟨h300, g, c, hu, hLg⟩ := hLa.row j l hji hl
     obtain ⟨g5, cap5, hs5⟩ := ownsRow_succ (show wa.ownsRow w2.heap.size 28 1 (.slice a5 i c5) ((i - 1) + 1) us by rw [show i - 1 + 1 = i by omega]; exact hLa.own)
     injection hs5 with e1 e2 e3
     subst e1
     have cu : wa.cell? ⟨g5, j, none⟩ = some (.slice (some ⟨g, 0, none⟩) l.length c) := by
      rw [hLa.own.cellAt j (by omega)]
      simp [hu]
     have hSt := fun W (hb : Below wa.heap.size wa W) => stays_lent w2.heap.size g c (.slice al l.length cl) l W (by omega) (hLg.at (hb.block g hLg.lt.2)) (hIl.below hb)
     have p0 : (0 : Int) ≤ (j : Int) := by omega
     have p1 : (j : Int) < (i : Int) := by omega
     have HJ : Hid _ := And.intro hSt hbj
     clear hSt hbj hLa hb1a hIl hl h300 hu hLg e2 e3
     obtain ⟨Ll, hLl⟩ : ∃ Ll, Ll = l.length := ⟨_, rfl⟩
     rw [← hLl] at ct cu HJ
     clear hLl
     go_upto_region 17 with fail
     refine wp_region_held_drew (S := (fun w' => w'.cell? ⟨g5, j, none⟩ = some (.slice (some ⟨g, 0, none⟩) Ll c) ∧ w'.cell? (at_.add j) = some (.slice al Ll cl))) (by kernel_rfl) ?_ (fun hHeld => ?_)
     ·exact ⟨cu, ct⟩
     refine tk9 0 ?_ rfl (by kernel_rfl) (fun _ _ _ h => h) ⟨by rfl, ?_⟩ (by assumption) ?_; rotate_left; (focus (intro w hSw; (try dsimp only at hSw); go_simp; (try with_reducible rfl))); (try simp only [ty9, Act.put])
     refine tk9 1 ?_ rfl (by kernel_rfl) (fun _ _ _ h => h) ⟨by rfl, ?_⟩ (by assumption) ?_; rotate_left; (focus (intro w hSw; (try dsimp only at hSw); go_simp; (try with_reducible rfl))); (try simp only [ty9, Act.put])
     refine tk9 2 ?_ rfl (by kernel_rfl) (fun _ _ _ h => h) ⟨by rfl, ?_⟩ (by assumption) ?_; rotate_left; (focus (intro w hSw; (try dsimp only at hSw); go_simp; (try with_reducible rfl))); (try simp only [ty9, Act.put])
     refine tk9 3 ?_ rfl (by kernel_rfl) (fun _ _ _ h => h) ⟨by rfl, ?_⟩ (by assumption) ?_; rotate_left; (focus (intro w hSw; (try dsimp only at hSw); go_simp; (try with_reducible rfl))); (try simp only [ty9, Act.put])
     refine tk9 4 ?_ rfl (by kernel_rfl) (fun _ _ _ h => h) ⟨by rfl, ?_⟩ (by assumption) ?_; rotate_left; (focus (intro w hSw; (try dsimp only at hSw); go_simp; (try with_reducible rfl))); (try simp only [ty9, Act.put])
     refine tk9 5 ?_ rfl (by kernel_rfl) (fun _ _ _ h => h) ⟨by rfl, ?_⟩ (by assumption) ?_; rotate_left; (focus (intro w hSw; (try dsimp only at hSw); go_simp; (try with_reducible rfl))); (try simp only [ty9, Act.put])
     refine tk9 6 ?_ rfl (by kernel_rfl) (fun _ _ _ h => h) ⟨by rfl, ?_⟩ (by assumption) ?_; rotate_left; (focus (intro w hSw; (try dsimp only at hSw); go_simp; (try with_reducible rfl))); (try simp only [ty9, Act.put])
     refine tk9 7 ?_ rfl (by kernel_rfl) (fun _ _ _ h => h) ⟨by rfl, ?_⟩ (by assumption) ?_; rotate_left; (focus (intro w hSw; (try dsimp only at hSw); go_simp; (try with_reducible rfl))); (try simp only [ty9, Act.put])
     refine wpAnyH_ready (rs := [8]) (by kernel_rfl) (by simp) ?_
     refine AllReadyH.cons (o := _) rfl (fun K hK => ?_) ?_
     ·(go_simp; go_at_call 21; refine Calls.mono (HJ.out.1 _ ((Below.refl _ _).drew)) ?_; rintro r wb ⟨rfl, hbb⟩; have HB : Hid _ := (Below.refl wa.heap.size wa).drew.trans hbb; clear hbb; have cu := (HB.out.cell (World.block_lt_of_cell? wa _ cu)).trans cu; have ct := (HB.out.cell (World.block_lt_of_cell? wa _ ct)).trans ct)
      (try go_wp2_with fail)
      refine hK.out _ _ ?_ (fun hHeld => ?_)
      ·exact ⟨cu, ct⟩
      clear hK K
      (try simp only [ty9, Act.put])
      refine tk9 9 ?_ rfl (by kernel_rfl) (fun _ _ _ h => h) ⟨by rfl, ?_⟩ (by assumption) ?_; rotate_left; (focus (intro w hSw; (try dsimp only at hSw); go_simp; (try with_reducible rfl))); (try simp only [ty9, Act.put])
      refine wpAnyH_done (by kernel_rfl) ?_ _
      (try go_simp)
      go_wp2_with fail
      go_roundg (i - (j + 1))
      case measure => omega
      case rel => exact ⟨j + 1, rfl, by omega, by go_num, bel6 HB.out HJ.out.2⟩
     exact AllReadyH.nil
    ·obtain rfl : j = i := by omega
     have p1 : ¬ (j : Int) < (j : Int) := by omega
     have HJ : Hid _ := bel6 hb1a H1.out.2.1
     clear hbj hLa hb1a
     go_wp2_with fail
     refine Calls.mono (H1.out.2.2.2.1 _ HJ.out) ?_
     rintro r wb ⟨rfl, hbb⟩
     have HZ : Hid _ := bel6 hbb HJ.out
     clear hbb
     go_wp2_with fail
     go_ret
     exact ⟨rfl, HZ.out⟩
set_option linter.unusedSimpArgs false in
set_option maxRecDepth 100000 in
set_option maxHeartbeats 16000000 in
theorem lawReplays_none (hS : SortOk 1000000) (m kk : Nat) (s : Int) (v vt : Value) (es : List Sy.Ed) (tk : List (List Int)) (e : Nat → Addr) (w : World) (hA : PAl9 w) (hE : Er 19 w e) (hV : EnvS w (e 14) (e 15) (e 1) (e 3)) (hv : HasE w v es) (ht : HasR w vt tk) (hli : lightB m es.length (Sy.right m kk s es) = true) (hn : (m : Int) ≤ 60) (htl : tk.length ≤ 200) (hq : Sy.right m kk s es = true) (hmr : Sg.mReplay (gp m kk s es) tk = none) :
 Calls Tryz.prog 4 #[sysV m kk s v, vt] w fun r w' => r = .returned (.bool true) ∧ Below w.heap.size w w' := by
 obtain ⟨i0, hi0, hz0, hz1, hz2⟩ := info_parts Tryz.infoRI
 have hll := light_len hli
 have hvs := hv
 obtain ⟨ao, cap, rfl, hcap, hH⟩ := hvs
 obtain ⟨ta, tc, rfl, _⟩ := id ht
 obtain ⟨L, hL⟩ : ∃ L, L = es.length := ⟨_, rfl⟩
 obtain ⟨N, hN⟩ : ∃ N, N = tk.length := ⟨_, rfl⟩
 obtain ⟨w1, hw1⟩ : ∃ w1, w1 = w.alloc (.cells #[.int .i64 m, .int .i64 kk, .int .i64 s, .slice ao L cap] 24) := ⟨_, rfl⟩
 have hb1 : Below w.heap.size w w1 := by rw [hw1]; exact (Below.refl _ _).alloc (Nat.le_refl _) _
 have hg1 : w1.heap[w.heap.size]? = some (.cells #[.int .i64 m, .int .i64 kk, .int .i64 s, .slice ao L cap] 24 (0, 0)) := by rw [hw1]; exact heap_alloc_new w _
 have hLt := light_any m kk s _ es w1 (hH.below hb1)
 rw [hli] at hLt
 have hRp := fun W lv (hb : Below w1.heap.size w1 W) (hl : HasR W lv tk) => replay_ok hS m kk s _ lv es tk _ _ _ _ W ((hV.below hb1).below hb) ((hH.below hb1).below hb) hl (by omega) (by omega) hq
 have hDc := fun W (hb : Below w1.heap.size w1 W) (hz : ∀ zs ∈ tk, zs.length ≤ 1000000) => docReplay_any m kk s _ _ es tk W ((hv.below hb1).below hb) ((ht.below hb1).below hb) (by omega) hz hq
 rw [← hL] at hLt hRp hDc ⊢
 rw [← hN] at hDc ht htl ⊢
 unfold sysV at hLt hRp hDc ⊢
 have H1 : Hid _ := And.intro hw1 (And.intro hb1 (And.intro hLt (And.intro hA (And.intro hRp (And.intro hDc (And.intro hE (And.intro hg1 (And.intro ht hN))))))))
 obtain ⟨x0, x1, x2, x3⟩ := four_cells hg1
 have g60 : ¬ (60 : Int) < (m : Int) := by omega
 have g200 : ¬ (200 : Int) < (N : Int) := by omega
 have HMR : Hid _ := hmr
 clear hA hE hV hv ht hH hcap hL hN hw1 hb1 hg1 hLt hRp hDc hli hq hll hmr
 go_enter Tryz.func4, Tryz.ntmps4
 go_upto_region 1 with fail
 rw [← H1.out.1]
 go_wp2_with fail
 refine Calls.mono H1.out.2.2.1 ?_
 rintro r w2 ⟨rfl, hb2⟩
 clear x0 x1 x2 x3
 obtain ⟨x0, x1, x2, x3⟩ := four_cells (res_up6 hb2 H1.out.2.2.2.2.2.2.2.1)
 have H2 : Hid (Below w1.heap.size w1 w2) := hb2
 clear hb2
 go_wp2_with fail
 clear x0 x1 x2 x3
 go_loopg [5, 6] N (fun q lv iv wr => ∃ (i : Nat) (us : List Value), q = N - i ∧ i ≤ N ∧ iv = .int .i64 i ∧ LnR w2 wr lv tk i us)
 case atStart => exact ⟨0, [], rfl, Nat.zero_le _, rfl, LnR.nil w2 tk⟩
 case round =>
  obtain ⟨i, us, rfl, hi, rfl, hLn⟩ := hrel
  obtain ⟨w3, rfl⟩ : ∃ w3, w3 = wr := ⟨_, rfl⟩
  obtain ⟨a5, c5, h5⟩ := row_shape hLn.own
  subst h5
  have hb13 := bel6 hLn.bl H2.out
  by_cases hiN : i < N
  ·obtain ⟨l, hl⟩ : ∃ l, tk[i]? = some l := ⟨tk[i]'(by have := H1.out.2.2.2.2.2.2.2.2.2; omega), List.getElem?_eq_getElem _⟩
   obtain ⟨at_, al, cl, hta, ct, hIl⟩ := H1.out.2.2.2.2.2.2.2.2.1.row (bel6 hb13 H1.out.2.1) hl
   subst hta
   obtain ⟨Ln, hLn2⟩ : ∃ Ln, Ln = l.length := ⟨_, rfl⟩
   have q0 : (0 : Int) ≤ (i : Int) := by omega
   have q1 : (i : Int) < (N : Int) := by omega
   by_cases h300 : 300 < Ln
   ·have q2 : (300 : Int) < (Ln : Int) := by omega
    rw [← hLn2] at ct
    have HR : Hid _ := bel6 hb13 H1.out.2.1
    clear hLn hIl hl hLn2 hb13
    go_wp2_with fail
    refine Calls.mono (H1.out.2.2.2.1 _ HR.out) ?_
    rintro r w4 ⟨rfl, hb4⟩
    have H4 : Hid _ := bel6 hb4 HR.out
    clear hb4
    go_wp2_with fail
    go_ret
    exact ⟨rfl, H4.out⟩
   ·have q2 : ¬ (300 : Int) < (Ln : Int) := by omega
    have hLe := lent_any (.slice al l.length cl) l w3 hIl (by omega)
    rw [← hLn2] at hLe ct
    have hOw := hLn.own
    have HR : Hid _ := And.intro hLn (And.intro hLe (And.intro hl (And.intro hLn2 hOw)))
    have hlL : l.length ≤ 300 := by omega
    have HLL : Hid _ := hlL
    clear hLn hIl hl hLn2 hb13 hLe hOw hlL h300
    go_wp2_with fail
    refine Calls.mono HR.out.2.1 ?_
    rintro r w4 ⟨g, c, rfl, hL4, hb4⟩
    have hR4 := HR.out.1.below hb4
    have hL4b : Lent w4 w2.heap.size g c l := row_base hL4 HR.out.1.bl.size
    have hml : i + 1 ≤ maxLen := by unfold maxLen; omega
    have hby : (i + 1) * 24 ≤ 140737488355328 := by omega
    have hle : w2.heap.size ≤ (w4.alloc (.cells #[.slice (some ⟨g, 0, none⟩) Ln c] 28)).heap.size := by have := hR4.bl.size; simp; omega
    have HO4 : Hid _ := And.intro hR4.own (And.intro hR4 hL4b)
    clear hL4 hb4 hR4 hL4b
    go_wp2_with (at_builtin; refine wpList_append_own_at _ rfl _ _ 40 rfl w2.heap.size 28 i0 (.slice none 0 0) 1 24 Tryz.underlying40 hi0 hz0 hz1 hz2 rfl (by decide) (.slice a5 i c5) i us rfl (HO4.out.1.alloc _) ⟨w4.heap.size, 0, none⟩ 1 1 [.slice (some ⟨g, 0, none⟩) Ln c] rfl rfl (World.news_of_block (cs := #[.slice (some ⟨g, 0, none⟩) Ln c]) (t := 28) (fr := (0, 0)) (heap_alloc_new w4 _)) (by simp [Value.oneCell']) hml hby hle ?_; intro v7 w7 hO7 hg7 hnil7 hat7; have H7 : Hid _ := And.intro hO7 hg7; clear hO7 hg7 hnil7 hat7)
    go_roundg (N - (i + 1))
    case measure => omega
    case rel =>
     refine ⟨i + 1, _, rfl, by omega, by go_num, HO4.out.2.1.app HR.out.2.2.1 HLL.out HO4.out.2.2 ?_ H7.out.2⟩
     rw [← HR.out.2.2.2.1]
     exact H7.out.1
  ·obtain rfl : i = N := by omega
   have q1 : ¬ (i : Int) < (i : Int) := by omega
   have hNl := H1.out.2.2.2.2.2.2.2.2.2
   have hRl : HasR w3 (.slice a5 i c5) tk := by
    have h1 := hLn
    rw [hNl] at h1 ⊢
    exact h1.has
   have h300 : ∀ zs ∈ tk, zs.length ≤ 1000000 := fun zs hz => by
    obtain ⟨j, hj⟩ := List.mem_iff_getElem?.1 hz
    have h1 := (hLn.row j zs (by have := (List.getElem?_eq_some_iff.1 hj).1; omega) hj).1
    omega
   have hRp := H1.out.2.2.2.2.1 w3 (.slice a5 i c5) hb13 hRl
   obtain ⟨x0, x1, x2, x3⟩ := four_cells (res_up6 hb13 H1.out.2.2.2.2.2.2.2.1)
   have HR : Hid _ := And.intro hLn (And.intro hRp (And.intro hb13 (And.intro h300 hNl)))
   clear hLn hRp hb13 h300 hRl hNl
   go_wp2_with fail
   refine Calls.mono HR.out.2.1 ?_
   rintro r w4 ⟨hb4, ho⟩
   rw [HMR.out] at ho
   obtain ⟨b4, rfl, hC4⟩ := ho
   have H4 : Hid _ := And.intro (bel6 hb4 HR.out.2.2.1) (And.intro (HR.out.1.below hb4) hC4)
   clear hC4 hb4 x0 x1 x2 x3
   obtain ⟨x0, x1, x2, x3⟩ := four_cells (res_up6 H4.out.1 H1.out.2.2.2.2.2.2.2.1)
   go_wp2_with fail
   refine Calls.mono (H1.out.2.2.2.2.2.1 w4 H4.out.1 HR.out.2.2.2.1) ?_
   rintro r w5 ⟨hb5, ho⟩
   rw [HMR.out] at ho
   obtain rfl : r = _ := ho
   have H5 : Hid _ := And.intro (bel6 hb5 H4.out.1) (And.intro (H4.out.2.1.below hb5) (H4.out.2.2.below hb5))
   clear hb5 x0 x1 x2 x3
   go_upto_region 12 with fail
   obtain ⟨w7, hw7⟩ : ∃ w7, w7 = w5.alloc (.cells #[.int .i64 15, .int .i64 0, .int .i64 0, .string strB1] 34) := ⟨_, rfl⟩
   rw [← hw7]
   have hb7 : Below w5.heap.size w5 w7 := by rw [hw7]; exact (Below.refl _ _).alloc (Nat.le_refl _) _
   have hg7 : w7.heap[w5.heap.size]? = some (.cells #[.int .i64 15, .int .i64 0, .int .i64 0, .string strB1] 34 (0, 0)) := by rw [hw7]; exact heap_alloc_new w5 _
   obtain ⟨y0, y1, y2, y3⟩ := four_cells hg7
   obtain ⟨b7, hb7e⟩ : ∃ b7, b7 = w5.heap.size := ⟨_, rfl⟩
   rw [← hb7e] at y0 y1 y2 y3 ⊢
   have hT := told_15 (by decide) _ _ 0 0 e w7 ((H1.out.2.2.2.2.2.2.1.below H1.out.2.1).below (bel6 hb7 H5.out.1)) (H5.out.2.2.below hb7) (by decide) (by decide)
   rw [str_join1] at hT
   have H7 : Hid _ := And.intro hb7 hT
   clear hb7 hg7 hw7 hT hb7e
   go_wp2_with fail
   refine Calls.mono H7.out.2 ?_
   rintro r w8 ⟨rfl, hb8⟩
   have hbW5 := bel6 hb8 H7.out.1
   have hSi := (fun W (hbW : Below w5.heap.size w5 W) => sameInts_b (.slice none 0 0) (.slice none 0 0) [] [] W (by simp) (by simp) (hasI_none W) (hasI_none W)) w8 hbW5
   rw [beq_self_eq_true] at hSi
   have H8 : Hid _ := And.intro (bel6 hbW5 H5.out.1) (And.intro (H5.out.2.1.below hbW5) hSi)
   clear hb8 hbW5 hSi y0 y1 y2 y3
   go_wp2_with fail
   refine Calls.mono H8.out.2.2 ?_
   rintro r w9 ⟨rfl, hb9⟩
   have H9 : Hid _ := And.intro (bel6 hb9 H8.out.1) (H8.out.2.1.below hb9)
   clear hb9
   go_wp2_with fail
   go_loopg [11] i (fun q jv wr => ∃ j : Nat, q = i - j ∧ j ≤ i ∧ jv = .int .i64 j ∧ Below w9.heap.size w9 wr)
   case atStart => exact ⟨0, rfl, Nat.zero_le _, rfl, Below.refl _ _⟩
   case round =>
    obtain ⟨j, rfl, hj, rfl, hbj⟩ := hrel
    obtain ⟨wa, rfl⟩ : ∃ wa, wa = wr := ⟨_, rfl⟩
    have hLa := H9.out.2.below hbj
    have hb1a := bel6 hbj H9.out.1
    by_cases hji : j < i
    ·obtain ⟨l, hl⟩ : ∃ l, tk[j]? = some l := ⟨tk[j]'(by have := HR.out.2.2.2.2; omega), List.getElem?_eq_getElem _⟩
     obtain ⟨at_, al, cl, hta, ct, hIl⟩ := H1.out.2.2.2.2.2.2.2.2.1.row (bel6 hb1a H1.out.2.1) hl
     subst hta
     obtain ⟨h300, g, c, hu, hLg⟩ := hLa.row j l hji hl
     obtain ⟨g5, cap5, hs5⟩ := ownsRow_succ (show wa.ownsRow w2.heap.size 28 1 (.slice a5 i c5) ((i - 1) + 1) us by rw [show i - 1 + 1 = i by omega]; exact hLa.own)
     injection hs5 with e1 e2 e3
     subst e1
     have cu : wa.cell? ⟨g5, j, none⟩ = some (.slice (some ⟨g, 0, none⟩) l.length c) := by
      rw [hLa.own.cellAt j (by omega)]
      simp [hu]
     have hSt := fun W (hb : Below wa.heap.size wa W) => stays_lent w2.heap.size g c (.slice al l.length cl) l W (by omega) (hLg.at (hb.block g hLg.lt.2)) (hIl.below hb)
     have p0 : (0 : Int) ≤ (j : Int) := by omega
     have p1 : (j : Int) < (i : Int) := by omega
     have HJ : Hid _ := And.intro hSt hbj
     clear hSt hbj hLa hb1a hIl hl h300 hu hLg e2 e3
     obtain ⟨Ll, hLl⟩ : ∃ Ll, Ll = l.length := ⟨_, rfl⟩
     rw [← hLl] at ct cu HJ
     clear hLl
     go_upto_region 17 with fail
     refine wp_region_held_drew (S := (fun w' => w'.cell? ⟨g5, j, none⟩ = some (.slice (some ⟨g, 0, none⟩) Ll c) ∧ w'.cell? (at_.add j) = some (.slice al Ll cl))) (by kernel_rfl) ?_ (fun hHeld => ?_)
     ·exact ⟨cu, ct⟩
     refine tk9 0 ?_ rfl (by kernel_rfl) (fun _ _ _ h => h) ⟨by rfl, ?_⟩ (by assumption) ?_; rotate_left; (focus (intro w hSw; (try dsimp only at hSw); go_simp; (try with_reducible rfl))); (try simp only [ty9, Act.put])
     refine tk9 1 ?_ rfl (by kernel_rfl) (fun _ _ _ h => h) ⟨by rfl, ?_⟩ (by assumption) ?_; rotate_left; (focus (intro w hSw; (try dsimp only at hSw); go_simp; (try with_reducible rfl))); (try simp only [ty9, Act.put])
     refine tk9 2 ?_ rfl (by kernel_rfl) (fun _ _ _ h => h) ⟨by rfl, ?_⟩ (by assumption) ?_; rotate_left; (focus (intro w hSw; (try dsimp only at hSw); go_simp; (try with_reducible rfl))); (try simp only [ty9, Act.put])
     refine tk9 3 ?_ rfl (by kernel_rfl) (fun _ _ _ h => h) ⟨by rfl, ?_⟩ (by assumption) ?_; rotate_left; (focus (intro w hSw; (try dsimp only at hSw); go_simp; (try with_reducible rfl))); (try simp only [ty9, Act.put])
     refine tk9 4 ?_ rfl (by kernel_rfl) (fun _ _ _ h => h) ⟨by rfl, ?_⟩ (by assumption) ?_; rotate_left; (focus (intro w hSw; (try dsimp only at hSw); go_simp; (try with_reducible rfl))); (try simp only [ty9, Act.put])
     refine tk9 5 ?_ rfl (by kernel_rfl) (fun _ _ _ h => h) ⟨by rfl, ?_⟩ (by assumption) ?_; rotate_left; (focus (intro w hSw; (try dsimp only at hSw); go_simp; (try with_reducible rfl))); (try simp only [ty9, Act.put])
     refine tk9 6 ?_ rfl (by kernel_rfl) (fun _ _ _ h => h) ⟨by rfl, ?_⟩ (by assumption) ?_; rotate_left; (focus (intro w hSw; (try dsimp only at hSw); go_simp; (try with_reducible rfl))); (try simp only [ty9, Act.put])
     refine tk9 7 ?_ rfl (by kernel_rfl) (fun _ _ _ h => h) ⟨by rfl, ?_⟩ (by assumption) ?_; rotate_left; (focus (intro w hSw; (try dsimp only at hSw); go_simp; (try with_reducible rfl))); (try simp only [ty9, Act.put])
     refine wpAnyH_ready (rs := [8]) (by kernel_rfl) (by simp) ?_
     refine AllReadyH.cons (o := _) rfl (fun K hK => ?_) ?_
     ·(go_simp; go_at_call 21; refine Calls.mono (HJ.out.1 _ ((Below.refl _ _).drew)) ?_; rintro r wb ⟨rfl, hbb⟩; have HB : Hid _ := (Below.refl wa.heap.size wa).drew.trans hbb; clear hbb; have cu := (HB.out.cell (World.block_lt_of_cell? wa _ cu)).trans cu; have ct := (HB.out.cell (World.block_lt_of_cell? wa _ ct)).trans ct)
      (try go_wp2_with fail)
      refine hK.out _ _ ?_ (fun hHeld => ?_)
      ·exact ⟨cu, ct⟩
      clear hK K
      (try simp only [ty9, Act.put])
      refine tk9 9 ?_ rfl (by kernel_rfl) (fun _ _ _ h => h) ⟨by rfl, ?_⟩ (by assumption) ?_; rotate_left; (focus (intro w hSw; (try dsimp only at hSw); go_simp; (try with_reducible rfl))); (try simp only [ty9, Act.put])
      refine wpAnyH_done (by kernel_rfl) ?_ _
      (try go_simp)
      go_wp2_with fail
      go_roundg (i - (j + 1))
      case measure => omega
      case rel => exact ⟨j + 1, rfl, by omega, by go_num, bel6 HB.out HJ.out.2⟩
     exact AllReadyH.nil
    ·obtain rfl : j = i := by omega
     have p1 : ¬ (j : Int) < (j : Int) := by omega
     have HJ : Hid _ := bel6 hb1a H1.out.2.1
     clear hbj hLa hb1a
     go_wp2_with fail
     refine Calls.mono (H1.out.2.2.2.1 _ HJ.out) ?_
     rintro r wb ⟨rfl, hbb⟩
     have HZ : Hid _ := bel6 hbb HJ.out
     clear hbb
     go_wp2_with fail
     go_ret
     exact ⟨rfl, HZ.out⟩
set_option linter.unusedSimpArgs false in
set_option maxRecDepth 100000 in
set_option maxHeartbeats 16000000 in
theorem lawReplays_some (hS : SortOk 1000000) (m kk : Nat) (s : Int) (v vt : Value) (es : List Sy.Ed) (tk : List (List Int)) (e : Nat → Addr) (w : World) (hA : PAl9 w) (hE : Er 19 w e) (hV : EnvS w (e 14) (e 15) (e 1) (e 3)) (hv : HasE w v es) (ht : HasR w vt tk) (hli : lightB m es.length (Sy.right m kk s es) = true) (hn : (m : Int) ≤ 60) (htl : tk.length ≤ 200) (hq : Sy.right m kk s es = true) (cl0 : List Nat) (hmr : Sg.mReplay (gp m kk s es) tk = some cl0) :
 Calls Tryz.prog 4 #[sysV m kk s v, vt] w fun r w' => r = .returned (.bool true) ∧ Below w.heap.size w w' := by
 obtain ⟨i0, hi0, hz0, hz1, hz2⟩ := info_parts Tryz.infoRI
 have hll := light_len hli
 have hvs := hv
 obtain ⟨ao, cap, rfl, hcap, hH⟩ := hvs
 obtain ⟨ta, tc, rfl, _⟩ := id ht
 obtain ⟨L, hL⟩ : ∃ L, L = es.length := ⟨_, rfl⟩
 obtain ⟨N, hN⟩ : ∃ N, N = tk.length := ⟨_, rfl⟩
 obtain ⟨w1, hw1⟩ : ∃ w1, w1 = w.alloc (.cells #[.int .i64 m, .int .i64 kk, .int .i64 s, .slice ao L cap] 24) := ⟨_, rfl⟩
 have hb1 : Below w.heap.size w w1 := by rw [hw1]; exact (Below.refl _ _).alloc (Nat.le_refl _) _
 have hg1 : w1.heap[w.heap.size]? = some (.cells #[.int .i64 m, .int .i64 kk, .int .i64 s, .slice ao L cap] 24 (0, 0)) := by rw [hw1]; exact heap_alloc_new w _
 have hLt := light_any m kk s _ es w1 (hH.below hb1)
 rw [hli] at hLt
 have hRp := fun W lv (hb : Below w1.heap.size w1 W) (hl : HasR W lv tk) => replay_ok hS m kk s _ lv es tk _ _ _ _ W ((hV.below hb1).below hb) ((hH.below hb1).below hb) hl (by omega) (by omega) hq
 have hDc := fun W (hb : Below w1.heap.size w1 W) (hz : ∀ zs ∈ tk, zs.length ≤ 1000000) => docReplay_any m kk s _ _ es tk W ((hv.below hb1).below hb) ((ht.below hb1).below hb) (by omega) hz hq
 rw [← hL] at hLt hRp hDc ⊢
 rw [← hN] at hDc ht htl ⊢
 unfold sysV at hLt hRp hDc ⊢
 have H1 : Hid _ := And.intro hw1 (And.intro hb1 (And.intro hLt (And.intro hA (And.intro hRp (And.intro hDc (And.intro hE (And.intro hg1 (And.intro ht hN))))))))
 obtain ⟨x0, x1, x2, x3⟩ := four_cells hg1
 have g60 : ¬ (60 : Int) < (m : Int) := by omega
 have g200 : ¬ (200 : Int) < (N : Int) := by omega
 have hcl : (natI cl0).length ≤ 1000000000000000 := by
  obtain ⟨R, hR⟩ := Ro.exists_last m (fun i => Sy.rowOf m (Sy.nf es) (i : Int))
  rw [Sg.replay_end (G := gp m kk s es) hq hR hmr]
  have := Ro.rnd_len (gp m kk s es).n (Sg.outG (gp m kk s es)) R
  have h60 : (gp m kk s es).n ≤ 60 := (by omega : m ≤ 60)
  simp [natI]; omega
 have HX0 : Hid _ := hcl
 have HMR : Hid _ := hmr
 clear hA hE hV hv ht hH hcap hL hN hw1 hb1 hg1 hLt hRp hDc hli hq hll hmr hcl
 go_enter Tryz.func4, Tryz.ntmps4
 go_upto_region 1 with fail
 rw [← H1.out.1]
 go_wp2_with fail
 refine Calls.mono H1.out.2.2.1 ?_
 rintro r w2 ⟨rfl, hb2⟩
 clear x0 x1 x2 x3
 obtain ⟨x0, x1, x2, x3⟩ := four_cells (res_up6 hb2 H1.out.2.2.2.2.2.2.2.1)
 have H2 : Hid (Below w1.heap.size w1 w2) := hb2
 clear hb2
 go_wp2_with fail
 clear x0 x1 x2 x3
 go_loopg [5, 6] N (fun q lv iv wr => ∃ (i : Nat) (us : List Value), q = N - i ∧ i ≤ N ∧ iv = .int .i64 i ∧ LnR w2 wr lv tk i us)
 case atStart => exact ⟨0, [], rfl, Nat.zero_le _, rfl, LnR.nil w2 tk⟩
 case round =>
  obtain ⟨i, us, rfl, hi, rfl, hLn⟩ := hrel
  obtain ⟨w3, rfl⟩ : ∃ w3, w3 = wr := ⟨_, rfl⟩
  obtain ⟨a5, c5, h5⟩ := row_shape hLn.own
  subst h5
  have hb13 := bel6 hLn.bl H2.out
  by_cases hiN : i < N
  ·obtain ⟨l, hl⟩ : ∃ l, tk[i]? = some l := ⟨tk[i]'(by have := H1.out.2.2.2.2.2.2.2.2.2; omega), List.getElem?_eq_getElem _⟩
   obtain ⟨at_, al, cl, hta, ct, hIl⟩ := H1.out.2.2.2.2.2.2.2.2.1.row (bel6 hb13 H1.out.2.1) hl
   subst hta
   obtain ⟨Ln, hLn2⟩ : ∃ Ln, Ln = l.length := ⟨_, rfl⟩
   have q0 : (0 : Int) ≤ (i : Int) := by omega
   have q1 : (i : Int) < (N : Int) := by omega
   by_cases h300 : 300 < Ln
   ·have q2 : (300 : Int) < (Ln : Int) := by omega
    rw [← hLn2] at ct
    have HR : Hid _ := bel6 hb13 H1.out.2.1
    clear hLn hIl hl hLn2 hb13
    go_wp2_with fail
    refine Calls.mono (H1.out.2.2.2.1 _ HR.out) ?_
    rintro r w4 ⟨rfl, hb4⟩
    have H4 : Hid _ := bel6 hb4 HR.out
    clear hb4
    go_wp2_with fail
    go_ret
    exact ⟨rfl, H4.out⟩
   ·have q2 : ¬ (300 : Int) < (Ln : Int) := by omega
    have hLe := lent_any (.slice al l.length cl) l w3 hIl (by omega)
    rw [← hLn2] at hLe ct
    have hOw := hLn.own
    have HR : Hid _ := And.intro hLn (And.intro hLe (And.intro hl (And.intro hLn2 hOw)))
    have hlL : l.length ≤ 300 := by omega
    have HLL : Hid _ := hlL
    clear hLn hIl hl hLn2 hb13 hLe hOw hlL h300
    go_wp2_with fail
    refine Calls.mono HR.out.2.1 ?_
    rintro r w4 ⟨g, c, rfl, hL4, hb4⟩
    have hR4 := HR.out.1.below hb4
    have hL4b : Lent w4 w2.heap.size g c l := row_base hL4 HR.out.1.bl.size
    have hml : i + 1 ≤ maxLen := by unfold maxLen; omega
    have hby : (i + 1) * 24 ≤ 140737488355328 := by omega
    have hle : w2.heap.size ≤ (w4.alloc (.cells #[.slice (some ⟨g, 0, none⟩) Ln c] 28)).heap.size := by have := hR4.bl.size; simp; omega
    have HO4 : Hid _ := And.intro hR4.own (And.intro hR4 hL4b)
    clear hL4 hb4 hR4 hL4b
    go_wp2_with (at_builtin; refine wpList_append_own_at _ rfl _ _ 40 rfl w2.heap.size 28 i0 (.slice none 0 0) 1 24 Tryz.underlying40 hi0 hz0 hz1 hz2 rfl (by decide) (.slice a5 i c5) i us rfl (HO4.out.1.alloc _) ⟨w4.heap.size, 0, none⟩ 1 1 [.slice (some ⟨g, 0, none⟩) Ln c] rfl rfl (World.news_of_block (cs := #[.slice (some ⟨g, 0, none⟩) Ln c]) (t := 28) (fr := (0, 0)) (heap_alloc_new w4 _)) (by simp [Value.oneCell']) hml hby hle ?_; intro v7 w7 hO7 hg7 hnil7 hat7; have H7 : Hid _ := And.intro hO7 hg7; clear hO7 hg7 hnil7 hat7)
    go_roundg (N - (i + 1))
    case measure => omega
    case rel =>
     refine ⟨i + 1, _, rfl, by omega, by go_num, HO4.out.2.1.app HR.out.2.2.1 HLL.out HO4.out.2.2 ?_ H7.out.2⟩
     rw [← HR.out.2.2.2.1]
     exact H7.out.1
  ·obtain rfl : i = N := by omega
   have q1 : ¬ (i : Int) < (i : Int) := by omega
   have hNl := H1.out.2.2.2.2.2.2.2.2.2
   have hRl : HasR w3 (.slice a5 i c5) tk := by
    have h1 := hLn
    rw [hNl] at h1 ⊢
    exact h1.has
   have h300 : ∀ zs ∈ tk, zs.length ≤ 1000000 := fun zs hz => by
    obtain ⟨j, hj⟩ := List.mem_iff_getElem?.1 hz
    have h1 := (hLn.row j zs (by have := (List.getElem?_eq_some_iff.1 hj).1; omega) hj).1
    omega
   have hRp := H1.out.2.2.2.2.1 w3 (.slice a5 i c5) hb13 hRl
   obtain ⟨x0, x1, x2, x3⟩ := four_cells (res_up6 hb13 H1.out.2.2.2.2.2.2.2.1)
   have HR : Hid _ := And.intro hLn (And.intro hRp (And.intro hb13 (And.intro h300 hNl)))
   clear hLn hRp hb13 h300 hRl hNl
   go_wp2_with fail
   refine Calls.mono HR.out.2.1 ?_
   rintro r w4 ⟨hb4, ho⟩
   rw [HMR.out] at ho
   obtain ⟨uc, rfl, hO4⟩ := ho
   obtain ⟨ac, cc, huc⟩ := row_shape hO4
   subst huc
   have H4 : Hid _ := And.intro (bel6 hb4 HR.out.2.2.1) (And.intro (HR.out.1.below hb4) hO4.has)
   clear hO4 hb4 x0 x1 x2 x3
   obtain ⟨M, hM⟩ : ∃ M, M = (natI cl0).length := ⟨_, rfl⟩
   rw [← hM] at H4 ⊢
   have HM : Hid _ := hM
   have HX : Hid (M ≤ 1000000000000000) := (by rw [hM]; exact HX0.out : M ≤ 1000000000000000)
   clear hM
   obtain ⟨x0, x1, x2, x3⟩ := four_cells (res_up6 H4.out.1 H1.out.2.2.2.2.2.2.2.1)
   go_wp2_with fail
   refine Calls.mono (H1.out.2.2.2.2.2.1 w4 H4.out.1 HR.out.2.2.2.1) ?_
   rintro r w5 ⟨hb5, ho⟩
   rw [HMR.out] at ho
   obtain ⟨ad, nd, cd, rfl, hI5⟩ := ho
   have H5 : Hid _ := And.intro (bel6 hb5 H4.out.1) (And.intro (H4.out.2.1.below hb5) (And.intro (H4.out.2.2.below hb5) hI5))
   clear hb5 hI5 x0 x1 x2 x3
   go_upto_region 12 with fail
   obtain ⟨w7, hw7⟩ : ∃ w7, w7 = w5.alloc (.cells #[.int .i64 0, .int .i64 0, .int .i64 0, .string ⟨#[]⟩] 34) := ⟨_, rfl⟩
   rw [← hw7]
   have hb7 : Below w5.heap.size w5 w7 := by rw [hw7]; exact (Below.refl _ _).alloc (Nat.le_refl _) _
   have hg7 : w7.heap[w5.heap.size]? = some (.cells #[.int .i64 0, .int .i64 0, .int .i64 0, .string ⟨#[]⟩] 34 (0, 0)) := by rw [hw7]; exact heap_alloc_new w5 _
   obtain ⟨y0, y1, y2, y3⟩ := four_cells hg7
   obtain ⟨b7, hb7e⟩ : ∃ b7, b7 = w5.heap.size := ⟨_, rfl⟩
   rw [← hb7e] at y0 y1 y2 y3 ⊢
   have hT := told_none 0 0 ⟨#[]⟩ w7
   have H7 : Hid _ := And.intro hb7 hT
   clear hb7 hg7 hw7 hT hb7e
   go_wp2_with fail
   refine Calls.mono H7.out.2 ?_
   rintro r w8 ⟨rfl, hb8⟩
   have hbW5 := bel6 hb8 H7.out.1
   have hSi := (fun W (hbW : Below w5.heap.size w5 W) => sameInts_b (.slice ac M cc) (.slice ad nd cd) (natI cl0) (natI cl0) W (by rw [← HM.out]; exact HX.out) (by rw [← HM.out]; exact HX.out) (H5.out.2.2.1.below hbW) (H5.out.2.2.2.below hbW)) w8 hbW5
   rw [beq_self_eq_true] at hSi
   have H8 : Hid _ := And.intro (bel6 hbW5 H5.out.1) (And.intro (H5.out.2.1.below hbW5) hSi)
   clear hb8 hbW5 hSi y0 y1 y2 y3
   go_wp2_with fail
   refine Calls.mono H8.out.2.2 ?_
   rintro r w9 ⟨rfl, hb9⟩
   have H9 : Hid _ := And.intro (bel6 hb9 H8.out.1) (H8.out.2.1.below hb9)
   clear hb9
   go_wp2_with fail
   go_loopg [11] i (fun q jv wr => ∃ j : Nat, q = i - j ∧ j ≤ i ∧ jv = .int .i64 j ∧ Below w9.heap.size w9 wr)
   case atStart => exact ⟨0, rfl, Nat.zero_le _, rfl, Below.refl _ _⟩
   case round =>
    obtain ⟨j, rfl, hj, rfl, hbj⟩ := hrel
    obtain ⟨wa, rfl⟩ : ∃ wa, wa = wr := ⟨_, rfl⟩
    have hLa := H9.out.2.below hbj
    have hb1a := bel6 hbj H9.out.1
    by_cases hji : j < i
    ·obtain ⟨l, hl⟩ : ∃ l, tk[j]? = some l := ⟨tk[j]'(by have := HR.out.2.2.2.2; omega), List.getElem?_eq_getElem _⟩
     obtain ⟨at_, al, cl, hta, ct, hIl⟩ := H1.out.2.2.2.2.2.2.2.2.1.row (bel6 hb1a H1.out.2.1) hl
     subst hta
     obtain ⟨h300, g, c, hu, hLg⟩ := hLa.row j l hji hl
     obtain ⟨g5, cap5, hs5⟩ := ownsRow_succ (show wa.ownsRow w2.heap.size 28 1 (.slice a5 i c5) ((i - 1) + 1) us by rw [show i - 1 + 1 = i by omega]; exact hLa.own)
     injection hs5 with e1 e2 e3
     subst e1
     have cu : wa.cell? ⟨g5, j, none⟩ = some (.slice (some ⟨g, 0, none⟩) l.length c) := by
      rw [hLa.own.cellAt j (by omega)]
      simp [hu]
     have hSt := fun W (hb : Below wa.heap.size wa W) => stays_lent w2.heap.size g c (.slice al l.length cl) l W (by omega) (hLg.at (hb.block g hLg.lt.2)) (hIl.below hb)
     have p0 : (0 : Int) ≤ (j : Int) := by omega
     have p1 : (j : Int) < (i : Int) := by omega
     have HJ : Hid _ := And.intro hSt hbj
     clear hSt hbj hLa hb1a hIl hl h300 hu hLg e2 e3
     obtain ⟨Ll, hLl⟩ : ∃ Ll, Ll = l.length := ⟨_, rfl⟩
     rw [← hLl] at ct cu HJ
     clear hLl
     go_upto_region 17 with fail
     refine wp_region_held_drew (S := (fun w' => w'.cell? ⟨g5, j, none⟩ = some (.slice (some ⟨g, 0, none⟩) Ll c) ∧ w'.cell? (at_.add j) = some (.slice al Ll cl))) (by kernel_rfl) ?_ (fun hHeld => ?_)
     ·exact ⟨cu, ct⟩
     refine tk9 0 ?_ rfl (by kernel_rfl) (fun _ _ _ h => h) ⟨by rfl, ?_⟩ (by assumption) ?_; rotate_left; (focus (intro w hSw; (try dsimp only at hSw); go_simp; (try with_reducible rfl))); (try simp only [ty9, Act.put])
     refine tk9 1 ?_ rfl (by kernel_rfl) (fun _ _ _ h => h) ⟨by rfl, ?_⟩ (by assumption) ?_; rotate_left; (focus (intro w hSw; (try dsimp only at hSw); go_simp; (try with_reducible rfl))); (try simp only [ty9, Act.put])
     refine tk9 2 ?_ rfl (by kernel_rfl) (fun _ _ _ h => h) ⟨by rfl, ?_⟩ (by assumption) ?_; rotate_left; (focus (intro w hSw; (try dsimp only at hSw); go_simp; (try with_reducible rfl))); (try simp only [ty9, Act.put])
     refine tk9 3 ?_ rfl (by kernel_rfl) (fun _ _ _ h => h) ⟨by rfl, ?_⟩ (by assumption) ?_; rotate_left; (focus (intro w hSw; (try dsimp only at hSw); go_simp; (try with_reducible rfl))); (try simp only [ty9, Act.put])
     refine tk9 4 ?_ rfl (by kernel_rfl) (fun _ _ _ h => h) ⟨by rfl, ?_⟩ (by assumption) ?_; rotate_left; (focus (intro w hSw; (try dsimp only at hSw); go_simp; (try with_reducible rfl))); (try simp only [ty9, Act.put])
     refine tk9 5 ?_ rfl (by kernel_rfl) (fun _ _ _ h => h) ⟨by rfl, ?_⟩ (by assumption) ?_; rotate_left; (focus (intro w hSw; (try dsimp only at hSw); go_simp; (try with_reducible rfl))); (try simp only [ty9, Act.put])
     refine tk9 6 ?_ rfl (by kernel_rfl) (fun _ _ _ h => h) ⟨by rfl, ?_⟩ (by assumption) ?_; rotate_left; (focus (intro w hSw; (try dsimp only at hSw); go_simp; (try with_reducible rfl))); (try simp only [ty9, Act.put])
     refine tk9 7 ?_ rfl (by kernel_rfl) (fun _ _ _ h => h) ⟨by rfl, ?_⟩ (by assumption) ?_; rotate_left; (focus (intro w hSw; (try dsimp only at hSw); go_simp; (try with_reducible rfl))); (try simp only [ty9, Act.put])
     refine wpAnyH_ready (rs := [8]) (by kernel_rfl) (by simp) ?_
     refine AllReadyH.cons (o := _) rfl (fun K hK => ?_) ?_
     ·(go_simp; go_at_call 21; refine Calls.mono (HJ.out.1 _ ((Below.refl _ _).drew)) ?_; rintro r wb ⟨rfl, hbb⟩; have HB : Hid _ := (Below.refl wa.heap.size wa).drew.trans hbb; clear hbb; have cu := (HB.out.cell (World.block_lt_of_cell? wa _ cu)).trans cu; have ct := (HB.out.cell (World.block_lt_of_cell? wa _ ct)).trans ct)
      (try go_wp2_with fail)
      refine hK.out _ _ ?_ (fun hHeld => ?_)
      ·exact ⟨cu, ct⟩
      clear hK K
      (try simp only [ty9, Act.put])
      refine tk9 9 ?_ rfl (by kernel_rfl) (fun _ _ _ h => h) ⟨by rfl, ?_⟩ (by assumption) ?_; rotate_left; (focus (intro w hSw; (try dsimp only at hSw); go_simp; (try with_reducible rfl))); (try simp only [ty9, Act.put])
      refine wpAnyH_done (by kernel_rfl) ?_ _
      (try go_simp)
      go_wp2_with fail
      go_roundg (i - (j + 1))
      case measure => omega
      case rel => exact ⟨j + 1, rfl, by omega, by go_num, bel6 HB.out HJ.out.2⟩
     exact AllReadyH.nil
    ·obtain rfl : j = i := by omega
     have p1 : ¬ (j : Int) < (j : Int) := by omega
     have HJ : Hid _ := bel6 hb1a H1.out.2.1
     clear hbj hLa hb1a
     go_wp2_with fail
     refine Calls.mono (H1.out.2.2.2.1 _ HJ.out) ?_
     rintro r wb ⟨rfl, hbb⟩
     have HZ : Hid _ := bel6 hbb HJ.out
     clear hbb
     go_wp2_with fail
     go_ret
     exact ⟨rfl, HZ.out⟩
theorem lawReplays_any (hS : SortOk 1000000) (n k s : Int) (v vt : Value) (es : List Sy.Ed) (tk : List (List Int)) (e : Nat → Addr) (w : World) (hE : Er 19 w e) (hV : EnvS w (e 14) (e 15) (e 1) (e 3)) (hv : HasE w v es) (ht : HasR w vt tk) :
 Calls Tryz.prog 4 #[sysV n k s v, vt] w fun r w' => r = .returned (.bool true) ∧ Below w.heap.size w w' := by
 have hA := pAl9 hS _ _ _ _ w hV
 by_cases h1 : lightB n es.length (Sy.right n k s es) = false ∨ 60 < n ∨ 200 < tk.length
 ·exact lawReplays_out n k s v vt es tk w hA hv ht h1
 ·have hli : lightB n es.length (Sy.right n k s es) = true := by
   cases h2 : lightB n es.length (Sy.right n k s es) with
   | true => rfl
   | false => exact absurd (.inl h2) h1
  cases hq : Sy.right n k s es with
  | false => exact lawReplays_bad hS n k s v vt es tk e w hA hE hv ht hli (by omega) (by omega) hq
  | true =>
    have hp := right_parts hq
    obtain ⟨m, rfl⟩ : ∃ m : Nat, n = (m : Int) := ⟨n.toNat, by omega⟩
    obtain ⟨kk, rfl⟩ : ∃ m : Nat, k = (m : Int) := ⟨k.toNat, by omega⟩
    cases hm : Sg.mReplay (gp m kk s es) tk with
    | none => exact lawReplays_none hS m kk s v vt es tk e w hA hE hV hv ht hli (by omega) (by omega) hq hm
    | some cl => exact lawReplays_some hS m kk s v vt es tk e w hA hE hV hv ht hli (by omega) (by omega) hq cl hm
end Go.Proofs.YtkiapldehlnndaaGreatDoor
/- What the listed package variables give: api's errors lie in memory, each at an address of its own, whichever are listed. (Written by mker.py.) -/
namespace Go.Proofs.YtkiapldehlnndaaGreatDoor
open Go.ChangeShapes Go.WideShapes Go.ChangeAt Go.WideMaps Go.WideElems Go.RowKit
theorem Tryz.own : ownKnob Tryz.prog.godebug = none := by kernel_rfl
theorem Tryz.laidOut : laidOutB Tryz.prog = true := by kernel_rfl
theorem Tryz.cellsE : Tryz.prog.cellsOf 307 = 1 := by kernel_rfl
theorem Tryz.cellsS : Tryz.prog.cellsOf 9 = 1 := by kernel_rfl
set_option maxRecDepth 100000 in
theorem Tryz.star : "*" ++ "errors.errorString" = "*errors.errorString" := by decide
set_option maxRecDepth 100000 in
theorem Tryz.rowE (u : TypeId) (h : Tryz.prog.typeName? 3 u = some "*errors.errorString") : u = 287 :=
 typeName_ptr_named (nm := "errors.errorString") (by rw [Tryz.star]; kernel_rfl) (by kernel_rfl) (by decide) u (by rw [Tryz.star]; exact h)
set_option maxRecDepth 100000 in
theorem laid_step {W : World} {n : String} {g : Nat} {text : List UInt8} {r : List (String × DataW Unit)} {ps : List MemPlace} (hg : Tryz.prog.globalNamed n = some g) (ht : (Tryz.prog.globals[g]?).map (·.type) = some 30)
 (h : DataW.LaidVars Tryz.prog W ((n, .iface "*errors.errorString" (.ptr (.agg [.lit (.string text)]))) :: r) ps)
 (hrows : ∀ b off, MemPlace.cell b off ∈ ps → (∃ c t, W.heap[b]? = some (.cells c t (0, 0))) ∧ ∀ u v, W.cell? ⟨b, off, none⟩ = some (.iface u v) → Value.okWide Tryz.prog W .any 0 u v) :
 ∃ a q, Sent W g a ∧ DataW.LaidVars Tryz.prog W r q ∧ ps = MemPlace.cell g 0 :: MemPlace.cell a.block a.off :: q := by
 obtain ⟨g0, t0, cs0, f0, p0, q0, hg0, ht0, hv0, hd0, hr, e0⟩ := h
 obtain rfl := Option.some.inj (hg.symm.trans hg0)
 obtain rfl := Option.some.inj (ht.symm.trans ht0)
 subst e0
 obtain ⟨l0⟩ := cs0
 have ok0 : ∀ u v, l0 = [.iface u v] → Value.okWide Tryz.prog W .any 0 u v := fun u v e => by
  subst e
  exact (hrows g 0 (by simp [MemPlace.row])).2 u v (by simpa using World.var?_cell hg0 hv0 0)
 obtain ⟨a0, s0, rfl, hc0, hs0, hz0, rfl⟩ := errorString_of_trod Tryz.underlying30 Tryz.rowE Tryz.underlying287 Tryz.underlying307 rfl rfl Tryz.underlying9 Tryz.cellsE Tryz.cellsS hd0 ok0
 refine ⟨a0, q0, ⟨by simpa using World.var?_cell hg0 hv0 0, (hrows a0.block a0.off (by simp [MemPlace.row])).1⟩, hr, ?_⟩
 simp [MemPlace.row]
abbrev LE : Type := String × Nat × List UInt8
def leV (x : LE) : String × DataW Unit := (x.1, .iface "*errors.errorString" (.ptr (.agg [.lit (.string x.2.2)])))
theorem laid_list {W : World} {r : List (String × DataW Unit)} : ∀ (xs : List LE) (ps : List MemPlace), (∀ x ∈ xs, Tryz.prog.globalNamed x.1 = some x.2.1 ∧ (Tryz.prog.globals[x.2.1]?).map (·.type) = some 30) →
 DataW.LaidVars Tryz.prog W (xs.map leV ++ r) ps → (∀ b off, MemPlace.cell b off ∈ ps → (∃ c t, W.heap[b]? = some (.cells c t (0, 0))) ∧ ∀ u v, W.cell? ⟨b, off, none⟩ = some (.iface u v) → Value.okWide Tryz.prog W .any 0 u v) →
 ∃ ads : List Addr, ads.length = xs.length ∧ (∀ (i : Nat) (x : LE) (a : Addr), xs[i]? = some x → ads[i]? = some a → Sent W x.2.1 a) ∧ (∀ a ∈ ads, MemPlace.cell a.block a.off ∈ ps) ∧ (ps.Nodup → ads.Pairwise (· ≠ ·))
 | [], ps, _, _, _ => ⟨[], rfl, fun i x a h => by simp at h, fun a h => by simp at h, fun _ => List.Pairwise.nil⟩
 | x :: xs, ps, hx, h, hr => by
   obtain ⟨a, q, hs, hq, rfl⟩ := laid_step (hx x List.mem_cons_self).1 (hx x List.mem_cons_self).2 h hr
   obtain ⟨ads, h1, h2, h3, h4⟩ := laid_list xs q (fun y hy => hx y (List.mem_cons_of_mem _ hy)) hq (fun b off hb => hr b off (List.mem_cons_of_mem _ (List.mem_cons_of_mem _ hb)))
   refine ⟨a :: ads, by simp [h1], fun i y b hy hb => ?_, fun b hb => ?_, fun hn => ?_⟩
   ·cases i with
    | zero => simp at hy hb; subst hy; subst hb; exact hs
    | succ i => exact h2 i y b (by simpa using hy) (by simpa using hb)
   ·rcases List.mem_cons.1 hb with rfl | hb
    ·exact List.mem_cons_of_mem _ List.mem_cons_self
    ·exact List.mem_cons_of_mem _ (List.mem_cons_of_mem _ (h3 b hb))
   ·have hn2 := (List.nodup_cons.1 hn).2
    have hn3 := List.nodup_cons.1 hn2
    exact List.Pairwise.cons (fun b hb e => hn3.1 (by rw [e]; exact h3 b hb)) (h4 hn3.2)
theorem Tryz.g1 : Tryz.prog.globalNamed "semblance/api.ErrArg" = some 2 := by kernel_rfl
theorem Tryz.t1 : (Tryz.prog.globals[2]?).map (·.type) = some 30 := by kernel_rfl
theorem Tryz.g2 : Tryz.prog.globalNamed "semblance/api.ErrLong" = some 3 := by kernel_rfl
theorem Tryz.t2 : (Tryz.prog.globals[3]?).map (·.type) = some 30 := by kernel_rfl
theorem Tryz.g3 : Tryz.prog.globalNamed "semblance/api.ErrIndex" = some 4 := by kernel_rfl
theorem Tryz.t3 : (Tryz.prog.globals[4]?).map (·.type) = some 30 := by kernel_rfl
theorem Tryz.g4 : Tryz.prog.globalNamed "semblance/api.ErrWord" = some 5 := by kernel_rfl
theorem Tryz.t4 : (Tryz.prog.globals[5]?).map (·.type) = some 30 := by kernel_rfl
theorem Tryz.g5 : Tryz.prog.globalNamed "semblance/api.ErrSyntax" = some 6 := by kernel_rfl
theorem Tryz.t5 : (Tryz.prog.globals[6]?).map (·.type) = some 30 := by kernel_rfl
theorem Tryz.g6 : Tryz.prog.globalNamed "semblance/api.ErrDeep" = some 7 := by kernel_rfl
theorem Tryz.t6 : (Tryz.prog.globals[7]?).map (·.type) = some 30 := by kernel_rfl
theorem Tryz.g7 : Tryz.prog.globalNamed "semblance/api.ErrTwice" = some 8 := by kernel_rfl
theorem Tryz.t7 : (Tryz.prog.globals[8]?).map (·.type) = some 30 := by kernel_rfl
theorem Tryz.g8 : Tryz.prog.globalNamed "semblance/api.ErrUnknown" = some 9 := by kernel_rfl
theorem Tryz.t8 : (Tryz.prog.globals[9]?).map (·.type) = some 30 := by kernel_rfl
theorem Tryz.g9 : Tryz.prog.globalNamed "semblance/api.ErrSilent" = some 10 := by kernel_rfl
theorem Tryz.t9 : (Tryz.prog.globals[10]?).map (·.type) = some 30 := by kernel_rfl
theorem Tryz.g10 : Tryz.prog.globalNamed "semblance/api.ErrUnguarded" = some 11 := by kernel_rfl
theorem Tryz.t10 : (Tryz.prog.globals[11]?).map (·.type) = some 30 := by kernel_rfl
theorem Tryz.g11 : Tryz.prog.globalNamed "semblance/api.ErrSteps" = some 12 := by kernel_rfl
theorem Tryz.t11 : (Tryz.prog.globals[12]?).map (·.type) = some 30 := by kernel_rfl
theorem Tryz.g12 : Tryz.prog.globalNamed "semblance/api.ErrStates" = some 13 := by kernel_rfl
theorem Tryz.t12 : (Tryz.prog.globals[13]?).map (·.type) = some 30 := by kernel_rfl
theorem Tryz.g13 : Tryz.prog.globalNamed "semblance/api.ErrEdges" = some 14 := by kernel_rfl
theorem Tryz.t13 : (Tryz.prog.globals[14]?).map (·.type) = some 30 := by kernel_rfl
theorem Tryz.g14 : Tryz.prog.globalNamed "semblance/api.ErrSystem" = some 0 := by kernel_rfl
theorem Tryz.t14 : (Tryz.prog.globals[0]?).map (·.type) = some 30 := by kernel_rfl
theorem Tryz.g15 : Tryz.prog.globalNamed "semblance/api.ErrClasses" = some 1 := by kernel_rfl
theorem Tryz.t15 : (Tryz.prog.globals[1]?).map (·.type) = some 30 := by kernel_rfl
theorem Tryz.g16 : Tryz.prog.globalNamed "semblance/api.ErrFormula" = some 15 := by kernel_rfl
theorem Tryz.t16 : (Tryz.prog.globals[15]?).map (·.type) = some 30 := by kernel_rfl
theorem Tryz.g17 : Tryz.prog.globalNamed "semblance/api.ErrLimit" = some 16 := by kernel_rfl
theorem Tryz.t17 : (Tryz.prog.globals[16]?).map (·.type) = some 30 := by kernel_rfl
theorem Tryz.g18 : Tryz.prog.globalNamed "semblance/api.ErrNone" = some 17 := by kernel_rfl
theorem Tryz.t18 : (Tryz.prog.globals[17]?).map (·.type) = some 30 := by kernel_rfl
theorem Tryz.g19 : Tryz.prog.globalNamed "semblance/api.ErrScript" = some 18 := by kernel_rfl
theorem Tryz.t19 : (Tryz.prog.globals[18]?).map (·.type) = some 30 := by kernel_rfl
set_option maxRecDepth 100000 in
theorem er_of {W : World} {x1 x2 x3 x4 x5 x6 x7 x8 x9 x10 x11 x12 x13 x14 x15 x16 x17 x18 x19 : List UInt8} {r : List (String × DataW Unit)} (h : laidMet Tryz.prog (("semblance/api.ErrArg", .iface "*errors.errorString" (.ptr (.agg [.lit (.string x1)]))) :: ("semblance/api.ErrLong", .iface "*errors.errorString" (.ptr (.agg [.lit (.string x2)]))) :: ("semblance/api.ErrIndex", .iface "*errors.errorString" (.ptr (.agg [.lit (.string x3)]))) :: ("semblance/api.ErrWord", .iface "*errors.errorString" (.ptr (.agg [.lit (.string x4)]))) :: ("semblance/api.ErrSyntax", .iface "*errors.errorString" (.ptr (.agg [.lit (.string x5)]))) :: ("semblance/api.ErrDeep", .iface "*errors.errorString" (.ptr (.agg [.lit (.string x6)]))) :: ("semblance/api.ErrTwice", .iface "*errors.errorString" (.ptr (.agg [.lit (.string x7)]))) :: ("semblance/api.ErrUnknown", .iface "*errors.errorString" (.ptr (.agg [.lit (.string x8)]))) :: ("semblance/api.ErrSilent", .iface "*errors.errorString" (.ptr (.agg [.lit (.string x9)]))) :: ("semblance/api.ErrUnguarded", .iface "*errors.errorString" (.ptr (.agg [.lit (.string x10)]))) :: ("semblance/api.ErrSteps", .iface "*errors.errorString" (.ptr (.agg [.lit (.string x11)]))) :: ("semblance/api.ErrStates", .iface "*errors.errorString" (.ptr (.agg [.lit (.string x12)]))) :: ("semblance/api.ErrEdges", .iface "*errors.errorString" (.ptr (.agg [.lit (.string x13)]))) :: ("semblance/api.ErrSystem", .iface "*errors.errorString" (.ptr (.agg [.lit (.string x14)]))) :: ("semblance/api.ErrClasses", .iface "*errors.errorString" (.ptr (.agg [.lit (.string x15)]))) :: ("semblance/api.ErrFormula", .iface "*errors.errorString" (.ptr (.agg [.lit (.string x16)]))) :: ("semblance/api.ErrLimit", .iface "*errors.errorString" (.ptr (.agg [.lit (.string x17)]))) :: ("semblance/api.ErrNone", .iface "*errors.errorString" (.ptr (.agg [.lit (.string x18)]))) :: ("semblance/api.ErrScript", .iface "*errors.errorString" (.ptr (.agg [.lit (.string x19)]))) :: r) W) : ∃ e, Er 19 W e := by
 obtain ⟨ps, h0, hnd, r0⟩ := h
 obtain ⟨ads, h1, h2, _, h4⟩ := laid_list [("semblance/api.ErrArg", 2, x1), ("semblance/api.ErrLong", 3, x2), ("semblance/api.ErrIndex", 4, x3), ("semblance/api.ErrWord", 5, x4), ("semblance/api.ErrSyntax", 6, x5), ("semblance/api.ErrDeep", 7, x6), ("semblance/api.ErrTwice", 8, x7), ("semblance/api.ErrUnknown", 9, x8), ("semblance/api.ErrSilent", 10, x9), ("semblance/api.ErrUnguarded", 11, x10), ("semblance/api.ErrSteps", 12, x11), ("semblance/api.ErrStates", 13, x12), ("semblance/api.ErrEdges", 14, x13), ("semblance/api.ErrSystem", 0, x14), ("semblance/api.ErrClasses", 1, x15), ("semblance/api.ErrFormula", 15, x16), ("semblance/api.ErrLimit", 16, x17), ("semblance/api.ErrNone", 17, x18), ("semblance/api.ErrScript", 18, x19)] ps (fun x hx => by
  simp only [List.mem_cons, List.not_mem_nil, or_false] at hx
  rcases hx with rfl | rfl | rfl | rfl | rfl | rfl | rfl | rfl | rfl | rfl | rfl | rfl | rfl | rfl | rfl | rfl | rfl | rfl | rfl
  ·exact ⟨Tryz.g1, Tryz.t1⟩
  ·exact ⟨Tryz.g2, Tryz.t2⟩
  ·exact ⟨Tryz.g3, Tryz.t3⟩
  ·exact ⟨Tryz.g4, Tryz.t4⟩
  ·exact ⟨Tryz.g5, Tryz.t5⟩
  ·exact ⟨Tryz.g6, Tryz.t6⟩
  ·exact ⟨Tryz.g7, Tryz.t7⟩
  ·exact ⟨Tryz.g8, Tryz.t8⟩
  ·exact ⟨Tryz.g9, Tryz.t9⟩
  ·exact ⟨Tryz.g10, Tryz.t10⟩
  ·exact ⟨Tryz.g11, Tryz.t11⟩
  ·exact ⟨Tryz.g12, Tryz.t12⟩
  ·exact ⟨Tryz.g13, Tryz.t13⟩
  ·exact ⟨Tryz.g14, Tryz.t14⟩
  ·exact ⟨Tryz.g15, Tryz.t15⟩
  ·exact ⟨Tryz.g16, Tryz.t16⟩
  ·exact ⟨Tryz.g17, Tryz.t17⟩
  ·exact ⟨Tryz.g18, Tryz.t18⟩
  ·exact ⟨Tryz.g19, Tryz.t19⟩) h0 r0
 have hp := h4 hnd
 have h1' : ads.length = 19 := h1
 have hg : ∀ k, 1 ≤ k → k ≤ 19 → ads[k - 1]? = some (ads.getD (k - 1) ⟨0, 0, none⟩) := fun k _ h19 => by rw [List.getD_eq_getElem?_getD, List.getElem?_eq_getElem (by omega)]; rfl
 refine ⟨fun k => ads.getD (k - 1) ⟨0, 0, none⟩, ⟨fun _ => h2 0 _ _ rfl (hg 1 (by decide) (by decide)), fun _ => h2 1 _ _ rfl (hg 2 (by decide) (by decide)), fun _ => h2 2 _ _ rfl (hg 3 (by decide) (by decide)), fun _ => h2 3 _ _ rfl (hg 4 (by decide) (by decide)), fun _ => h2 4 _ _ rfl (hg 5 (by decide) (by decide)), fun _ => h2 5 _ _ rfl (hg 6 (by decide) (by decide)), fun _ => h2 6 _ _ rfl (hg 7 (by decide) (by decide)), fun _ => h2 7 _ _ rfl (hg 8 (by decide) (by decide)), fun _ => h2 8 _ _ rfl (hg 9 (by decide) (by decide)), fun _ => h2 9 _ _ rfl (hg 10 (by decide) (by decide)), fun _ => h2 10 _ _ rfl (hg 11 (by decide) (by decide)), fun _ => h2 11 _ _ rfl (hg 12 (by decide) (by decide)), fun _ => h2 12 _ _ rfl (hg 13 (by decide) (by decide)), fun _ => h2 13 _ _ rfl (hg 14 (by decide) (by decide)), fun _ => h2 14 _ _ rfl (hg 15 (by decide) (by decide)), fun _ => h2 15 _ _ rfl (hg 16 (by decide) (by decide)), fun _ => h2 16 _ _ rfl (hg 17 (by decide) (by decide)), fun _ => h2 17 _ _ rfl (hg 18 (by decide) (by decide)), fun _ => h2 18 _ _ rfl (hg 19 (by decide) (by decide)), fun i j hi hij hj e => ?_⟩⟩
 have hpi := List.pairwise_iff_getElem.1 hp (i - 1) (j - 1) (by omega) (by omega) (by omega)
 have ei := hg i hi (by omega)
 have ej := hg j (by omega) hj
 rw [List.getElem?_eq_getElem (by omega)] at ei ej
 exact hpi ((Option.some.inj ei).trans (e.symm.trans (Option.some.inj ej).symm))
end Go.Proofs.YtkiapldehlnndaaGreatDoor
/- What the listed package variables give strong's statements: four errors and the handle that errors.As asks. -/
namespace Go.Proofs.YtkiapldehlnndaaGreatDoor
open Go.ChangeShapes Go.WideShapes Go.ChangeAt Go.WideMaps Go.WideElems Go.RowKit
theorem Tryz.et : Tryz.prog.globalNamed "errors.errorType" = some 19 := by kernel_rfl
theorem Tryz.rt : (Tryz.prog.cutTypes.find? (·.1 == "internal/reflectlite.rtype")).map (·.2) = some 200 := by kernel_rfl
theorem Tryz.oneRow : ((List.range Tryz.prog.types.size).filter fun t => Tryz.prog.rowNamed t [101, 114, 114, 111, 114]) = [30] := by kernel_rfl
set_option maxRecDepth 100000 in
theorem handle_of {W : World} (h : handlesMet Tryz.prog [("errors.errorType", Rows.laid_errors_errorType)] W) : W.cell? ⟨19, 0, none⟩ = some (.iface 200 (.agg #[.pointer (some ⟨20, 30, none⟩)])) := by
 obtain ⟨name, u, ty, e1, e2, e3, e4, e5⟩ := h _ (List.mem_singleton.2 rfl)
 have en : name = [101, 114, 114, 111, 114] := (Option.some.inj e1).symm
 subst en
 obtain rfl := Option.some.inj (Tryz.rt.symm.trans e2)
 have hm : ty ∈ (List.range Tryz.prog.types.size).filter fun t => Tryz.prog.rowNamed t [101, 114, 114, 111, 114] := List.mem_filter.2 ⟨List.mem_range.2 e3, e4⟩
 rw [Tryz.oneRow] at hm
 obtain rfl := List.mem_singleton.1 hm
 have hh : typeHandle Tryz.prog 30 = .pointer (some ⟨20, 30, none⟩) := by kernel_rfl
 rw [hh] at e5
 simpa using World.var?_cell Tryz.et e5 0
end Go.Proofs.YtkiapldehlnndaaGreatDoor
/- A list of numbers that came in, as a plain list. -/
namespace Go.Proofs.YtkiapldehlnndaaGreatDoor
open Go.ChangeShapes Go.WideShapes Go.ChangeAt Go.WideMaps Go.WideElems Go.RowKit
theorem Tryz.cIntE : Tryz.prog.cellsOf 3 = 1 := by kernel_rfl
end Go.Proofs.YtkiapldehlnndaaGreatDoor
/- Takings that came in, as plain lists. -/
namespace Go.Proofs.YtkiapldehlnndaaGreatDoor
open Go.ChangeShapes Go.WideShapes Go.ChangeAt Go.WideMaps Go.WideElems Go.RowKit
theorem Tryz.cRowE : Tryz.prog.cellsOf 28 = 1 := by kernel_rfl
set_option maxRecDepth 100000 in
theorem ints_in {H : Type} {enc : TypeId × Value → H} {W : World} {fuel : Nat} {v : Value} {x : DataW H × List MemPlace} (h : DataW.trod enc Tryz.prog W 0 (fun _ => true) true fuel 28 [v] = some x) : ∃ zs, HasI W v zs := by
 rcases Go.ChangeShapes.open_ints Tryz.underlying28 Tryz.underlying3 Tryz.cIntE h with ⟨hc, _⟩ | ⟨a, len, cap, zs, hc, _, hl, hm, hlen, _, hcell, hwf⟩
 ·obtain rfl : v = .slice none 0 0 := by injection hc
  exact ⟨[], ⟨none, 0, rfl, fun i s h => by simp at h⟩⟩
 ·obtain rfl : v = .slice (some a) len cap := by injection hc
  have hlen' : zs.length = cap := by simpa using hlen
  refine ⟨zs.take len, ⟨some a, cap, by simp; omega, fun i z h => ⟨a, rfl, ?_⟩⟩⟩
  have hi : i < len := by have := (List.getElem?_eq_some_iff.1 h).1; simp at this; omega
  rw [List.getElem?_take_of_lt hi] at h
  rw [hcell i (by omega), List.getD_eq_getElem?_getD, h]; rfl
theorem row_choose {n : Nat} {p : Nat → List Int → Prop} (h : ∀ i, i < n → ∃ x, p i x) : ∃ f : Nat → List Int, ∀ i, i < n → p i (f i) := by
 classical
 refine ⟨fun i => if hi : i < n then Classical.choose (h i hi) else [], fun i hi => ?_⟩
 simp only [hi, dif_pos]
 exact Classical.choose_spec (h i hi)
set_option maxRecDepth 100000 in
theorem has_rows {H : Type} {enc : TypeId × Value → H} {W : World} {base : Nat} {v : Value} {d : DataW H} {ps : List MemPlace} (hok : Value.okWide Tryz.prog W .any base 40 v) (h : DataW.Trod enc Tryz.prog W 0 (fun _ => true) true 40 v d ps) : ∃ tk, HasR W v tk := by
 obtain ⟨a0, len0, cap0, rfl⟩ := okWide_slice Tryz.underlying40 hok
 obtain ⟨fuel, hf⟩ := h
 rcases Go.Deep.open_slice Tryz.underlying40 hf with ⟨hc, _⟩ | ⟨a, len, cap, m, n, D, Pl, hc, _, hl, hm, hmm, _, hx⟩
 ·have hc' : [Value.slice a0 len0 cap0] = [Value.slice none 0 0] := hc
  injection hc' with hc' _
  injection hc' with h1 h2 h3
  subst h1; subst h2; subst h3
  exact ⟨[], none, 0, rfl, fun i s h => by simp at h⟩
 ·have hc' : [Value.slice a0 len0 cap0] = [Value.slice (some a) len cap] := hc
  injection hc' with hc' _
  injection hc' with h1 h2 h3
  subst h1; subst h2; subst h3
  have hm' : m = cap0 := by simpa using hmm
  rw [Tryz.cRowE] at hx
  have each : ∀ i, i < len0 → ∃ zs : List Int, ∃ u, W.cell? (a.add i) = some u ∧ HasI W u zs := fun i hi => by
   obtain ⟨cs, h1, h2⟩ := hx i (by omega)
   obtain ⟨_, hl1, hcell⟩ := World.cells?_some h1
   match cs, hl1 with
   | [u], _ =>
     have c0 := hcell 0 (by omega)
     rw [Go.Deep.add_add] at c0
     obtain ⟨zs, hz⟩ := ints_in h2
     exact ⟨zs, u, by simpa using c0, hz⟩
  obtain ⟨f, hf'⟩ := row_choose each
  refine ⟨(List.range len0).map f, some a, cap0, by simp, fun i zs h => ?_⟩
  have hi : i < len0 := by have := (List.getElem?_eq_some_iff.1 h).1; simpa using this
  have hp : zs = f i := by
   rw [List.getElem?_map, List.getElem?_range hi] at h
   simpa using h.symm
  obtain ⟨u, h1, h2⟩ := hf' i hi
  exact ⟨a, u, rfl, h1, by rw [hp]; exact h2⟩
end Go.Proofs.YtkiapldehlnndaaGreatDoor
/- Contracts of the book's SameSystem, Lent and Stays. -/
namespace Go.Proofs.YtkiapldehlnndaaGreatDoor
open Go.RowKit Go.Maps
attribute [local go_sem ↓] Go.wp_at_zero Go.wp_at_succ
def mk3 : List Sy.Ed := [(-7, 0, 0), (-7, 1, 0), (-7, 2, 0)]
def LentE (w : World) (B : Nat) (u : Value) (es : List Sy.Ed) : Prop := ∃ g cap, u = .slice (some ⟨g, 0, none⟩) es.length cap ∧ es.length + 3 ≤ cap ∧ BEdges.Own w B (.slice (some ⟨g, 0, none⟩) (es.length + 3) cap) (es ++ mk3)
end Go.Proofs.YtkiapldehlnndaaGreatDoor
/- A list of edges, and a system, that came in, out of their reading. -/
namespace Go.Proofs.YtkiapldehlnndaaGreatDoor
open Go.ChangeShapes Go.WideShapes Go.ChangeAt Go.WideMaps Go.WideElems Go.RowKit
theorem Tryz.cEdge : Tryz.prog.cellsOf 72 = 3 := by kernel_rfl
theorem Tryz.cSys : Tryz.prog.cellsOf 24 = 4 := by kernel_rfl
theorem ed_choose {n : Nat} {p : Nat → Sy.Ed → Prop} (h : ∀ i, i < n → ∃ x, p i x) : ∃ f : Nat → Sy.Ed, ∀ i, i < n → p i (f i) := by
 classical
 refine ⟨fun i => if hi : i < n then Classical.choose (h i hi) else (0, 0, 0), fun i hi => ?_⟩
 simp only [hi, dif_pos]
 exact Classical.choose_spec (h i hi)
set_option maxRecDepth 100000 in
theorem edge_in {H : Type} {enc : TypeId × Value → H} {W : World} {fuel i : Nat} {a : Addr} {cs : List Value} {x : DataW H × List MemPlace} (hc : W.cells? 0 (a.add (i * 3)) 3 = some cs) (h : DataW.trod enc Tryz.prog W 0 (fun _ => true) true fuel 72 cs = some x) :
 ∃ z : Sy.Ed, ∀ q u, (BEdges.enc z)[q]? = some u → W.cell? (a.add (i * 3 + q)) = some u := by
 obtain ⟨_, hlen, hcell⟩ := World.cells?_some hc
 obtain ⟨xs, k, hk, _, _, hxl, hf⟩ := DataW.trod_struct Tryz.underlying72 h
 match xs, hxl, cs, hlen with
 | [y0, y1, y2], _, [v0, v1, v2], _ =>
   have g0 := hf 0 _ rfl
   have g1 := hf 1 _ rfl
   have g2 := hf 2 _ rfl
   simp [Tryz.cIntE] at g0 g1 g2
   obtain ⟨z0, e0, _⟩ := DataW.trod_int Tryz.underlying3 g0
   obtain ⟨z1, e1, _⟩ := DataW.trod_int Tryz.underlying3 g1
   obtain ⟨z2, e2, _⟩ := DataW.trod_int Tryz.underlying3 g2
   obtain rfl : v0 = .int .i64 z0 := by simpa using e0
   obtain rfl : v1 = .int .i64 z1 := by simpa using e1
   obtain rfl : v2 = .int .i64 z2 := by simpa using e2
   have c0 := hcell 0 (by omega)
   have c1 := hcell 1 (by omega)
   have c2 := hcell 2 (by omega)
   rw [Go.Deep.add_add] at c0 c1 c2
   refine ⟨(z0, z1, z2), fun q u hq => ?_⟩
   match q, hq with
   | 0, hq => cases hq; simpa using c0
   | 1, hq => cases hq; simpa using c1
   | 2, hq => cases hq; simpa using c2
   | q + 3, hq => simp [BEdges.enc] at hq
set_option maxRecDepth 100000 in
theorem edges_in {H : Type} {enc : TypeId × Value → H} {W : World} {fuel : Nat} {v : Value} {x : DataW H × List MemPlace} (h : DataW.trod enc Tryz.prog W 0 (fun _ => true) true fuel 22 [v] = some x) : ∃ es, HasE W v es ∧ es.length ≤ maxLen := by
 rcases Go.Deep.open_slice Tryz.underlying22 h with ⟨hc, _⟩ | ⟨a, len, cap, m, n, D, Pl, hc, _, hl, hm, hmm, _, hx⟩
 ·obtain rfl : v = .slice none 0 0 := by injection hc
  exact ⟨[], ⟨none, 0, rfl, Nat.le_refl _, none, 0, rfl, fun i s h => by simp [BEdges.C] at h⟩, by simp⟩
 ·obtain rfl : v = .slice (some a) len cap := by injection hc
  have hm' : m = cap := by simpa using hmm
  rw [Tryz.cEdge] at hx
  have each : ∀ i, i < len → ∃ z : Sy.Ed, ∀ q u, (BEdges.enc z)[q]? = some u → W.cell? (a.add (i * 3 + q)) = some u := fun i hi => by
   obtain ⟨cs, h1, h2⟩ := hx i (by omega)
   exact edge_in h1 h2
  obtain ⟨f, hf'⟩ := ed_choose each
  have hL : ((List.range len).map f).length = len := by simp
  refine ⟨(List.range len).map f, ⟨some a, cap, by rw [hL], by rw [hL]; omega, some a, cap, by rw [hL], fun j u hj => ⟨a, rfl, ?_⟩⟩, by rw [hL]; omega⟩
  have hj3 : j < len * 3 := by have := (List.getElem?_eq_some_iff.1 hj).1; rw [BEdges.C_len, hL] at this; exact this
  have hi : j / 3 < len := by omega
  have hz : ((List.range len).map f)[j / 3]? = some (f (j / 3)) := by rw [List.getElem?_map, List.getElem?_range hi]; rfl
  have h9 := BEdges.C_at _ _ _ hz (j % 3) (Nat.mod_lt _ (by decide))
  have e9 : j / 3 * 3 + j % 3 = j := by omega
  rw [e9, hj] at h9
  have h8 := hf' (j / 3) hi (j % 3) u h9.symm
  rw [e9] at h8
  exact h8
set_option maxRecDepth 100000 in
theorem has_sys {H : Type} {enc : TypeId × Value → H} {W : World} {base : Nat} {v : Value} {d : DataW H} {ps : List MemPlace} (hok : Value.okWide Tryz.prog W .any base 24 v) (h : DataW.Trod enc Tryz.prog W 0 (fun _ => true) true 24 v d ps) :
 ∃ (n k s : Int) (u : Value) (es : List Sy.Ed), v = sysV n k s u ∧ HasE W u es ∧ es.length ≤ maxLen := by
 obtain ⟨v0, v1, v2, v3, y0, y1, y2, y3, f, rfl, _, _, t0, t1, t2, t3⟩ := Go.Joins.open_agg4 Tryz.underlying24 (by kernel_rfl) Tryz.cSys hok h
 obtain ⟨z0, e0, _⟩ := DataW.trod_int Tryz.underlying3 t0
 obtain ⟨z1, e1, _⟩ := DataW.trod_int Tryz.underlying3 t1
 obtain ⟨z2, e2, _⟩ := DataW.trod_int Tryz.underlying3 t2
 obtain rfl : v0 = .int .i64 z0 := by simpa using e0
 obtain rfl : v1 = .int .i64 z1 := by simpa using e1
 obtain rfl : v2 = .int .i64 z2 := by simpa using e2
 obtain ⟨es, h1, h2⟩ := edges_in t3
 exact ⟨z0, z1, z2, v3, es, rfl, h1, h2⟩
end Go.Proofs.YtkiapldehlnndaaGreatDoor
