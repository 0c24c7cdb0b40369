/- Texts of this claim, joined: TsTop, SyOutI, TsOrd, TsThy, TsAl, TsLawB, TsDF, TsLawI, TsDCy0, TsDCy1, TsDFr. -/
import Derived.Test.YtplofbabfkkimaaGreatDoorPart10
import Derived.Test.YtplofbabfkkimaaGreatDoorPart2
import Derived.Test.YtplofbabfkkimaaGreatDoorPart9
import Derived.Deep.AppendLies
import Derived.Test.YtplofbabfkkimaaGreatDoorPart8
/- tauscc: the contracts of Cycles and Collapse. -/
namespace Go.Proofs.YtplofbabfkkimaaGreatDoor.Ts
open Go.RowKit Go.Maps
attribute [local go_sem ↓] Go.wp_at_zero Go.wp_at_succ
def tauB : ByteArray := ⟨#[116, 97, 117, 115, 99, 99]⟩
theorem tfault_any (T : TypeId) (u : Value) (w : World) (a : Addr) (ls : List ByteArray) (h : Chain w 0 0 a ls (.iface T u)) : Calls Tryz.prog 24 #[.iface T u] w fun r w' => ∃ b, r = .returned (.iface 74 (.pointer (some ⟨b, 0, none⟩))) ∧ Chain w' 0 0 a (tauB :: ls) (.iface 74 (.pointer (some ⟨b, 0, none⟩))) ∧ Below w.heap.size w w' := by
 have HC : Hid (Chain w 0 0 a ls (.iface T u)) := h
 clear h
 go_enter Tryz.func24, Tryz.ntmps24
 go_wp2
 go_ret
 have hb : Below w.heap.size w (w.alloc (.cells #[.string tauB, .int .i64 0, .int .i64 0, .iface T u] 77)) := (Below.refl _ _).alloc (Nat.le_refl _) _
 exact ⟨_, rfl, ⟨_, _, rfl, heap_alloc_new w _, HC.out.below hb⟩, hb⟩
theorem tlabels_any {B g bs bb cs cb n : Nat} {k s : Int} {es : List Sy.Ed} (w : World) (h : Gr w B g bs bb cs cb n k s es) : Calls Tryz.prog 28 #[.pointer (some ⟨g, 0, none⟩)] w fun r w' => r = .returned (.int .i64 k) ∧ w' = w := by
 obtain ⟨_, c1, _, _, _, _⟩ := h.cells
 have hq := Tryz.eqG g
 clear h
 go_enter Tryz.func28, Tryz.ntmps28
 go_wp2
 go_ret
 exact ⟨rfl, rfl⟩
theorem tstart_any {B g bs bb cs cb n : Nat} {k s : Int} {es : List Sy.Ed} (w : World) (h : Gr w B g bs bb cs cb n k s es) : Calls Tryz.prog 29 #[.pointer (some ⟨g, 0, none⟩)] w fun r w' => r = .returned (.int .i64 s) ∧ w' = w := by
 obtain ⟨_, _, c2, _, _, _⟩ := h.cells
 have hq := Tryz.eqG g
 clear h
 go_enter Tryz.func29, Tryz.ntmps29
 go_wp2
 go_ret
 exact ⟨rfl, rfl⟩
theorem chain_kept {w w' : World} {l c : Int} {a : Addr} {F : Nat → Prop} (hk : Kept F w w') (hF : ∀ (b : Nat) (cs : Array Value), w.heap[b]? = some (.cells cs 77 (0, 0)) → ¬ F b) : ∀ {ls : List ByteArray} {v : Value}, Chain w l c a ls v → Chain w' l c a ls v
 | [], _, h => h
 | _ :: _, _, ⟨b, u, e, hb, h⟩ => ⟨b, u, e, (hk.block b (t_lt hb) (hF b _ hb)).trans hb, chain_kept hk hF h⟩
theorem tne {w : World} {i j : Nat} {c c' : Array Value} {s t : TypeId} (hi : w.heap[i]? = some (.cells c s (0, 0))) (hj : w.heap[j]? = some (.cells c' t (0, 0))) (hne : s ≠ t) : i ≠ j := by
 rintro rfl
 rw [hi] at hj
 injection hj with hj
 injection hj with _ h2
 exact hne h2
theorem own_up4 {w w' : World} {B : Nat} {v : Value} {zs : List Int} (h : OwnI w B v zs) (hb : Below w.heap.size w w') : OwnI w' B v zs := trow_at h fun b e => hb.block b (h.lt b e).2
theorem edge_up4 {w w' : World} {B : Nat} {v : Value} {zs : List Sy.Ed} (h : BEdges.Own w B v zs) (hb : Below w.heap.size w w') : BEdges.Own w' B v zs := trow_at h fun b e => hb.block b (h.lt b e).2
set_option linter.unusedSimpArgs false in
set_option maxRecDepth 100000 in
set_option maxHeartbeats 4000000 in
theorem cycles_ok {M : Nat} (hS : SortOk M) (n : Nat) (k s : Int) (v : Value) (es : List Sy.Ed) (a : Addr) (w : World) (hA : Sent w 13 a) (hv : BEdges.Has w v es) (hM : es.length ≤ M) (hm : es.length ≤ 100000) (hq : Sy.right n k s es = true) :
 Calls Tryz.prog 8 #[sysV n k s v] w fun r w' => ∃ (u : Value) (cl : List Nat), r = .returned (.tuple #[u, .nilIface]) ∧ Cl n es cl ∧ OwnI w' w.heap.size u (natI cl) ∧ Below w.heap.size w w' := by
 have hb1 := fun o => (Below.refl w.heap.size w).alloc (Nat.le_refl _) o
 have hN := fun o => new_ok hS n k s v es a (w.alloc o) (hA.below (hb1 o)) (hv.below (hb1 o)) hM hm hq
 have H : Hid _ := And.intro hN hb1
 clear hN hb1 hA hv hM hm hq
 unfold sysV at H ⊢
 go_enter Tryz.func8, Tryz.ntmps8
 go_wp2_with (first | (go_at_call 23; refine Calls.mono (H.out.1 _) ?_; rintro r2 w2 ⟨g, bs, bb, cs, cb, m, hnm, rfl, hG, hb2⟩; obtain rfl : n = m := (by omega); clear hnm; have H2 : Hid _ := And.intro hG hb2; clear hG hb2) | (go_at_call 25; refine Calls.mono (cyclesOf_any _ H2.out.1) ?_; rintro r3 w3 ⟨u, zs, rfl, hZ, hO, hb3⟩; have H3 : Hid _ := And.intro (Cl.of hZ) (And.intro hO hb3); clear hZ hO hb3))
 go_ret2
 have h1 := (H.out.2 _).trans (H2.out.2.mono (H.out.2 _).size)
 exact ⟨u, _, rfl, H3.out.1, own_lower H3.out.2.1 h1.size, h1.trans (H3.out.2.2.mono h1.size)⟩
set_option linter.unusedSimpArgs false in
set_option maxRecDepth 100000 in
set_option maxHeartbeats 4000000 in
theorem cycles_bad {M : Nat} (hS : SortOk M) (n k s : Int) (v : Value) (es : List Sy.Ed) (a : Addr) (w : World) (hA : Sent w 13 a) (hv : BEdges.Has w v es) (hM : es.length ≤ M) (hm : es.length ≤ 100000) (hq : Sy.right n k s es = false) :
 Calls Tryz.prog 8 #[sysV n k s v] w fun r w' => ∃ b, r = .returned (.tuple #[.slice none 0 0, .iface 74 (.pointer (some ⟨b, 0, none⟩))]) ∧ Chain w' 0 0 a [tauB, sysB] (.iface 74 (.pointer (some ⟨b, 0, none⟩))) ∧ Below w.heap.size w w' := by
 have hb1 := fun o => (Below.refl w.heap.size w).alloc (Nat.le_refl _) o
 have hN := fun o => new_bad hS n k s v es a (w.alloc o) (hA.below (hb1 o)) (hv.below (hb1 o)) hM hm hq
 have H : Hid _ := And.intro hN hb1
 clear hN hb1 hA hv hM hm hq
 unfold sysV at H ⊢
 go_enter Tryz.func8, Tryz.ntmps8
 go_wp2_with (first | (go_at_call 23; refine Calls.mono (H.out.1 _) ?_; rintro r1 w1 ⟨x, rfl, hx, hb⟩; obtain ⟨T, ad, rfl⟩ := hx.iface; have HX : Hid _ := And.intro hx hb; clear hx hb) | (go_at_call 24; refine Calls.mono (tfault_any _ _ _ a [sysB] HX.out.1) ?_; rintro r3 w3 ⟨b, rfl, hC3, hb3⟩; have H3 : Hid _ := And.intro hC3 hb3; clear hC3 hb3))
 go_ret2
 have h1 := (H.out.2 _).trans (HX.out.2.mono (H.out.2 _).size)
 exact ⟨b, rfl, H3.out.1, h1.trans (H3.out.2.mono h1.size)⟩
set_option linter.unusedSimpArgs false in
set_option maxRecDepth 100000 in
set_option maxHeartbeats 4000000 in
theorem collapse_bad {M : Nat} (hS : SortOk M) (n k s : Int) (v : Value) (es : List Sy.Ed) (a : Addr) (w : World) (hA : Sent w 13 a) (hv : BEdges.Has w v es) (hM : es.length ≤ M) (hm : es.length ≤ 100000) (hq : Sy.right n k s es = false) :
 Calls Tryz.prog 9 #[sysV n k s v] w fun r w' => ∃ b, r = .returned (.tuple #[sysV 0 0 0 (.slice none 0 0), .slice none 0 0, .iface 74 (.pointer (some ⟨b, 0, none⟩))]) ∧ Chain w' 0 0 a [tauB, sysB] (.iface 74 (.pointer (some ⟨b, 0, none⟩))) ∧ Below w.heap.size w w' := by
 obtain ⟨w1, hw1⟩ : ∃ w1, w1 = (w.alloc (.cells #[.int .i64 n, .int .i64 k, .int .i64 s, v] 24)).alloc (.cells #[.int .i64 0, .int .i64 0, .int .i64 0, .slice none 0 0] 24) := ⟨_, rfl⟩
 have hb1 : Below w.heap.size w w1 := by rw [hw1]; exact ((Below.refl _ _).alloc (Nat.le_refl _) _).alloc (by simp) _
 have hg : w1.heap[w.heap.size + 1]? = some (.cells #[.int .i64 0, .int .i64 0, .int .i64 0, .slice none 0 0] 24 (0, 0)) := by rw [hw1]; exact two_alloc w _ _
 have hg0 : w1.heap[w.heap.size]? = some (.cells #[.int .i64 n, .int .i64 k, .int .i64 s, v] 24 (0, 0)) := by rw [hw1, Below.heap_alloc _ _ _ (by simp)]; exact heap_alloc_new w _
 have hN := collapsed_bad hS n k s v es a w1 (hA.below hb1) (hv.below hb1) hM hm hq
 obtain ⟨c0, c1, c2, c3⟩ := four_cells hg0
 have H : Hid _ := And.intro hN (And.intro hb1 (And.intro hg hw1))
 clear hN hb1 hA hv hM hm hq hg hg0 hw1
 unfold sysV at H ⊢
 go_enter Tryz.func9, Tryz.ntmps9
 go_upto_region 1 with fail
 rw [← H.out.2.2.2]
 go_wp2_with (first | (go_at_call 26; refine Calls.mono H.out.1 ?_; rintro r1 w2 ⟨x, rfl, hx, hb⟩; obtain ⟨T, ad, rfl⟩ := hx.iface; have HX : Hid _ := And.intro hx hb; clear hx hb) | (go_at_call 24; refine Calls.mono (tfault_any _ _ _ a [sysB] HX.out.1) ?_; rintro r3 w3 ⟨b, rfl, hC3, hb3⟩; have hb13 := HX.out.2.trans (hb3.mono HX.out.2.size); have hg3 := (hb13.block _ (t_lt H.out.2.2.1)).trans H.out.2.2.1; obtain ⟨z0, z1, z2, z3⟩ := four_cells hg3; have f0 := blk_free hg3 0; have f1 := blk_free hg3 1; have f2 := blk_free hg3 2; have f3 := blk_free hg3 3; have H3 : Hid _ := And.intro hC3 (And.intro hb13 hg3); clear hC3 hb3 hg3 hb13))
 obtain ⟨wf, hwf⟩ : ∃ wf, wf = ((((w3.setCell ⟨w.heap.size + 1, 0, none⟩ (.int .i64 0)).setCell ⟨w.heap.size + 1, 1, none⟩ (.int .i64 0)).setCell ⟨w.heap.size + 1, 2, none⟩ (.int .i64 0)).setCell ⟨w.heap.size + 1, 3, none⟩ (.slice none 0 0)) := ⟨_, rfl⟩
 rw [← hwf]
 have hgf : wf.heap[w.heap.size + 1]? = some (.cells #[.int .i64 0, .int .i64 0, .int .i64 0, .slice none 0 0] 24 (0, 0)) := by rw [hwf]; exact four_set H3.out.2.2
 have hkf : Kept (fun b => b = w.heap.size + 1) w3 wf := by rw [hwf]; exact (((Kept.setCell _ _ _ _).trans (Kept.setCell _ _ _ _)).trans (Kept.setCell _ _ _ _)).trans (Kept.setCell _ _ _ _)
 clear hwf z0 z1 z2 z3 f0 f1 f2 f3 c0 c1 c2 c3
 obtain ⟨d0, d1, d2, d3⟩ := four_cells hgf
 have h3 : Below w.heap.size w w3 := H.out.2.1.trans (H3.out.2.1.mono H.out.2.1.size)
 refine bodyPost_ret (v := .tuple #[.agg #[.int .i64 0, .int .i64 0, .int .i64 0, .slice none 0 0], .slice none 0 0, .iface 74 (.pointer (some ⟨b, 0, none⟩))]) (by simp [results, Tryz.results9, go_sem, d0, d1, d2, d3]) rfl ?_
 exact ⟨b, rfl, chain_kept hkf (fun b cs hc e => tne hc H3.out.2.2 (by decide) e) H3.out.1, h3.trans (hkf.below h3.size fun x hx => by omega)⟩
set_option linter.unusedSimpArgs false in
set_option maxRecDepth 100000 in
set_option maxHeartbeats 4000000 in
theorem collapse_ok {M : Nat} (hS : SortOk M) (n : Nat) (k s : Int) (v : Value) (es : List Sy.Ed) (a : Addr) (w : World) (hA : Sent w 13 a) (hv : BEdges.Has w v es) (hM : es.length ≤ M) (hm : es.length ≤ 100000) (hq : Sy.right n k s es = true) :
 Calls Tryz.prog 9 #[sysV n k s v] w fun r w' => ∃ (ue u : Value) (cl : List Nat), r = .returned (.tuple #[sysV (tog cl) k (sta n cl s) ue, u, .nilIface]) ∧ Cl n es cl ∧ BEdges.Own w' w.heap.size ue (Sy.nf (btw cl es)) ∧ OwnI w' w.heap.size u (natI cl) ∧ Below w.heap.size w w' := by
 obtain ⟨w1, hw1⟩ : ∃ w1, w1 = (w.alloc (.cells #[.int .i64 n, .int .i64 k, .int .i64 s, v] 24)).alloc (.cells #[.int .i64 0, .int .i64 0, .int .i64 0, .slice none 0 0] 24) := ⟨_, rfl⟩
 have hb1 : Below w.heap.size w w1 := by rw [hw1]; exact ((Below.refl _ _).alloc (Nat.le_refl _) _).alloc (by simp) _
 have hg : w1.heap[w.heap.size + 1]? = some (.cells #[.int .i64 0, .int .i64 0, .int .i64 0, .slice none 0 0] 24 (0, 0)) := by rw [hw1]; exact two_alloc w _ _
 have hg0 : w1.heap[w.heap.size]? = some (.cells #[.int .i64 n, .int .i64 k, .int .i64 s, v] 24 (0, 0)) := by rw [hw1, Below.heap_alloc _ _ _ (by simp)]; exact heap_alloc_new w _
 have hN := collapsed_ok hS n k s v es a w1 (hA.below hb1) (hv.below hb1) hM hm hq
 obtain ⟨c0, c1, c2, c3⟩ := four_cells hg0
 have H : Hid _ := And.intro hN (And.intro hb1 (And.intro hg hw1))
 clear hN hb1 hA hv hM hm hq hg hg0 hw1
 unfold sysV at H ⊢
 go_enter Tryz.func9, Tryz.ntmps9
 go_upto_region 1 with fail
 rw [← H.out.2.2.2]
 go_upto_region 5 with (first | (go_at_call 26; refine Calls.mono H.out.1 ?_; rintro r1 w2 ⟨g, bs, bb, cs, cb, u, cl, rfl, hCl, hG, hO, hb⟩; obtain ⟨au, cu, hu⟩ := row_shape hO; obtain ⟨lu, hlu⟩ : ∃ l, l = (natI cl).length := ⟨_, rfl⟩; rw [← hlu] at hu; subst hu; have H2 : Hid _ := And.intro hG (And.intro hCl (And.intro hO hb)); clear hG hCl hO hb hlu) | (go_at_call 27; refine Calls.mono (states_any _ H2.out.1) ?_; rintro r4 w4 ⟨rfl, hw⟩; obtain rfl := hw.symm; clear hw) | (go_at_call 28; refine Calls.mono (tlabels_any _ H2.out.1) ?_; rintro r4 w4 ⟨rfl, hw⟩; obtain rfl := hw.symm; clear hw) | (go_at_call 29; refine Calls.mono (tstart_any _ H2.out.1) ?_; rintro r4 w4 ⟨rfl, hw⟩; obtain rfl := hw.symm; clear hw) | (go_at_call 30; refine Calls.mono (edges_any _ H2.out.1) ?_; rintro r5 w5 ⟨ue, rfl, hE, hb5⟩; obtain ⟨ae, ce, hue⟩ := row_shape hE; obtain ⟨le, hle⟩ : ∃ l, l = (Sy.nf (btw cl es)).length := ⟨_, rfl⟩; rw [← hle] at hue; subst hue; have H5 : Hid _ := And.intro hE hb5; clear hE hb5 hle))
 obtain ⟨w6, hw6⟩ : ∃ w6, w6 = w5.alloc (.cells #[.int .i64 (tog cl : Nat), .int .i64 k, .int .i64 (sta n cl s), .slice ae le ce] 24) := ⟨_, rfl⟩
 rw [← hw6]
 have hb56 : Below w5.heap.size w5 w6 := by rw [hw6]; exact (Below.refl _ _).alloc (Nat.le_refl _) _
 have hb16 : Below w1.heap.size w1 w6 := H2.out.2.2.2.trans ((H5.out.2.trans (hb56.mono H5.out.2.size)).mono H2.out.2.2.2.size)
 have hg6 := (hb16.block _ (t_lt H.out.2.2.1)).trans H.out.2.2.1
 have hs6 : w6.heap[w5.heap.size]? = some (.cells #[.int .i64 (tog cl : Nat), .int .i64 k, .int .i64 (sta n cl s), .slice ae le ce] 24 (0, 0)) := by rw [hw6]; exact heap_alloc_new w5 _
 obtain ⟨z0, z1, z2, z3⟩ := four_cells hg6
 obtain ⟨y0, y1, y2, y3⟩ := four_cells hs6
 have f0 := blk_free hg6 0
 have f1 := blk_free hg6 1
 have f2 := blk_free hg6 2
 have f3 := blk_free hg6 3
 have H6 : Hid _ := And.intro hb56 (And.intro hb16 hg6)
 clear hw6 hb56 hb16 hg6 hs6 c0 c1 c2 c3
 go_wp2_with fail
 obtain ⟨wf, hwf⟩ : ∃ wf, wf = ((((w6.setCell ⟨w.heap.size + 1, 0, none⟩ (.int .i64 (tog cl : Nat))).setCell ⟨w.heap.size + 1, 1, none⟩ (.int .i64 k)).setCell ⟨w.heap.size + 1, 2, none⟩ (.int .i64 (sta n cl s))).setCell ⟨w.heap.size + 1, 3, none⟩ (.slice ae le ce)) := ⟨_, rfl⟩
 rw [← hwf]
 have hgf : wf.heap[w.heap.size + 1]? = some (.cells #[.int .i64 (tog cl : Nat), .int .i64 k, .int .i64 (sta n cl s), .slice ae le ce] 24 (0, 0)) := by rw [hwf]; exact four_set H6.out.2.2
 have hkf : Kept (fun b => b = w.heap.size + 1) w6 wf := by rw [hwf]; exact (((Kept.setCell _ _ _ _).trans (Kept.setCell _ _ _ _)).trans (Kept.setCell _ _ _ _)).trans (Kept.setCell _ _ _ _)
 clear hwf z0 z1 z2 z3 f0 f1 f2 f3 y0 y1 y2 y3
 obtain ⟨d0, d1, d2, d3⟩ := four_cells hgf
 have h6 : Below w.heap.size w w6 := H.out.2.1.trans (H6.out.2.1.mono H.out.2.1.size)
 refine bodyPost_ret (v := .tuple #[.agg #[.int .i64 (tog cl : Nat), .int .i64 k, .int .i64 (sta n cl s), .slice ae le ce], .slice au lu cu, .nilIface]) (by simp [results, Tryz.results9, go_sem, d0, d1, d2, d3]) rfl ?_
 have hO6 := own_up4 H2.out.2.2.1 (H5.out.2.trans (H6.out.1.mono H5.out.2.size))
 have hE6 := edge_up4 H5.out.1 H6.out.1
 refine ⟨_, _, cl, rfl, H2.out.2.1, ?_, ?_, h6.trans (hkf.below h6.size fun x hx => by omega)⟩
 ·exact edge_lower (trow_at hE6 fun b hb => hkf.block b (hE6.lt b hb).2 fun e => own_bk hE6 H6.out.2.2 (by decide) (by rw [← e]; exact hb)) (Nat.le_trans H.out.2.1.size H2.out.2.2.2.size)
 ·exact own_lower (trow_at hO6 fun b hb => hkf.block b (hO6.lt b hb).2 fun e => own_bk hO6 H6.out.2.2 (by decide) (by rw [← e]; exact hb)) H.out.2.1.size
end Go.Proofs.YtplofbabfkkimaaGreatDoor.Ts
/- Rows of numbers, one for each of so many, that grow one by one. -/
namespace Go.Proofs.YtplofbabfkkimaaGreatDoor
open Go.RowKit Go.Maps
structure OutsI (w : World) (B : Nat) (us : List Value) (n : Nat) (f : Nat → List Int) : Prop where
 len : us.length = n
 row : ∀ i, i < n → ∃ u, us[i]? = some u ∧ OwnI w B u (f i)
 ap : ∀ (i j : Nat) (u x : Value) (b : Nat), us[i]? = some u → us[j]? = some x → i ≠ j → u.ownBlock = some b → x.ownBlock ≠ some b
theorem outsI_new (w : World) (B n : Nat) : OutsI w B (List.replicate n (.slice none 0 0)) n fun _ => [] :=
 ⟨by simp, fun i hi => ⟨.slice none 0 0, by rw [List.getElem?_replicate, if_pos hi], World.ownsRow_nil _ _ _ _⟩, fun i j u x b h1 _ _ h3 => by
  rw [List.getElem?_replicate] at h1
  split at h1
  ·cases h1; cases h3
  ·cases h1⟩
theorem OutsI.set {w w' : World} {B : Nat} {us : List Value} {n : Nat} {f : Nat → List Int} (h : OutsI w B us n f) {i : Nat} {u u' : Value} {F : Nat → Prop} (hi : i < n) (hu : us[i]? = some u) (hk : Kept F w w') (hF : ∀ b, F b → u.ownBlock = some b ∨ ∀ (j : Nat) (x : Value), us[j]? = some x → x.ownBlock ≠ some b) {zs : List Int} (hO : OwnI w' B u' zs) (hat : u'.ownBlock = u.ownBlock ∨ ∀ b, u'.ownBlock = some b → w.heap.size ≤ b) :
 OutsI w' B (us.set i u') n (fun j => if j = i then zs else f j) := by
 refine ⟨by rw [List.length_set]; exact h.len, fun j hj => ?_, fun a c x y b hx hy hac hb => ?_⟩
 ·by_cases e : j = i
  ·subst e
   exact ⟨u', List.getElem?_set_self (by rw [h.len]; exact hj), by rw [if_pos rfl]; exact hO⟩
  ·obtain ⟨x, h1, h2⟩ := h.row j hj
   refine ⟨x, by rw [List.getElem?_set_ne (fun e' => e e'.symm)]; exact h1, ?_⟩
   rw [if_neg e]
   refine own_up h2 hk fun b hb hf => ?_
   rcases hF b hf with hf | hf
   ·exact h.ap j i x u b h1 hu e hb hf
   ·exact hf j x h1 hb
 ·have hold : ∀ (j : Nat) (z : Value), us[j]? = some z → j ≠ i → ∀ b, z.ownBlock = some b → u'.ownBlock ≠ some b := fun j z hz hj b hzb e => by
   rcases hat with h1 | h1
   ·rw [h1] at e; exact h.ap j i z u b hz hu hj hzb e
   ·have h2 := h1 b e
    obtain ⟨z', h3, h4⟩ := h.row j (by have := (List.getElem?_eq_some_iff.1 hz).1; rw [h.len] at this; exact this)
    rw [hz] at h3; cases h3
    have := (h4.lt b hzb).2
    omega
  by_cases ea : a = i
  ·subst ea
   rw [List.getElem?_set_self (by rw [h.len]; exact hi)] at hx
   cases hx
   rw [List.getElem?_set_ne hac] at hy
   exact fun e => hold c y hy (fun e' => hac e'.symm) b e hb
  ·rw [List.getElem?_set_ne (fun e' => ea e'.symm)] at hx
   by_cases ec : c = i
   ·subst ec
    rw [List.getElem?_set_self (by rw [h.len]; exact hi)] at hy
    cases hy
    exact hold a x hx ea b hb
   ·rw [List.getElem?_set_ne (fun e' => ec e'.symm)] at hy
    exact h.ap a c x y b hx hy hac hb
theorem OutsI.congr {w : World} {B : Nat} {us : List Value} {n : Nat} {f g : Nat → List Int} (h : OutsI w B us n f) (hfg : ∀ i, i < n → f i = g i) : OutsI w B us n g :=
 ⟨h.len, fun i hi => by rw [← hfg i hi]; exact h.row i hi, h.ap⟩
theorem OutsI.kept {w w' : World} {B : Nat} {us : List Value} {n : Nat} {f : Nat → List Int} {F : Nat → Prop} (h : OutsI w B us n f) (hk : Kept F w w') (hF : ∀ (j : Nat) (x : Value), us[j]? = some x → ∀ b, x.ownBlock = some b → ¬ F b) : OutsI w' B us n f :=
 ⟨h.len, fun i hi => by obtain ⟨u, h1, h2⟩ := h.row i hi; exact ⟨u, h1, own_up h2 hk fun b hb => hF i u h1 b hb⟩, h.ap⟩
theorem outsI_grow {w wr w4 : World} {g n i N g4 k4 cu : Nat} {au : Option Addr} {us : List Value} {f : Nat → List Int} (z : Int) (hOs : OutsI wr w.heap.size us n f) (hi : i < n) (hu : us[i]? = some (.slice au N cu)) (hN : N = (f i).length) (hown : w4.ownsRow w.heap.size 3 1 (.slice (some ⟨g4, 0, none⟩) (N + 1) k4) (N + 1) (iC (f i) ++ [.int .i64 z])) (hk : Kept (fun b => (Value.slice au N cu).ownBlock = some b) wr w4) (hat : (Value.slice au N cu).ownBlock = some g4 ∨ g4 = wr.heap.size + 1) (hA4 : Arr 45 w w4 g us) :
 Arr 45 w (w4.setCell ⟨g, i, none⟩ (.slice (some ⟨g4, 0, none⟩) (N + 1) k4)) g (us.set i (.slice (some ⟨g4, 0, none⟩) (N + 1) k4)) ∧ OutsI (w4.setCell ⟨g, i, none⟩ (.slice (some ⟨g4, 0, none⟩) (N + 1) k4)) w.heap.size (us.set i (.slice (some ⟨g4, 0, none⟩) (N + 1) k4)) n (fun j => if j = i then f i ++ [z] else f j) ∧ Kept (fun b => b = g ∨ (Value.slice au N cu).ownBlock = some b) wr (w4.setCell ⟨g, i, none⟩ (.slice (some ⟨g4, 0, none⟩) (N + 1) k4)) := by
 have hO : OwnI w4 w.heap.size (.slice (some ⟨g4, 0, none⟩) (N + 1) k4) (f i ++ [z]) := by
  unfold OwnI
  have e1 : (f i ++ [z]).length = N + 1 := by rw [List.length_append, hN]; rfl
  rw [e1, show iC (f i ++ [z]) = iC (f i) ++ [.int .i64 z] by simp [iC]]
  exact hown
 have h1 := hOs.set (F := fun b => (Value.slice au N cu).ownBlock = some b) hi hu hk (fun b hb => .inl hb) hO (by
  rcases hat with h | h
  ·exact .inl h.symm
  ·exact .inr fun b hb => by have e9 : g4 = b := Option.some.inj hb; omega)
 refine ⟨hA4.set i _, ?_, ?_⟩
 ·refine h1.kept (Kept.setCell w4 g i _) fun j x hx b hb e => ?_
  obtain ⟨cs, hc, _⟩ := hA4.ids
  obtain ⟨x', h2, h3⟩ := h1.row j (by have := (List.getElem?_eq_some_iff.1 hx).1; rw [h1.len] at this; exact this)
  rw [hx] at h2; cases h2
  exact own_bk h3 hc (by decide) (by rw [← e]; exact hb)
 ·exact (hk.mono fun b _ hb => .inr hb).trans ((Kept.setCell w4 g i _).mono fun b _ hb => .inl hb)
end Go.Proofs.YtplofbabfkkimaaGreatDoor
/- tauscc: the contract of Order. -/
namespace Go.Proofs.YtplofbabfkkimaaGreatDoor.Ts
open Go.RowKit Go.Maps
attribute [local go_sem ↓] Go.wp_at_zero Go.wp_at_succ
theorem infoRT : (Tryz.prog.info? 45).map (fun i => (i.zero, i.size, i.bytes)) = some (some (.slice none 0 0), 1, 24) := by kernel_rfl
theorem makeRT (n : Nat) (hn : n ≤ 1000000) (w : World) : (Instr.makeSlice 32 (.int .i64 (n : Int)) (.int .i64 (n : Int))).run Tryz.prog w = .ok (.slice (some ⟨w.heap.size, 0, none⟩) n n) (w.alloc (.cells (madeV (.slice none 0 0) n) 45)) := make_of _ _ _ 24 Tryz.underlying32 infoRT n hn (by decide) w
theorem natI_at {l : List Nat} {i x : Nat} (h : l[i]? = some x) : (natI l)[i]? = some (x : Int) := by simp [natI, h]
theorem cast_at {l : List Nat} {i x : Nat} (h : l[i]? = some x) : (cast l)[i]? = some (x : Int) := by simp [cast, h]
theorem flat_next {l : List Nat} {i x : Nat} (h : l[i]? = some x) (f : Nat → List Int) : (l.take (i + 1)).flatMap f = (l.take i).flatMap f ++ f x := by
 obtain ⟨h1, h2⟩ := List.getElem?_eq_some_iff.1 h
 rw [List.take_succ_eq_append_getElem h1, h2, List.flatMap_append]
 simp
theorem flat_len {f : Nat → List Int} {c : Nat} (h : ∀ x, (f x).length ≤ c) (l : List Nat) : (l.flatMap f).length ≤ l.length * c := by
 induction l with
 | nil => simp
 | cons a r ih => rw [List.flatMap_cons, List.length_append, List.length_cons, Nat.succ_mul]; have := h a; omega
set_option linter.unusedSimpArgs false in
set_option maxRecDepth 100000 in
set_option maxHeartbeats 4000000 in
theorem order_ok {M : Nat} (hS : SortOk M) (n : Nat) (k s : Int) (v : Value) (es : List Sy.Ed) (a : Addr) (w : World) (hA : Sent w 13 a) (hv : BEdges.Has w v es) (hM : es.length ≤ M) (hm : es.length ≤ 100000) (hq : Sy.right n k s es = true) :
 Calls Tryz.prog 10 #[sysV n k s v] w fun r w' => ∃ (u : Value) (cl od : List Nat), r = .returned (.tuple #[u, .nilIface]) ∧ Cl n es cl ∧ Grd (tog cl) (sil (tog cl) (btw cl es)) od ∧ (∀ x, ¬ Rd (tog cl) (sil (tog cl) (btw cl es)) od x) ∧ OwnI w' w.heap.size u (od.flatMap (memI cl)) ∧ Below w.heap.size w w' := by
 obtain ⟨i0, hi0, hz0, hz1, hz2⟩ := info_parts Tryz.infoI4
 have hb1 := fun o => (Below.refl w.heap.size w).alloc (Nat.le_refl _) o
 have hN := fun o => collapsed_ok hS n k s v es a (w.alloc o) (hA.below (hb1 o)) (hv.below (hb1 o)) hM hm hq
 have hn1 : n ≤ 1000 := by have := (right_parts hq).1.2; omega
 have H : Hid _ := And.intro hN hb1
 clear hN hb1 hA hv hM hm hq
 unfold sysV at H ⊢
 go_enter Tryz.func10, Tryz.ntmps10
 go_upto_region 4 with (go_at_call 26; refine Calls.mono (H.out.1 _) ?_; rintro r1 w2 ⟨g, bs, bb, cs, cb, u, cl, rfl, hCl, hG, hO, hb⟩; obtain ⟨au, cu, hu⟩ := row_shape hO; obtain ⟨lu, hlu⟩ : ∃ l, l = (natI cl).length := ⟨_, rfl⟩; rw [← hlu] at hu; subst hu; have H2 : Hid _ := And.intro hG (And.intro hCl (And.intro hO (And.intro hb hlu))); clear hG hCl hO hb hlu)
 have hlc : lu = cl.length := by rw [H2.out.2.2.2.2]; simp [natI]
 have hlu : lu ≤ 1000 := by have h2 := H2.out.2.1.len; omega
 obtain ⟨m, hmt⟩ : ∃ m, m = tog cl := ⟨_, rfl⟩
 have hm1 : m ≤ 1000 := by rw [hmt]; exact H2.out.1.sizes.1
 have hSt := states_any w2 H2.out.1
 have hEF := fun W (hb : Below w2.heap.size w2 W) => endsFirst_any W (H2.out.1.below hb)
 have hmk := makeRT m (by omega) w2
 have hA0 := arr_new 45 (.slice none 0 0) rfl m w2
 rw [← hmt] at hSt hEF
 obtain ⟨w3, hw3⟩ : ∃ w3, w3 = w2.alloc (.cells (madeV (.slice none 0 0) m) 45) := ⟨_, rfl⟩
 rw [← hw3] at hmk hA0
 have H3 : Hid _ := And.intro hSt (And.intro hEF (And.intro hA0 (And.intro hmt hlc)))
 clear hSt hEF hA0 hmt hw3 hlc
 go_wp2_with (go_at_call 27; refine Calls.mono H3.out.1 ?_; rintro r3 w4 ⟨rfl, hw⟩; obtain rfl := hw.symm; clear hw)
 clear hmk
 go_loopg [28] lu (fun q s28 wx => ∃ (i : Nat) (us : List Value), q = lu - i ∧ i ≤ lu ∧ s28 = .int .i64 i ∧ Arr 45 w2 wx w2.heap.size us ∧ OutsI wx w2.heap.size us m (memI (cl.take i)))
 case atStart => exact ⟨0, _, rfl, Nat.zero_le _, rfl, H3.out.2.2.1, (outsI_new _ _ _).congr fun i _ => by simp [memI]⟩
 case round =>
  obtain ⟨i, us, rfl, hi, rfl, hA, hOs⟩ := hrel
  by_cases hlt : i < lu
  ·obtain ⟨x, hx⟩ : ∃ x, cl[i]? = some x := ⟨cl[i]'(by have := H3.out.2.2.2.2; omega), List.getElem?_eq_getElem _⟩
   have hxm : x < m := by rw [H3.out.2.2.2.1]; exact H2.out.2.1.lt hx
   obtain ⟨ao9, cap9, he9, hc9⟩ := OwnI.has (own_up4 H2.out.2.2.1 hA.bl)
   obtain ⟨a9, ha9, d0⟩ := hc9 i (x : Int) (natI_at hx)
   injection he9 with e1 e2 e3
   subst e3
   rw [ha9] at e1
   clear hc9 ha9 e2
   subst e1
   obtain ⟨uu, hu, hOu⟩ := hOs.row x hxm
   obtain ⟨ar, cr, rfl⟩ := row_shape hOu
   obtain ⟨N, hN⟩ : ∃ N, N = (memI (cl.take i) x).length := ⟨_, rfl⟩
   have hNl : N ≤ 1000000 := by
    have h1 := memI_len (cl.take i) x
    rw [List.length_take] at h1
    omega
   rw [← hN] at hu
   have hOu' : wr.ownsRow w2.heap.size 3 1 (.slice ar N cr) N (iC (memI (cl.take i) x)) := by have h1 := hOu; unfold OwnI at h1; rw [← hN] at h1; exact h1
   have cu0 := hA.cell hu
   have cu1 : (wr.alloc (.cells #[.int .i64 (i : Int)] 3)).cell? ⟨w2.heap.size, x, none⟩ = some (.slice ar N cr) := cell_up cu0 ((Below.refl _ _).alloc (Nat.le_refl _) _)
   have cuf := hA.free x
   have hgw := hA.lt
   have hml : N + 1 ≤ maxLen := by unfold maxLen; omega
   have hby : (N + 1) * 8 ≤ 140737488355328 := by omega
   have HKP : Hid (∀ b, (Value.slice ar N cr).ownBlock = some b → w2.heap.size ≤ b ∧ b ≠ w2.heap.size) := (fun b hb => ⟨(hOu'.lt b hb).1, fun e => by
    obtain ⟨cs9, hc9, _⟩ := hA.ids
    exact own_bk hOu' hc9 (by decide) (by rw [← e]; exact hb)⟩ : ∀ b, (Value.slice ar N cr).ownBlock = some b → w2.heap.size ≤ b ∧ b ≠ w2.heap.size)
   have hsz := hA.bl.size
   have p0 : (0 : Int) ≤ (i : Int) := by omega
   have p1 : (i : Int) < (lu : Int) := by omega
   have p2 : (0 : Int) ≤ (x : Int) := by omega
   have p3 : (x : Int) < (m : Int) := by omega
   have p5 : IntKind.i64.wrap ((i : Int) + 1) = (i : Int) + 1 := by rw [IntKind.wrap_i64]; omega
   have HB : Hid _ := And.intro hA (And.intro hOs (And.intro hu (And.intro hOu' (And.intro hN (And.intro hx hxm)))))
   clear hA hOs hu hOu hOu' hN hx hxm
   go_wp2_with (at_builtin; refine wpList_append_lies _ rfl _ _ 45 rfl w2.heap.size 3 i0 (.int .i64 0) 1 8 Tryz.underlying45 hi0 hz0 hz1 hz2 rfl (by decide) (.slice ar N cr) N (iC (memI (cl.take i) x)) rfl (HB.out.2.2.2.1.alloc _) ⟨wr.heap.size, 0, none⟩ 1 1 [.int .i64 (i : Int)] rfl rfl (World.news_of_block (cs := #[.int .i64 (i : Int)]) (t := 3) (fr := (0, 0)) (heap_alloc_new wr _)) (by simp [Value.oneCell']) Nat.one_pos hml hby (by simp; omega) (wr.heap.size + 1) (by simp) ?_; intro g4 k4 w4 hown4 hgrow4 hat4 hlt4; have hk4 : Kept (fun b => (Value.slice ar N cr).ownBlock = some b) wr w4 := grown_alloc hgrow4; have hA4 := HB.out.1.kept hk4 HKP.out; have cu2 := hA4.cell HB.out.2.2.1; have cuf2 := hA4.free x; have H4 : Hid _ := And.intro hown4 (And.intro hk4 (And.intro hat4 hA4)); clear hown4 hgrow4 hat4 hlt4 hk4 hA4 cu0 cu1)
   have hG := outsI_grow (i : Int) HB.out.2.1 HB.out.2.2.2.2.2.2 HB.out.2.2.1 HB.out.2.2.2.2.1 H4.out.1 H4.out.2.1 H4.out.2.2.1 H4.out.2.2.2
   have HG : Hid _ := hG
   clear hG cu2 cuf2
   go_roundg (lu - (i + 1))
   case measure => omega
   case rel => exact ⟨i + 1, _, rfl, by omega, by go_num, HG.out.1, HG.out.2.1.congr fun c _ => memI_next HB.out.2.2.2.2.2.1 c⟩
  ·obtain rfl : lu = i := by omega
   have p1 : ¬ (lu : Int) < (lu : Int) := by omega
   rw [H3.out.2.2.2.2, List.take_length] at hOs
   have H5 : Hid _ := And.intro hA hOs
   obtain ⟨wo, rfl⟩ : ∃ wo, wo = wr := ⟨_, rfl⟩
   clear hA hOs hi hlt
   go_wp2_with (go_at_call 31; refine Calls.mono (H3.out.2.1 _ H5.out.1.bl) ?_; rintro r6 w6 ⟨u6, od, rfl, hg6, hn6, hO6, hb6⟩; obtain ⟨a6, c6, hu6⟩ := row_shape hO6; obtain ⟨L, hL⟩ : ∃ L, L = od.length := ⟨_, rfl⟩; rw [cast_length, ← hL] at hu6; subst hu6; have H6 : Hid _ := And.intro hg6 (And.intro hn6 (And.intro hO6 (And.intro hb6 hL))); clear hg6 hn6 hO6 hb6 hL)
   have hL1 : L ≤ 1000 := by rw [H6.out.2.2.2.2]; have := H6.out.1.le; omega
   have hlen := fun x => memI_len cl x
   rw [← H3.out.2.2.2.2] at hlen
   have H7 : Hid _ := hlen
   clear hlen
   go_loopg [10, 47] L (fun q s10 s47 wx => ∃ (j : Nat), q = L - j ∧ j ≤ L ∧ s47 = .int .i64 j ∧ Below w6.heap.size w6 wx ∧ OwnI wx w6.heap.size s10 ((od.take j).flatMap (memI cl)))
   case atStart => exact ⟨0, rfl, Nat.zero_le _, rfl, Below.refl _ _, World.ownsRow_nil _ _ _ _⟩
   case round =>
    obtain ⟨j, rfl, hj, rfl, hbl, hO⟩ := hrel
    obtain ⟨ao, co, hs10⟩ := row_shape hO
    obtain ⟨N, hN⟩ : ∃ N, N = ((od.take j).flatMap (memI cl)).length := ⟨_, rfl⟩
    have hNl : N ≤ 1000000000 := by
     have h1 := flat_len H7.out (od.take j)
     rw [List.length_take] at h1
     have h2 : (min j od.length) * lu ≤ 1000 * 1000 := Nat.mul_le_mul (by omega) hlu
     omega
    rw [← hN] at hs10
    subst hs10
    have hO' : wr.ownsRow w6.heap.size 3 1 (.slice ao N co) N (iC ((od.take j).flatMap (memI cl))) := by have h1 := hO; unfold OwnI at h1; rw [← hN] at h1; exact h1
    by_cases hlt : j < L
    ·obtain ⟨c, hc⟩ : ∃ c, od[j]? = some c := ⟨od[j]'(by have := H6.out.2.2.2.2; omega), List.getElem?_eq_getElem _⟩
     have hcm : c < m := H6.out.1.lt c (List.mem_of_getElem? hc)
     obtain ⟨ao9, cap9, he9, hc9⟩ := OwnI.has (own_up4 H6.out.2.2.1 hbl)
     obtain ⟨a9, ha9, d0⟩ := hc9 j (c : Int) (cast_at hc)
     injection he9 with e1 e2 e3
     subst e3
     rw [ha9] at e1
     clear hc9 ha9 e2
     subst e1
     obtain ⟨uu, hu, hOu⟩ := H5.out.2.row c hcm
     have hbo := H6.out.2.2.2.1
     have hup : Below wo.heap.size wo wr := hbo.trans (hbl.mono hbo.size)
     have cu0 := cell_up (H5.out.1.cell hu) hup
     have hOu2 := own_up4 hOu hup
     obtain ⟨ar, cr, hr⟩ := row_shape hOu2
     obtain ⟨K, hK⟩ : ∃ K, K = (memI cl c).length := ⟨_, rfl⟩
     rw [← hK] at hr
     subst hr
     have hK1 : 0 < K := by rw [hK]; exact memI_some H2.out.2.1 (by rw [← H3.out.2.2.2.1]; exact hcm)
     have hKl : K ≤ lu := by rw [hK]; exact H7.out c
     obtain ⟨ao8, cap8, he8, hc8⟩ := OwnI.has hOu2
     obtain ⟨a8, ha8, -⟩ := hc8 0 ((memI cl c)[0]'(by omega)) (List.getElem?_eq_getElem _)
     injection he8 with e1 e2 e3
     rw [ha8] at e1
     subst e1
     have hnews : ∀ (j : Nat) (u : Value), (iC (memI cl c))[j]? = some u → wr.cell? (a8.add j) = some u := fun j u hj => by
      obtain ⟨z, hz, rfl⟩ := iC_at hj
      obtain ⟨a7, h7, h8⟩ := hc8 j z hz
      rw [ha8] at h7
      cases h7
      exact h8
     have hone : ∀ u ∈ iC (memI cl c), u.oneCell' = true := fun u hu => by
      simp only [iC, List.mem_map] at hu
      obtain ⟨z, _, rfl⟩ := hu
      rfl
     have hil : (iC (memI cl c)).length = K * 1 := by rw [hK]; simp [iC]
     have p0 : (0 : Int) ≤ (j : Int) := by omega
     have p1 : (j : Int) < (L : Int) := by omega
     have p2 : (0 : Int) ≤ (c : Int) := by omega
     have p3 : (c : Int) < (m : Int) := by omega
     have p5 : IntKind.i64.wrap ((j : Int) + 1) = (j : Int) + 1 := by rw [IntKind.wrap_i64]; omega
     have hml : N + K ≤ maxLen := by unfold maxLen; omega
     have hby : (N + K) * 8 ≤ 140737488355328 := by omega
     have hsz := hbl.size
     have H8 : Hid _ := And.intro hbl (And.intro hO' (And.intro hN (And.intro hK hc)))
     have H9 : Hid _ := And.intro hnews (And.intro hone hil)
     clear hbl hO' hN hc hK hnews hone hil hO hOu hOu2 hu hup hbo hc8 ha8 e2 e3 hcm
     go_wp2_with (at_builtin; refine wpList_append_own_at _ rfl _ _ 45 rfl w6.heap.size 3 i0 (.int .i64 0) 1 8 Tryz.underlying45 hi0 hz0 hz1 hz2 rfl (by decide) (.slice ao N co) N (iC ((od.take j).flatMap (memI cl))) rfl H8.out.2.1 a8 K cr (iC (memI cl c)) rfl H9.out.2.2 H9.out.1 H9.out.2.1 hml hby hsz ?_; intro v5 w5 hO5 hg5 hnil5 hat5; have HX : Hid _ := And.intro hO5 hg5; clear hO5 hg5 hnil5 hat5)
     go_roundg (L - (j + 1))
     case measure => omega
     case rel =>
      refine ⟨j + 1, rfl, by omega, by go_num, H8.out.1.trans ((Kept.of_grown HX.out.2).below H8.out.1.size fun b hb => (H8.out.2.1.lt b hb).1), ?_⟩
      rw [flat_next H8.out.2.2.2.2]
      unfold OwnI
      rw [List.length_append, ← H8.out.2.2.1, ← H8.out.2.2.2.1, show iC ((od.take j).flatMap (memI cl) ++ memI cl c) = iC ((od.take j).flatMap (memI cl)) ++ iC (memI cl c) by simp [iC]]
      exact HX.out.1
    ·obtain rfl : L = j := by omega
     have p1 : ¬ (L : Int) < (L : Int) := by omega
     rw [H6.out.2.2.2.2, List.take_length] at hO
     have H8 : Hid _ := And.intro hbl hO
     clear hbl hO hO' hN hj hlt
     go_wp2_with fail
     go_ret2
     have b2 := (H.out.2 _).trans (H2.out.2.2.2.1.mono (H.out.2 _).size)
     have b6 := b2.trans ((H5.out.1.bl.trans (H6.out.2.2.2.1.mono H5.out.1.bl.size)).mono b2.size)
     exact ⟨_, rfl, cl, H2.out.2.1, od, by rw [← H3.out.2.2.2.1]; exact H6.out.1, by rw [← H3.out.2.2.2.1]; exact H6.out.2.1, own_lower H8.out.2 b6.size, b6.trans (H8.out.1.mono b6.size)⟩
end Go.Proofs.YtplofbabfkkimaaGreatDoor.Ts
/- tauscc: a collapsed system has no cycle, and its order is whole: plain facts. -/
namespace Go.Proofs.YtplofbabfkkimaaGreatDoor.Ts
theorem Grd.take {n : Nat} {out : Nat → List Nat} {od : List Nat} (h : Grd n out od) : ∀ j, Grd n out (od.take j) := by
 induction h with
 | nil => intro j; rw [List.take_nil]; exact .nil
 | @snoc od t h1 h2 h3 ih =>
   intro j
   by_cases hj : j ≤ od.length
   ·rw [List.take_append_of_le_length hj]; exact ih j
   ·rw [List.take_of_length_le (by rw [List.length_append, List.length_singleton]; omega)]; exact h1.snoc h2 h3
theorem Grd.next {n : Nat} {out : Nat → List Nat} {od : List Nat} (h : Grd n out od) : ∀ {j t : Nat}, od[j]? = some t → Rd n out (od.take j) t := by
 induction h with
 | nil => intro j t ht; simp at ht
 | @snoc od s h1 h2 h3 ih =>
   intro j t ht
   by_cases hj : j < od.length
   ·rw [List.getElem?_append_left hj] at ht
    rw [List.take_append_of_le_length (by omega)]
    exact ih ht
   ·have hl := (List.getElem?_eq_some_iff.1 ht).1
    rw [List.length_append, List.length_singleton] at hl
    obtain rfl : j = od.length := by omega
    rw [List.getElem?_append_right (Nat.le_refl _), Nat.sub_self, List.getElem?_cons_zero] at ht
    cases ht
    rw [List.take_left']
    ·exact h2
    ·rfl
theorem Grd.le_max {n : Nat} {out : Nat → List Nat} {od od' : List Nat} (h : Grd n out od) (hm : ∀ x, ¬ Rd n out od x) (h' : Grd n out od') : od'.length ≤ od.length := by
 rcases Nat.lt_or_ge od.length od'.length with hlt | hge
 ·have e : od = od'.take od.length := h.one (h'.take _) (by rw [List.length_take]; omega)
  have h2 := h'.next (List.getElem?_eq_getElem hlt)
  rw [← e] at h2
  exact absurd h2 (hm _)
 ·exact hge
theorem Grd.same {n : Nat} {out : Nat → List Nat} {od od' : List Nat} (h : Grd n out od) (hm : ∀ x, ¬ Rd n out od x) (h' : Grd n out od') (hm' : ∀ x, ¬ Rd n out od' x) : od = od' :=
 h.one h' (Nat.le_antisymm (h'.le_max hm' h) (h.le_max hm h'))
structure Acy (n : Nat) (out : Nat → List Nat) : Prop where
 ins : ∀ u, u < n → ∀ t ∈ out u, t < n
 acy : ∀ u v, u < n → v < n → Rt out u v → Rt out v u → u = v
 self : ∀ u, u < n → u ∉ out u
theorem countP_lt_of {p q : Nat → Bool} : ∀ (l : List Nat), (∀ z ∈ l, p z = true → q z = true) → (∃ a ∈ l, q a = true ∧ p a = false) → l.countP p < l.countP q
 | [], _, ⟨a, ha, _⟩ => by cases ha
 | b :: r, h, ⟨a, ha, h1, h2⟩ => by
   have hle : r.countP p ≤ r.countP q := List.countP_mono_left fun x hx hp => h x (List.mem_cons_of_mem _ hx) hp
   rw [List.countP_cons, List.countP_cons]
   rcases List.mem_cons.1 ha with rfl | ha
   ·rw [h1, h2]; simp; omega
   ·have ih := countP_lt_of r (fun z hz => h z (List.mem_cons_of_mem _ hz)) ⟨a, ha, h1, h2⟩
    have hb := h b List.mem_cons_self
    by_cases hp : p b = true
    ·rw [hp, hb hp]; simp; omega
    ·rw [Bool.not_eq_true] at hp
     rw [hp]
     by_cases hq : q b = true
     ·rw [hq]; simp; omega
     ·rw [Bool.not_eq_true] at hq
      rw [hq]; simp; omega
open Classical in
noncomputable def rch (n : Nat) (out : Nat → List Nat) (x : Nat) : Nat := (List.range n).countP fun z => decide (Rt out x z)
open Classical in
theorem rch_lt {n : Nat} {out : Nat → List Nat} (h : Acy n out) {x y : Nat} (hx : x < n) (hy : y ∈ out x) : rch n out y < rch n out x := by
 unfold rch
 refine countP_lt_of _ (fun z _ hz => ?_) ⟨x, List.mem_range.2 hx, by simp; exact Rt.refl x, ?_⟩
 ·simp only [decide_eq_true_eq] at hz ⊢
  exact (Rt.one hy).trans hz
 ·simp only [decide_eq_false_iff_not]
  intro hyx
  have := h.acy x y hx (h.ins x hx y hy) (Rt.one hy) hyx
  subst this
  exact h.self x hx hy
theorem Grd.whole {n : Nat} {out : Nat → List Nat} {od : List Nat} (hA : Acy n out) (hm : ∀ x, ¬ Rd n out od x) : ∀ (k x : Nat), x < n → rch n out x < k → x ∈ od
 | 0, _, _, h => absurd h (Nat.not_lt_zero _)
 | k + 1, x, hx, h => by
   by_cases hxo : x ∈ od
   ·exact hxo
   ·refine absurd ⟨hx, hxo, fun y hy => ?_⟩ (hm x)
    exact Grd.whole hA hm k y (hA.ins x hx y hy) (by have := rch_lt hA hx hy; omega)
theorem Grd.all {n : Nat} {out : Nat → List Nat} {od : List Nat} (h : Grd n out od) (hA : Acy n out) (hm : ∀ x, ¬ Rd n out od x) : od.length = n ∧ ∀ x, x < n → x ∈ od := by
 have h1 : ∀ x, x < n → x ∈ od := fun x hx => Grd.whole hA hm (rch n out x + 1) x hx (Nat.lt_succ_self _)
 refine ⟨Nat.le_antisymm h.le ?_, h1⟩
 have h2 := nodup_sub (List.range n) od List.nodup_range fun x hx => h1 x (List.mem_range.1 hx)
 rwa [List.length_range] at h2
theorem btw_mem {cl : List Nat} {es : List Sy.Ed} {y : Sy.Ed} : y ∈ btw cl es ↔ ∃ e ∈ es, keep cl e = true ∧ y = Ts.onto cl e := by
 unfold btw
 rw [List.mem_map]
 constructor
 ·rintro ⟨e, he, rfl⟩
  obtain ⟨h1, h2⟩ := List.mem_filter.1 he
  exact ⟨e, h1, h2, rfl⟩
 ·rintro ⟨e, h1, h2, rfl⟩
  exact ⟨e, List.mem_filter.2 ⟨h1, h2⟩, rfl⟩
theorem Cl.edge {n : Nat} {k s : Int} {es : List Sy.Ed} {cl : List Nat} (h : Cl n es cl) (hr : Sy.right n k s es = true) {a b : Nat} (ha : a < tog cl) (hb : b ∈ sil (tog cl) (btw cl es) a) : ∃ p q : Nat, p < n ∧ q < n ∧ cl[p]? = some a ∧ cl[q]? = some b ∧ q ∈ sil n es p ∧ a ≠ b := by
 obtain ⟨e, he, hk, hy⟩ := btw_mem.1 ((sil_mem (small_right h hr) ha).1 hb)
 have h1 := (right_parts hr).2.2.2.2.2 e he
 obtain ⟨p, hp⟩ : ∃ p : Nat, e.1 = (p : Int) := ⟨e.1.toNat, by omega⟩
 obtain ⟨q, hq⟩ : ∃ q : Nat, e.2.2 = (q : Int) := ⟨e.2.2.toNat, by omega⟩
 have hpn : p < n := by omega
 have hqn : q < n := by omega
 have gp : cl[p]? = some (cl[p]'(by rw [h.len]; exact hpn)) := List.getElem?_eq_getElem _
 have gq : cl[q]? = some (cl[q]'(by rw [h.len]; exact hqn)) := List.getElem?_eq_getElem _
 have e1 := cla_at gp
 have e2 := cla_at gq
 unfold Ts.onto at hy
 rw [hp, hq] at hy
 simp only [Prod.mk.injEq] at hy
 obtain ⟨y1, y2, y3⟩ := hy
 have z1 : cl[p]? = some a := by rw [gp]; congr 1; omega
 have z2 : cl[q]? = some b := by rw [gq]; congr 1; omega
 refine ⟨p, q, hpn, hqn, z1, z2, (sil_mem hr hpn).2 (by rw [← hp, ← hq, y2]; exact he), fun hab => ?_⟩
 unfold keep at hk
 rw [← y2, hp, hq, ← y1, ← y3, hab] at hk
 simp at hk
theorem Cl.lift {n : Nat} {k s : Int} {es : List Sy.Ed} {cl : List Nat} (h : Cl n es cl) (hr : Sy.right n k s es = true) {a b : Nat} (hR : Rt (sil (tog cl) (btw cl es)) a b) (ha : a < tog cl) : b < tog cl ∧ ∀ u v, u < n → v < n → cl[u]? = some a → cl[v]? = some b → Rt (sil n es) u v := by
 induction hR with
 | refl => exact ⟨ha, fun u v hu hv h1 h2 => ((h.iff u v hu hv).1 (by rw [h1, h2])).1⟩
 | @step x y hxy hy ih =>
   obtain ⟨p, q, hp, hq, z1, z2, z3, _⟩ := h.edge hr ih.1 hy
   refine ⟨h.lt z2, fun u v hu hv h1 h2 => ?_⟩
   exact ((ih.2 u p hu hp h1 z1).step z3).trans ((h.iff q v hq hv).1 (by rw [z2, h2])).1
theorem Cl.acy {n : Nat} {k s : Int} {es : List Sy.Ed} {cl : List Nat} (h : Cl n es cl) (hr : Sy.right n k s es = true) : Acy (tog cl) (sil (tog cl) (btw cl es)) := by
 have hlt : ∀ {u x : Nat}, cl[u]? = some x → u < n := fun hx => by have := (List.getElem?_eq_some_iff.1 hx).1; rwa [h.len] at this
 refine ⟨fun u hu t ht => ?_, fun u v hu hv h1 h2 => ?_, fun u hu hs => ?_⟩
 ·obtain ⟨p, q, _, _, _, z2, _⟩ := h.edge hr hu ht
  exact h.lt z2
 ·obtain ⟨p, hp⟩ := h.onto hu
  obtain ⟨q, hq⟩ := h.onto hv
  have g := (h.iff p q (hlt hp) (hlt hq)).2 ⟨(h.lift hr h1 hu).2 p q (hlt hp) (hlt hq) hp hq, (h.lift hr h2 hv).2 q p (hlt hq) (hlt hp) hq hp⟩
  rw [hp, hq] at g
  exact Option.some.inj g
 ·obtain ⟨p, q, _, _, _, _, _, hne⟩ := h.edge hr hu hs
  exact hne rfl
theorem sil_nf (m : Nat) (L : List Sy.Ed) (q : Nat) : sil m (Sy.nf L) q = sil m L q := by unfold sil; rw [Sy.nf_idem]
theorem Acy.nf {m : Nat} {L : List Sy.Ed} (h : Acy m (sil m L)) : Acy m (sil m (Sy.nf L)) := by
 have e : sil m (Sy.nf L) = sil m L := funext fun q => sil_nf m L q
 rw [e]
 exact h
theorem right_nf {m : Nat} {k s : Int} {L : List Sy.Ed} (hr : Sy.right m k s L = true) : Sy.right m k s (Sy.nf L) = true := by
 unfold Sy.right at hr ⊢
 simp only [Bool.and_eq_true, decide_eq_true_eq, List.all_eq_true] at hr ⊢
 obtain ⟨⟨⟨h1, h2, h3, h4, h5⟩, h6⟩, h7⟩ := hr
 have h8 := Sy.nf_len L
 exact ⟨⟨⟨h1, h2, h3, h4, by omega⟩, h6⟩, fun e he => h7 e ((Sy.nf_mem _ _).1 he)⟩
end Go.Proofs.YtplofbabfkkimaaGreatDoor.Ts
/- Contract of the law's alive of chapter 11: first calls whose answers the document fixes. -/
namespace Go.Proofs.YtplofbabfkkimaaGreatDoor.Ts
open Go.RowKit Go.Maps
attribute [local go_sem ↓] Go.wp_at_zero Go.wp_at_succ
def es4 : List Sy.Ed := [(0, 0, 1), (1, 0, 0), (1, 1, 2), (2, 0, 3)]
theorem es4_right : Sy.right ((4 : Nat) : Int) 2 0 es4 = true := by decide
theorem es4_sil : sil 4 es4 0 = [1] ∧ sil 4 es4 1 = [0] ∧ sil 4 es4 2 = [3] ∧ sil 4 es4 3 = [] := by decide
theorem cl4 {cl : List Nat} (h : Cl 4 es4 cl) : cl = [0, 0, 1, 2] := by
 obtain ⟨s0, s1, s2, s3⟩ := es4_sil
 obtain ⟨hl, hf, hi⟩ := h
 obtain ⟨a, b, c, d, rfl⟩ : ∃ a b c d, cl = [a, b, c, d] := by
  match cl, hl with
  | [a, b, c, d], _ => exact ⟨a, b, c, d, rfl⟩
 have h01 := (hi 0 1 (by omega) (by omega)).2 ⟨Rt.one (by rw [s0]; simp), Rt.one (by rw [s1]; simp)⟩
 have h20 : c ≠ a := fun e => by
  have h2 := ((hi 2 0 (by omega) (by omega)).1 (by simp [e])).1
  have h3 := h2.stay (P := fun v => v = 2 ∨ v = 3) (fun v hv t ht => by
   rcases hv with rfl | rfl
   ·rw [s2] at ht; exact .inr (by simpa using ht)
   ·rw [s3] at ht; cases ht) (.inl rfl)
  omega
 have h30 : d ≠ a := fun e => by
  have h2 := ((hi 3 0 (by omega) (by omega)).1 (by simp [e])).1
  have h3 := h2.stay (P := fun v => v = 3) (fun v hv t ht => by
   subst hv
   rw [s3] at ht; cases ht) rfl
  omega
 have h32 : d ≠ c := fun e => by
  have h2 := ((hi 3 2 (by omega) (by omega)).1 (by simp [e])).1
  have h3 := h2.stay (P := fun v => v = 3) (fun v hv t ht => by
   subst hv
   rw [s3] at ht; cases ht) rfl
  omega
 have hab : a = b := by simpa using h01
 subst hab
 have e1 : ¬ (a : Int) = c := fun e => h20 (by omega)
 have e2 : ¬ (a : Int) = d := fun e => h30 (by omega)
 have e3 : ¬ (c : Int) = d := fun e => h32 (by omega)
 simp [Sy.canon, Sy.canonG, natI, Sy.place, e1, e2, e3] at hf
 simp
 omega
def out4 : Nat → List Nat := sil (tog [0, 0, 1, 2]) (btw [0, 0, 1, 2] es4)
theorem tog4 : tog [0, 0, 1, 2] = 3 := by decide
theorem out4_at : out4 0 = [] ∧ out4 1 = [2] ∧ out4 2 = [] := by decide
theorem od4 {od : List Nat} (h : Grd (tog [0, 0, 1, 2]) out4 od) (hm : ∀ x, ¬ Rd (tog [0, 0, 1, 2]) out4 od x) : od.flatMap (memI [0, 0, 1, 2]) = [0, 1, 3, 2] := by
 obtain ⟨o0, o1, o2⟩ := out4_at
 rw [tog4] at h hm
 have hG : Grd 3 out4 [0, 2, 1] := by
  have g1 : Grd 3 out4 [0] := Grd.nil.snoc ⟨by omega, by simp, by rw [o0]; simp⟩ fun x hx => by omega
  have g2 : Grd 3 out4 [0, 2] := g1.snoc ⟨by omega, by simp, by rw [o2]; simp⟩ fun x hx hr => by
   obtain ⟨_, r2, r3⟩ := hr
   have h1 : x = 1 := by
    have : x ≠ 0 := fun e => r2 (by simp [e])
    omega
   subst h1
   rw [o1] at r3
   simp at r3
  exact g2.snoc ⟨by omega, by simp, by rw [o1]; simp⟩ fun x hx hr => by
   obtain ⟨_, r2, _⟩ := hr
   have h1 : x = 0 := by omega
   exact r2 (by simp [h1])
 have e := h.same hm hG fun x hr => by
  obtain ⟨r1, r2, _⟩ := hr
  have : x = 0 ∨ x = 1 ∨ x = 2 := by omega
  rcases this with e | e | e <;> exact r2 (by simp [e])
 rw [e]
 decide
theorem es4_has (w : World) : BEdges.Has (w.alloc (.cells #[.int .i64 0, .int .i64 0, .int .i64 1, .int .i64 1, .int .i64 0, .int .i64 0, .int .i64 1, .int .i64 1, .int .i64 2, .int .i64 2, .int .i64 0, .int .i64 3] 61)) (.slice (some ⟨w.heap.size, 0, none⟩) 4 4) es4 := by
 refine ⟨some ⟨w.heap.size, 0, none⟩, 4, rfl, fun j u hj => ⟨_, rfl, ?_⟩⟩
 rw [addz]
 refine cell0_of (heap_alloc_new w _) ?_
 rw [← Array.getElem?_toList]
 exact hj
theorem own_cell {w : World} {B : Nat} {v : Value} {zs : List Int} {j : Nat} {z : Int} (h : OwnI w B v zs) (hz : zs[j]? = some z) : ∃ g cap, v = .slice (some ⟨g, 0, none⟩) zs.length cap ∧ w.cell? ⟨g, j, none⟩ = some (.int .i64 z) := by
 obtain ⟨g, off, cap, e, _, hc, _⟩ := que_cell (Que.of_own h) hz
 have h0 := h.at0 _ _ _ _ e
 subst h0
 rw [Nat.zero_add] at hc
 exact ⟨g, cap, e, hc⟩
def PAl (w : World) : Prop := ∀ W, Below w.heap.size w W → Calls Tryz.prog 5 #[] W fun r w' => r = .returned (.bool true) ∧ Below W.heap.size W w'
set_option maxRecDepth 100000 in
set_option maxHeartbeats 4000000 in
theorem pAl (hS : SortOk 1000000) (a : Addr) (w : World) (hA0 : Sent w 13 a) : PAl w := fun W hb => by
 have hA := hA0.below hb
 clear hA0 hb
 obtain ⟨w1, hw1⟩ : ∃ w1, w1 = W.alloc (.cells #[.int .i64 0, .int .i64 0, .int .i64 1, .int .i64 1, .int .i64 0, .int .i64 0, .int .i64 1, .int .i64 1, .int .i64 2, .int .i64 2, .int .i64 0, .int .i64 3] 61) := ⟨_, rfl⟩
 have hb1 : Below W.heap.size W w1 := by rw [hw1]; exact (Below.refl _ _).alloc (Nat.le_refl _) _
 have hv := es4_has W
 rw [← hw1] at hv
 obtain ⟨w2, hw2⟩ : ∃ w2, w2 = w1.alloc (.cells #[.int .i64 4, .int .i64 2, .int .i64 0, .slice (some ⟨W.heap.size, 0, none⟩) 4 4] 24) := ⟨_, rfl⟩
 have hb2 : Below w1.heap.size w1 w2 := by rw [hw2]; exact (Below.refl _ _).alloc (Nat.le_refl _) _
 have hg2 : w2.heap[w1.heap.size]? = some (.cells #[.int .i64 4, .int .i64 2, .int .i64 0, .slice (some ⟨W.heap.size, 0, none⟩) 4 4] 24 (0, 0)) := by rw [hw2]; exact heap_alloc_new w1 _
 have hbW := hb1.trans (hb2.mono hb1.size)
 have hC := cycles_ok hS 4 2 0 (.slice (some ⟨W.heap.size, 0, none⟩) 4 4) es4 a w2 (hA.below hbW) (hv.below hb2) (by decide) (by decide) es4_right
 unfold sysV at hC
 have hsz : w1.heap.size = W.heap.size + 1 := by rw [hw1]; simp
 have H1 : Hid _ := And.intro hw2 (And.intro hw1 (And.intro hg2 (And.intro hC (And.intro hbW (And.intro hA (hv.below hb2))))))
 obtain ⟨x0, x1, x2, x3⟩ := four_cells hg2
 clear hw1 hb1 hv hw2 hb2 hg2 hbW hC hA
 go_enter Tryz.func5, Tryz.ntmps5
 go_upto_region 2 with fail
 rw [← H1.out.2.1, ← H1.out.1]
 rw [hsz] at x0 x1 x2 x3
 go_wp2_with fail
 refine Calls.mono H1.out.2.2.2.1 ?_
 rintro r w3 ⟨u3, cl, rfl, hCl, hO3, hb3⟩
 obtain rfl := cl4 hCl
 obtain ⟨g3, c3, hu3, d3⟩ := own_cell (j := 3) (z := 2) hO3 rfl
 have hu3' : u3 = .slice (some ⟨g3, 0, none⟩) 4 c3 := hu3
 clear hu3
 subst hu3'
 have hbW3 := H1.out.2.2.2.2.1.trans (hb3.mono H1.out.2.2.2.2.1.size)
 have hOr := order_ok hS 4 2 0 (.slice (some ⟨W.heap.size, 0, none⟩) 4 4) es4 a w3 (H1.out.2.2.2.2.2.1.below hbW3) (H1.out.2.2.2.2.2.2.below hb3) (by decide) (by decide) es4_right
 unfold sysV at hOr
 have hg3 := (hb3.block _ (t_lt H1.out.2.2.1)).trans H1.out.2.2.1
 rw [hsz] at hg3
 have H3 : Hid _ := And.intro hOr hbW3
 clear x0 x1 x2 x3 hO3 hb3 hbW3 hOr hCl
 obtain ⟨x0, x1, x2, x3⟩ := four_cells hg3
 clear hg3
 go_wp2_with fail
 refine Calls.mono H3.out.1 ?_
 rintro r w4 ⟨u4, cl, od, rfl, hCl, hGr, hNo, hO4, hb4⟩
 obtain rfl := cl4 hCl
 rw [od4 hGr hNo] at hO4
 obtain ⟨g4, c4, hu4, d4⟩ := own_cell (j := 2) (z := 3) hO4 rfl
 have hu4' : u4 = .slice (some ⟨g4, 0, none⟩) 4 c4 := hu4
 clear hu4
 subst hu4'
 have d3' := cell_up d3 hb4
 have H4 : Hid _ := H3.out.2.trans (hb4.mono H3.out.2.size)
 clear hO4 hb4 x0 x1 x2 x3 hCl hGr hNo d3
 go_wp2_with fail
 go_ret
 exact ⟨rfl, H4.out⟩
end Go.Proofs.YtplofbabfkkimaaGreatDoor.Ts
/- tauscc: lists of bools by a function. -/
namespace Go.Proofs.YtplofbabfkkimaaGreatDoor.Ts
open Go.RowKit Go.Maps
def bl (M : Nat) (u : Nat → Bool) : List Value := (List.range M).map fun p => .bool (u p)
theorem bl_at {M : Nat} (u : Nat → Bool) {p : Nat} (h : p < M) : (bl M u)[p]? = some (.bool (u p)) := by simp [bl, h]
theorem bl_len (M : Nat) (u : Nat → Bool) : (bl M u).length = M := by simp [bl]
theorem bl_set (M : Nat) (u : Nat → Bool) (p : Nat) (x : Bool) : (bl M u).set p (.bool x) = bl M fun j => if j = p then x else u j := by
 apply List.ext_getElem?
 intro j
 by_cases hj : j < M
 ·by_cases e : p = j
  ·subst e
   rw [List.getElem?_set_self (by rw [bl_len]; exact hj), bl_at _ hj, if_pos rfl]
  ·rw [List.getElem?_set_ne e, bl_at _ hj, bl_at _ hj, if_neg fun e2 => e e2.symm]
 ·rw [List.getElem?_eq_none (by rw [List.length_set, bl_len]; omega), List.getElem?_eq_none (by rw [bl_len]; omega)]
theorem bl_congr {M : Nat} {u v : Nat → Bool} (h : ∀ p, p < M → u p = v p) : bl M u = bl M v := List.map_congr_left fun p hp => by rw [h p (List.mem_range.1 hp)]
theorem bl_false (M : Nat) : List.replicate M (Value.bool false) = bl M fun _ => false := by
 apply List.ext_getElem?
 intro j
 by_cases hj : j < M
 ·rw [bl_at _ hj, List.getElem?_replicate, if_pos hj]
 ·rw [List.getElem?_eq_none (by simp; omega), List.getElem?_eq_none (by rw [bl_len]; omega)]
end Go.Proofs.YtplofbabfkkimaaGreatDoor.Ts
/- tauscc: the document's From: the states that silent steps lead to. -/
namespace Go.Proofs.YtplofbabfkkimaaGreatDoor.Ts
open Go.RowKit Go.Maps
attribute [local go_sem ↓] Go.wp_at_zero Go.wp_at_succ
structure Fr (n : Nat) (out : Nat → List Nat) (p : Nat) (l : List Nat) (i : Nat) : Prop where
 nd : l.Nodup
 sub : ∀ x ∈ l, x < n ∧ Rt out p x
 me : p ∈ l
 le : i ≤ l.length
 cl : ∀ (j x : Nat), j < i → l[j]? = some x → ∀ y ∈ out x, y ∈ l
theorem Fr.new {n : Nat} {out : Nat → List Nat} {p : Nat} (hp : p < n) : Fr n out p [p] 0 :=
 ⟨List.nodup_cons.2 ⟨by simp, .nil⟩, fun x hx => by rw [List.mem_singleton.1 hx]; exact ⟨hp, Rt.refl p⟩, List.mem_singleton.2 rfl, Nat.zero_le _, fun j x hj => absurd hj (Nat.not_lt_zero j)⟩
theorem Fr.grow {n : Nat} {out : Nat → List Nat} {p i y : Nat} {l : List Nat} (h : Fr n out p l i) (hy : y < n) (hR : Rt out p y) (hn : y ∉ l) : Fr n out p (l ++ [y]) i := by
 refine ⟨List.nodup_append.2 ⟨h.nd, List.nodup_cons.2 ⟨by simp, .nil⟩, fun a ha b hb e => ?_⟩, fun x hx => ?_, List.mem_append_left _ h.me, by rw [List.length_append]; exact Nat.le_trans h.le (Nat.le_add_right _ _), fun j x hj hx z hz => ?_⟩
 ·rw [List.mem_singleton.1 hb] at e
  rw [e] at ha
  exact hn ha
 ·rcases List.mem_append.1 hx with hx | hx
  ·exact h.sub x hx
  ·rw [List.mem_singleton.1 hx]; exact ⟨hy, hR⟩
 ·rw [List.getElem?_append_left (Nat.lt_of_lt_of_le hj h.le)] at hx
  exact List.mem_append_left _ (h.cl j x hj hx z hz)
theorem Fr.len {n : Nat} {out : Nat → List Nat} {p i : Nat} {l : List Nat} (h : Fr n out p l i) : l.length ≤ n := by
 have h3 := nodup_sub l (List.range n) h.nd fun x hx => List.mem_range.2 (h.sub x hx).1
 rwa [List.length_range] at h3
theorem Fr.next {n : Nat} {out : Nat → List Nat} {p i x : Nat} {l : List Nat} (h : Fr n out p l i) (hx : l[i]? = some x) (hall : ∀ y ∈ out x, y ∈ l) : Fr n out p l (i + 1) :=
 ⟨h.nd, h.sub, h.me, (List.getElem?_eq_some_iff.1 hx).1, fun j z hj hz => by
  by_cases e : j = i
  ·subst e
   rw [hx] at hz
   cases hz
   exact hall
  ·exact h.cl j z (by omega) hz⟩
theorem Fr.done {n : Nat} {out : Nat → List Nat} {p : Nat} {l : List Nat} (h : Fr n out p l l.length) (x : Nat) : x ∈ l ↔ Rt out p x :=
 ⟨fun hx => (h.sub x hx).2, fun hR => hR.stay (P := fun v => v ∈ l) (fun v hv t ht => by
  obtain ⟨j, hj⟩ := List.mem_iff_getElem?.1 hv
  exact h.cl j v (List.getElem?_eq_some_iff.1 hj).1 hj t ht) h.me⟩
def silF (f : Nat → List BSteps.El) (q : Nat) : List Nat := (Sy.ends (f q) 0).map Int.toNat
theorem silF_mem {f : Nat → List BSteps.El} {q y : Nat} (h0 : ∀ e ∈ f q, 0 ≤ e.2) : y ∈ silF f q ↔ ((0 : Int), (y : Int)) ∈ f q := by
 unfold silF
 rw [List.mem_map]
 constructor
 ·rintro ⟨z, hz, rfl⟩
  have h1 := ends_in.1 hz
  have h2 := h0 _ h1
  simp only at h2
  rw [Int.toNat_of_nonneg h2]
  exact h1
 ·intro h
  exact ⟨(y : Int), ends_in.2 h, by simp⟩
theorem zero_first {row : List BSteps.El} (hr : row.Pairwise fun x y => x.1 ≤ y.1) (h0 : ∀ e ∈ row, 0 ≤ e.1) {k : Nat} (hk : ∀ e, row[k]? = some e → e.1 ≠ 0) {y : Int} (hy : ((0 : Int), y) ∈ row) : ∃ j, j < k ∧ row[j]? = some (0, y) := by
 obtain ⟨j, hj⟩ := List.mem_iff_getElem?.1 hy
 refine ⟨j, ?_, hj⟩
 rcases Nat.lt_or_ge j k with h | h
 ·exact h
 ·exfalso
  have hjl := (List.getElem?_eq_some_iff.1 hj).1
  have hkl : k < row.length := by omega
  have h1 := hk _ (List.getElem?_eq_getElem hkl)
  have h2 := h0 _ (List.getElem_mem hkl)
  rcases Nat.eq_or_lt_of_le h with e | h
  ·subst e
   rw [List.getElem?_eq_getElem hkl] at hj
   rw [Option.some.inj hj] at h1
   exact h1 rfl
  ·have h3 := List.pairwise_iff_getElem.1 hr k j hkl hjl h
   rw [(List.getElem?_eq_some_iff.1 hj).2] at h3
   simp only at h3
   omega
open Classical in
noncomputable def rtB (out : Nat → List Nat) (p x : Nat) : Bool := decide (Rt out p x)
theorem rtB_iff {out : Nat → List Nat} {p x : Nat} : rtB out p x = true ↔ Rt out p x := by unfold rtB; simp
theorem fr_set {n : Nat} (l : List Nat) (y : Nat) : (bl n fun x => decide (x ∈ l)).set y (.bool true) = bl n fun x => decide (x ∈ l ++ [y]) := by
 rw [bl_set]
 refine bl_congr fun x _ => ?_
 by_cases e : x = y
 ·subst e; simp
 ·simp [e]
def RowsAt (w : World) (g n : Nat) (f : Nat → List BSteps.El) : Prop := ∀ q, q < n → ∃ u, w.cell? ⟨g, q, none⟩ = some u ∧ BSteps.Has w u (f q)
theorem RowsAt.below {w w' : World} {g n : Nat} {f : Nat → List BSteps.El} (h : RowsAt w g n f) (hb : Below w.heap.size w w') : RowsAt w' g n f := fun q hq => by
 obtain ⟨u, h1, h2⟩ := h q hq
 exact ⟨u, cell_up h1 hb, h2.below hb⟩
theorem rowsAt_of {w w' : World} {B g n : Nat} {us : List Value} {f : Nat → List BSteps.El} (hA : Arr 84 w w' g us) (hO : Outs w' B us n f) : RowsAt w' g n f := fun q hq => by
 obtain ⟨u, h1, h2⟩ := hO.row q hq
 exact ⟨u, hA.cell h1, h2.has⟩
structure RowsOk (n : Nat) (f : Nat → List BSteps.El) : Prop where
 rise : ∀ q, (f q).Pairwise fun x y => x.1 ≤ y.1
 lab : ∀ q, ∀ e ∈ f q, 0 ≤ e.1
 tgt : ∀ q, ∀ e ∈ f q, 0 ≤ e.2 ∧ e.2 < (n : Int)
 len : ∀ q, (f q).length ≤ 100000
end Go.Proofs.YtplofbabfkkimaaGreatDoor.Ts
/- tauscc: lists of numbers by a function. -/
namespace Go.Proofs.YtplofbabfkkimaaGreatDoor.Ts
open Go.RowKit Go.Maps
def il (M : Nat) (u : Nat → Int) : List Value := (List.range M).map fun p => .int .i64 (u p)
theorem il_at {M : Nat} (u : Nat → Int) {p : Nat} (h : p < M) : (il M u)[p]? = some (.int .i64 (u p)) := by simp [il, h]
theorem il_len (M : Nat) (u : Nat → Int) : (il M u).length = M := by simp [il]
theorem il_set (M : Nat) (u : Nat → Int) (p : Nat) (x : Int) : (il M u).set p (.int .i64 x) = il M fun j => if j = p then x else u j := by
 apply List.ext_getElem?
 intro j
 by_cases hj : j < M
 ·by_cases e : p = j
  ·subst e
   rw [List.getElem?_set_self (by rw [il_len]; exact hj), il_at _ hj, if_pos rfl]
  ·rw [List.getElem?_set_ne e, il_at _ hj, il_at _ hj, if_neg fun e2 => e e2.symm]
 ·rw [List.getElem?_eq_none (by rw [List.length_set, il_len]; omega), List.getElem?_eq_none (by rw [il_len]; omega)]
theorem il_congr {M : Nat} {u v : Nat → Int} (h : ∀ p, p < M → u p = v p) : il M u = il M v := List.map_congr_left fun p hp => by rw [h p (List.mem_range.1 hp)]
theorem il_zero (M : Nat) : List.replicate M (Value.int .i64 0) = il M fun _ => 0 := by
 apply List.ext_getElem?
 intro j
 by_cases hj : j < M
 ·rw [il_at _ hj, List.getElem?_replicate, if_pos hj]
 ·rw [List.getElem?_eq_none (by simp; omega), List.getElem?_eq_none (by rw [il_len]; omega)]
theorem bel13 {w W w8 : World} (hb : Below W.heap.size W w8) (h : Below w.heap.size w W) : Below w.heap.size w w8 := h.trans (hb.mono h.size)
end Go.Proofs.YtplofbabfkkimaaGreatDoor.Ts
/- tauscc: the document's Cycles: plain facts. -/
namespace Go.Proofs.YtplofbabfkkimaaGreatDoor.Ts
def Tg (out : Nat → List Nat) (j k : Nat) : Prop := Rt out j k ∧ Rt out k j
theorem Tg.refl (out : Nat → List Nat) (k : Nat) : Tg out k k := ⟨Rt.refl k, Rt.refl k⟩
theorem Tg.symm {out : Nat → List Nat} {j k : Nat} (h : Tg out j k) : Tg out k j := ⟨h.2, h.1⟩
theorem Tg.trans {out : Nat → List Nat} {a b c : Nat} (h : Tg out a b) (k : Tg out b c) : Tg out a c := ⟨h.1.trans k.1, k.2.trans h.2⟩
def cntF : Nat → List Int → Nat
 | n, [] => n
 | n, c :: r => cntF (if c = (n : Int) then n + 1 else n) r
theorem formG_snoc (l : List Int) (c : Int) : ∀ m, Sy.formG m (l ++ [c]) = (Sy.formG m l && decide (0 ≤ c ∧ c ≤ (cntF m l : Int))) := by
 induction l with
 | nil => intro m; rw [Bool.eq_iff_iff]; simp only [List.nil_append, Sy.formG, cntF, Bool.and_true, Bool.true_and, decide_eq_true_iff]; exact ⟨fun h => decide_eq_true h, fun h => of_decide_eq_true h⟩
 | cons a r ih => intro m; simp only [List.cons_append, Sy.formG, cntF]; rw [ih, Bool.and_assoc]; rfl
theorem cntF_snoc (l : List Int) (c : Int) : ∀ m, cntF m (l ++ [c]) = if c = (cntF m l : Int) then cntF m l + 1 else cntF m l := by
 induction l with
 | nil => intro m; simp only [List.nil_append, cntF]; rfl
 | cons a r ih => intro m; simp only [List.cons_append, cntF]; rw [ih]; rfl
structure Cg (n : Nat) (out : Nat → List Nat) (i c : Nat) (A : Nat → Int) : Prop where
 lo : ∀ k, k < n → A k = -1 ∨ (0 ≤ A k ∧ A k < (c : Int))
 som : ∀ k, k < n → (0 ≤ A k ↔ ∃ j, j < i ∧ Tg out j k)
 iff : ∀ k k', k < n → k' < n → 0 ≤ A k → 0 ≤ A k' → (A k = A k' ↔ Tg out k k')
 form : Sy.formG 0 ((List.range i).map A) = true
 cnt : cntF 0 ((List.range i).map A) = c
theorem Cg.new (n : Nat) (out : Nat → List Nat) : Cg n out 0 0 fun _ => -1 :=
 ⟨fun _ _ => .inl rfl, fun k _ => ⟨fun h => absurd h (by omega), fun ⟨j, hj, _⟩ => absurd hj (Nat.not_lt_zero j)⟩, fun _ _ _ _ h => absurd h (by omega), rfl, rfl⟩
theorem Cg.skip {n i c : Nat} {out : Nat → List Nat} {A : Nat → Int} (h : Cg n out i c A) (hi : i < n) (h0 : 0 ≤ A i) : Cg n out (i + 1) c A := by
 have h1 : A i < (c : Int) := by have h2 := h.lo i hi; omega
 refine ⟨h.lo, fun k hk => ?_, h.iff, ?_, ?_⟩
 ·rw [h.som k hk]
  constructor
  ·rintro ⟨j, hj, hT⟩; exact ⟨j, by omega, hT⟩
  ·rintro ⟨j, hj, hT⟩
   by_cases e : j = i
   ·subst e
    obtain ⟨j', hj', hT'⟩ := (h.som j hi).1 h0
    exact ⟨j', hj', hT'.trans hT⟩
   ·exact ⟨j, by omega, hT⟩
 ·rw [List.range_succ, List.map_append, List.map_singleton, formG_snoc, h.form, h.cnt]
  simp
  omega
 ·rw [List.range_succ, List.map_append, List.map_singleton, cntF_snoc, h.cnt, if_neg (by omega)]
open Classical in
noncomputable def clsT (out : Nat → List Nat) (i c : Nat) (A : Nat → Int) (k0 k : Nat) : Int := if k < k0 ∧ Tg out i k then (c : Int) else A k
theorem Cg.more {n i c : Nat} {out : Nat → List Nat} {A : Nat → Int} (h : Cg n out i c A) (hi : i < n) (h0 : A i < 0) : Cg n out (i + 1) (c + 1) (clsT out i c A n) := by
 have hno : ∀ k, k < n → Tg out i k → ¬ 0 ≤ A k := fun k hk hT h1 => by
  obtain ⟨j, hj, hT'⟩ := (h.som k hk).1 h1
  have := (h.som i hi).2 ⟨j, hj, hT'.trans hT.symm⟩
  omega
 have hT : ∀ k, k < n → Tg out i k → clsT out i c A n k = c := fun k hk h1 => by unfold clsT; rw [if_pos ⟨hk, h1⟩]
 have hF : ∀ k, ¬ Tg out i k → clsT out i c A n k = A k := fun k h1 => by unfold clsT; rw [if_neg fun h2 => h1 h2.2]
 have hmap : (List.range i).map (clsT out i c A n) = (List.range i).map A := List.map_congr_left fun k hk => by
  have hki := List.mem_range.1 hk
  refine hF k fun h1 => ?_
  have := (h.som i hi).2 ⟨k, hki, h1.symm⟩
  omega
 refine ⟨fun k hk => ?_, fun k hk => ?_, fun k k' hk hk' h1 h2 => ?_, ?_, ?_⟩
 ·by_cases ht : Tg out i k
  ·rw [hT k hk ht]; omega
  ·rw [hF k ht]; have := h.lo k hk; omega
 ·by_cases ht : Tg out i k
  ·rw [hT k hk ht]
   exact ⟨fun _ => ⟨i, by omega, ht⟩, fun _ => by omega⟩
  ·rw [hF k ht, h.som k hk]
   constructor
   ·rintro ⟨j, hj, hj2⟩; exact ⟨j, by omega, hj2⟩
   ·rintro ⟨j, hj, hj2⟩
    by_cases e : j = i
    ·subst e; exact absurd hj2 ht
    ·exact ⟨j, by omega, hj2⟩
 ·by_cases ht : Tg out i k
  ·by_cases ht' : Tg out i k'
   ·rw [hT k hk ht, hT k' hk' ht']
    exact ⟨fun _ => ht.symm.trans ht', fun _ => rfl⟩
   ·rw [hT k hk ht, hF k' ht']
    rw [hF k' ht'] at h2
    have := h.lo k' hk'
    exact ⟨fun e => by omega, fun hkk => absurd (ht.trans hkk) ht'⟩
  ·by_cases ht' : Tg out i k'
   ·rw [hF k ht, hT k' hk' ht']
    rw [hF k ht] at h1
    have := h.lo k hk
    exact ⟨fun e => by omega, fun hkk => absurd (ht'.trans hkk.symm) ht⟩
   ·rw [hF k ht, hF k' ht']
    rw [hF k ht] at h1
    rw [hF k' ht'] at h2
    exact h.iff k k' hk hk' h1 h2
 ·rw [List.range_succ, List.map_append, List.map_singleton, hmap, formG_snoc, h.form, h.cnt, hT i hi (Tg.refl out i)]
  simp
 ·rw [List.range_succ, List.map_append, List.map_singleton, hmap, cntF_snoc, h.cnt, hT i hi (Tg.refl out i), if_pos rfl]
theorem clsT_zero (out : Nat → List Nat) (i c : Nat) (A : Nat → Int) (k : Nat) : clsT out i c A 0 k = A k := by unfold clsT; rw [if_neg (by omega)]
theorem clsT_hit {out : Nat → List Nat} {i c k0 : Nat} {A : Nat → Int} (h : Tg out i k0) (k : Nat) : (if k = k0 then (c : Int) else clsT out i c A k0 k) = clsT out i c A (k0 + 1) k := by
 unfold clsT
 by_cases e : k = k0
 ·subst e; rw [if_pos rfl, if_pos ⟨by omega, h⟩]
 ·rw [if_neg e]
  by_cases h1 : k < k0 ∧ Tg out i k
  ·rw [if_pos h1, if_pos ⟨by omega, h1.2⟩]
  ·rw [if_neg h1, if_neg fun h2 => h1 ⟨by omega, h2.2⟩]
theorem clsT_miss {out : Nat → List Nat} {i c k0 : Nat} {A : Nat → Int} (h : ¬ Tg out i k0) (k : Nat) : clsT out i c A k0 k = clsT out i c A (k0 + 1) k := by
 unfold clsT
 by_cases e : k = k0
 ·subst e; rw [if_neg (by omega), if_neg fun h2 => h h2.2]
 ·by_cases h1 : k < k0 ∧ Tg out i k
  ·rw [if_pos h1, if_pos ⟨by omega, h1.2⟩]
  ·rw [if_neg h1, if_neg fun h2 => h1 ⟨by omega, h2.2⟩]
end Go.Proofs.YtplofbabfkkimaaGreatDoor.Ts
/- tauscc: the document's Cycles are the classes: plain facts. -/
namespace Go.Proofs.YtplofbabfkkimaaGreatDoor.Ts
theorem natI_inj {a b : List Nat} (h : natI a = natI b) : a = b := by
 unfold natI at h
 exact (List.map_inj_right fun x y e => Int.ofNat.inj e).1 h
theorem Cg.pos {n c : Nat} {out : Nat → List Nat} {A : Nat → Int} (h : Cg n out n c A) {k : Nat} (hk : k < n) : 0 ≤ A k := (h.som k hk).2 ⟨k, hk, Tg.refl out k⟩
theorem Cg.cl {n c : Nat} {es : List Sy.Ed} {A : Nat → Int} (h : Cg n (sil n es) n c A) : natI ((List.range n).map fun k => (A k).toNat) = (List.range n).map A ∧ Cl n es ((List.range n).map fun k => (A k).toNat) := by
 have e1 : natI ((List.range n).map fun k => (A k).toNat) = (List.range n).map A := by
  unfold natI
  rw [List.map_map]
  exact List.map_congr_left fun k hk => Int.toNat_of_nonneg (h.pos (List.mem_range.1 hk))
 refine ⟨e1, by simp, ?_, fun u v hu hv => ?_⟩
 ·have h1 := h.form
  rw [Sy.formG_iff] at h1
  have h2 : (List.range n).map A = natI (Sy.canon ((List.range n).map A)) := by simpa using h1
  rw [e1]
  refine natI_inj ?_
  rw [← h2, e1]
 ·have gu : ((List.range n).map fun k => (A k).toNat)[u]? = some (A u).toNat := by simp [hu]
  have gv : ((List.range n).map fun k => (A k).toNat)[v]? = some (A v).toNat := by simp [hv]
  rw [gu, gv, Option.some.injEq]
  have p1 := h.pos hu
  have p2 := h.pos hv
  have h3 := h.iff u v hu hv p1 p2
  constructor
  ·intro e; exact h3.1 (by omega)
  ·intro e; rw [h3.2 e]
theorem Cl.same {n : Nat} {es : List Sy.Ed} {a b : List Nat} (ha : Cl n es a) (hb : Cl n es b) : a = b := by
 have hl : (natI a).length = (natI b).length := by simp [natI, ha.len, hb.len]
 have h1 : Sy.canon (natI a) = Sy.canon (natI b) := (Sy.canon_iff hl).2 fun i k x y u v hx hy hu hv => by
  simp only [natI, List.getElem?_map, Option.map_eq_some_iff] at hx hy hu hv
  obtain ⟨x, hx, rfl⟩ := hx
  obtain ⟨y, hy, rfl⟩ := hy
  obtain ⟨u, hu, rfl⟩ := hu
  obtain ⟨v, hv, rfl⟩ := hv
  have hi : i < n := by rw [← ha.len]; exact (List.getElem?_eq_some_iff.1 hx).1
  have hk : k < n := by rw [← ha.len]; exact (List.getElem?_eq_some_iff.1 hy).1
  have g1 := ha.iff i k hi hk
  have g2 := hb.iff i k hi hk
  rw [hx, hy, Option.some.injEq] at g1
  rw [hu, hv, Option.some.injEq] at g2
  have g3 := g1.trans g2.symm
  constructor
  ·intro e; rw [g3.1 (Int.ofNat.inj e)]
  ·intro e; rw [g3.2 (Int.ofNat.inj e)]
 rw [ha.form, hb.form] at h1
 exact h1
theorem Rt.rev {o1 o2 : Nat → List Nat} (h : ∀ x y, y ∈ o1 x → x ∈ o2 y) {a b : Nat} (hR : Rt o1 a b) : Rt o2 b a := by
 induction hR with
 | refl => exact Rt.refl _
 | step _ hw ih => exact (Rt.one (h _ _ hw)).trans ih
theorem steps_rise {l : List Sy.Ed} (h : Sy.Str l) (i : Int) : (Sy.steps l i).Pairwise fun x y => x.1 ≤ y.1 := by
 unfold Sy.steps
 rw [List.pairwise_map]
 refine (((Sy.str_pair h).filter _).imp_of_mem ?_)
 intro a b ha hb hl
 have h1 : a.1 = i := by simpa using (List.mem_filter.1 ha).2
 have h2 : b.1 = i := by simpa using (List.mem_filter.1 hb).2
 rw [Sy.lt_iff] at hl
 show a.2.1 ≤ b.2.1
 omega
theorem steps_len (l : List Sy.Ed) (i : Int) : (Sy.steps l i).length ≤ l.length := by
 unfold Sy.steps
 rw [List.length_map]
 exact List.length_filter_le _ _
theorem rowsOk_of {n : Nat} {L : List Sy.Ed} (hl : L.length ≤ 100000) (h : ∀ e ∈ L, 0 ≤ e.2.2 ∧ e.2.2 < (n : Int) ∧ 0 ≤ e.2.1) : RowsOk n fun i => Sy.steps (Sy.nf L) i :=
 ⟨fun q => steps_rise (Sy.nf_str _) _, fun q e he => (h _ ((Sy.nf_mem _ _).1 (Sy.steps_mem.1 he))).2.2, fun q e he => by
  have h1 := h _ ((Sy.nf_mem _ _).1 (Sy.steps_mem.1 he))
  exact ⟨h1.1, h1.2.1⟩, fun q => Nat.le_trans (steps_len _ _) (Nat.le_trans (Sy.nf_len L) hl)⟩
theorem silF_sil {n : Nat} {k s : Int} {es : List Sy.Ed} (hr : Sy.right n k s es = true) : silF (fun i => Sy.steps (Sy.nf es) i) = sil n es := by
 funext q
 unfold silF sil
 by_cases hq : q < n
 ·congr 2
  unfold Sy.rowOf
  rw [if_pos ⟨Int.natCast_nonneg q, by omega⟩]
 ·have h1 : Sy.rowOf n (Sy.nf es) (q : Int) = [] := by unfold Sy.rowOf; rw [if_neg (by omega)]
  have h2 : Sy.steps (Sy.nf es) (q : Int) = [] := by
   rw [List.eq_nil_iff_forall_not_mem]
   rintro ⟨a, b⟩ hz
   have h3 := (right_parts hr).2.2.2.2.2 _ ((Sy.nf_mem _ _).1 (Sy.steps_mem.1 hz))
   simp only at h3
   omega
  simp only
  rw [h1, h2]
theorem turn_mem2 {es : List Sy.Ed} {a b c : Int} : (a, b, c) ∈ es.map Sy.turn ↔ (c, b, a) ∈ es := by
 rw [List.mem_map]
 constructor
 ·rintro ⟨⟨x, y, z⟩, he, h⟩
  simp only [Sy.turn, Prod.mk.injEq] at h
  obtain ⟨rfl, rfl, rfl⟩ := h
  exact he
 ·intro h; exact ⟨_, h, rfl⟩
theorem silF_turn {n : Nat} {k s : Int} {es : List Sy.Ed} (hr : Sy.right n k s es = true) (x y : Nat) : y ∈ silF (fun i => Sy.steps (Sy.nf (es.map Sy.turn)) i) x ↔ x ∈ sil n es y := by
 rw [← silF_sil hr, silF_mem fun e he => ?_, silF_mem fun e he => ?_, Sy.steps_mem, Sy.steps_mem, Sy.nf_mem, Sy.nf_mem, turn_mem2]
 ·exact ((right_parts hr).2.2.2.2.2 _ ((Sy.nf_mem _ _).1 (Sy.steps_mem.1 he))).2.2.1
 ·have h1 := (Sy.nf_mem _ _).1 (Sy.steps_mem.1 he)
  rw [turn_mem2] at h1
  exact ((right_parts hr).2.2.2.2.2 _ h1).1
theorem both_iff {n : Nat} {k s : Int} {es : List Sy.Ed} (hr : Sy.right n k s es = true) (i j : Nat) : (rtB (silF fun i => Sy.steps (Sy.nf es) i) i j = true ∧ rtB (silF fun i => Sy.steps (Sy.nf (es.map Sy.turn)) i) i j = true) ↔ Tg (sil n es) i j := by
 rw [rtB_iff, rtB_iff, silF_sil hr]
 unfold Tg
 have h1 : Rt (silF fun i => Sy.steps (Sy.nf (es.map Sy.turn)) i) i j ↔ Rt (sil n es) j i :=
  ⟨fun h => h.rev fun x y hxy => (silF_turn hr x y).1 hxy, fun h => h.rev fun x y hxy => (silF_turn hr y x).2 hxy⟩
 rw [h1]
end Go.Proofs.YtplofbabfkkimaaGreatDoor.Ts
/- tauscc: the contract of the document's From. -/
namespace Go.Proofs.YtplofbabfkkimaaGreatDoor.Ts
open Go.RowKit Go.Maps
attribute [local go_sem ↓] Go.wp_at_zero Go.wp_at_succ
structure FrM (w wx : World) (gi n : Nat) (v : Value) (l : List Nat) : Prop where
 arr : Arr 4 w wx gi (bl n fun x => decide (x ∈ l))
 lst : OwnI wx w.heap.size v (cast l)
theorem FrM.put {w wx w4 : World} {gi n N y g4 k4 cu : Nat} {au : Option Addr} {l : List Nat} (h : FrM w wx gi n (.slice au N cu) l) (hN : N = l.length) (hk : Kept (fun b => (Value.slice au N cu).ownBlock = some b) (wx.setCell ⟨gi, y, none⟩ (.bool true)) w4) (hown : w4.ownsRow w.heap.size 3 1 (.slice (some ⟨g4, 0, none⟩) (N + 1) k4) (N + 1) (iC (cast l) ++ [.int .i64 y])) : FrM w w4 gi n (.slice (some ⟨g4, 0, none⟩) (N + 1) k4) (l ++ [y]) := by
 obtain ⟨cs, hc, _⟩ := h.arr.ids
 have hne : ∀ b, (Value.slice au N cu).ownBlock = some b → w.heap.size ≤ b ∧ b ≠ gi := fun b hb => ⟨(h.lst.lt b hb).1, fun e => own_bk h.lst hc (by decide) (by rw [← e]; exact hb)⟩
 refine ⟨?_, ?_⟩
 ·have h1 := (h.arr.set y (.bool true)).kept hk hne
  rw [fr_set] at h1
  exact h1
 ·unfold OwnI
  rw [cast_length, List.length_append, List.length_singleton, ← hN, cast_snoc, show iC (cast l ++ [(y : Int)]) = iC (cast l) ++ [.int .i64 y] by simp [iC]]
  exact hown
theorem arr_of_alloc (w : World) (z : Int) : Arr 3 w (w.alloc (.cells #[.int .i64 z] 3)) w.heap.size [.int .i64 z] := ⟨(Below.refl _ _).alloc (Nat.le_refl _) _, ⟨_, heap_alloc_new w _, rfl⟩, Nat.le_refl _⟩
theorem fr_all {f : Nat → List BSteps.El} {n x k : Nat} {l : List Nat} (hF : RowsOk n f) (hk : ∀ e, (f x)[k]? = some e → e.1 ≠ 0) (hall : ∀ (j : Nat) (e : BSteps.El), j < k → (f x)[j]? = some e → e.1 = 0 ∧ e.2.toNat ∈ l) : ∀ y ∈ silF f x, y ∈ l := fun y hy => by
 obtain ⟨j, hj, he⟩ := zero_first (hF.rise x) (hF.lab x) hk ((silF_mem fun e he => (hF.tgt x e he).1).1 hy)
 have h1 := (hall j _ hj he).2
 simpa using h1
set_option linter.unusedSimpArgs false in
set_option maxRecDepth 100000 in
set_option maxHeartbeats 8000000 in
theorem docFrom_any (n p g : Nat) (f : Nat → List BSteps.El) (w : World) (hn : n ≤ 1000) (hp : p < n) (hR : RowsAt w g n f) (hF : RowsOk n f) :
 Calls Tryz.prog 102 #[.slice (some ⟨g, 0, none⟩) n n, .int .i64 p] w fun e w' => ∃ gi, e = .returned (.slice (some ⟨gi, 0, none⟩) n n) ∧ Arr 4 w w' gi (bl n (rtB (silF f) p)) := by
 obtain ⟨i0, hi0, hz0, hz1, hz2⟩ := info_parts Tryz.infoI4
 have hmk := makeB n (by omega) w
 have hA0 := arr_new 4 (.bool false) rfl n w
 obtain ⟨w1, hw1⟩ : ∃ w1, w1 = w.alloc (.cells (madeV (.bool false) n) 4) := ⟨_, rfl⟩
 rw [← hw1] at hmk hA0
 obtain ⟨gi, hgi⟩ : ∃ gi, gi = w.heap.size := ⟨_, rfl⟩
 rw [← hgi] at hmk hA0
 rw [bl_false] at hA0
 have u0 := hA0.cell (bl_at (fun _ => false) hp)
 have uf := hA0.free p
 have p0 : (0 : Int) ≤ (p : Int) := by omega
 have p1 : (p : Int) < (n : Int) := by omega
 have hM : FrM w ((w1.setCell ⟨gi, p, none⟩ (.bool true)).alloc (.cells #[.int .i64 (p : Int)] 3)) gi n (.slice (some ⟨(w1.setCell ⟨gi, p, none⟩ (.bool true)).heap.size, 0, none⟩) 1 1) [p] := by
  have h1 := hA0.set p (.bool true)
  rw [bl_set, bl_congr (v := fun x => decide (x ∈ [p])) (fun x _ => by by_cases e : x = p <;> simp [e])] at h1
  refine ⟨h1.below ((Below.refl _ _).alloc (Nat.le_refl _) _), ?_⟩
  have h2 := (arr_of_alloc (w1.setCell ⟨gi, p, none⟩ (.bool true)) (p : Int)).own (by unfold maxLen; simp)
  have h3 : w.heap.size ≤ (w1.setCell ⟨gi, p, none⟩ (.bool true)).heap.size := h1.bl.size
  exact row_base h2 h3
 obtain ⟨w2, hw2⟩ : ∃ w2, w2 = (w1.setCell ⟨gi, p, none⟩ (.bool true)).alloc (.cells #[.int .i64 (p : Int)] 3) := ⟨_, rfl⟩
 have hs : (w1.setCell ⟨gi, p, none⟩ (.bool true)).heap.size = w1.heap.size := by simp
 rw [← hw2] at hM
 rw [hs] at hM
 have H : Hid _ := And.intro hM (And.intro hR (And.intro hF hw2))
 clear hA0 hw1 hgi hM hR hF hw2 hs
 go_enter Tryz.func102, Tryz.ntmps102
 go_upto_region 4 with fail
 rw [← H.out.2.2.2]
 clear hmk u0 uf
 go_wp2_with fail
 go_loopg [6, 7] n (fun q s6 s7 wx => ∃ (i : Nat) (l : List Nat), q = n - i ∧ s7 = .int .i64 i ∧ Fr n (silF f) p l i ∧ FrM w wx gi n s6 l)
 case atStart => exact ⟨0, [p], rfl, rfl, Fr.new hp, H.out.1⟩
 case round =>
  obtain ⟨i, l, rfl, rfl, hFr, hM⟩ := hrel
  obtain ⟨al, cl', hs6⟩ := row_shape hM.lst
  obtain ⟨N, hN⟩ : ∃ N, N = l.length := ⟨_, rfl⟩
  rw [cast_length, ← hN] at hs6
  subst hs6
  have hNn : N ≤ n := by rw [hN]; exact hFr.len
  have hiN : i ≤ N := by rw [hN]; exact hFr.le
  by_cases hlt : i < N
  ·obtain ⟨x, hx⟩ : ∃ x, l[i]? = some x := ⟨l[i]'(by omega), List.getElem?_eq_getElem _⟩
   have hxn := (hFr.sub x (List.mem_of_getElem? hx)).1
   obtain ⟨ao9, cap9, he9, hc9⟩ := OwnI.has hM.lst
   obtain ⟨a9, ha9, d0⟩ := hc9 i (x : Int) (cast_at hx)
   injection he9 with e1 e2 e3
   rw [ha9] at e1
   clear hc9 ha9 e2 e3
   subst e1
   obtain ⟨u, cw, huw⟩ := H.out.2.1 x hxn
   obtain ⟨ar, cr, hur, -⟩ := id huw
   obtain ⟨R, hR⟩ : ∃ R, R = (f x).length := ⟨_, rfl⟩
   rw [← hR] at hur
   subst hur
   have hRl : R ≤ 100000 := by rw [hR]; exact H.out.2.2.1.len x
   have cu0 := cell_up cw hM.arr.bl
   have q0 : (0 : Int) ≤ (i : Int) := by omega
   have q1 : (i : Int) < (N : Int) := by omega
   have q2 : (0 : Int) ≤ (x : Int) := by omega
   have q3 : (x : Int) < (n : Int) := by omega
   have q6 : IntKind.i64.wrap ((i : Int) + 1) = (i : Int) + 1 := by rw [IntKind.wrap_i64]; omega
   have HA : Hid _ := And.intro hFr (And.intro hM (And.intro hx (And.intro huw (And.intro hR (And.intro hxn hN)))))
   clear hFr hM hx cw huw hR hN hxn
   obtain ⟨wo, rfl⟩ : ∃ wo, wo = wr := ⟨_, rfl⟩
   go_wp2_with fail
   go_loopg [6, 9] R (fun q s6 s9 wx => ∃ (k : Nat) (l : List Nat), q = R - k ∧ k ≤ R ∧ s9 = .int .i64 k ∧ Fr n (silF f) p l i ∧ FrM w wx gi n s6 l ∧ l[i]? = some x ∧ ∀ (j : Nat) (e : BSteps.El), j < k → (f x)[j]? = some e → e.1 = 0 ∧ e.2.toNat ∈ l)
   case atStart => exact ⟨0, l, rfl, Nat.zero_le _, rfl, HA.out.1, HA.out.2.1, HA.out.2.2.1, fun j e hj => absurd hj (Nat.not_lt_zero j)⟩
   case round =>
    obtain ⟨k, l2, rfl, hk, rfl, hFr, hM, hx, hall⟩ := hrel
    clear cu0 d0
    obtain ⟨al2, cl2, hs6⟩ := row_shape hM.lst
    obtain ⟨N2, hN2⟩ : ∃ N, N = l2.length := ⟨_, rfl⟩
    rw [cast_length, ← hN2] at hs6
    subst hs6
    have hN2n : N2 ≤ n := by rw [hN2]; exact hFr.len
    have hbl := hM.arr.bl
    by_cases hkR : k < R
    ·obtain ⟨⟨e1, e2⟩, he⟩ : ∃ e, (f x)[k]? = some e := ⟨(f x)[k]'(by have := HA.out.2.2.2.2.1; omega), List.getElem?_eq_getElem _⟩
     obtain ⟨a5, hae, g0, g1⟩ := step_at (HA.out.2.2.2.1.below hbl) he
     subst hae
     simp only at g0 g1
     have r0 : (0 : Int) ≤ (k : Int) := by omega
     have r1 : (k : Int) < (R : Int) := by omega
     have r6 : IntKind.i64.wrap ((k : Int) + 1) = (k : Int) + 1 := by rw [IntKind.wrap_i64]; omega
     by_cases hz : e1 = 0
     ·subst hz
      have hto := H.out.2.2.1.tgt x _ (List.mem_of_getElem? he)
      simp only at hto
      obtain ⟨y, rfl⟩ : ∃ y : Nat, e2 = (y : Int) := ⟨e2.toNat, by omega⟩
      have hyn : y < n := by omega
      have hys : y ∈ silF f x := (silF_mem fun e he => (H.out.2.2.1.tgt x e he).1).2 (List.mem_of_getElem? he)
      have hyR : Rt (silF f) p y := (hFr.sub x (List.mem_of_getElem? hx)).2.step hys
      have u0 := hM.arr.cell (bl_at (fun z => decide (z ∈ l2)) hyn)
      have uf := hM.arr.free y
      have r2 : (0 : Int) ≤ (y : Int) := by omega
      have r3 : (y : Int) < (n : Int) := by omega
      by_cases hy : y ∈ l2
      ·simp only [hy, decide_true] at u0
       have HB : Hid _ := And.intro hFr (And.intro hM (And.intro hx (And.intro hall (And.intro he hy))))
       clear hFr hM hx hall he hy hyR hys hbl hN2 hto hyn
       go_wp2_with fail
       go_roundg (R - (k + 1))
       case measure => omega
       case rel =>
        refine ⟨k + 1, l2, rfl, by omega, by go_num, HB.out.1, HB.out.2.1, HB.out.2.2.1, fun j e hj hje => ?_⟩
        by_cases ej : j = k
        ·subst ej
         rw [HB.out.2.2.2.2.1] at hje
         cases hje
         exact ⟨rfl, by simpa using HB.out.2.2.2.2.2⟩
        ·exact HB.out.2.2.2.1 j e (by omega) hje
      ·simp only [hy, decide_false] at u0
       have hgw : w.heap.size ≤ gi := hM.arr.gu
       obtain ⟨w9, hw9⟩ : ∃ w9, w9 = wr.setCell ⟨gi, y, none⟩ (.bool true) := ⟨_, rfl⟩
       have hb9 : Below w.heap.size w w9 := by rw [hw9]; exact hbl.setCell hgw _
       obtain ⟨a6, hae6, g0', g1'⟩ := step_at (HA.out.2.2.2.1.below hb9) he
       cases hae6
       simp only at g0' g1'
       obtain ⟨cs9, hc9, -⟩ := hM.arr.ids
       have hO9 : w9.ownsRow w.heap.size 3 1 (.slice al2 N2 cl2) N2 (iC (cast l2)) := by
        have h1 := own_up hM.lst (Kept.setCell wr gi y (.bool true)) fun b hb e => own_bk hM.lst hc9 (by decide) (by rw [← e]; exact hb)
        unfold OwnI at h1
        rw [cast_length, ← hN2] at h1
        rw [hw9]
        exact h1
       have hml : N2 + 1 ≤ maxLen := by unfold maxLen; omega
       have hby : (N2 + 1) * 8 ≤ 140737488355328 := by omega
       have hsz := hb9.size
       have HB : Hid _ := And.intro hFr (And.intro hM (And.intro hx (And.intro hall (And.intro he (And.intro hy (And.intro hyn (And.intro hyR (And.intro hN2 (And.intro hw9 hO9)))))))))
       clear hFr hM hx hall he hy hyR hys hbl hN2 hto hyn hw9 hO9 hc9 hb9
       go_upto_region 13 with fail
       rw [← HB.out.2.2.2.2.2.2.2.2.2.1]
       clear g0 g1 u0 uf
       go_wp2_with (at_builtin; refine wpList_append_lies _ rfl _ _ 45 rfl w.heap.size 3 i0 (.int .i64 0) 1 8 Tryz.underlying45 hi0 hz0 hz1 hz2 rfl (by decide) (.slice al2 N2 cl2) N2 (iC (cast l2)) rfl (HB.out.2.2.2.2.2.2.2.2.2.2.alloc _) ⟨w9.heap.size, 0, none⟩ 1 1 [.int .i64 (y : Int)] rfl rfl (World.news_of_block (cs := #[.int .i64 (y : Int)]) (t := 3) (fr := (0, 0)) (heap_alloc_new w9 _)) (by simp [Value.oneCell']) Nat.one_pos hml hby (by simp; omega) (w9.heap.size + 1) (by simp) ?_; intro g4 k4 w4 hown4 hgrow4 hat4 hlt4; have hk4 : Kept (fun b => (Value.slice al2 N2 cl2).ownBlock = some b) w9 w4 := grown_alloc hgrow4; have H4 : Hid _ := And.intro hown4 hk4; clear hown4 hgrow4 hat4 hlt4 hk4 g0' g1')
       go_roundg (R - (k + 1))
       case measure => omega
       case rel =>
        refine ⟨k + 1, l2 ++ [y], rfl, by omega, by go_num, HB.out.1.grow HB.out.2.2.2.2.2.2.1 HB.out.2.2.2.2.2.2.2.1 HB.out.2.2.2.2.2.1, HB.out.2.1.put HB.out.2.2.2.2.2.2.2.2.1 (by rw [← HB.out.2.2.2.2.2.2.2.2.2.1]; exact H4.out.2) H4.out.1, ?_, fun j e hj hje => ?_⟩
        ·rw [List.getElem?_append_left (List.getElem?_eq_some_iff.1 HB.out.2.2.1).1]; exact HB.out.2.2.1
        ·by_cases ej : j = k
         ·subst ej
          rw [HB.out.2.2.2.2.1] at hje
          cases hje
          exact ⟨rfl, by simp⟩
         ·obtain ⟨h1, h2⟩ := HB.out.2.2.2.1 j e (by omega) hje
          exact ⟨h1, List.mem_append_left _ h2⟩
     ·have q9 : (e1 == 0) = false := by simp [hz]
      have HB : Hid _ := And.intro hFr (And.intro hM (And.intro hx (And.intro hall (And.intro he hz))))
      clear hFr hM hx hall he hz hbl hN2
      go_wp2_with fail
      go_roundg (n - (i + 1))
      case measure => omega
      case rel => exact ⟨i + 1, l2, rfl, by go_num, HB.out.1.next HB.out.2.2.1 (fr_all H.out.2.2.1 (fun e he => by rw [HB.out.2.2.2.2.1] at he; cases he; exact HB.out.2.2.2.2.2) HB.out.2.2.2.1), HB.out.2.1⟩
    ·obtain rfl : R = k := by omega
     have r1 : ¬ (R : Int) < (R : Int) := by omega
     have HB : Hid _ := And.intro hFr (And.intro hM (And.intro hx hall))
     clear hFr hM hx hall hbl hN2 hk hkR
     go_wp2_with fail
     go_roundg (n - (i + 1))
     case measure => omega
     case rel => exact ⟨i + 1, l2, rfl, by go_num, HB.out.1.next HB.out.2.2.1 (fr_all H.out.2.2.1 (fun e he => by have := (List.getElem?_eq_some_iff.1 he).1; have := HA.out.2.2.2.2.1; omega) HB.out.2.2.2), HB.out.2.1⟩
  ·obtain rfl : N = i := by omega
   have q1 : ¬ (N : Int) < (N : Int) := by omega
   rw [hN] at hFr
   have HA : Hid _ := And.intro hFr hM
   clear hFr hM hN hlt hiN
   go_wp2_with fail
   go_ret
   refine ⟨gi, rfl, ?_⟩
   have h9 := HA.out.2.arr
   rw [bl_congr (v := rtB (silF f) p) (fun x _ => by rw [Bool.eq_iff_iff, decide_eq_true_eq, rtB_iff]; exact HA.out.1.done x)] at h9
   exact h9
end Go.Proofs.YtplofbabfkkimaaGreatDoor.Ts
